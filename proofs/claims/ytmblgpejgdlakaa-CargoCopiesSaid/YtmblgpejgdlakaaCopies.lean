/-
  The walk of chicanelaw07.CargoCopies: it returns true, whatever calls. Conditions: as each states.
-/
import Derived.Test.YtmblgpejgdlakaaV0
namespace Go.Proofs.Ytmblgpejgdlakaa.cargoCopies
open Go.RowKit

set_option maxRecDepth 100000 in
set_option maxHeartbeats 16000000 in
theorem walk (p p2 : Option Addr) (m d m2 d2 : Nat) (os os2 : List Call) (w : World) (hx : os.length = m) (hmd : m ≤ d) (hd : d ≤ 9223372036854775807) (hz : ∀ o ∈ os, Wf64 o.1 ∧ Wf64 o.2.1 ∧ Wf64 o.2.2.1 ∧ o.2.2.2.size ≤ 140737488351232) (hj : OpsIn w p m os)
    (hx2 : os2.length = m2) (hmd2 : m2 ≤ d2) (hd2 : d2 ≤ 9223372036854775807) (hz2 : ∀ o ∈ os2, Wf64 o.1 ∧ Wf64 o.2.1 ∧ Wf64 o.2.2.1 ∧ o.2.2.2.size ≤ 140737488351232) (hj2 : OpsIn w p2 m2 os2) :
    Calls Try.prog 8 #[.slice p m d, .slice p2 m2 d2] w fun e w' => e = .returned (.bool true) ∧ Below w.heap.size w w' := by
  have HX := Lib.hid hx
  have HJ := Lib.hid hj
  have HZ := Lib.hid hz
  have HX2 := Lib.hid hx2
  have HJ2 := Lib.hid hj2
  have HZ2 := Lib.hid hz2
  clear hx hz hj hx2 hz2 hj2
  go_enter Try.func8, Try.ntmps8
  go_wp2_with fail
  refine (new_at w _ (Below.refl _ _)).mono ?_
  rintro e w1 ⟨g, rfl, ha, hbn⟩
  have HA1 := Lib.hid ha
  clear ha hbn
  obtain ⟨B, hB⟩ : ∃ B, w.heap.size = B := ⟨_, rfl⟩
  rw [hB] at HA1
  clear hB
  go_wp2_with fail
  refine (few_any p m d os _ HX.out hmd hd (fun o ho => (HZ.out o ho).2.2.2) (ops_on HJ.out HA1.out.below)).mono ?_
  rintro e w2 ⟨b, rfl, hf, hb⟩
  have HA2 := Lib.hid (HA1.out.on hb)
  have HF := Lib.hid hf
  clear hb hf HA1
  clear hmd hd
  cases b with
  | false =>
    clear HF
    go_wp2_with fail
    refine (alive_any _).mono ?_
    rintro e w5 ⟨rfl, hb5⟩
    have HB5 := Lib.hid (HA2.out.on hb5).below
    clear hb5
    go_wp2_with fail
    go_ret
    exact ⟨rfl, HB5.out⟩
  | true =>
    obtain ⟨hm, ht⟩ := HF.out rfl
    have HT := Lib.hid ht
    clear HF ht
    go_wp2_with fail
    refine (few_any p2 m2 d2 os2 _ HX2.out hmd2 hd2 (fun o ho => (HZ2.out o ho).2.2.2) (ops_on HJ2.out HA2.out.below)).mono ?_
    rintro e w2' ⟨b, rfl, hf, hb⟩
    have HA2' := Lib.hid (HA2.out.on hb)
    have HF := Lib.hid hf
    clear hb hf HA2
    clear hmd2 hd2
    cases b with
    | false =>
      clear HF
      go_wp2_with fail
      refine (alive_any _).mono ?_
      rintro e w5 ⟨rfl, hb5⟩
      have HB5 := Lib.hid (HA2'.out.on hb5).below
      clear hb5
      go_wp2_with fail
      go_ret
      exact ⟨rfl, HB5.out⟩
    | true =>
      obtain ⟨hm2, ht2⟩ := HF.out rfl
      have HT2 := Lib.hid ht2
      clear HF ht2
      have hB0 := HA2'.out.below
      have hal : Below w2'.heap.size w2' (w2'.alloc (.cells #[.string ⟨#[]⟩, .slice none 0 0, .int .i64 0] 29)) := (Below.refl _ _).alloc (Nat.le_refl _) _
      have HA3 := Lib.hid (HA2'.out.on hal)
      have HQ3 := Lib.hid (heap_alloc_new w2' (.cells #[.string ⟨#[]⟩, .slice none 0 0, .int .i64 0] 29))
      have HGR := Lib.hid hB0.size
      clear hal hB0 HA2'
      go_wp2_with fail
      generalize w2'.alloc (.cells #[.string ⟨#[]⟩, .slice none 0 0, .int .i64 0] 29) = w3 at *
      generalize w2'.heap.size = gr at *
      go_loopw [41] (fun i wr => ∃ (k : Nat) (S : ByteArray) (A : List Int) (last : Int) (p : Option Addr) (n c : Nat), k ≤ m ∧ i = .int .i64 k ∧ Hid (At w B g S A last (total (os.take k)) wr) ∧ Hid (wr.heap[gr]? = some (.cells #[.string S, .slice p n c, .int .i64 last] 29 (0, 0))) ∧ Hid (RowA wr p n c A) ∧ Hid (S.size ≤ total (os.take k))) (fun i _ => m - (intOf i).toNat)
      case atStart => exact ⟨0, ⟨#[]⟩, [], 0, none, 0, 0, by omega, rfl, HA3, HQ3, Lib.hid (rowA_nil _), Lib.hid (Nat.zero_le _)⟩
      case round =>
        clear HA3 HQ3
        obtain ⟨k, S, A, last, pr, nr, cr, hk, rfl, HA, HQ, HRw, HL⟩ := hrel
        by_cases hlt : k < m
        · obtain ⟨b, o, rfl, hcell⟩ := ops_on HJ.out HA.out.below (by omega)
          obtain ⟨c0, c1, c2, c3⟩ := hcell k hlt
          have hzk := HZ.out _ (at_of os k (by rw [HX.out]; exact hlt))
          have HTK := Lib.hid (total_step os k m HX.out hlt _ rfl)
          have HTL := Lib.hid (Nat.le_trans (total_take_le os (k + 1)) HT.out)
          generalize os.getD k noCall = O at *
          obtain ⟨kd, a, N, s⟩ := O
          simp only at c0 c1 c2 c3 HTK
          rw [← Nat.add_assoc] at c1 c2 c3
          have HID := Lib.hid hzk.2.1
          have hbl := World.block_lt_of_cell? wr _ c0
          have HSS := Lib.hid (show s.size ≤ 5000 by have h1 := HTK.out; have h2 := HTL.out; omega)
          clear hcell hzk
          have HSZ := Lib.hid (show S.size ≤ 5000 by have h1 := HL.out; have h2 := HTK.out; have h3 := HTL.out; omega)
          have hinv := HA.out.inv
          have hSn : S.size = nr := by rw [← hinv.len, HRw.out.1]
          have hnn : nr ≤ 50000 := by have := HSZ.out; omega
          have q0 : wr.cell? ⟨gr, 0, none⟩ = some (.string S) := cell_of_row wr gr 0 _ _ _ HQ.out
          have q1 : wr.cell? ⟨gr, 1, none⟩ = some (.slice pr nr cr) := cell_of_row wr gr 1 _ _ _ HQ.out
          have q2 : wr.cell? ⟨gr, 2, none⟩ = some (.int .i64 last) := cell_of_row wr gr 2 _ _ _ HQ.out
          have hgl := blk_lt HQ.out
          have hal : Below wr.heap.size wr (wr.alloc (.cells #[.int .i64 kd, .int .i64 a, .int .i64 N, .string s] 31)) := (Below.refl _ _).alloc (Nat.le_refl _) _
          have HA4 := Lib.hid (HA.out.on hal)
          have HQ4 := Lib.hid ((hal.block _ hgl).trans HQ.out)
          have HO4 := Lib.hid (heap_alloc_new wr (.cells #[.int .i64 kd, .int .i64 a, .int .i64 N, .string s] 31))
          have HDo := Lib.hid (do_any S s pr nr cr A last kd a N _ (rowA_on HRw.out hal) hSn (by omega) (by have := HSS.out; omega))
          clear hinv hal hSn hnn
          go_wp2_with fail
          generalize wr.alloc (.cells #[.int .i64 kd, .int .i64 a, .int .i64 N, .string s] 31) = w4 at *
          generalize wr.heap.size = go at *
          obtain ⟨X, hX⟩ : ∃ X, doC S A last kd a N s = X := ⟨_, rfl⟩
          rw [hX] at HDo
          have HXX := Lib.hid hX
          have HXS := Lib.hid (show X.S.size ≤ S.size + s.size by rw [← hX]; exact doC_size _ _ _ _ _ _ _)
          clear hX
          refine HDo.out.mono ?_
          rintro e w5 ⟨p1, n1, k1, rfl, hr1, hb5⟩
          have HA5 := Lib.hid (HA4.out.on hb5)
          have HQ5 := Lib.hid ((hb5.block _ (blk_lt HQ4.out)).trans HQ4.out)
          have HO5 := Lib.hid ((hb5.block _ (blk_lt HO4.out)).trans HO4.out)
          have HR1 := Lib.hid hr1
          clear hr1 hb5 HA4 HQ4 HO4 HDo c0 c1 c2 c3 hbl q0 q1 q2 hgl HA HQ HRw
          obtain ⟨S1, A1, l1, nn, t1⟩ := X
          dsimp only at HR1 HXS ⊢
          have q0 : w5.cell? ⟨gr, 0, none⟩ = some (.string S) := cell_of_row w5 gr 0 _ _ _ HQ5.out
          have q1 : w5.cell? ⟨gr, 1, none⟩ = some (.slice pr nr cr) := cell_of_row w5 gr 1 _ _ _ HQ5.out
          have q2 : w5.cell? ⟨gr, 2, none⟩ = some (.int .i64 last) := cell_of_row w5 gr 2 _ _ _ HQ5.out
          have f0 : w5.frozen? ⟨gr, 0, none⟩ = false := frozen_at HQ5.out
          have f1 : w5.frozen? ⟨gr, 1, none⟩ = false := frozen_at HQ5.out
          have f2 : w5.frozen? ⟨gr, 2, none⟩ = false := frozen_at HQ5.out
          have o0 : w5.cell? ⟨go, 0, none⟩ = some (.int .i64 kd) := cell_of_row w5 go 0 _ _ _ HO5.out
          have o1 : w5.cell? ⟨go, 1, none⟩ = some (.int .i64 a) := cell_of_row w5 go 1 _ _ _ HO5.out
          have o2 : w5.cell? ⟨go, 2, none⟩ = some (.int .i64 N) := cell_of_row w5 go 2 _ _ _ HO5.out
          have o3 : w5.cell? ⟨go, 3, none⟩ = some (.string s) := cell_of_row w5 go 3 _ _ _ HO5.out
          have hgl := blk_lt HQ5.out
          have hol := blk_lt HO5.out
          have hne : gr ≠ go := fun e => by
            have h := HQ5.out
            rw [e, HO5.out] at h
            simp at h
          have hs6 := At.set_r (a := .string S1) (b := .slice p1 n1 k1) (c := .int .i64 l1) HA5.out HQ5.out HGR.out
          have hr16 := rowA_set3 HR1.out HQ5.out (.string S1) (.slice p1 n1 k1) (.int .i64 l1)
          have ho6 := (set3_far (.string S1) (.slice p1 n1 k1) (.int .i64 l1) hne.symm).trans HO5.out
          have hal1 : Below (set3 w5 gr (.string S1) (.slice p1 n1 k1) (.int .i64 l1)).heap.size (set3 w5 gr (.string S1) (.slice p1 n1 k1) (.int .i64 l1)) ((set3 w5 gr (.string S1) (.slice p1 n1 k1) (.int .i64 l1)).alloc (.cells #[.string S1, .slice p1 n1 k1, .int .i64 l1] 29)) := (Below.refl _ _).alloc (Nat.le_refl _) _
          have HA6 := Lib.hid (hs6.1.on hal1)
          have HQ6 := Lib.hid ((hal1.block _ (blk_lt hs6.2)).trans hs6.2)
          have HR6 := Lib.hid (rowA_on hr16 hal1)
          have HO6 := Lib.hid ((hal1.block _ (blk_lt ho6)).trans ho6)
          clear hs6 hr16 ho6 hal1 HA5 HQ5 HR1
          go_wp2_with fail
          generalize hW6 : (set3 w5 gr (.string S1) (.slice p1 n1 k1) (.int .i64 l1)).alloc (.cells #[.string S1, .slice p1 n1 k1, .int .i64 l1] 29) = w6 at *
          unfold set3 at hW6
          rw [hW6]
          clear hW6 q0 q1 q2 f0 f1 f2 o0 o1 o2 o3 hgl hol hne HO5
          have HDs := Lib.hid (does_at (M1 := total (os.take (k + 1))) HA6.out (by rw [HTK.out]; exact Nat.le_refl _) (by have := HTL.out; omega) HXX.out)
          refine HDs.out.mono ?_
          rintro e w7 ⟨rfl, ha7, hk7⟩
          dsimp only at ha7 ⊢
          have HA7 := Lib.hid ha7
          have HQ7 := Lib.hid (keeps_cargo hk7 HQ6.out)
          have HR7 := Lib.hid (keeps_rowA hk7 HR6.out)
          have HS7 := Lib.hid (show S1.size ≤ total (os.take (k + 1)) by have h1 := HXS.out; have h2 := HL.out; have h3 := HTK.out; omega)
          clear ha7 hk7 HDs HA6 HQ6 HO6 HR6
          go_wp2_with fail
          go_roundw
          case rel => exact ⟨k + 1, S1, A1, l1, p1, n1, k1, by omega, by go_num, HA7, HQ7, HR7, HS7⟩
          case measure => simp [intOf]; omega
        · obtain rfl : k = m := by omega
          have HSZ := Lib.hid (show S.size ≤ 5000 by have h1 := HL.out; have h2 := total_take_le os k; have h3 := HT.out; omega)
          clear hlt hk HL
          have HMM := Lib.hid (Nat.le_trans (total_take_le os k) HT.out)
          go_wp2_with fail
          refine (copy_two HA.out).mono ?_
          rintro e w10 ⟨gc, rfl, hac, hbc⟩
          have HC := Lib.hid hac.swap
          have HK := Lib.hid ((hbc.block gr (blk_lt HQ.out)).trans HQ.out)
          have HKR := Lib.hid (rowA_on HRw.out hbc)
          clear hac hbc HA HQ HRw
          have q0 : w10.cell? ⟨gr, 0, none⟩ = some (.string S) := cell_of_row w10 gr 0 _ _ _ HK.out
          have q1 : w10.cell? ⟨gr, 1, none⟩ = some (.slice pr nr cr) := cell_of_row w10 gr 1 _ _ _ HK.out
          have q2 : w10.cell? ⟨gr, 2, none⟩ = some (.int .i64 last) := cell_of_row w10 gr 2 _ _ _ HK.out
          go_wp2_with fail
          have hal : Below w10.heap.size w10 (w10.alloc (.cells #[.string S, .slice pr nr cr, .int .i64 last] 29)) := (Below.refl _ _).alloc (Nat.le_refl _) _
          have HC3 := Lib.hid (HC.out.on hal)
          have HP3 := Lib.hid (heap_alloc_new w10 (.cells #[.string S, .slice pr nr cr, .int .i64 last] 29))
          have HNE := Lib.hid (show gr ≠ w10.heap.size from Nat.ne_of_lt (blk_lt HK.out))
          have HK3 := Lib.hid ((hal.block gr (blk_lt HK.out)).trans HK.out)
          have HKR3 := Lib.hid (rowA_on HKR.out hal)
          have HGQ := Lib.hid HC.out.left.below.size
          clear q0 q1 q2 hal HC HK HKR
          generalize w10.alloc (.cells #[.string S, .slice pr nr cr, .int .i64 last] 29) = w11 at *
          generalize w10.heap.size = gq at *
          generalize wr.heap.size = B' at *
          go_loopw [64] (fun i wr => ∃ (j : Nat) (PS : ByteArray) (PA : List Int) (pl : Int) (pq : Option Addr) (nq cq : Nat), j ≤ m2 ∧ i = .int .i64 j ∧ Hid (Both w B' gc PS PA pl (total (os.take k) + total (os2.take j)) B g S A last (total (os.take k)) wr) ∧ Hid (wr.heap[gq]? = some (.cells #[.string PS, .slice pq nq cq, .int .i64 pl] 29 (0, 0))) ∧ Hid (RowA wr pq nq cq PA) ∧ Hid (PS.size ≤ S.size + total (os2.take j)) ∧ Hid (wr.heap[gr]? = some (.cells #[.string S, .slice pr nr cr, .int .i64 last] 29 (0, 0))) ∧ Hid (RowA wr pr nr cr A)) (fun i _ => m2 - (intOf i).toNat)
          case atStart => exact ⟨0, S, A, last, pr, nr, cr, by omega, rfl, HC3, HP3, HKR3, Lib.hid (Nat.le_add_right _ _), HK3, HKR3⟩
          case round =>
            clear HC3 HP3 HK3 HKR3
            have HSA := Lib.hid HSZ.out
            clear HSZ
            obtain ⟨j, PS, PA, pl, pq, nq, cq, hj, rfl, HB, HQ, HRw, HL, HK, HKR⟩ := hrel
            by_cases hlt : j < m2
            · obtain ⟨b, o, rfl, hcell⟩ := ops_on HJ2.out HB.out.left.below (by omega)
              obtain ⟨c0, c1, c2, c3⟩ := hcell j hlt
              have hzk := HZ2.out _ (at_of os2 j (by rw [HX2.out]; exact hlt))
              have HTK := Lib.hid (total_step os2 j m2 HX2.out hlt _ rfl)
              have HTL := Lib.hid (Nat.le_trans (total_take_le os2 (j + 1)) HT2.out)
              generalize os2.getD j noCall = O at *
              obtain ⟨kd, a, N, s⟩ := O
              simp only at c0 c1 c2 c3 HTK
              rw [← Nat.add_assoc] at c1 c2 c3
              have HID := Lib.hid hzk.2.1
              have hbl := World.block_lt_of_cell? wr _ c0
              have HSS := Lib.hid (show s.size ≤ 5000 by have h1 := HTK.out; have h2 := HTL.out; omega)
              clear hcell hzk
              have HSZ := Lib.hid (show PS.size ≤ 10000 by have h0 := HSA.out; have h1 := HL.out; have h2 := HTK.out; have h3 := HTL.out; omega)
              have hinv := HB.out.left.inv
              have hSn : PS.size = nq := by rw [← hinv.len, HRw.out.1]
              have hnn : nq ≤ 50000 := by have := HSZ.out; omega
              have q0 : wr.cell? ⟨gq, 0, none⟩ = some (.string PS) := cell_of_row wr gq 0 _ _ _ HQ.out
              have q1 : wr.cell? ⟨gq, 1, none⟩ = some (.slice pq nq cq) := cell_of_row wr gq 1 _ _ _ HQ.out
              have q2 : wr.cell? ⟨gq, 2, none⟩ = some (.int .i64 pl) := cell_of_row wr gq 2 _ _ _ HQ.out
              have hgl := blk_lt HQ.out
              have hal : Below wr.heap.size wr (wr.alloc (.cells #[.int .i64 kd, .int .i64 a, .int .i64 N, .string s] 31)) := (Below.refl _ _).alloc (Nat.le_refl _) _
              have HA4 := Lib.hid (HB.out.on hal)
              have HQ4 := Lib.hid ((hal.block _ hgl).trans HQ.out)
              have HO4 := Lib.hid (heap_alloc_new wr (.cells #[.int .i64 kd, .int .i64 a, .int .i64 N, .string s] 31))
              have HDo := Lib.hid (do_any PS s pq nq cq PA pl kd a N _ (rowA_on HRw.out hal) hSn (by omega) (by have := HSS.out; omega))
              have HK4 := Lib.hid ((hal.block _ (blk_lt HK.out)).trans HK.out)
              have HKR4 := Lib.hid (rowA_on HKR.out hal)
              clear hinv hal hSn hnn
              go_wp2_with fail
              generalize wr.alloc (.cells #[.int .i64 kd, .int .i64 a, .int .i64 N, .string s] 31) = w4 at *
              generalize wr.heap.size = go at *
              obtain ⟨X, hX⟩ : ∃ X, doC PS PA pl kd a N s = X := ⟨_, rfl⟩
              rw [hX] at HDo
              have HXX := Lib.hid hX
              have HXS := Lib.hid (show X.S.size ≤ PS.size + s.size by rw [← hX]; exact doC_size _ _ _ _ _ _ _)
              clear hX
              refine HDo.out.mono ?_
              rintro e w5 ⟨p1, n1, k1, rfl, hr1, hb5⟩
              have HA5 := Lib.hid (HA4.out.on hb5)
              have HQ5 := Lib.hid ((hb5.block _ (blk_lt HQ4.out)).trans HQ4.out)
              have HO5 := Lib.hid ((hb5.block _ (blk_lt HO4.out)).trans HO4.out)
              have HR1 := Lib.hid hr1
              have HK5 := Lib.hid ((hb5.block _ (blk_lt HK4.out)).trans HK4.out)
              have HKR5 := Lib.hid (rowA_on HKR4.out hb5)
              clear hr1 hb5 HA4 HQ4 HO4 HDo c0 c1 c2 c3 hbl q0 q1 q2 hgl HB HQ HRw HK HKR HK4 HKR4
              obtain ⟨S1, A1, l1, nn, t1⟩ := X
              dsimp only at HR1 HXS ⊢
              have q0 : w5.cell? ⟨gq, 0, none⟩ = some (.string PS) := cell_of_row w5 gq 0 _ _ _ HQ5.out
              have q1 : w5.cell? ⟨gq, 1, none⟩ = some (.slice pq nq cq) := cell_of_row w5 gq 1 _ _ _ HQ5.out
              have q2 : w5.cell? ⟨gq, 2, none⟩ = some (.int .i64 pl) := cell_of_row w5 gq 2 _ _ _ HQ5.out
              have f0 : w5.frozen? ⟨gq, 0, none⟩ = false := frozen_at HQ5.out
              have f1 : w5.frozen? ⟨gq, 1, none⟩ = false := frozen_at HQ5.out
              have f2 : w5.frozen? ⟨gq, 2, none⟩ = false := frozen_at HQ5.out
              have o0 : w5.cell? ⟨go, 0, none⟩ = some (.int .i64 kd) := cell_of_row w5 go 0 _ _ _ HO5.out
              have o1 : w5.cell? ⟨go, 1, none⟩ = some (.int .i64 a) := cell_of_row w5 go 1 _ _ _ HO5.out
              have o2 : w5.cell? ⟨go, 2, none⟩ = some (.int .i64 N) := cell_of_row w5 go 2 _ _ _ HO5.out
              have o3 : w5.cell? ⟨go, 3, none⟩ = some (.string s) := cell_of_row w5 go 3 _ _ _ HO5.out
              have hgl := blk_lt HQ5.out
              have hol := blk_lt HO5.out
              have hne : gq ≠ go := fun e => by
                have h := HQ5.out
                rw [e, HO5.out] at h
                simp at h
              have hs6 := Both.set_r (a := .string S1) (b := .slice p1 n1 k1) (c := .int .i64 l1) HA5.out HQ5.out HGQ.out
              have hr16 := rowA_set3 HR1.out HQ5.out (.string S1) (.slice p1 n1 k1) (.int .i64 l1)
              have ho6 := (set3_far (.string S1) (.slice p1 n1 k1) (.int .i64 l1) hne.symm).trans HO5.out
              have hk6 := (set3_far (.string S1) (.slice p1 n1 k1) (.int .i64 l1) HNE.out).trans HK5.out
              have hkr6 := rowA_set3 HKR5.out HQ5.out (.string S1) (.slice p1 n1 k1) (.int .i64 l1)
              have hal1 : Below (set3 w5 gq (.string S1) (.slice p1 n1 k1) (.int .i64 l1)).heap.size (set3 w5 gq (.string S1) (.slice p1 n1 k1) (.int .i64 l1)) ((set3 w5 gq (.string S1) (.slice p1 n1 k1) (.int .i64 l1)).alloc (.cells #[.string S1, .slice p1 n1 k1, .int .i64 l1] 29)) := (Below.refl _ _).alloc (Nat.le_refl _) _
              have HA6 := Lib.hid (hs6.1.on hal1)
              have HQ6 := Lib.hid ((hal1.block _ (blk_lt hs6.2)).trans hs6.2)
              have HR6 := Lib.hid (rowA_on hr16 hal1)
              have HO6 := Lib.hid ((hal1.block _ (blk_lt ho6)).trans ho6)
              have HK6 := Lib.hid ((hal1.block _ (blk_lt hk6)).trans hk6)
              have HKR6 := Lib.hid (rowA_on hkr6 hal1)
              clear hs6 hr16 ho6 hal1 HA5 HQ5 HR1 hk6 hkr6 HK5 HKR5
              go_wp2_with fail
              generalize hW6 : (set3 w5 gq (.string S1) (.slice p1 n1 k1) (.int .i64 l1)).alloc (.cells #[.string S1, .slice p1 n1 k1, .int .i64 l1] 29) = w6 at *
              unfold set3 at hW6
              rw [hW6]
              clear hW6 q0 q1 q2 f0 f1 f2 o0 o1 o2 o3 hgl hol hne HO5
              have HDs := Lib.hid (does_b (M1 := total (os.take k) + total (os2.take (j + 1))) HA6.out (by rw [HTK.out]; omega) (by have h1 := HTL.out; have h2 := HMM.out; omega) HXX.out)
              refine HDs.out.mono ?_
              rintro e w7 ⟨rfl, ha7, hk7⟩
              dsimp only at ha7 ⊢
              have HA7 := Lib.hid ha7
              have HQ7 := Lib.hid (keeps_cargo hk7 HQ6.out)
              have HR7 := Lib.hid (keeps_rowA hk7 HR6.out)
              have HK7 := Lib.hid (keeps_cargo hk7 HK6.out)
              have HKR7 := Lib.hid (keeps_rowA hk7 HKR6.out)
              have HS7 := Lib.hid (show S1.size ≤ S.size + total (os2.take (j + 1)) by have h1 := HXS.out; have h2 := HL.out; have h3 := HTK.out; omega)
              clear ha7 hk7 HDs HA6 HQ6 HO6 HR6 HK6 HKR6
              go_wp2_with fail
              go_roundw
              case rel => exact ⟨j + 1, S1, A1, l1, p1, n1, k1, by omega, by go_num, HA7, HQ7, HR7, HS7, HK7, HKR7⟩
              case measure => simp [intOf]; omega
            · have HSZ := Lib.hid (show PS.size ≤ 10000 by have h0 := HSA.out; have h1 := HL.out; have h2 := total_take_le os2 j; have h3 := HT2.out; omega)
              go_wp2_with fail
              refine (alive_any _).mono ?_
              rintro e w5 ⟨rfl, hb⟩
              have HB5 := Lib.hid (HB.out.on hb)
              obtain ⟨x0, x1, x2⟩ := box_cells HK.out hb
              have HQ5 := Lib.hid ((hb.block _ (blk_lt HQ.out)).trans HQ.out)
              have HR5 := Lib.hid (rowA_on HRw.out hb)
              have HKR5 := Lib.hid (rowA_on HKR.out hb)
              clear hb HB HQ HRw HK HKR
              go_wp2_with fail
              refine (stands_any HB5.out.right (by have := HSA.out; omega) HKR5.out).mono ?_
              rintro e w6 ⟨rfl, hb⟩
              have HB6 := Lib.hid (HB5.out.on hb)
              obtain ⟨y0, y1, y2⟩ := box_cells HQ5.out hb
              have HR6 := Lib.hid (rowA_on HR5.out hb)
              clear hb HB5 HQ5 HR5 HKR5 x0 x1 x2
              go_wp2_with fail
              refine (stands_any HB6.out.left (by have := HSZ.out; omega) HR6.out).mono ?_
              rintro e w7 ⟨rfl, hb⟩
              have HE := Lib.hid (HB6.out.on hb).left.below
              clear hb HB6 HR6
              go_wp2_with fail
              go_ret
              exact ⟨rfl, HE.out⟩
end Go.Proofs.Ytmblgpejgdlakaa.cargoCopies
