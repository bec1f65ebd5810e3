/-
  The walk of chicanelaw07.CargoAll: it returns true, whatever calls. Conditions: as each states.
-/
import Derived.Test.YtmblgpejgdlakaaV0
namespace Go.Proofs.Ytmblgpejgdlakaa.cargoAll
open Go.RowKit

set_option maxRecDepth 100000 in
set_option maxHeartbeats 16000000 in
theorem walk (p : Option Addr) (m d : Nat) (os : List Call) (w : World) (hx : os.length = m) (hmd : m ≤ d) (hd : d ≤ 9223372036854775807) (hz : ∀ o ∈ os, Wf64 o.1 ∧ Wf64 o.2.1 ∧ Wf64 o.2.2.1 ∧ o.2.2.2.size ≤ 140737488351232) (hj : OpsIn w p m os) :
    Calls Try.prog 3 #[.slice p m d] w fun e w' => e = .returned (.bool true) ∧ Below w.heap.size w w' := by
  have HX := Lib.hid hx
  have HJ := Lib.hid hj
  have HZ := Lib.hid hz
  clear hx hz hj
  go_enter Try.func3, Try.ntmps3
  go_wp2_with fail
  refine (new_at w _ (Below.refl _ _)).mono ?_
  rintro e w1 ⟨g, rfl, ha, _⟩
  have HA1 := Lib.hid ha
  clear ha
  obtain ⟨B, hB⟩ : ∃ B, w.heap.size = B := ⟨_, rfl⟩
  rw [hB] at HA1
  clear hB
  go_wp2_with fail
  refine (few_any p m d os _ HX.out hmd hd (fun o ho => (HZ.out o ho).2.2.2) (ops_on HJ.out HA1.out.below)).mono ?_
  rintro e w2 ⟨b, rfl, hf, hb⟩
  have HA2 := Lib.hid (HA1.out.on hb)
  have HF := Lib.hid hf
  clear hb hf HA1
  clear hmd hd
  cases b with
  | false =>
    clear HF
    go_wp2_with fail
    refine (alive_any _).mono ?_
    rintro e w5 ⟨rfl, hb5⟩
    have HB5 := Lib.hid (HA2.out.on hb5).below
    clear hb5
    go_wp2_with fail
    go_ret
    exact ⟨rfl, HB5.out⟩
  | true =>
    obtain ⟨hm, ht⟩ := HF.out rfl
    have HT := Lib.hid ht
    clear HF ht
    have hB0 := HA2.out.below
    have hal : Below w2.heap.size w2 (w2.alloc (.cells #[.string ⟨#[]⟩, .slice none 0 0, .int .i64 0] 29)) := (Below.refl _ _).alloc (Nat.le_refl _) _
    have HA3 := Lib.hid (HA2.out.on hal)
    have HQ3 := Lib.hid (heap_alloc_new w2 (.cells #[.string ⟨#[]⟩, .slice none 0 0, .int .i64 0] 29))
    have HGR := Lib.hid hB0.size
    clear hal hB0 HA2
    go_wp2_with fail
    generalize w2.alloc (.cells #[.string ⟨#[]⟩, .slice none 0 0, .int .i64 0] 29) = w3 at *
    generalize w2.heap.size = gr at *
    go_loopw [27] (fun i wr => ∃ (k : Nat) (S : ByteArray) (A : List Int) (last : Int) (p : Option Addr) (n c : Nat), k ≤ m ∧ i = .int .i64 k ∧ Hid (At w B g S A last (total (os.take k)) wr) ∧ Hid (wr.heap[gr]? = some (.cells #[.string S, .slice p n c, .int .i64 last] 29 (0, 0))) ∧ Hid (RowA wr p n c A) ∧ Hid (S.size ≤ total (os.take k))) (fun i _ => m - (intOf i).toNat)
    case atStart => exact ⟨0, ⟨#[]⟩, [], 0, none, 0, 0, by omega, rfl, HA3, HQ3, Lib.hid (rowA_nil _), Lib.hid (Nat.zero_le _)⟩
    case round =>
      clear HA3 HQ3
      obtain ⟨k, S, A, last, pr, nr, cr, hk, rfl, HA, HQ, HRw, HL⟩ := hrel
      by_cases hlt : k < m
      · obtain ⟨b, o, rfl, hcell⟩ := ops_on HJ.out HA.out.below (by omega)
        obtain ⟨c0, c1, c2, c3⟩ := hcell k hlt
        have hzk := HZ.out _ (at_of os k (by rw [HX.out]; exact hlt))
        have HTK := Lib.hid (total_step os k m HX.out hlt _ rfl)
        have HTL := Lib.hid (Nat.le_trans (total_take_le os (k + 1)) HT.out)
        generalize os.getD k noCall = O at *
        obtain ⟨kd, a, N, s⟩ := O
        simp only at c0 c1 c2 c3 HTK
        rw [← Nat.add_assoc] at c1 c2 c3
        have HID := Lib.hid hzk.2.1
        have hbl := World.block_lt_of_cell? wr _ c0
        have HSS := Lib.hid (show s.size ≤ 5000 by have h1 := HTK.out; have h2 := HTL.out; omega)
        clear hcell hzk
        have HSZ := Lib.hid (show S.size ≤ 5000 by have h1 := HL.out; have h2 := HTK.out; have h3 := HTL.out; omega)
        have hinv := HA.out.inv
        have hSn : S.size = nr := by rw [← hinv.len, HRw.out.1]
        have hnn : nr ≤ 50000 := by have := HSZ.out; omega
        have q0 : wr.cell? ⟨gr, 0, none⟩ = some (.string S) := cell_of_row wr gr 0 _ _ _ HQ.out
        have q1 : wr.cell? ⟨gr, 1, none⟩ = some (.slice pr nr cr) := cell_of_row wr gr 1 _ _ _ HQ.out
        have q2 : wr.cell? ⟨gr, 2, none⟩ = some (.int .i64 last) := cell_of_row wr gr 2 _ _ _ HQ.out
        have hgl := blk_lt HQ.out
        have hal : Below wr.heap.size wr (wr.alloc (.cells #[.int .i64 kd, .int .i64 a, .int .i64 N, .string s] 31)) := (Below.refl _ _).alloc (Nat.le_refl _) _
        have HA4 := Lib.hid (HA.out.on hal)
        have HQ4 := Lib.hid ((hal.block _ hgl).trans HQ.out)
        have HO4 := Lib.hid (heap_alloc_new wr (.cells #[.int .i64 kd, .int .i64 a, .int .i64 N, .string s] 31))
        have HDo := Lib.hid (do_any S s pr nr cr A last kd a N _ (rowA_on HRw.out hal) hSn (by omega) (by have := HSS.out; omega))
        clear hinv hal hSn hnn
        go_wp2_with fail
        generalize wr.alloc (.cells #[.int .i64 kd, .int .i64 a, .int .i64 N, .string s] 31) = w4 at *
        generalize wr.heap.size = go at *
        obtain ⟨X, hX⟩ : ∃ X, doC S A last kd a N s = X := ⟨_, rfl⟩
        rw [hX] at HDo
        have HXX := Lib.hid hX
        have HXS := Lib.hid (show X.S.size ≤ S.size + s.size by rw [← hX]; exact doC_size _ _ _ _ _ _ _)
        clear hX
        refine HDo.out.mono ?_
        rintro e w5 ⟨p1, n1, k1, rfl, hr1, hb5⟩
        have HA5 := Lib.hid (HA4.out.on hb5)
        have HQ5 := Lib.hid ((hb5.block _ (blk_lt HQ4.out)).trans HQ4.out)
        have HO5 := Lib.hid ((hb5.block _ (blk_lt HO4.out)).trans HO4.out)
        have HR1 := Lib.hid hr1
        clear hr1 hb5 HA4 HQ4 HO4 HDo c0 c1 c2 c3 hbl q0 q1 q2 hgl HA HQ HRw
        obtain ⟨S1, A1, l1, nn, t1⟩ := X
        dsimp only at HR1 HXS ⊢
        have q0 : w5.cell? ⟨gr, 0, none⟩ = some (.string S) := cell_of_row w5 gr 0 _ _ _ HQ5.out
        have q1 : w5.cell? ⟨gr, 1, none⟩ = some (.slice pr nr cr) := cell_of_row w5 gr 1 _ _ _ HQ5.out
        have q2 : w5.cell? ⟨gr, 2, none⟩ = some (.int .i64 last) := cell_of_row w5 gr 2 _ _ _ HQ5.out
        have f0 : w5.frozen? ⟨gr, 0, none⟩ = false := frozen_at HQ5.out
        have f1 : w5.frozen? ⟨gr, 1, none⟩ = false := frozen_at HQ5.out
        have f2 : w5.frozen? ⟨gr, 2, none⟩ = false := frozen_at HQ5.out
        have o0 : w5.cell? ⟨go, 0, none⟩ = some (.int .i64 kd) := cell_of_row w5 go 0 _ _ _ HO5.out
        have o1 : w5.cell? ⟨go, 1, none⟩ = some (.int .i64 a) := cell_of_row w5 go 1 _ _ _ HO5.out
        have o2 : w5.cell? ⟨go, 2, none⟩ = some (.int .i64 N) := cell_of_row w5 go 2 _ _ _ HO5.out
        have o3 : w5.cell? ⟨go, 3, none⟩ = some (.string s) := cell_of_row w5 go 3 _ _ _ HO5.out
        have hgl := blk_lt HQ5.out
        have hol := blk_lt HO5.out
        have hne : gr ≠ go := fun e => by
          have h := HQ5.out
          rw [e, HO5.out] at h
          simp at h
        have hs6 := At.set_r (a := .string S1) (b := .slice p1 n1 k1) (c := .int .i64 l1) HA5.out HQ5.out HGR.out
        have hr16 := rowA_set3 HR1.out HQ5.out (.string S1) (.slice p1 n1 k1) (.int .i64 l1)
        have ho6 := (set3_far (.string S1) (.slice p1 n1 k1) (.int .i64 l1) hne.symm).trans HO5.out
        have hal1 : Below (set3 w5 gr (.string S1) (.slice p1 n1 k1) (.int .i64 l1)).heap.size (set3 w5 gr (.string S1) (.slice p1 n1 k1) (.int .i64 l1)) ((set3 w5 gr (.string S1) (.slice p1 n1 k1) (.int .i64 l1)).alloc (.cells #[.string S1, .slice p1 n1 k1, .int .i64 l1] 29)) := (Below.refl _ _).alloc (Nat.le_refl _) _
        have HA6 := Lib.hid (hs6.1.on hal1)
        have HQ6 := Lib.hid ((hal1.block _ (blk_lt hs6.2)).trans hs6.2)
        have HR6 := Lib.hid (rowA_on hr16 hal1)
        have HO6 := Lib.hid ((hal1.block _ (blk_lt ho6)).trans ho6)
        clear hs6 hr16 ho6 hal1 HA5 HQ5 HR1
        go_wp2_with fail
        generalize hW6 : (set3 w5 gr (.string S1) (.slice p1 n1 k1) (.int .i64 l1)).alloc (.cells #[.string S1, .slice p1 n1 k1, .int .i64 l1] 29) = w6 at *
        unfold set3 at hW6
        rw [hW6]
        clear hW6 q0 q1 q2 f0 f1 f2 o0 o1 o2 o3 hgl hol hne HO5
        have HDs := Lib.hid (does_at (M1 := total (os.take (k + 1))) HA6.out (by rw [HTK.out]; exact Nat.le_refl _) (by have := HTL.out; omega) HXX.out)
        refine HDs.out.mono ?_
        rintro e w7 ⟨rfl, ha7, hk7⟩
        dsimp only at ha7 ⊢
        have HA7 := Lib.hid ha7
        have HQ7 := Lib.hid (keeps_cargo hk7 HQ6.out)
        have HR7 := Lib.hid (keeps_rowA hk7 HR6.out)
        have HO7 := Lib.hid (keeps_op hk7 HO6.out)
        have HS7 := Lib.hid (show S1.size ≤ total (os.take (k + 1)) by have h1 := HXS.out; have h2 := HL.out; have h3 := HTK.out; omega)
        have HS8 := Lib.hid (show S1.size ≤ 5000 by have h1 := HS7.out; have h2 := HTL.out; omega)
        clear ha7 hk7 HDs HA6 HQ6 HO6 HR6
        have HCK := Lib.hid (show ∀ W, Below w7.heap.size w7 W → (W.cell? ⟨gr, 0, none⟩ = some (.string S1) ∧ W.cell? ⟨gr, 1, none⟩ = some (.slice p1 n1 k1) ∧ W.cell? ⟨gr, 2, none⟩ = some (.int .i64 l1)) ∧ W.cell? ⟨go, 1, none⟩ = some (.int .i64 a) ∧ Below w7.heap.size w7 W from
          fun W hb => ⟨box_cells HQ7.out hb, cell_of_row W go 1 _ _ _ ((hb.block _ (blk_lt HO7.out)).trans HO7.out), hb⟩)
        have HST := Lib.hid (show ∀ W, Below w7.heap.size w7 W → Calls Try.prog 15 #[.pointer (some ⟨g, 0, none⟩), .agg #[.string S1, .slice p1 n1 k1, .int .i64 l1]] W fun e w' => e = .returned (.bool true) ∧ Below W.heap.size W w' from fun W hW => stands_any (HA7.out.on hW) (by have := HS8.out; omega) (rowA_on HR7.out hW))
        obtain ⟨R, hR⟩ : ∃ R, readyN A1 a = R := ⟨_, rfl⟩
        have HR1 := Lib.hid (show ∀ W, Below w7.heap.size w7 W → Calls Try.prog 16 #[.pointer (some ⟨g, 0, none⟩), .int .i64 a] W fun e w' => e = .returned (.int .i64 (R : Int)) ∧ Below W.heap.size W w' from fun W hW => ready_at (HA7.out.on hW) a hR)
        have HR2 := Lib.hid (show ∀ W, Below w7.heap.size w7 W → Calls Try.prog 17 #[.agg #[.string S1, .slice p1 n1 k1, .int .i64 l1], .int .i64 a] W fun e w' => e = .returned (.int .i64 (R : Int)) ∧ Below W.heap.size W w' from fun W hW => by
          have hl := HA7.out.inv.len
          have hr := HR7.out.1
          rw [← hR]
          exact rready_any S1 p1 n1 k1 A1 l1 a W hr (by omega) (by have := HS8.out; omega) (ints_on HR7.out.2.2.2.1 hW))
        clear hR
        go_wp2_with fail
        go_region_held (fun W => (W.cell? ⟨gr, 0, none⟩ = some (.string S1) ∧ W.cell? ⟨gr, 1, none⟩ = some (.slice p1 n1 k1) ∧ W.cell? ⟨gr, 2, none⟩ = some (.int .i64 l1)) ∧ W.cell? ⟨go, 1, none⟩ = some (.int .i64 a) ∧ Below w7.heap.size w7 W)
          ((refine HCK.out _ ?_
            go_split_ands
            first
              | with_reducible exact (Below.refl _ _).drew
              | with_reducible assumption))
          (first
            | (go_at_call 15; go_split_ands; (with_reducible refine Calls.mono (HST.out _ (by assumption)) ?_); rintro e w8 ⟨rfl, hb⟩; (have hb8 := seqB (by assumption) hb); clear hb)
            | (go_at_call 16; go_split_ands; (with_reducible refine Calls.mono (HR1.out _ (by assumption)) ?_); rintro e w9 ⟨rfl, hb⟩; (have hb9 := seqB (by assumption) hb); clear hb)
            | (go_at_call 17; go_split_ands; (with_reducible refine Calls.mono (HR2.out _ (by assumption)) ?_); rintro e wa ⟨rfl, hb⟩; (have hba := seqB (by assumption) hb); clear hb))
        have HE := Lib.hid hba
        have HA8 := Lib.hid (HA7.out.on hba)
        have HQ8 := Lib.hid ((hba.block _ (blk_lt HQ7.out)).trans HQ7.out)
        have HR8 := Lib.hid (rowA_on HR7.out hba)
        clear hb8 hb9 hba HCK HST HR1 HR2 HA7 HQ7 HR7 HO7
        go_split_ands
        go_wp2_with fail
        go_roundw
        case rel => exact ⟨k + 1, S1, A1, l1, p1, n1, k1, by omega, by go_num, HA8, HQ8, HR8, HS7⟩
        case measure => simp [intOf]; omega
      · go_wp2_with fail
        refine (alive_any _).mono ?_
        rintro e w5 ⟨rfl, hb5⟩
        have HB5 := Lib.hid (HA.out.on hb5).below
        clear hb5
        go_wp2_with fail
        go_ret
        exact ⟨rfl, HB5.out⟩
end Go.Proofs.Ytmblgpejgdlakaa.cargoAll
