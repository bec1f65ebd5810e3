/-
  The walk of chicanelaw07.CargoEarly: it returns true, whatever calls. Conditions: as each states.
-/
import Derived.Test.YtmblgpejgdlakaaV
namespace Go.Proofs.Ytmblgpejgdlakaa.cargoEarly
open Go.RowKit

theorem ready_rest (A : List Int) (x : Int) : readyN (A.drop (readyN A x)) x = 0 := by
  refine ready_is (Nat.zero_le _) (fun j hj => absurd hj (Nat.not_lt_zero _)) (fun h => ?_)
  rw [List.length_drop] at h
  have := ready_no (A := A) (x := x) (by omega)
  rw [List.getD_eq_getElem?_getD] at this ⊢
  rw [List.getElem?_drop, Nat.add_zero]
  exact this
theorem drop_first (A : List Int) (k : Nat) : (A.drop k).getD 0 0 = A.getD k 0 := by
  rw [List.getD_eq_getElem?_getD, List.getD_eq_getElem?_getD, List.getElem?_drop, Nat.add_zero]
/-- How many bytes the pieces have whose tick is not above x. -/
def dueP : List Pc → Int → Nat
  | [], _ => 0
  | p :: r, x => (if p.1 ≤ x then p.2.size else 0) + dueP r x
theorem dueP_append (l r : List Pc) (x : Int) : dueP (l ++ r) x = dueP l x + dueP r x := by
  induction l with
  | nil => simp [dueP]
  | cons p l ih => simp only [List.cons_append, dueP, ih]; omega
theorem dueP_le (ps : List Pc) (x : Int) (k : Nat) : dueP (ps.take k) x ≤ dueP ps x := by
  have h := dueP_append (ps.take k) (ps.drop k) x
  rw [List.take_append_drop] at h
  omega
theorem dueP_next (ps : List Pc) (x : Int) (k : Nat) (h : k < ps.length) {p : Pc} (hp : ps.getD k noPc = p) : dueP (ps.take (k + 1)) x = dueP (ps.take k) x + (if p.1 ≤ x then p.2.size else 0) := by
  rw [List.take_add_one, List.getElem?_eq_getElem h, dueP_append]
  rw [List.getD_eq_getElem?_getD, List.getElem?_eq_getElem h] at hp
  subst hp
  simp [dueP]
theorem dueP_none {r : List Pc} {x t : Int} (h : ∀ p ∈ r, t < p.1) (hx : x < t) : dueP r x = 0 := by
  induction r with
  | nil => rfl
  | cons p r ih =>
    have h1 := h p List.mem_cons_self
    simp only [dueP]
    rw [if_neg (by omega), ih (fun q hq => h q (List.mem_cons_of_mem _ hq))]
theorem dueP_ready {ps : List Pc} (h : Good ps) (x : Int) : readyN (tkOf ps) x = dueP ps x := by
  induction ps with
  | nil => rfl
  | cons p r ih =>
    have e : tkOf (p :: r) = List.replicate p.2.size p.1 ++ tkOf r := rfl
    have h0 := h.1 p List.mem_cons_self
    have hr := List.pairwise_cons.1 h.2
    have ih' := ih ⟨fun q hq => h.1 q (List.mem_cons_of_mem _ hq), hr.2⟩
    by_cases hx : p.1 ≤ x
    · rw [e]
      unfold readyN
      rw [List.takeWhile_append_of_pos (by intro y hy; rw [List.mem_replicate] at hy; simp; omega), List.length_append, List.length_replicate]
      simp only [dueP]
      rw [if_pos hx, ← ih']
      rfl
    · simp only [dueP]
      rw [if_neg hx, dueP_none hr.1 (by omega), e]
      obtain ⟨m, hm⟩ : ∃ m, p.2.size = m + 1 := ⟨p.2.size - 1, by omega⟩
      rw [hm]
      unfold readyN
      rw [List.replicate_succ, List.cons_append, List.takeWhile_cons_of_neg (by simpa using hx)]
      rfl
set_option maxRecDepth 100000 in
set_option maxHeartbeats 16000000 in
theorem walk (p : Option Addr) (m d : Nat) (os : List Call) (w : World) (hx : os.length = m) (hmd : m ≤ d) (hd : d ≤ 9223372036854775807) (hz : ∀ o ∈ os, Wf64 o.1 ∧ Wf64 o.2.1 ∧ Wf64 o.2.2.1 ∧ o.2.2.2.size ≤ 140737488351232) (hj : OpsIn w p m os) (now : Int) :
    Calls Try.prog 5 #[.slice p m d, .int .i64 now] w fun e w' => e = .returned (.bool true) ∧ Below w.heap.size w w' := by
  have HX := Lib.hid hx
  have HJ := Lib.hid hj
  have HZ := Lib.hid hz
  clear hx hz hj
  go_enter Try.func5, Try.ntmps5
  go_wp2_with fail
  refine (new_at w _ (Below.refl _ _)).mono ?_
  rintro e w1 ⟨g, rfl, ha, _⟩
  have HA1 := Lib.hid ha
  clear ha
  obtain ⟨B, hB⟩ : ∃ B, w.heap.size = B := ⟨_, rfl⟩
  rw [hB] at HA1
  clear hB
  go_wp2_with fail
  refine (few_any p m d os _ HX.out hmd hd (fun o ho => (HZ.out o ho).2.2.2) (ops_on HJ.out HA1.out.below)).mono ?_
  rintro e w2 ⟨b, rfl, hf, hb⟩
  have HA2 := Lib.hid (HA1.out.on hb)
  have HF := Lib.hid hf
  clear hb hf HA1
  clear hmd hd
  cases b with
  | false =>
    clear HF
    go_wp2_with fail
    refine (alive_any _).mono ?_
    rintro e w5 ⟨rfl, hb5⟩
    have HB5 := Lib.hid (HA2.out.on hb5).below
    clear hb5
    go_wp2_with fail
    go_ret
    exact ⟨rfl, HB5.out⟩
  | true =>
    obtain ⟨hm, ht⟩ := HF.out rfl
    have HT := Lib.hid ht
    clear HF ht
    go_wp2_with fail
    go_loopw [29] (fun i wr => ∃ (k : Nat) (S : ByteArray) (A : List Int) (last : Int), k ≤ m ∧ i = .int .i64 k ∧ Hid (At w B g S A last (total (os.take k)) wr) ∧ Hid (S.size ≤ total (os.take k))) (fun i _ => m - (intOf i).toNat)
    case atStart => exact ⟨0, ⟨#[]⟩, [], 0, by omega, rfl, HA2, Lib.hid (Nat.zero_le _)⟩
    case round =>
      clear HA2
      obtain ⟨k, S, A, last, hk, rfl, HA, HL⟩ := hrel
      by_cases hlt : k < m
      · obtain ⟨b, o, rfl, hcell⟩ := ops_on HJ.out HA.out.below (by omega)
        obtain ⟨c0, c1, c2, c3⟩ := hcell k hlt
        have hzk := HZ.out _ (at_of os k (by rw [HX.out]; exact hlt))
        have HTK := Lib.hid (total_step os k m HX.out hlt _ rfl)
        have HTL := Lib.hid (Nat.le_trans (total_take_le os (k + 1)) HT.out)
        generalize os.getD k noCall = O at *
        obtain ⟨kd, a, N, s⟩ := O
        simp only at c0 c1 c2 c3 HTK
        rw [← Nat.add_assoc] at c1 c2 c3
        have HID := Lib.hid hzk.2.1
        have hbl := World.block_lt_of_cell? wr _ c0
        have HSS := Lib.hid (show s.size ≤ 5000 by have h1 := HTK.out; have h2 := HTL.out; omega)
        clear hcell hzk
        have HSZ := Lib.hid (show S.size ≤ 5000 by have h1 := HL.out; have h2 := HTK.out; have h3 := HTL.out; omega)
        have hal : Below wr.heap.size wr (wr.alloc (.cells #[.int .i64 kd, .int .i64 a, .int .i64 N, .string s] 31)) := (Below.refl _ _).alloc (Nat.le_refl _) _
        have HA4 := Lib.hid (HA.out.on hal)
        clear hal HA
        go_wp2_with fail
        generalize wr.alloc (.cells #[.int .i64 kd, .int .i64 a, .int .i64 N, .string s] 31) = w4 at *
        obtain ⟨X, hX⟩ : ∃ X, doC S A last kd a N s = X := ⟨_, rfl⟩
        have HXS := Lib.hid (show X.S.size ≤ total (os.take (k + 1)) by have h0 := doC_size S A last kd a N s; rw [hX] at h0; have h1 := HL.out; have h2 := HTK.out; omega)
        have HDs := Lib.hid (does_at (M1 := total (os.take (k + 1))) HA4.out (by rw [HTK.out]; exact Nat.le_refl _) (by have := HTL.out; omega) hX)
        clear hX
        refine HDs.out.mono ?_
        rintro e w7 ⟨rfl, ha7, _⟩
        obtain ⟨S1, A1, l1, nn, t1⟩ := X
        dsimp only at ha7 HXS ⊢
        have HA7 := Lib.hid ha7
        clear ha7 HDs HA4 c0 c1 c2 c3 hbl
        go_wp2_with fail
        go_roundw
        case rel => exact ⟨k + 1, S1, A1, l1, by omega, by go_num, HA7, HXS⟩
        case measure => simp [intOf]; omega
      · obtain rfl : k = m := by omega
        have HSZ := Lib.hid (show S.size ≤ 5000 by have h1 := HL.out; have h2 := total_take_le os k; have h3 := HT.out; omega)
        have HINV := Lib.hid HA.out.inv
        clear hlt hk HL
        obtain ⟨R, hR⟩ : ∃ R, readyN A now = R := ⟨_, rfl⟩
        obtain ⟨ps, hps⟩ : ∃ ps, runsK S A S.size = ps := ⟨_, rfl⟩
        obtain ⟨mm, hmm⟩ : ∃ mm, ps.length = mm := ⟨_, rfl⟩
        have hrt := runs_tk HINV.out
        rw [hps] at hrt
        have hdue : dueP ps now = R := by rw [← hR, ← dueP_ready hrt.2.2.2, hrt.2.1]
        have hRl : R ≤ S.size := by rw [← hR, ← HINV.out.len]; exact ready_le _ _
        have HDU := Lib.hid hdue
        have HMM := Lib.hid hmm
        have hml : mm ≤ 5000 := by have := HSZ.out; have := hrt.2.2.1; omega
        have hRl2 : R ≤ 5000 := by have := HSZ.out; omega
        have HRR := Lib.hid hR
        have HPS := Lib.hid hps
        have HRL := Lib.hid hRl
        clear hrt hdue hmm hR hps hRl
        go_wp2_with fail
        refine (ready_at HA.out now HRR.out).mono ?_
        rintro e w3 ⟨rfl, hb⟩
        have HA3 := Lib.hid (HA.out.on hb)
        clear hb HA
        go_wp2_with fail
        refine (list_at HA3.out HPS.out).mono ?_
        rintro e w4 h
        obtain ⟨⟨q, d4, rfl, ho⟩, hb⟩ := got_of_out HMM.out h
        have HA4 := Lib.hid (HA3.out.on hb)
        have HI4 := Lib.hid (own_pcsIn ho).1
        clear h ho hb HA3
        go_wp2_with fail
        go_loopw [8, 43] (fun nv i wr => ∃ (j : Nat) (y : Int), j ≤ mm ∧ i = .int .i64 j ∧ nv = .int .i64 y ∧ Hid (y = (R : Int) - (dueP (ps.take j) now : Int)) ∧ Hid (Below w4.heap.size w4 wr)) (fun _ i _ => mm - (intOf i).toNat)
        case atStart => exact ⟨0, R, by omega, rfl, rfl, Lib.hid (by simp [dueP]), Lib.hid (Below.refl _ _)⟩
        case round =>
          obtain ⟨j, y, hj, rfl, rfl, HY, HW⟩ := hrel
          by_cases hlt : j < mm
          · obtain ⟨b1, o1, rfl, hc1⟩ := pcs_on HI4.out HW.out (by omega)
            obtain ⟨g0, g1⟩ := hc1 j hlt
            obtain ⟨x, hx⟩ : ∃ x, ps.getD j noPc = x := ⟨_, rfl⟩
            have hnx := dueP_next ps now j (by rw [HMM.out]; exact hlt) hx
            rw [hx] at g0 g1
            obtain ⟨x0, x1⟩ := x
            simp only at g0 g1 hnx
            rw [← Nat.add_assoc] at g1
            have hbl1 : b1 < wr.heap.size := World.block_lt_of_cell? wr _ g0
            have hle1 := dueP_le ps now (j + 1)
            have hle0 := dueP_le ps now j
            have hyv := HY.out
            have hdu := HDU.out
            by_cases hx0 : x0 ≤ now
            · rw [if_pos hx0] at hnx
              have hw : IntKind.i64.wrap (y - (x1.size : Int)) = y - (x1.size : Int) := IntWalk.i64_in _ (by omega)
              have HY1 := Lib.hid (show y - (x1.size : Int) = (R : Int) - (dueP (ps.take (j + 1)) now : Int) by omega)
              clear hc1 hx hnx hle1 hle0 hyv hdu
              go_wp2_with fail
              go_roundw
              case rel => exact ⟨j + 1, _, by omega, by go_num, rfl, HY1, Lib.hid (HW.out.alloc HW.out.size _)⟩
              case measure => simp [intOf]; omega
            · rw [if_neg hx0] at hnx
              have HY1 := Lib.hid (show y = (R : Int) - (dueP (ps.take (j + 1)) now : Int) by omega)
              clear hc1 hx hnx hle1 hle0 hyv hdu
              go_wp2_with fail
              go_roundw
              case rel => exact ⟨j + 1, _, by omega, by go_num, rfl, HY1, Lib.hid (HW.out.alloc HW.out.size _)⟩
              case measure => simp [intOf]; omega
          · obtain rfl : j = mm := by omega
            have hy0 : y = 0 := by
              have := HY.out
              rw [← HMM.out, List.take_length, HDU.out] at this
              omega
            subst hy0
            have HA5 := Lib.hid (HA4.out.on HW.out)
            obtain ⟨n, hn⟩ : ∃ n, S.size = n := ⟨_, rfl⟩
            have HN := Lib.hid hn
            have hK : takeK A now (n : Int) = R := by unfold takeK; rw [HRR.out]; have := HRL.out; omega
            have HK := Lib.hid hK
            clear hlt HW HA4 HI4 HY hn hK
            go_wp2_with fail
            refine (len_at HA5.out HN.out).mono ?_
            rintro e w5 ⟨rfl, hb⟩
            have HA6 := Lib.hid (HA5.out.on hb)
            clear hb HA5
            go_wp2_with fail
            obtain ⟨S', hS'⟩ : ∃ S', S.extract R S.size = S' := ⟨_, rfl⟩
            obtain ⟨A', hA'⟩ : ∃ A', A.drop R = A' := ⟨_, rfl⟩
            have hS'l : S'.size ≤ S.size := by rw [← hS', ByteArray.size_extract]; omega
            have hA'r : readyN A' now = 0 := by rw [← hA', ← HRR.out]; exact ready_rest A now
            have hA'f : 0 < A'.length → now < A'.getD 0 0 := fun h => by
              rw [← hA', drop_first, ← HRR.out]
              refine ready_no ?_
              rw [← hA', List.length_drop] at h
              rw [HRR.out]
              omega
            have HS' := Lib.hid hS'
            have HA' := Lib.hid hA'
            have HSL := Lib.hid hS'l
            have HRZ := Lib.hid hA'r
            have HFF := Lib.hid hA'f
            clear hS' hA' hS'l hA'r hA'f
            refine (take_at HA6.out now _ HK.out rfl HS'.out HA'.out).mono ?_
            rintro e w6 ⟨⟨q6, d6, rfl, _⟩, ha, _⟩
            have HA7 := Lib.hid ha
            clear ha HA6
            obtain ⟨t, ht⟩ : ∃ t, A'.getD 0 0 = t := ⟨_, rfl⟩
            obtain ⟨f, hf⟩ : ∃ f, decide (0 < A'.length) = f := ⟨_, rfl⟩
            have HC := Lib.hid (next_at HA7.out ht hf)
            have HTF := Lib.hid (show f = true → now < t from fun h => by rw [← ht]; exact HFF.out (by rw [h] at hf; simpa using hf))
            clear ht hf
            go_wp2_with fail
            refine HC.out.mono ?_
            rintro e w7 ⟨rfl, hb⟩
            have HA8 := Lib.hid (HA7.out.on hb)
            clear hb HA7 HC
            go_wp2_with fail
            refine (alive_any _).mono ?_
            rintro e w8 ⟨rfl, hb⟩
            have HA9 := Lib.hid (HA8.out.on hb)
            clear hb HA8
            have HC1 := Lib.hid (ready_at HA9.out now HRZ.out)
            have HK2 : takeK A' now 1000 = 0 := by unfold takeK; rw [HRZ.out]; omega
            have HT2 := Lib.hid (fun w' (hb : Below w8.heap.size w8 w') => take_at (HA9.out.on hb) now 1000 HK2 rfl rfl rfl)
            clear HK2
            cases f with
            | true =>
              have htn : now < t := HTF.out rfl
              go_wp2_with fail
              refine HC1.out.mono ?_
              rintro e w9 ⟨rfl, hb⟩
              have HB9 := Lib.hid hb
              clear hb
              go_wp2_with fail
              refine (HT2.out _ HB9.out).mono ?_
              rintro e wa ⟨⟨qa, da, rfl, _⟩, ha, _⟩
              have HE := Lib.hid ha.below
              clear ha HT2 HC1 HB9
              go_wp2_with fail
              go_ret
              exact ⟨ret_bool (by simp; omega), HE.out⟩
            | false =>
              go_wp2_with fail
              refine HC1.out.mono ?_
              rintro e w9 ⟨rfl, hb⟩
              have HB9 := Lib.hid hb
              clear hb
              go_wp2_with fail
              refine (HT2.out _ HB9.out).mono ?_
              rintro e wa ⟨⟨qa, da, rfl, _⟩, ha, _⟩
              have HE := Lib.hid ha.below
              clear ha HT2 HC1 HB9
              go_wp2_with fail
              go_ret
              exact ⟨ret_bool (by simp; omega), HE.out⟩
end Go.Proofs.Ytmblgpejgdlakaa.cargoEarly
