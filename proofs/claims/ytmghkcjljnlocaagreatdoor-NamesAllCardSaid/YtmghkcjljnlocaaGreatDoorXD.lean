/-
  Contracts: what the document's own Name, right, numbers, Check answer. Conditions: as each states.
-/
import Derived.Test.YtmghkcjljnlocaaGreatDoorXA
namespace Go.Proofs.YtmghkcjljnlocaaGreatDoor.gx
open Go.RowKit

theorem name_bad {s : ByteArray} {k : Nat} (hk : k < s.size) (h : signB ((nums s).getD k 0) = false) : nameB s = false := by
  have hm : (nums s).getD k 0 ∈ nums s := by
    rw [List.getD_eq_getElem?_getD, List.getElem?_eq_getElem (by rw [nums_length]; exact hk)]
    exact List.getElem_mem _
  have : (nums s).all signB = false := by
    rw [List.all_eq_false]
    exact ⟨_, hm, by rw [h]; simp⟩
  unfold nameB
  rw [this, Bool.false_and]
theorem name_good {s : ByteArray} (h : ∀ k, k < s.size → signB ((nums s).getD k 0) = true) : nameB s = decide (0 < s.size ∧ s.size ≤ 16) := by
  have : (nums s).all signB = true := by
    rw [List.all_eq_true]
    intro x hx
    obtain ⟨k, hk, rfl⟩ := List.getElem_of_mem hx
    have := h k (by rw [← nums_length]; exact hk)
    rw [List.getD_eq_getElem?_getD, List.getElem?_eq_getElem hk] at this
    exact this
  unfold nameB
  rw [this, Bool.true_and]
set_option maxHeartbeats 4000000 in
theorem rname_any (s : ByteArray) (hs : s.size ≤ maxLen) (w : World) : Calls Tryz.prog 43 #[.string s] w fun e w' => e = .returned (.bool (nameB s)) ∧ w = w' := by
  unfold maxLen at hs
  go_enter Tryz.func43, Tryz.ntmps43
  go_wp2_with fail
  go_loopw [3] (fun i wr => ∃ (k : Nat), k ≤ s.size ∧ i = .int .i64 k ∧ Hid (∀ j, j < k → signB ((nums s).getD j 0) = true) ∧ wr = w) (fun i _ => s.size - (intOf i).toNat)
  case atStart => exact ⟨0, by omega, rfl, Lib.hid (fun j h => by omega), rfl⟩
  case round =>
    obtain ⟨k, hk, rfl, HN, rfl⟩ := hrel
    by_cases hlt : k < s.size
    · have hc := nums_at s k hlt
      have hrg := allB_getD (nums_all s) k
      cases hsg : signB ((nums s).getD k 0) with
      | false =>
        have HB := Lib.hid (name_bad hlt hsg)
        unfold signB at hsg
        simp only [Bool.or_eq_false_iff, decide_eq_false_iff_not] at hsg
        generalize (nums s).getD k 0 = c at *
        go_wp2_with fail
        all_goals first
          | (go_ret; exact ⟨ret_bool HB.out.symm, rfl⟩)
          | (exfalso; omega)
          | (exfalso; rename_i hh; simp at hh; omega)
      | true =>
        have HN1 := Lib.hid (show ∀ j, j < k + 1 → signB ((nums s).getD j 0) = true from fun j hj => by
          rcases Nat.lt_or_eq_of_le (Nat.le_of_lt_succ hj) with h | h
          · exact HN.out j h
          · rw [h]; exact hsg)
        unfold signB at hsg
        simp only [Bool.or_eq_true, decide_eq_true_eq] at hsg
        generalize (nums s).getD k 0 = c at *
        go_wp2_with fail
        all_goals first
          | (exfalso; omega)
          | (exfalso; rename_i hh; simp at hh; omega)
          | exact ⟨⟨k + 1, by omega, by go_num, HN1, trivial⟩, by simp [intOf]; omega⟩
          | (exfalso; simp only [bne_iff_ne, ne_eq] at *; omega)
    · obtain rfl : k = s.size := by omega
      have HE := Lib.hid (name_good HN.out)
      by_cases h0 : 0 < s.size
      · by_cases h1 : s.size ≤ 16
        · have d0 : decide ((0 : Int) < (s.size : Int)) = true := by simp; omega
          have d1 : decide ((s.size : Int) ≤ 16) = true := by simp; omega
          have HV := Lib.hid (show nameB s = true by rw [HE.out]; exact decide_eq_true ⟨h0, h1⟩)
          go_wp2_with fail
          go_ret
          exact ⟨ret_bool HV.out.symm, rfl⟩
        · have d0 : decide ((0 : Int) < (s.size : Int)) = true := by simp; omega
          have d1 : decide ((s.size : Int) ≤ 16) = false := by simp; omega
          have HV := Lib.hid (show nameB s = false by rw [HE.out]; exact decide_eq_false fun h => h1 h.2)
          go_wp2_with fail
          go_ret
          exact ⟨ret_bool HV.out.symm, rfl⟩
      · have d0 : decide ((0 : Int) < (s.size : Int)) = false := decide_eq_false (by omega)
        have HV := Lib.hid (show nameB s = false by rw [HE.out]; exact decide_eq_false fun h => h0 h.1)
        go_wp2_with fail
        go_ret
        exact ⟨ret_bool HV.out.symm, rfl⟩
set_option maxHeartbeats 400000 in
theorem rright_any (n : Int) (w : World) : Calls Tryz.prog 93 #[.int .i64 n] w fun e w' => e = .returned (.bool (near n == n)) ∧ w = w' := by
  go_enter Tryz.func93, Tryz.ntmps93
  go_wp2_with fail
  refine (rnear_any _ _).mono ?_
  rintro e w' ⟨rfl, rfl⟩
  go_wp2_with fail
  go_ret
  exact ⟨rfl, rfl⟩
/-- May a kind's numbers be? -/
def partsB (k a b : Int) : Bool :=
  (near a == a) && (near b == b) &&
    (if k = 1 then decide (b ≤ a) else if k = 2 then decide (1 ≤ b ∧ b ≤ 4096) else if k = 3 then decide (1 ≤ a ∧ a ≤ 4096) else if k = 4 ∨ k = 5 then decide (0 < a ∧ b = 0) else decide (b = 0))
def checkB (s : ByteArray) (k o a b : Int) : Int :=
  if nameB s = false then 90 else if k < 1 ∨ 7 < k then 91 else if o < 0 ∨ 100 < o ∨ partsB k a b = false then 92 else 0
/-- What numbers answers. -/
def Parts (k a b : Int) (w : World) (e : Ending) (w' : World) : Prop := e = .returned (.bool (partsB k a b)) ∧ Below w.heap.size w w'
set_option maxRecDepth 100000 in
set_option maxHeartbeats 8000000 in
theorem rparts_any (s : ByteArray) (k : Int) (up : Bool) (o a b : Int) (w : World) : Calls Tryz.prog 78 #[.agg #[.string s, .int .i64 k, .bool up, .int .i64 o, .int .i64 a, .int .i64 b]] w (Parts k a b w) := by
  unfold Parts
  have HB := Lib.hid (show Below w.heap.size w (w.alloc (.cells #[.string s, .int .i64 k, .bool up, .int .i64 o, .int .i64 a, .int .i64 b] 24)) from (Below.refl _ _).alloc (Nat.le_refl _) _)
  have HRT := Lib.hid rright_any
  obtain ⟨A, hA⟩ : ∃ A, (near a == a) = A := ⟨_, rfl⟩
  obtain ⟨B, hB⟩ : ∃ B, (near b == b) = B := ⟨_, rfl⟩
  have HA := Lib.hid (fun W => rright_any a W)
  have HBB := Lib.hid (fun W => rright_any b W)
  rw [hA] at HA
  rw [hB] at HBB
  have HP := Lib.hid (show partsB k a b = (A && B && (if k = 1 then decide (b ≤ a) else if k = 2 then decide (1 ≤ b ∧ b ≤ 4096) else if k = 3 then decide (1 ≤ a ∧ a ≤ 4096) else if k = 4 ∨ k = 5 then decide (0 < a ∧ b = 0) else decide (b = 0))) by unfold partsB; rw [hA, hB])
  clear hA hB HRT
  have HK := Lib.hid (heap_alloc_new w (.cells #[.string s, .int .i64 k, .bool up, .int .i64 o, .int .i64 a, .int .i64 b] 24))
  cases A with
  | false =>
    have HV := Lib.hid (show partsB k a b = false by rw [HP.out]; simp)
    go_enter Tryz.func78, Tryz.ntmps78
    go_wp2_with fail
    refine (HA.out _).mono ?_
    rintro e w' ⟨rfl, rfl⟩
    go_wp2_with fail
    go_ret
    exact ⟨ret_bool HV.out.symm, HB.out⟩
  | true =>
    cases B with
    | false =>
      have HV := Lib.hid (show partsB k a b = false by rw [HP.out]; simp)
      go_enter Tryz.func78, Tryz.ntmps78
      go_wp2_with fail
      refine (HA.out _).mono ?_
      rintro e w' ⟨rfl, rfl⟩
      go_wp2_with fail
      refine (HBB.out _).mono ?_
      rintro e w' ⟨rfl, rfl⟩
      go_wp2_with fail
      go_ret
      exact ⟨ret_bool HV.out.symm, HB.out⟩
    | true =>
      go_enter Tryz.func78, Tryz.ntmps78
      go_wp2_with fail
      refine (HA.out _).mono ?_
      rintro e w' ⟨rfl, rfl⟩
      go_wp2_with fail
      refine (HBB.out _).mono ?_
      rintro e w' ⟨rfl, rfl⟩
      go_wp2_with fail
      all_goals go_ret
      all_goals refine ⟨ret_bool ?_, HB.out⟩
      all_goals rw [HP.out]
      all_goals simp_all
      all_goals first
        | rfl
        | omega
        | (intro h; omega)
/-- What Check answers. -/
def Chk (s : ByteArray) (k o a b : Int) (w : World) (e : Ending) (w' : World) : Prop := e = .returned (.int .i64 (checkB s k o a b)) ∧ Below w.heap.size w w'
set_option maxRecDepth 100000 in
set_option maxHeartbeats 8000000 in
theorem rcheck_any (s : ByteArray) (hs : s.size ≤ maxLen) (k : Int) (up : Bool) (o a b : Int) (w : World) : Calls Tryz.prog 44 #[.agg #[.string s, .int .i64 k, .bool up, .int .i64 o, .int .i64 a, .int .i64 b]] w (Chk s k o a b w) := by
  unfold Chk
  have HB := Lib.hid (show Below w.heap.size w (w.alloc (.cells #[.string s, .int .i64 k, .bool up, .int .i64 o, .int .i64 a, .int .i64 b] 24)) from (Below.refl _ _).alloc (Nat.le_refl _) _)
  have HN := Lib.hid (fun W => rname_any s hs W)
  have HP := Lib.hid (fun W => rparts_any s k up o a b W)
  obtain ⟨N, hN⟩ : ∃ N, nameB s = N := ⟨_, rfl⟩
  obtain ⟨P, hP⟩ : ∃ P, partsB k a b = P := ⟨_, rfl⟩
  have HV := Lib.hid (show checkB s k o a b = if N = false then 90 else if k < 1 ∨ 7 < k then 91 else if o < 0 ∨ 100 < o ∨ P = false then 92 else 0 by unfold checkB; rw [hN, hP])
  rw [hN] at HN
  unfold Parts at HP
  rw [hP] at HP
  clear hN hP hs
  have HK := Lib.hid (heap_alloc_new w (.cells #[.string s, .int .i64 k, .bool up, .int .i64 o, .int .i64 a, .int .i64 b] 24))
  have fin : ∀ (c : Int), checkB s k o a b = c → Ending.returned (.int .i64 c) = .returned (.int .i64 (checkB s k o a b)) := fun c h => by rw [h]
  have HF := Lib.hid fin
  clear fin
  cases N with
  | false =>
    have HV1 := Lib.hid (HV.out.trans (if_pos rfl))
    go_enter Tryz.func44, Tryz.ntmps44
    go_wp2_with fail
    refine (HN.out _).mono ?_
    rintro e w' ⟨rfl, rfl⟩
    go_wp2_with fail
    go_ret
    exact ⟨HF.out _ HV1.out, HB.out⟩
  | true =>
    by_cases hk : k < 1 ∨ 7 < k
    · have HV1 := Lib.hid (HV.out.trans (by rw [if_neg (by simp), if_pos hk] : _ = (91 : Int)))
      go_enter Tryz.func44, Tryz.ntmps44
      go_wp2_with fail
      refine (HN.out _).mono ?_
      rintro e w' ⟨rfl, rfl⟩
      go_wp2_with fail
      all_goals first
        | (go_ret; exact ⟨HF.out _ HV1.out, HB.out⟩)
        | (exfalso; omega)
    · by_cases ho : o < 0 ∨ 100 < o
      · have HV1 := Lib.hid (HV.out.trans (by rw [if_neg (by simp), if_neg hk, if_pos (by omega)] : _ = (92 : Int)))
        have k1 : decide (k < 1) = false := decide_eq_false (by omega)
        have k2 : decide (7 < k) = false := decide_eq_false (by omega)
        go_enter Tryz.func44, Tryz.ntmps44
        go_wp2_with fail
        refine (HN.out _).mono ?_
        rintro e w' ⟨rfl, rfl⟩
        by_cases o1 : o < 0
        · have o2 : decide (o < 0) = true := decide_eq_true o1
          go_wp2_with fail
          go_ret
          exact ⟨HF.out _ HV1.out, HB.out⟩
        · have o2 : decide (o < 0) = false := decide_eq_false o1
          have o3 : decide (100 < o) = true := decide_eq_true (by omega)
          go_wp2_with fail
          go_ret
          exact ⟨HF.out _ HV1.out, HB.out⟩
      · have k1 : decide (k < 1) = false := decide_eq_false (by omega)
        have k2 : decide (7 < k) = false := decide_eq_false (by omega)
        have o2 : decide (o < 0) = false := decide_eq_false (by omega)
        have o3 : decide (100 < o) = false := decide_eq_false (by omega)
        have HV1 := Lib.hid (HV.out.trans (show _ = if P = false then (92 : Int) else 0 by
          rw [if_neg (by simp), if_neg hk]
          have e : (o < 0 ∨ 100 < o ∨ P = false) ↔ P = false := ⟨fun h => by rcases h with h | h | h; exact absurd (Or.inl h) ho; exact absurd (Or.inr h) ho; exact h, fun h => Or.inr (Or.inr h)⟩
          simp only [e]))
        clear hk ho
        go_enter Tryz.func44, Tryz.ntmps44
        go_wp2_with fail
        refine (HN.out _).mono ?_
        rintro e w' ⟨rfl, rfl⟩
        go_wp2_with fail
        refine (HP.out _).mono ?_
        rintro e w' ⟨rfl, hb⟩
        have HE := Lib.hid (seqB HB.out hb)
        clear hb
        cases P with
        | false =>
          go_wp2_with fail
          go_ret
          exact ⟨HF.out _ HV1.out, HE.out⟩
        | true =>
          go_wp2_with fail
          go_ret
          exact ⟨HF.out _ HV1.out, HE.out⟩
end Go.Proofs.YtmghkcjljnlocaaGreatDoor.gx
