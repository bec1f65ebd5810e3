/-
  Contracts: what the document's own is and Right answer. Conditions: as each states.
-/
import Derived.Test.YtidklcjacejkaaaT3
namespace Go.Proofs.Ytidklcjacejkaaa
open Go.RowKit

def isR (n : Int) : Bool := near n == n
theorem isR_iff (n : Int) : isR n = true ↔ 0 ≤ n ∧ n ≤ 1099511627776 := by
  unfold isR near
  rw [beq_iff_eq]
  constructor
  · intro h
    (repeat' split at h) <;> omega
  · intro h
    rw [if_neg (by omega), if_neg (by omega)]
set_option maxHeartbeats 400000 in
theorem is_any (n : Int) (w : World) : Calls Try.prog 29 #[.int .i64 n] w fun e w' => e = .returned (.bool (isR n)) ∧ w = w' := by
  go_enter Try.func29, Try.ntmps29
  go_wp2_with fail
  refine (rnear_any _ _).mono ?_
  rintro e w' ⟨rfl, rfl⟩
  go_wp2_with fail
  go_ret
  exact ⟨rfl, rfl⟩
/-- Is a bucket right? -/
def rightB (r u l t : Int) : Bool := isR r && isR u && isR l && isR t && decide (u ≠ 0) && decide (l ≤ u)
theorem rightB_iff (r u l t : Int) : rightB r u l t = true ↔ (0 ≤ r ∧ r ≤ 1099511627776) ∧ (0 ≤ u ∧ u ≤ 1099511627776) ∧ (0 ≤ l ∧ l ≤ 1099511627776) ∧ (0 ≤ t ∧ t ≤ 1099511627776) ∧ u ≠ 0 ∧ l ≤ u := by
  unfold rightB
  simp only [Bool.and_eq_true, isR_iff, decide_eq_true_eq, and_assoc]
set_option maxRecDepth 100000 in
set_option maxHeartbeats 4000000 in
theorem rright_any (r u l t : Int) (w : World) : Calls Try.prog 15 #[.agg #[.int .i64 r, .int .i64 u, .int .i64 l, .int .i64 t]] w fun e w' => e = .returned (.bool (rightB r u l t)) ∧ Below w.heap.size w w' := by
  have HI := Lib.hid is_any
  have HB := Lib.hid (show Below w.heap.size w (w.alloc (.cells #[.int .i64 r, .int .i64 u, .int .i64 l, .int .i64 t] 23)) from (Below.refl _ _).alloc (Nat.le_refl _) _)
  have HF := Lib.hid (show rightB r u l t = (isR r && isR u && isR l && isR t && decide (u ≠ 0) && decide (l ≤ u)) from rfl)
  cases e0 : isR r with
  | false =>
    go_enter Try.func15, Try.ntmps15
    go_wp2_with fail
    refine (HI.out _ _).mono ?_
    rintro e w' ⟨rfl, rfl⟩
    go_wp2_with fail
    go_ret
    exact ⟨ret_bool (by rw [HF.out]; simp [e0]), HB.out⟩
  | true =>
    cases e1 : isR u with
    | false =>
      go_enter Try.func15, Try.ntmps15
      go_wp2_with fail
      refine (HI.out _ _).mono ?_
      rintro e w' ⟨rfl, rfl⟩
      go_wp2_with fail
      refine (HI.out _ _).mono ?_
      rintro e w' ⟨rfl, rfl⟩
      go_wp2_with fail
      go_ret
      exact ⟨ret_bool (by rw [HF.out]; simp [e0, e1]), HB.out⟩
    | true =>
      cases e2 : isR l with
      | false =>
        go_enter Try.func15, Try.ntmps15
        go_wp2_with fail
        refine (HI.out _ _).mono ?_
        rintro e w' ⟨rfl, rfl⟩
        go_wp2_with fail
        refine (HI.out _ _).mono ?_
        rintro e w' ⟨rfl, rfl⟩
        go_wp2_with fail
        refine (HI.out _ _).mono ?_
        rintro e w' ⟨rfl, rfl⟩
        go_wp2_with fail
        go_ret
        exact ⟨ret_bool (by rw [HF.out]; simp [e0, e1, e2]), HB.out⟩
      | true =>
        cases e3 : isR t with
        | false =>
          go_enter Try.func15, Try.ntmps15
          go_wp2_with fail
          refine (HI.out _ _).mono ?_
          rintro e w' ⟨rfl, rfl⟩
          go_wp2_with fail
          refine (HI.out _ _).mono ?_
          rintro e w' ⟨rfl, rfl⟩
          go_wp2_with fail
          refine (HI.out _ _).mono ?_
          rintro e w' ⟨rfl, rfl⟩
          go_wp2_with fail
          refine (HI.out _ _).mono ?_
          rintro e w' ⟨rfl, rfl⟩
          go_wp2_with fail
          go_ret
          exact ⟨ret_bool (by rw [HF.out]; simp [e0, e1, e2, e3]), HB.out⟩
        | true =>
          by_cases e4 : u = 0
          · subst e4
            go_enter Try.func15, Try.ntmps15
            go_wp2_with fail
            refine (HI.out _ _).mono ?_
            rintro e w' ⟨rfl, rfl⟩
            go_wp2_with fail
            refine (HI.out _ _).mono ?_
            rintro e w' ⟨rfl, rfl⟩
            go_wp2_with fail
            refine (HI.out _ _).mono ?_
            rintro e w' ⟨rfl, rfl⟩
            go_wp2_with fail
            refine (HI.out _ _).mono ?_
            rintro e w' ⟨rfl, rfl⟩
            go_wp2_with fail
            go_ret
            exact ⟨ret_bool (by rw [HF.out]; simp []), HB.out⟩
          · by_cases e5 : l ≤ u
            · go_enter Try.func15, Try.ntmps15
              go_wp2_with fail
              refine (HI.out _ _).mono ?_
              rintro e w' ⟨rfl, rfl⟩
              go_wp2_with fail
              refine (HI.out _ _).mono ?_
              rintro e w' ⟨rfl, rfl⟩
              go_wp2_with fail
              refine (HI.out _ _).mono ?_
              rintro e w' ⟨rfl, rfl⟩
              go_wp2_with fail
              refine (HI.out _ _).mono ?_
              rintro e w' ⟨rfl, rfl⟩
              go_wp2_with fail
              go_ret
              exact ⟨ret_bool (by rw [HF.out]; simp [e0, e1, e2, e3, e4, e5]), HB.out⟩
            · go_enter Try.func15, Try.ntmps15
              go_wp2_with fail
              refine (HI.out _ _).mono ?_
              rintro e w' ⟨rfl, rfl⟩
              go_wp2_with fail
              refine (HI.out _ _).mono ?_
              rintro e w' ⟨rfl, rfl⟩
              go_wp2_with fail
              refine (HI.out _ _).mono ?_
              rintro e w' ⟨rfl, rfl⟩
              go_wp2_with fail
              refine (HI.out _ _).mono ?_
              rintro e w' ⟨rfl, rfl⟩
              go_wp2_with fail
              go_ret
              exact ⟨ret_bool (by rw [HF.out]; simp [e0, e1, e2, e3, e4]), HB.out⟩
end Go.Proofs.Ytidklcjacejkaaa
