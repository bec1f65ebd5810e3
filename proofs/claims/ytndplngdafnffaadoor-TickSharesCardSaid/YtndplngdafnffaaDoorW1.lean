/-
  Contracts: what tick.Right, Add, Sub, Up and the document's own Near, Add, Sub, Up answer, for every two numbers. Conditions: none.
-/
import Derived.Test.YtndplngdafnffaaDoorChecked
import Derived.WalkKit
import Derived.Lib.Hide
import Derived.BigQuiet
import Derived.Deep.QuietTactic
namespace Go.Proofs.YtndplngdafnffaaDoor
open Go.RowKit

/-- The right number that all calls take n as. -/
def near (n : Int) : Int := if n < 0 then 0 else if 1099511627776 < n then 1099511627776 else n
theorem near_range (n : Int) : 0 ≤ near n ∧ near n ≤ 1099511627776 := by unfold near; split <;> (try split) <;> omega
theorem near_of (n : Int) (h0 : 0 ≤ n) (h1 : n ≤ 1099511627776) : near n = n := by unfold near; split <;> (try split) <;> omega
theorem ret_int {k : IntKind} {a b : Int} (h : a = b) : Ending.returned (.int k a) = .returned (.int k b) := by rw [h]
theorem ret_bool {a b : Bool} (h : a = b) : Ending.returned (.bool a) = .returned (.bool b) := by rw [h]

set_option maxHeartbeats 400000 in
theorem nearest_any (n : Int) (w : World) : Calls Tryd.prog 28 #[.int .i64 n] w fun e w' => e = .returned (.int .i64 (near n)) ∧ w = w' := by
  go_enter Tryd.func28, Tryd.ntmps28
  go_wp2
  all_goals go_ret
  all_goals exact ⟨ret_int (by unfold near; (repeat' split at *) <;> omega), rfl⟩

set_option maxHeartbeats 400000 in
theorem right_any (n : Int) (w : World) : Calls Tryd.prog 19 #[.int .i64 n] w fun e w' => e = .returned (.bool (n == near n)) ∧ w = w' := by
  go_enter Tryd.func19, Tryd.ntmps19
  go_wp2_with (go_at_call 28; refine (nearest_any _ _).mono ?_; rintro e w' ⟨rfl, rfl⟩)
  go_ret
  exact ⟨rfl, rfl⟩

set_option maxHeartbeats 400000 in
theorem add_any (a b : Int) (w : World) : Calls Tryd.prog 11 #[.int .i64 a, .int .i64 b] w fun e w' => e = .returned (.int .i64 (near (near a + near b))) ∧ w = w' := by
  have ha := near_range a
  have hb := near_range b
  go_enter Tryd.func11, Tryd.ntmps11
  go_wp2_with (go_at_call 28; refine (nearest_any _ _).mono ?_; rintro e w' ⟨rfl, rfl⟩)
  go_ret
  exact ⟨rfl, rfl⟩

set_option maxHeartbeats 400000 in
theorem sub_any (a b : Int) (w : World) : Calls Tryd.prog 13 #[.int .i64 a, .int .i64 b] w fun e w' => e = .returned (.int .i64 (near (near a - near b))) ∧ w = w' := by
  have ha := near_range a
  have hb := near_range b
  go_enter Tryd.func13, Tryd.ntmps13
  go_wp2_with (go_at_call 28; refine (nearest_any _ _).mono ?_; rintro e w' ⟨rfl, rfl⟩)
  go_ret
  exact ⟨rfl, rfl⟩

theorem up_more (x y : Int) (hy : 1 ≤ y) (h : x / y * y < x) : (x + y - 1) / y = x / y + 1 := by
  have h2 := Int.lt_ediv_add_one_mul_self x (b := y) (by omega)
  rw [Int.add_mul] at h2
  have e : x + y - 1 = (x - x / y * y - 1) + (x / y + 1) * y := by rw [Int.add_mul]; omega
  rw [e, Int.add_mul_ediv_right _ _ (by omega), Int.ediv_eq_zero_of_lt (by omega) (by omega)]; omega
theorem up_even (x y : Int) (hy : 1 ≤ y) (h : x ≤ x / y * y) : (x + y - 1) / y = x / y := by
  have h2 := Int.ediv_mul_le x (b := y) (by omega)
  have e : x + y - 1 = (y - 1) + (x / y) * y := by omega
  rw [e, Int.add_mul_ediv_right _ _ (by omega), Int.ediv_eq_zero_of_lt (by omega) (by omega)]; omega

def upF (a b : Int) : Int := if near a = 0 then 0 else if near b = 0 then 1099511627776 else (near a + near b - 1) / near b

set_option maxHeartbeats 400000 in
theorem up_any (a b : Int) (w : World) : Calls Tryd.prog 17 #[.int .i64 a, .int .i64 b] w fun e w' => e = .returned (.int .i64 (upF a b)) ∧ w = w' := by
  have ha := near_range a
  have hb := near_range b
  by_cases e0 : near a = 0
  · have HF := Lib.hid (show upF a b = 0 by unfold upF; rw [if_pos e0])
    have c0 : (near a == 0) = true := by simp [e0]
    clear e0
    go_enter Tryd.func17, Tryd.ntmps17
    go_wp2_with (go_at_call 28; refine (nearest_any _ _).mono ?_; rintro e w' ⟨rfl, rfl⟩)
    go_ret
    exact ⟨ret_int HF.out.symm, rfl⟩
  · have c0 : (near a == 0) = false := by simp [e0]
    by_cases e1 : near b = 0
    · have HF := Lib.hid (show upF a b = 1099511627776 by unfold upF; rw [if_neg e0, if_pos e1])
      have c1 : (near b == 0) = true := by simp [e1]
      clear e0 e1
      go_enter Tryd.func17, Tryd.ntmps17
      go_wp2_with (go_at_call 28; refine (nearest_any _ _).mono ?_; rintro e w' ⟨rfl, rfl⟩)
      go_ret
      exact ⟨ret_int HF.out.symm, rfl⟩
    · have HF := Lib.hid (show upF a b = (near a + near b - 1) / near b by unfold upF; rw [if_neg e0, if_neg e1])
      have c1 : (near b == 0) = false := by simp [e1]
      have hb1 : 1 ≤ near b := by omega
      have ha1 : 1 ≤ near a := by omega
      clear e0 e1
      go_enter Tryd.func17, Tryd.ntmps17
      go_wp2_with (go_at_call 28; refine (nearest_any _ _).mono ?_; rintro e w' ⟨rfl, rfl⟩)
      go_ret
      exact ⟨ret_int HF.out.symm, rfl⟩

set_option maxHeartbeats 400000 in
theorem rtop_any (w : World) : Calls Tryd.prog 32 #[] w fun e w' => e = .returned (.int .i64 1099511627776) ∧ w = w' := by
  go_enter Tryd.func32, Tryd.ntmps32
  go_wp2
  go_ret
  exact ⟨rfl, rfl⟩

set_option maxHeartbeats 400000 in
theorem rnear_any (n : Int) (w : World) : Calls Tryd.prog 20 #[.int .i64 n] w fun e w' => e = .returned (.int .i64 (near n)) ∧ w = w' := by
  go_enter Tryd.func20, Tryd.ntmps20
  go_wp2_with (go_at_call 32; refine (rtop_any _).mono ?_; rintro e w' ⟨rfl, rfl⟩)
  all_goals go_ret
  all_goals exact ⟨ret_int (by unfold near; (repeat' split at *) <;> omega), rfl⟩

set_option maxHeartbeats 400000 in
theorem radd_any (a b : Int) (w : World) : Calls Tryd.prog 12 #[.int .i64 a, .int .i64 b] w fun e w' => e = .returned (.int .i64 (near (near a + near b))) ∧ w = w' := by
  have ha := near_range a
  have hb := near_range b
  go_enter Tryd.func12, Tryd.ntmps12
  go_wp2_with (go_at_call 20; refine (rnear_any _ _).mono ?_; rintro e w' ⟨rfl, rfl⟩)
  go_ret
  exact ⟨rfl, rfl⟩

set_option maxHeartbeats 400000 in
theorem rsub_any (a b : Int) (w : World) : Calls Tryd.prog 14 #[.int .i64 a, .int .i64 b] w fun e w' => e = .returned (.int .i64 (near (near a - near b))) ∧ w = w' := by
  have ha := near_range a
  have hb := near_range b
  go_enter Tryd.func14, Tryd.ntmps14
  go_wp2_with (go_at_call 20; refine (rnear_any _ _).mono ?_; rintro e w' ⟨rfl, rfl⟩)
  go_ret
  exact ⟨rfl, rfl⟩

set_option maxHeartbeats 400000 in
theorem rup_any (a b : Int) (w : World) : Calls Tryd.prog 18 #[.int .i64 a, .int .i64 b] w fun e w' => e = .returned (.int .i64 (upF a b)) ∧ w = w' := by
  have ha := near_range a
  have hb := near_range b
  by_cases e0 : near a = 0
  · have HF := Lib.hid (show upF a b = 0 by unfold upF; rw [if_pos e0])
    have c0 : (near a == 0) = true := by simp [e0]
    clear e0
    go_enter Tryd.func18, Tryd.ntmps18
    go_wp2_with (go_at_call 20; refine (rnear_any _ _).mono ?_; rintro e w' ⟨rfl, rfl⟩)
    go_ret
    exact ⟨ret_int HF.out.symm, rfl⟩
  · have c0 : (near a == 0) = false := by simp [e0]
    by_cases e1 : near b = 0
    · have HF := Lib.hid (show upF a b = 1099511627776 by unfold upF; rw [if_neg e0, if_pos e1])
      have c1 : (near b == 0) = true := by simp [e1]
      clear e0 e1
      go_enter Tryd.func18, Tryd.ntmps18
      go_wp2_with (first | (go_at_call 20; refine (rnear_any _ _).mono ?_; rintro e w' ⟨rfl, rfl⟩) | (go_at_call 32; refine (rtop_any _).mono ?_; rintro e w' ⟨rfl, rfl⟩))
      go_ret
      exact ⟨ret_int HF.out.symm, rfl⟩
    · have c1 : (near b == 0) = false := by simp [e1]
      have hb1 : 1 ≤ near b := by omega
      have ha1 : 1 ≤ near a := by omega
      have HF := Lib.hid (show upF a b = (near a + near b - 1) / near b by unfold upF; rw [if_neg e0, if_neg e1])
      have hq0 : 0 ≤ near a / near b := Int.ediv_nonneg (by omega) (by omega)
      have hq1 : near a / near b ≤ 1099511627776 := Int.le_trans (Int.ediv_le_self _ (by omega)) (by omega)
      have hm0 : 0 ≤ near a / near b * near b := Int.mul_nonneg hq0 (by omega)
      have hm1 : near a / near b * near b ≤ 1099511627776 := by have := Int.ediv_mul_le (near a) (b := near b) (by omega); omega
      clear e0 e1
      go_enter Tryd.func18, Tryd.ntmps18
      go_wp2_with (first | (go_at_call 20; refine (rnear_any _ _).mono ?_; rintro e w' ⟨rfl, rfl⟩) | (go_at_call 32; refine (rtop_any _).mono ?_; rintro e w' ⟨rfl, rfl⟩))
      all_goals go_ret
      all_goals exact ⟨ret_int (by rw [HF.out]; first | rw [up_more _ _ hb1 ‹_›] | rw [up_even _ _ hb1 ‹_›]), rfl⟩

end Go.Proofs.YtndplngdafnffaaDoor
