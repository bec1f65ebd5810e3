/-
  Contracts: what tick's own nearest, Right, Add, Mul answer. Conditions: none.
-/
import Derived.Test.YtidklcjacejkaaaT1
import Derived.Test.YtidklcjacejkaaaShelf
import Derived.RegionTactic
namespace Go.Proofs.Ytidklcjacejkaaa
open Go.RowKit

set_option maxHeartbeats 400000 in
theorem nearest_any (n : Int) (w : World) : Calls Try.prog 35 #[.int .i64 n] w fun e w' => e = .returned (.int .i64 (near n)) ∧ w = w' := by
  go_enter Try.func35, Try.ntmps35
  go_wp2
  all_goals go_ret
  all_goals exact ⟨ret_int (by unfold near; (repeat' split at *) <;> omega), rfl⟩

set_option maxHeartbeats 400000 in
theorem right_any (n : Int) (w : World) : Calls Try.prog 28 #[.int .i64 n] w fun e w' => e = .returned (.bool (n == near n)) ∧ w = w' := by
  go_enter Try.func28, Try.ntmps28
  go_wp2_with (go_at_call 35; refine (nearest_any _ _).mono ?_; rintro e w' ⟨rfl, rfl⟩)
  go_ret
  exact ⟨rfl, rfl⟩

set_option maxHeartbeats 400000 in
theorem add_any (a b : Int) (w : World) : Calls Try.prog 23 #[.int .i64 a, .int .i64 b] w fun e w' => e = .returned (.int .i64 (near (near a + near b))) ∧ w = w' := by
  have ha := near_range a
  have hb := near_range b
  go_enter Try.func23, Try.ntmps23
  go_wp2_with (go_at_call 35; refine (nearest_any _ _).mono ?_; rintro e w' ⟨rfl, rfl⟩)
  go_ret
  exact ⟨rfl, rfl⟩

theorem mul64_int (x y : Int) (hx0 : 0 ≤ x) (hx : x < 18446744073709551616) (hy0 : 0 ≤ y) (hy : y < 18446744073709551616) (w : World) :
    Calls Try.prog 37 #[.int .u64 x, .int .u64 y] w fun e w' => e = .returned (.tuple #[.int .u64 (x * y / 18446744073709551616), .int .u64 (x * y % 18446744073709551616)]) ∧ w = w' := by
  obtain ⟨a, rfl⟩ := Int.eq_ofNat_of_zero_le hx0
  obtain ⟨b, rfl⟩ := Int.eq_ofNat_of_zero_le hy0
  refine (Try.bits_Mul64 a b (by omega) (by omega) w).mono ?_
  rintro e w' ⟨rfl, rfl⟩
  exact ⟨by simp, rfl⟩

set_option maxHeartbeats 400000 in
theorem div64_low (lo y : Int) (h0 : 0 ≤ lo) (h1 : lo < 18446744073709551616) (hy0 : 1 ≤ y) (hy : y < 18446744073709551616) (w : World) :
    Calls Try.prog 38 #[.int .u64 0, .int .u64 lo, .int .u64 y] w fun e w' => e = .returned (.tuple #[.int .u64 (lo / y), .int .u64 (lo % y)]) ∧ ∃ n, w' = w.drewN n := by
  have c0 : (y == 0) = false := by simp; omega
  have c1 : decide (y ≤ 0) = false := by simp; omega
  go_enter Try.func38, Try.ntmps38
  go_wp2_with fail
  go_quiet (fail)
  go_wp2_with fail
  go_ret2
  exact ⟨rfl, _, rfl⟩

theorem mul64_low (x y : Int) (hx0 : 0 ≤ x) (hx : x < 18446744073709551616) (hy0 : 0 ≤ y) (hy : y < 18446744073709551616) (h : x * y < 18446744073709551616) (w : World) :
    Calls Try.prog 37 #[.int .u64 x, .int .u64 y] w fun e w' => e = .returned (.tuple #[.int .u64 0, .int .u64 (x * y)]) ∧ w = w' := by
  have h0 : 0 ≤ x * y := Int.mul_nonneg hx0 hy0
  refine (mul64_int x y hx0 hx hy0 hy w).mono ?_
  rintro e w' ⟨rfl, rfl⟩
  refine ⟨?_, rfl⟩
  rw [Int.ediv_eq_zero_of_lt h0 h, Int.emod_eq_of_lt h0 h]

def shareF (a b c : Int) : Int := if near a = 0 ∨ near b = 0 then 0 else if near c = 0 then 1099511627776 else if near a * near b / near c ≤ 1099511627776 then near a * near b / near c else 1099511627776

set_option maxHeartbeats 400000 in
theorem share_zero (a b c : Int) (h : near a = 0 ∨ near b = 0) (w : World) :
    Calls Try.prog 36 #[.int .i64 a, .int .i64 b, .int .i64 c] w fun e w' => e = .returned (.int .i64 (shareF a b c)) ∧ ∃ n, w' = w.drewN n := by
  have HF := Lib.hid (show shareF a b c = 0 by unfold shareF; rw [if_pos h])
  by_cases e0 : near a = 0
  · have c0 : (near a == 0) = true := by simp [e0]
    clear e0 h
    go_enter Try.func36, Try.ntmps36
    go_wp2_with (go_at_call 35; refine (nearest_any _ _).mono ?_; rintro e w' ⟨rfl, rfl⟩)
    go_ret
    exact ⟨ret_int HF.out.symm, 0, rfl⟩
  · have c0 : (near a == 0) = false := by simp [e0]
    have c1 : (near b == 0) = true := by simp; omega
    clear e0 h
    go_enter Try.func36, Try.ntmps36
    go_wp2_with (go_at_call 35; refine (nearest_any _ _).mono ?_; rintro e w' ⟨rfl, rfl⟩)
    go_ret
    exact ⟨ret_int HF.out.symm, 0, rfl⟩


set_option maxHeartbeats 400000 in
theorem share_high (a b c : Int) (ha1 : 1 ≤ near a) (hb1 : 1 ≤ near b) (h : near c ≤ near a * near b / 18446744073709551616) (w : World) :
    Calls Try.prog 36 #[.int .i64 a, .int .i64 b, .int .i64 c] w fun e w' => e = .returned (.int .i64 (shareF a b c)) ∧ ∃ n, w' = w.drewN n := by
  have ha := near_range a
  have hb := near_range b
  have hc := near_range c
  have hp := prod_range _ _ ha hb
  have c0 : (near a == 0) = false := by simp; omega
  have c1 : (near b == 0) = false := by simp; omega
  have HF := Lib.hid (show shareF a b c = 1099511627776 by
    unfold shareF
    rw [if_neg (by omega)]
    by_cases e : near c = 0
    · rw [if_pos e]
    · rw [if_neg e, if_neg]
      have h1 : near c * 18446744073709551616 ≤ near a * near b := by omega
      have h2 : 18446744073709551616 ≤ near a * near b / near c := by
        rw [Int.le_ediv_iff_mul_le (by omega), Int.mul_comm]; exact h1
      omega)
  go_enter Try.func36, Try.ntmps36
  go_wp2_with (first | (go_at_call 35; refine (nearest_any _ _).mono ?_; rintro e w' ⟨rfl, rfl⟩) | (go_at_call 37; refine (mul64_int _ _ (by omega) (by omega) (by omega) (by omega) _).mono ?_; rintro e w' ⟨rfl, rfl⟩))
  go_ret
  exact ⟨ret_int HF.out.symm, 0, rfl⟩

set_option maxHeartbeats 400000 in
theorem share_low (a b c : Int) (ha1 : 1 ≤ near a) (hb1 : 1 ≤ near b) (hc1 : 1 ≤ near c) (h : near a * near b < 18446744073709551616) (w : World) :
    Calls Try.prog 36 #[.int .i64 a, .int .i64 b, .int .i64 c] w fun e w' => e = .returned (.int .i64 (shareF a b c)) ∧ ∃ n, w' = w.drewN n := by
  have ha := near_range a
  have hb := near_range b
  have hc := near_range c
  have hp := prod_range _ _ ha hb
  have c0 : (near a == 0) = false := by simp; omega
  have c1 : (near b == 0) = false := by simp; omega
  have c2 : decide (near c ≤ 0) = false := by simp; omega
  have HF := Lib.hid (show shareF a b c = if near a * near b / near c ≤ 1099511627776 then near a * near b / near c else 1099511627776 by
    unfold shareF
    rw [if_neg (by omega), if_neg (by omega)])
  have q0 : 0 ≤ near a * near b / near c := Int.ediv_nonneg (by omega) (by omega)
  go_enter Try.func36, Try.ntmps36
  go_wp2_with (first | (go_at_call 35; refine (nearest_any _ _).mono ?_; rintro e w' ⟨rfl, rfl⟩) | (go_at_call 37; refine (mul64_low _ _ (by omega) (by omega) (by omega) (by omega) h _).mono ?_; rintro e w' ⟨rfl, rfl⟩) | (go_at_call 38; refine (div64_low _ _ (by omega) (by omega) (by omega) (by omega) _).mono ?_; rintro e w' ⟨rfl, n, rfl⟩))
  all_goals go_ret
  all_goals exact ⟨ret_int (by rw [HF.out]; first | exact Int.min_def _ _ | (split <;> omega)), _, rfl⟩


theorem shareF_one (a b : Int) : shareF a b 1 = near (near a * near b) := by
  have ha := near_range a
  have hb := near_range b
  have hp := prod_range _ _ ha hb
  have h1 : near 1 = 1 := by decide
  unfold shareF
  rw [h1, Int.ediv_one, if_neg (show ¬ ((1 : Int) = 0) by omega)]
  split
  · rename_i h
    rcases h with h | h <;> rw [h] <;> simp [near]
  · rw [near_nonneg _ hp.1]
    (repeat' split) <;> omega

theorem mul_near (a b : Int) (w : World) : Calls Try.prog 36 #[.int .i64 a, .int .i64 b, .int .i64 1] w fun e w' => e = .returned (.int .i64 (near (near a * near b))) ∧ ∃ n, w' = w.drewN n := by
  have ha := near_range a
  have hb := near_range b
  have hp := prod_range _ _ ha hb
  have h1 : near 1 = 1 := by decide
  rw [← shareF_one]
  by_cases h0 : near a = 0 ∨ near b = 0
  · exact share_zero a b 1 h0 w
  · by_cases hl : near a * near b < 18446744073709551616
    · exact share_low a b 1 (by omega) (by omega) (by omega) hl w
    · exact share_high a b 1 (by omega) (by omega) (by omega) w

set_option maxHeartbeats 400000 in
theorem mul_any (a b : Int) (w : World) : Calls Try.prog 30 #[.int .i64 a, .int .i64 b] w fun e w' => e = .returned (.int .i64 (near (near a * near b))) ∧ ∃ n, w' = w.drewN n := by
  go_enter Try.func30, Try.ntmps30
  go_wp2_with (go_at_call 36; refine (mul_near _ _ _).mono ?_; rintro e w' ⟨rfl, n, rfl⟩)
  go_ret
  exact ⟨rfl, _, rfl⟩
end Go.Proofs.Ytidklcjacejkaaa
