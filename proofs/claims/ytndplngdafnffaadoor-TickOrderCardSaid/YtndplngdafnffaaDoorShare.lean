/-
  Contract: what tick.Share answers, for all numbers. Conditions: none.
-/
import Derived.Test.YtndplngdafnffaaDoorDiv
namespace Go.Proofs.YtndplngdafnffaaDoor
open Go.RowKit

theorem div64_prod (v c : Int) (h0 : 1 ≤ v / 18446744073709551616) (h1 : v / 18446744073709551616 < c) (hc : c ≤ 1099511627776) (w : World) :
    Calls Tryd.prog 34 #[.int .u64 (v / 18446744073709551616), .int .u64 (v % 18446744073709551616), .int .u64 c] w (DivPost v c w) := by
  have h := div64_big (v / 18446744073709551616) (v % 18446744073709551616) c h0 h1 (by omega) (by omega) hc w
  rw [show v / 18446744073709551616 * 18446744073709551616 + v % 18446744073709551616 = v by omega] at h
  exact h

set_option maxHeartbeats 800000 in
theorem share_mid (a b c : Int) (ha1 : 1 ≤ near a) (hb1 : 1 ≤ near b) (h0 : 1 ≤ near a * near b / 18446744073709551616) (h : near a * near b / 18446744073709551616 < near c) (w : World) :
    Calls Tryd.prog 21 #[.int .i64 a, .int .i64 b, .int .i64 c] w fun e w' => e = .returned (.int .i64 (shareF a b c)) ∧ ∃ n, w' = w.drewN n := by
  have ha := near_range a
  have hb := near_range b
  have hc := near_range c
  have hp := prod_range _ _ ha hb
  have c0 : (near a == 0) = false := by simp; omega
  have c1 : (near b == 0) = false := by simp; omega
  have HF := Lib.hid (show shareF a b c = if near a * near b / near c ≤ 1099511627776 then near a * near b / near c else 1099511627776 by
    unfold shareF
    rw [if_neg (by omega), if_neg (by omega)])
  have q0 : 0 ≤ near a * near b / near c := Int.ediv_nonneg (by omega) (by omega)
  go_enter Tryd.func21, Tryd.ntmps21
  go_wp2_with (first | (go_at_call 28; refine (nearest_any _ _).mono ?_; rintro e w' ⟨rfl, rfl⟩) | (go_at_call 33; refine (mul64_int _ _ (by omega) (by omega) (by omega) (by omega) _).mono ?_; rintro e w' ⟨rfl, rfl⟩) | (go_at_call 34; refine (div64_prod _ _ h0 h hc.2 _).mono ?_; rintro e w' ⟨r, rfl, n, rfl⟩))
  all_goals go_ret
  all_goals exact ⟨ret_int (by rw [HF.out]; exact Int.min_def _ _), _, rfl⟩

theorem share_any (a b c : Int) (w : World) : Calls Tryd.prog 21 #[.int .i64 a, .int .i64 b, .int .i64 c] w fun e w' => e = .returned (.int .i64 (shareF a b c)) ∧ ∃ n, w' = w.drewN n := by
  have ha := near_range a
  have hb := near_range b
  have hc := near_range c
  have hp := prod_range _ _ ha hb
  by_cases h0 : near a = 0 ∨ near b = 0
  · exact share_zero a b c h0 w
  · by_cases hh : near c ≤ near a * near b / 18446744073709551616
    · exact share_high a b c (by omega) (by omega) hh w
    · by_cases hl : near a * near b < 18446744073709551616
      · exact share_low a b c (by omega) (by omega) (by omega) hl w
      · exact share_mid a b c (by omega) (by omega) (by omega) (by omega) w
end Go.Proofs.YtndplngdafnffaaDoor
