/-
  The walk of chicanelaw02.DiceRange: it returns true, whatever state, range and step. Conditions: none.
-/
import Derived.Test.YtlfecceleoiafaaW8
import Derived.ProofKit
import Derived.OpenShut
namespace Go.Proofs.Ytlfecceleoiafaa.diceRange
open Go.RowKit

set_option maxHeartbeats 800000 in
theorem out0 (s a l b : Int)  (h : a < -1000000) (w : World) :
    Calls Try.prog 9 #[.int .u64 s, .agg #[.int .i64 a, .int .i64 l], .int .i64 b] w fun e w' => e = .returned (.bool true) ∧ Below w.heap.size w w' := by
  have c0 : decide (a < -1000000) = true := by simp; omega
  go_enter Try.func9, Try.ntmps9
  go_wp2_with fail
  go_quiet (fail)
  go_wp2_with fail
  refine (alive_any _).mono ?_
  rintro e w1 ⟨rfl, hb1⟩
  have HB1 := Lib.hid hb1
  clear hb1
  go_wp2_with fail
  go_ret
  exact ⟨rfl, seqB (below_drewN ((Below.refl _ _).alloc (Nat.le_refl _) _) _) HB1.out⟩

set_option maxHeartbeats 800000 in
theorem out1 (s a l b : Int) (h0 : -1000000 ≤ a) (h : 1000000 < a) (w : World) :
    Calls Try.prog 9 #[.int .u64 s, .agg #[.int .i64 a, .int .i64 l], .int .i64 b] w fun e w' => e = .returned (.bool true) ∧ Below w.heap.size w w' := by
  have c0 : decide (a < -1000000) = false := by simp; omega
  have c1 : decide (1000000 < a) = true := by simp; omega
  go_enter Try.func9, Try.ntmps9
  go_wp2_with fail
  go_quiet (fail)
  go_wp2_with fail
  refine (alive_any _).mono ?_
  rintro e w1 ⟨rfl, hb1⟩
  have HB1 := Lib.hid hb1
  clear hb1
  go_wp2_with fail
  go_ret
  exact ⟨rfl, seqB (below_drewN ((Below.refl _ _).alloc (Nat.le_refl _) _) _) HB1.out⟩

set_option maxHeartbeats 800000 in
theorem out2 (s a l b : Int) (h0 : -1000000 ≤ a) (h1 : a ≤ 1000000) (h : l < 0) (w : World) :
    Calls Try.prog 9 #[.int .u64 s, .agg #[.int .i64 a, .int .i64 l], .int .i64 b] w fun e w' => e = .returned (.bool true) ∧ Below w.heap.size w w' := by
  have c0 : decide (a < -1000000) = false := by simp; omega
  have c1 : decide (1000000 < a) = false := by simp; omega
  have c2 : decide (l < 0) = true := by simp; omega
  go_enter Try.func9, Try.ntmps9
  go_wp2_with fail
  go_quiet (fail)
  go_wp2_with fail
  refine (alive_any _).mono ?_
  rintro e w1 ⟨rfl, hb1⟩
  have HB1 := Lib.hid hb1
  clear hb1
  go_wp2_with fail
  go_ret
  exact ⟨rfl, seqB (below_drewN ((Below.refl _ _).alloc (Nat.le_refl _) _) _) HB1.out⟩

set_option maxHeartbeats 800000 in
theorem out3 (s a l b : Int) (h0 : -1000000 ≤ a) (h1 : a ≤ 1000000) (h2 : 0 ≤ l) (h : 1000000 < l) (w : World) :
    Calls Try.prog 9 #[.int .u64 s, .agg #[.int .i64 a, .int .i64 l], .int .i64 b] w fun e w' => e = .returned (.bool true) ∧ Below w.heap.size w w' := by
  have c0 : decide (a < -1000000) = false := by simp; omega
  have c1 : decide (1000000 < a) = false := by simp; omega
  have c2 : decide (l < 0) = false := by simp; omega
  have c3 : decide (1000000 < l) = true := by simp; omega
  go_enter Try.func9, Try.ntmps9
  go_wp2_with fail
  go_quiet (fail)
  go_wp2_with fail
  refine (alive_any _).mono ?_
  rintro e w1 ⟨rfl, hb1⟩
  have HB1 := Lib.hid hb1
  clear hb1
  go_wp2_with fail
  go_ret
  exact ⟨rfl, seqB (below_drewN ((Below.refl _ _).alloc (Nat.le_refl _) _) _) HB1.out⟩

set_option maxHeartbeats 800000 in
theorem out4 (s a l b : Int) (h0 : -1000000 ≤ a) (h1 : a ≤ 1000000) (h2 : 0 ≤ l) (h3 : l ≤ 1000000) (h : b < -1000000) (w : World) :
    Calls Try.prog 9 #[.int .u64 s, .agg #[.int .i64 a, .int .i64 l], .int .i64 b] w fun e w' => e = .returned (.bool true) ∧ Below w.heap.size w w' := by
  have c0 : decide (a < -1000000) = false := by simp; omega
  have c1 : decide (1000000 < a) = false := by simp; omega
  have c2 : decide (l < 0) = false := by simp; omega
  have c3 : decide (1000000 < l) = false := by simp; omega
  have c4 : decide (b < -1000000) = true := by simp; omega
  go_enter Try.func9, Try.ntmps9
  go_wp2_with fail
  go_quiet (fail)
  go_wp2_with fail
  refine (alive_any _).mono ?_
  rintro e w1 ⟨rfl, hb1⟩
  have HB1 := Lib.hid hb1
  clear hb1
  go_wp2_with fail
  go_ret
  exact ⟨rfl, seqB (below_drewN ((Below.refl _ _).alloc (Nat.le_refl _) _) _) HB1.out⟩

set_option maxHeartbeats 800000 in
theorem out5 (s a l b : Int) (h0 : -1000000 ≤ a) (h1 : a ≤ 1000000) (h2 : 0 ≤ l) (h3 : l ≤ 1000000) (h4 : -1000000 ≤ b) (h : 1000000 < b) (w : World) :
    Calls Try.prog 9 #[.int .u64 s, .agg #[.int .i64 a, .int .i64 l], .int .i64 b] w fun e w' => e = .returned (.bool true) ∧ Below w.heap.size w w' := by
  have c0 : decide (a < -1000000) = false := by simp; omega
  have c1 : decide (1000000 < a) = false := by simp; omega
  have c2 : decide (l < 0) = false := by simp; omega
  have c3 : decide (1000000 < l) = false := by simp; omega
  have c4 : decide (b < -1000000) = false := by simp; omega
  have c5 : decide (1000000 < b) = true := by simp; omega
  go_enter Try.func9, Try.ntmps9
  go_wp2_with fail
  go_quiet (fail)
  go_wp2_with fail
  refine (alive_any _).mono ?_
  rintro e w1 ⟨rfl, hb1⟩
  have HB1 := Lib.hid hb1
  clear hb1
  go_wp2_with fail
  go_ret
  exact ⟨rfl, seqB (below_drewN ((Below.refl _ _).alloc (Nat.le_refl _) _) _) HB1.out⟩

set_option maxHeartbeats 1600000 in
theorem inn (s a l b : Int) (h0 : -1000000 ≤ a) (h1 : a ≤ 1000000) (h2 : 0 ≤ l) (h3 : l ≤ 1000000) (h4 : -1000000 ≤ b) (h5 : b ≤ 1000000) (w : World) :
    Calls Try.prog 9 #[.int .u64 s, .agg #[.int .i64 a, .int .i64 l], .int .i64 b] w fun e w' => e = .returned (.bool true) ∧ Below w.heap.size w w' := by
  have c0 : decide (a < -1000000) = false := by simp; omega
  have c1 : decide (1000000 < a) = false := by simp; omega
  have c2 : decide (l < 0) = false := by simp; omega
  have c3 : decide (1000000 < l) = false := by simp; omega
  have c4 : decide (b < -1000000) = false := by simp; omega
  have c5 : decide (1000000 < b) = false := by simp; omega
  have ht := takeZ_range s (l + 1) (by omega)
  have R1 : ∀ w, Calls Try.prog 21 #[.int .u64 s, .int .i64 a, .int .i64 (a + l)] w fun e w' => e = .returned (.tuple #[.int .i64 (a + takeZ s (l + 1)), .int .u64 (stepZ s)]) ∧ w = w' := by
    intro w
    have h := range_in s a (a + l) (by omega) (by omega) (by omega) w
    rw [show a + l - a + 1 = l + 1 by omega] at h
    exact h
  have R2 : ∀ w, Calls Try.prog 21 #[.int .u64 s, .int .i64 (a + b), .int .i64 (a + b + l)] w fun e w' => e = .returned (.tuple #[.int .i64 (a + b + takeZ s (l + 1)), .int .u64 (stepZ s)]) ∧ w = w' := by
    intro w
    have h := range_in s (a + b) (a + b + l) (by omega) (by omega) (by omega) w
    rw [show a + b + l - (a + b) + 1 = l + 1 by omega] at h
    exact h
  have HR1 := Lib.hid R1
  have HR2 := Lib.hid R2
  clear R1 R2
  have e0 : decide (a ≤ a + takeZ s (l + 1)) = true := by simp; omega
  have e1 : decide (a + takeZ s (l + 1) ≤ a + l) = true := by simp; omega
  have e2 : (a + b + takeZ s (l + 1) - b == a + takeZ s (l + 1)) = true := by simp; omega
  go_enter Try.func9, Try.ntmps9
  go_wp2_with fail
  go_quiet (fail)
  go_wp2_with fail
  refine (HR1.out _).mono ?_
  rintro e w1 ⟨rfl, rfl⟩
  go_wp2_with fail
  refine (HR2.out _).mono ?_
  rintro e w1 ⟨rfl, rfl⟩
  go_wp2_with fail
  refine (alive_any _).mono ?_
  rintro e w1 ⟨rfl, hb1⟩
  have HB1 := Lib.hid hb1
  clear hb1
  go_wp2_with fail
  refine (rstep_any _ _).mono ?_
  rintro e w2 ⟨rfl, rfl⟩
  go_wp2_with fail
  go_ret
  exact ⟨rfl, seqB (below_drewN ((Below.refl _ _).alloc (Nat.le_refl _) _) _) HB1.out⟩

theorem walk (s a l b : Int) (w : World) : Calls Try.prog 9 #[.int .u64 s, .agg #[.int .i64 a, .int .i64 l], .int .i64 b] w fun e w' => e = .returned (.bool true) ∧ Below w.heap.size w w' := by
  by_cases h0 : a < -1000000
  · exact out0 s a l b  h0 w
  by_cases h1 : 1000000 < a
  · exact out1 s a l b (by omega) h1 w
  by_cases h2 : l < 0
  · exact out2 s a l b (by omega) (by omega) h2 w
  by_cases h3 : 1000000 < l
  · exact out3 s a l b (by omega) (by omega) (by omega) h3 w
  by_cases h4 : b < -1000000
  · exact out4 s a l b (by omega) (by omega) (by omega) (by omega) h4 w
  by_cases h5 : 1000000 < b
  · exact out5 s a l b (by omega) (by omega) (by omega) (by omega) (by omega) h5 w
  exact inn s a l b (by omega) (by omega) (by omega) (by omega) (by omega) (by omega) w
end Go.Proofs.Ytlfecceleoiafaa.diceRange
