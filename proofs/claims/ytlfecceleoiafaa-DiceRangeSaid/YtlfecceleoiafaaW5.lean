/-
  Contracts: what dice.Range and the document's own Range answer. Conditions: as each states.
-/
import Derived.Test.YtlfecceleoiafaaW4
namespace Go.Proofs.Ytlfecceleoiafaa
open Go.RowKit

theorem range_o1 (s a b : Int) (h : b < a) (w : World) : Calls Try.prog 21 #[.int .u64 s, .int .i64 a, .int .i64 b] w fun e w' => e = .returned (.tuple #[.int .i64 a, .int .u64 s]) ∧ w = w' := by
  have c1 : decide (b < a) = true := by simp; omega
  go_enter Try.func21, Try.ntmps21
  go_wp2_with fail
  go_ret2
  exact ⟨rfl, rfl⟩

theorem range_o2 (s a b : Int) (h : a ≤ b) (h2 : a < -1099511627776) (w : World) : Calls Try.prog 21 #[.int .u64 s, .int .i64 a, .int .i64 b] w fun e w' => e = .returned (.tuple #[.int .i64 a, .int .u64 s]) ∧ w = w' := by
  have c1 : decide (b < a) = false := by simp; omega
  have c2 : decide (a < -1099511627776) = true := by simp; omega
  go_enter Try.func21, Try.ntmps21
  go_wp2_with fail
  go_ret2
  exact ⟨rfl, rfl⟩

theorem range_o3 (s a b : Int) (h : a ≤ b) (h2 : -1099511627776 ≤ a) (h3 : 1099511627776 < b) (w : World) : Calls Try.prog 21 #[.int .u64 s, .int .i64 a, .int .i64 b] w fun e w' => e = .returned (.tuple #[.int .i64 a, .int .u64 s]) ∧ w = w' := by
  have c1 : decide (b < a) = false := by simp; omega
  have c2 : decide (a < -1099511627776) = false := by simp; omega
  have c5 : decide (1099511627776 < b) = true := by simp; omega
  go_enter Try.func21, Try.ntmps21
  go_wp2_with fail
  go_ret2
  exact ⟨rfl, rfl⟩

theorem rrange_o1 (s a b : Int) (h : b < a) (w : World) : Calls Try.prog 22 #[.int .u64 s, .int .i64 a, .int .i64 b] w fun e w' => e = .returned (.tuple #[.int .i64 a, .int .u64 s]) ∧ Below w.heap.size w w' := by
  have c1 : decide (b < a) = true := by simp; omega
  go_enter Try.func22, Try.ntmps22
  go_wp2_with fail
  go_ret2
  exact ⟨rfl, Below.refl _ _⟩

theorem rrange_o2 (s a b : Int) (h : a ≤ b) (h2 : a < -1099511627776) (w : World) : Calls Try.prog 22 #[.int .u64 s, .int .i64 a, .int .i64 b] w fun e w' => e = .returned (.tuple #[.int .i64 a, .int .u64 s]) ∧ Below w.heap.size w w' := by
  have c1 : decide (b < a) = false := by simp; omega
  have c2 : decide (a < -1099511627776) = true := by simp; omega
  go_enter Try.func22, Try.ntmps22
  go_wp2_with fail
  go_ret2
  exact ⟨rfl, Below.refl _ _⟩

theorem rrange_o3 (s a b : Int) (h : a ≤ b) (h2 : 1099511627776 < a) (w : World) : Calls Try.prog 22 #[.int .u64 s, .int .i64 a, .int .i64 b] w fun e w' => e = .returned (.tuple #[.int .i64 a, .int .u64 s]) ∧ Below w.heap.size w w' := by
  have c1 : decide (b < a) = false := by simp; omega
  have c2 : decide (a < -1099511627776) = false := by simp; omega
  have c3 : decide (1099511627776 < a) = true := by simp; omega
  go_enter Try.func22, Try.ntmps22
  go_wp2_with fail
  go_ret2
  exact ⟨rfl, Below.refl _ _⟩

theorem rrange_o5 (s a b : Int) (h : a ≤ b) (h2 : -1099511627776 ≤ a) (h3 : a ≤ 1099511627776) (h4 : 1099511627776 < b) (w : World) : Calls Try.prog 22 #[.int .u64 s, .int .i64 a, .int .i64 b] w fun e w' => e = .returned (.tuple #[.int .i64 a, .int .u64 s]) ∧ Below w.heap.size w w' := by
  have c1 : decide (b < a) = false := by simp; omega
  have c2 : decide (a < -1099511627776) = false := by simp; omega
  have c3 : decide (1099511627776 < a) = false := by simp; omega
  have c4 : decide (b < -1099511627776) = false := by simp; omega
  have c5 : decide (1099511627776 < b) = true := by simp; omega
  go_enter Try.func22, Try.ntmps22
  go_wp2_with fail
  go_ret2
  exact ⟨rfl, Below.refl _ _⟩

set_option maxHeartbeats 400000 in
theorem range_in (s a b : Int) (h : a ≤ b) (h2 : -1099511627776 ≤ a) (h3 : b ≤ 1099511627776) (w : World) : Calls Try.prog 21 #[.int .u64 s, .int .i64 a, .int .i64 b] w fun e w' => e = .returned (.tuple #[.int .i64 (a + takeZ s (b - a + 1)), .int .u64 (stepZ s)]) ∧ w = w' := by
  have ht := takeZ_range s (b - a + 1) (by omega)
  have c1 : decide (b < a) = false := by simp; omega
  have c2 : decide (a < -1099511627776) = false := by simp; omega
  have c5 : decide (1099511627776 < b) = false := by simp; omega
  go_enter Try.func21, Try.ntmps21
  go_wp2_with fail
  refine (below_any s (b - a + 1) (by omega) (by omega) _).mono ?_
  rintro e w1 ⟨rfl, rfl⟩
  go_wp2_with fail
  go_ret2
  exact ⟨rfl, rfl⟩

set_option maxHeartbeats 400000 in
theorem rrange_in (s a b : Int) (h : a ≤ b) (h2 : -1099511627776 ≤ a) (h3 : b ≤ 1099511627776) (w : World) : Calls Try.prog 22 #[.int .u64 s, .int .i64 a, .int .i64 b] w fun e w' => e = .returned (.tuple #[.int .i64 (a + takeZ s (b - a + 1)), .int .u64 (stepZ s)]) ∧ Below w.heap.size w w' := by
  have ht := takeZ_range s (b - a + 1) (by omega)
  have c1 : decide (b < a) = false := by simp; omega
  have c2 : decide (a < -1099511627776) = false := by simp; omega
  have c3 : decide (1099511627776 < a) = false := by simp; omega
  have c4 : decide (b < -1099511627776) = false := by simp; omega
  have c5 : decide (1099511627776 < b) = false := by simp; omega
  go_enter Try.func22, Try.ntmps22
  go_wp2_with fail
  refine (rbelow_any s (b - a + 1) (by omega) (by omega) _).mono ?_
  rintro e w1 ⟨rfl, hb1⟩
  have HB1 := Lib.hid hb1
  clear hb1
  go_wp2_with fail
  go_ret2
  exact ⟨rfl, HB1.out⟩

/-- What Range tells: a number, and the state behind it. -/
def rangeV (s a b : Int) : Int := if a ≤ b ∧ -1099511627776 ≤ a ∧ b ≤ 1099511627776 then a + takeZ s (b - a + 1) else a
def rangeS (s a b : Int) : Int := if a ≤ b ∧ -1099511627776 ≤ a ∧ b ≤ 1099511627776 then stepZ s else s
theorem range_any (s a b : Int) (w : World) : Calls Try.prog 21 #[.int .u64 s, .int .i64 a, .int .i64 b] w fun e w' => e = .returned (.tuple #[.int .i64 (rangeV s a b), .int .u64 (rangeS s a b)]) ∧ w = w' := by
  unfold rangeV rangeS
  by_cases h : a ≤ b ∧ -1099511627776 ≤ a ∧ b ≤ 1099511627776
  · rw [if_pos h, if_pos h]
    exact range_in s a b h.1 h.2.1 h.2.2 w
  · rw [if_neg h, if_neg h]
    by_cases h1 : b < a
    · exact range_o1 s a b h1 w
    · by_cases h2 : a < -1099511627776
      · exact range_o2 s a b (by omega) h2 w
      · exact range_o3 s a b (by omega) (by omega) (by omega) w
theorem rrange_any (s a b : Int) (w : World) : Calls Try.prog 22 #[.int .u64 s, .int .i64 a, .int .i64 b] w fun e w' => e = .returned (.tuple #[.int .i64 (rangeV s a b), .int .u64 (rangeS s a b)]) ∧ Below w.heap.size w w' := by
  unfold rangeV rangeS
  by_cases h : a ≤ b ∧ -1099511627776 ≤ a ∧ b ≤ 1099511627776
  · rw [if_pos h, if_pos h]
    exact rrange_in s a b h.1 h.2.1 h.2.2 w
  · rw [if_neg h, if_neg h]
    by_cases h1 : b < a
    · exact rrange_o1 s a b h1 w
    · by_cases h2 : a < -1099511627776
      · exact rrange_o2 s a b (by omega) h2 w
      · by_cases h3 : 1099511627776 < a
        · exact rrange_o3 s a b (by omega) h3 w
        · exact rrange_o5 s a b (by omega) (by omega) (by omega) (by omega) w
end Go.Proofs.Ytlfecceleoiafaa
