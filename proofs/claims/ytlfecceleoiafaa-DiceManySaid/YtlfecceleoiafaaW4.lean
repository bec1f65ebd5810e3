/-
  Contracts: what dice.Range and Percent, and the document's own low, fold, Mix, Step, Value, Below, Range and Percent answer. Conditions: as each states.
-/
import Derived.Test.YtlfecceleoiafaaW3
namespace Go.Proofs.Ytlfecceleoiafaa
open Go.RowKit

theorem rstep_any (s : Int) (w : World) : Calls Try.prog 13 #[.int .u64 s] w fun e w' => e = .returned (.int .u64 (stepZ s)) ∧ w = w' := by
  go_enter Try.func13, Try.ntmps13
  go_wp2_with fail
  go_ret
  exact ⟨rfl, rfl⟩

theorem fold_any (n b : Int) (h0 : 0 ≤ n) (h1 : n < 18446744073709551616) (hb : 1 ≤ b) (hb1 : b < 18446744073709551616) (w : World) : Calls Try.prog 26 #[.int .u64 n, .int .u64 b] w fun e w' => e = .returned (.int .u64 (bits .xor .u64 n (n / b))) ∧ w = w' := by
  have c0 : (b == 0) = false := by simp; omega
  go_enter Try.func26, Try.ntmps26
  go_wp2_with fail
  go_ret
  exact ⟨rfl, rfl⟩

theorem low_any (a b : Int) (ha : 0 ≤ a ∧ a < 18446744073709551616) (hb : 0 ≤ b ∧ b < 18446744073709551616) (w : World) : Calls Try.prog 25 #[.int .u64 a, .int .u64 b] w fun e w' => e = .returned (.int .u64 (IntKind.u64.wrap (a * b))) ∧ Below w.heap.size w w' := by
  go_enter Try.func25, Try.ntmps25
  go_wp2_with fail
  refine (times_any a b ha hb _).mono ?_
  rintro e w1 ⟨rfl, hb1⟩
  have HB1 := Lib.hid hb1
  clear hb1
  go_wp2_with fail
  go_ret
  exact ⟨ret_int (IntKind.wrap_u64 _).symm, HB1.out⟩

theorem xor_range (a b : Int) : 0 ≤ bits .xor .u64 a b ∧ bits .xor .u64 a b < 18446744073709551616 := wrap_range _

set_option maxHeartbeats 400000 in
theorem rmix_any (n : Int) (h0 : 0 ≤ n) (h1 : n < 18446744073709551616) (w : World) : Calls Try.prog 15 #[.int .u64 n] w fun e w' => e = .returned (.int .u64 (mixZ n)) ∧ Below w.heap.size w w' := by
  have q1 := m1_range n
  have q2 := m2_range (m1 n)
  go_enter Try.func15, Try.ntmps15
  go_wp2_with fail
  refine (fold_any n 1073741824 h0 h1 (by omega) (by omega) _).mono ?_
  rintro e w1 ⟨rfl, rfl⟩
  go_wp2_with fail
  refine (low_any _ 13787848793156543929 (xor_range _ _) (by omega) _).mono ?_
  rintro e w1 ⟨rfl, hb1⟩
  have HB1 := Lib.hid hb1
  clear hb1
  rw [show IntKind.u64.wrap (bits .xor .u64 n (n / 1073741824) * 13787848793156543929) = m1 n from rfl]
  go_wp2_with fail
  refine (fold_any (m1 n) 134217728 q1.1 q1.2 (by omega) (by omega) _).mono ?_
  rintro e w2 ⟨rfl, rfl⟩
  go_wp2_with fail
  refine (low_any _ 10723151780598845931 (xor_range _ _) (by omega) _).mono ?_
  rintro e w2 ⟨rfl, hb1⟩
  have HB2 := Lib.hid hb1
  clear hb1
  rw [show IntKind.u64.wrap (bits .xor .u64 (m1 n) (m1 n / 134217728) * 10723151780598845931) = m2 (m1 n) from rfl]
  go_wp2_with fail
  refine (fold_any (m2 (m1 n)) 2147483648 q2.1 q2.2 (by omega) (by omega) _).mono ?_
  rintro e w3 ⟨rfl, rfl⟩
  go_wp2_with fail
  go_ret
  exact ⟨rfl, HB1.out.trans (HB2.out.mono HB1.out.size)⟩

theorem seqB {w w1 w2 : World} (h1 : Below w.heap.size w w1) (h2 : Below w1.heap.size w1 w2) : Below w.heap.size w w2 := h1.trans (h2.mono h1.size)

set_option maxHeartbeats 400000 in
theorem value_one (s : Int) (w : World) : Calls Try.prog 12 #[.int .u64 s, .int .i64 1] w fun e w' => e = .returned (.int .u64 (mixZ (stepZ s))) ∧ Below w.heap.size w w' := by
  have q := stepZ_range s
  go_enter Try.func12, Try.ntmps12
  go_wp2_with fail
  go_loop [0, 5] (fun x i => (x = .int .u64 s ∧ i = .int .i64 0) ∨ (x = .int .u64 (stepZ s) ∧ i = .int .i64 1)) (fun _ i => 1 - (intOf i).toNat)
  case atStart => exact .inl ⟨rfl, rfl⟩
  case round =>
    rcases hrel with ⟨rfl, rfl⟩ | ⟨rfl, rfl⟩
    · go_wp2_with fail
      refine (rstep_any _ _).mono ?_
      rintro e w1 ⟨rfl, rfl⟩
      go_wp2_with fail
      go_round
      case rel => exact .inr ⟨rfl, rfl⟩
      case measure => simp [intOf]
    · go_wp2_with fail
      refine (rmix_any _ q.1 q.2 _).mono ?_
      rintro e w1 ⟨rfl, hb1⟩
      have HB1 := Lib.hid hb1
      clear hb1
      go_wp2_with fail
      go_ret
      exact ⟨rfl, HB1.out⟩

set_option maxHeartbeats 400000 in
theorem rbelow_any (s n : Int) (h : 1 ≤ n) (h1 : n < 9223372036854775808) (w : World) : Calls Try.prog 20 #[.int .u64 s, .int .i64 n] w fun e w' => e = .returned (.tuple #[.int .i64 (takeZ s n), .int .u64 (stepZ s)]) ∧ Below w.heap.size w w' := by
  have hs := stepZ_range s
  have hv := mixZ_range (stepZ s)
  have ht := takeZ_range s n h
  have HT := Lib.hid (show mixZ (stepZ s) * n / 18446744073709551616 = takeZ s n from rfl)
  have c0 : decide (n < 1) = false := by simp; omega
  go_enter Try.func20, Try.ntmps20
  go_wp2_with fail
  refine (rstep_any _ _).mono ?_
  rintro e w1 ⟨rfl, rfl⟩
  go_wp2_with fail
  refine (rmix_any _ hs.1 hs.2 _).mono ?_
  rintro e w1 ⟨rfl, hb1⟩
  have HB1 := Lib.hid hb1
  clear hb1
  go_wp2_with fail
  refine (times_any _ _ hv (by omega) _).mono ?_
  rintro e w2 ⟨rfl, hb1⟩
  have HB2 := Lib.hid hb1
  clear hb1
  rw [HT.out]
  go_wp2_with fail
  refine (rstep_any _ _).mono ?_
  rintro e w3 ⟨rfl, rfl⟩
  go_wp2_with fail
  go_ret2
  exact ⟨rfl, seqB HB1.out HB2.out⟩
theorem rbelow_none (s n : Int) (h : n < 1) (w : World) : Calls Try.prog 20 #[.int .u64 s, .int .i64 n] w fun e w' => e = .returned (.tuple #[.int .i64 0, .int .u64 s]) ∧ Below w.heap.size w w' := by
  have c0 : decide (n < 1) = true := by simp; omega
  go_enter Try.func20, Try.ntmps20
  go_wp2_with fail
  go_ret2
  exact ⟨rfl, Below.refl _ _⟩

theorem percent_any (s p : Int) (w : World) : Calls Try.prog 23 #[.int .u64 s, .int .i64 p] w fun e w' => e = .returned (.tuple #[.bool (decide (takeZ s 100 < p)), .int .u64 (stepZ s)]) ∧ w = w' := by
  go_enter Try.func23, Try.ntmps23
  go_wp2_with fail
  refine (below_any s 100 (by omega) (by omega) _).mono ?_
  rintro e w1 ⟨rfl, rfl⟩
  go_wp2_with fail
  go_ret2
  exact ⟨rfl, rfl⟩
theorem rpercent_any (s p : Int) (w : World) : Calls Try.prog 24 #[.int .u64 s, .int .i64 p] w fun e w' => e = .returned (.tuple #[.bool (decide (takeZ s 100 < p)), .int .u64 (stepZ s)]) ∧ Below w.heap.size w w' := by
  go_enter Try.func24, Try.ntmps24
  go_wp2_with fail
  refine (rbelow_any s 100 (by omega) (by omega) _).mono ?_
  rintro e w1 ⟨rfl, hb1⟩
  have HB1 := Lib.hid hb1
  clear hb1
  go_wp2_with fail
  go_ret2
  exact ⟨rfl, HB1.out⟩
end Go.Proofs.Ytlfecceleoiafaa
