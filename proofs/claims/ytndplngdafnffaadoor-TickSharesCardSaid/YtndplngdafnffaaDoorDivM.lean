/-
  Plain mathematics of a long division by two digits, as the library's Div64 has it. Conditions: as each states.
-/
import Derived.Lib.BitFns
import Derived.Laws.Bits64b
namespace Go.Proofs.YtndplngdafnffaaDoor

theorem bitLen_bounds (x : Nat) (h0 : x ≠ 0) (h : x < 2 ^ 64) : 1 ≤ Lib.bitLen x ∧ 2 ^ (Lib.bitLen x - 1) ≤ x ∧ x < 2 ^ Lib.bitLen x := by
  induction x using Nat.strongRecOn with
  | ind x ih =>
    have hb := Lib.bitLen_half x h0 h
    by_cases h2 : x / 2 = 0
    · have hx : x = 1 := by omega
      subst hx
      exact ⟨by decide, by decide, by decide⟩
    · obtain ⟨a, b, c⟩ := ih (x / 2) (by omega) h2 (by omega)
      generalize Lib.bitLen (x / 2) = t at *
      rw [hb]
      refine ⟨by omega, ?_, ?_⟩
      · rw [show 1 + t - 1 = (t - 1) + 1 by omega, Nat.pow_succ]; omega
      · rw [Nat.add_comm, Nat.pow_succ]; omega

theorem norm_nat (y hi lo : Nat) (hy2 : 2 ≤ y) (hy : y ≤ 1099511627776) (hh : hi < y) (hl : lo < 18446744073709551616) :
    ∃ s : Nat, 23 ≤ s ∧ s ≤ 62 ∧ s = 64 - Lib.bitLen y ∧ Lib.bitLen y ≤ 64 ∧ 9223372036854775808 ≤ y * 2 ^ s ∧ y * 2 ^ s < 18446744073709551616 ∧ hi * 2 ^ s < 18446744073709551616 ∧
      lo / 2 ^ (64 - s) < 2 ^ s ∧ (hi * 2 ^ s) ||| (lo / 2 ^ (64 - s)) = hi * 2 ^ s + lo / 2 ^ (64 - s) ∧ hi * 2 ^ s + lo / 2 ^ (64 - s) < y * 2 ^ s ∧
      (hi * 2 ^ s + lo / 2 ^ (64 - s)) * 18446744073709551616 + lo * 2 ^ s % 18446744073709551616 = (hi * 18446744073709551616 + lo) * 2 ^ s := by
  obtain ⟨t1, tlo, thi⟩ := bitLen_bounds y (by omega) (by omega)
  have t41 : Lib.bitLen y ≤ 41 := Lib.bitLen_le y 41 (by omega) (by omega)
  have t2 : 2 ≤ Lib.bitLen y := by
    apply Nat.le_of_not_lt
    intro h
    have : Lib.bitLen y = 1 := by omega
    rw [this] at thi
    omega
  generalize Lib.bitLen y = t at *
  refine ⟨64 - t, by omega, by omega, rfl, by omega, ?_⟩
  generalize hs : 64 - t = s at *
  have e64 : (2 : Nat) ^ 64 = 18446744073709551616 := by decide
  have e63 : (2 : Nat) ^ 63 = 9223372036854775808 := by decide
  have p1 : 2 ^ t * 2 ^ s = 18446744073709551616 := by rw [← Nat.pow_add, show t + s = 64 by omega, e64]
  have p2 : 2 ^ (t - 1) * 2 ^ s = 9223372036854775808 := by rw [← Nat.pow_add, show t - 1 + s = 63 by omega, e63]
  have ts : 64 - s = t := by omega
  rw [ts]
  have ps : 0 < 2 ^ s := Nat.pow_pos (by omega)
  have pt : 0 < 2 ^ t := Nat.pow_pos (by omega)
  have m1 : 2 ^ (t - 1) * 2 ^ s ≤ y * 2 ^ s := Nat.mul_le_mul_right _ tlo
  have m2 : y * 2 ^ s < 2 ^ t * 2 ^ s := Nat.mul_lt_mul_of_pos_right thi ps
  have m3 : hi * 2 ^ s + 2 ^ s ≤ y * 2 ^ s := by
    have := Nat.mul_le_mul_right (2 ^ s) (show hi + 1 ≤ y by omega)
    rw [Nat.add_mul, Nat.one_mul] at this; exact this
  have m4 : lo / 2 ^ t < 2 ^ s := by
    rw [Nat.div_lt_iff_lt_mul pt, Nat.mul_comm, p1]; exact hl
  refine ⟨by omega, by omega, by omega, m4, ?_, by omega, ?_⟩
  · have := Nat.two_pow_add_eq_or_of_lt m4 hi
    rw [Nat.mul_comm hi, ← this]
  · have d := Nat.div_add_mod lo (2 ^ t)
    have r : lo % 2 ^ t < 2 ^ t := Nat.mod_lt _ pt
    generalize lo / 2 ^ t = A at *
    generalize lo % 2 ^ t = B at *
    have e : lo * 2 ^ s = A * 18446744073709551616 + B * 2 ^ s := by
      rw [← d, Nat.add_mul, Nat.mul_comm (2 ^ t) A, Nat.mul_assoc, p1]
    have b1 : B * 2 ^ s < 18446744073709551616 := by
      rw [← p1]; exact Nat.mul_lt_mul_of_pos_right r ps
    rw [e, Nat.add_mul (hi * 18446744073709551616) lo, e, Nat.mul_right_comm hi]
    omega

/-- One digit of the quotient, found: the guess q is not too small, and not too great. -/
theorem knuth_eq (U u a b Y q r : Int) (hY : Y = a * 4294967296 + b) (hY1 : 1 ≤ Y) (hr : U = q * a + r) (hge : U * 4294967296 + u < (q + 1) * Y) (hle : q * b ≤ 4294967296 * r + u) : (U * 4294967296 + u) / Y = q := by
  have h1 : q * Y ≤ U * 4294967296 + u := by
    rw [hY, hr, Int.mul_add, Int.add_mul, ← Int.mul_assoc]; omega
  rw [Int.add_mul] at hge
  have e : U * 4294967296 + u = (U * 4294967296 + u - q * Y) + q * Y := by omega
  rw [e, Int.add_mul_ediv_right _ _ (by omega), Int.ediv_eq_zero_of_lt (by omega) (by omega)]; omega
/-- The first guess is not too small. -/
theorem knuth_first (U u a b Y : Int) (hU : 0 ≤ U) (hu : u < 4294967296) (ha : 1 ≤ a) (hb : 0 ≤ b) (hY : Y = a * 4294967296 + b) : U * 4294967296 + u < (U / a + 1) * Y := by
  have h := Int.lt_ediv_add_one_mul_self U (b := a) (by omega)
  have q0 : 0 ≤ U / a := Int.ediv_nonneg hU (by omega)
  have h2 : 0 ≤ (U / a + 1) * b := Int.mul_nonneg (by omega) hb
  rw [hY, Int.mul_add, ← Int.mul_assoc]; omega
/-- A guess that is told as too great is less by one, and still not too small. -/
theorem knuth_next (U u a b Y q r : Int) (hY : Y = a * 4294967296 + b) (hY1 : 1 ≤ Y) (hUY : U < Y) (hu : u < 4294967296) (hr : U = q * a + r) (t : 4294967296 ≤ q ∨ 4294967296 * r + u < q * b) : U * 4294967296 + u < (q - 1 + 1) * Y := by
  rw [show q - 1 + 1 = q by omega]
  rcases t with t | t
  · have := Int.mul_le_mul_of_nonneg_right t (show 0 ≤ Y by omega)
    omega
  · rw [hY, hr, Int.mul_add, Int.add_mul, ← Int.mul_assoc]; omega
/-- A guess whose rest is too great for a digit is right. -/
theorem knuth_break (U u a b Y q r : Int) (hY : Y = a * 4294967296 + b) (hu : 0 ≤ u) (ha : 1 ≤ a) (hb : 0 ≤ b) (hb1 : b < 4294967296) (hUY : U < Y) (hq : 0 ≤ q) (hr : U = q * a + r) (t : 4294967296 ≤ r) : q * b ≤ 4294967296 * r + u := by
  have hq1 : q < 4294967296 := by
    apply Int.lt_of_not_ge
    intro h
    have := Int.mul_le_mul_of_nonneg_right h (show 0 ≤ a by omega)
    omega
  have := Int.mul_le_mul (show q ≤ 4294967296 by omega) (show b ≤ 4294967296 by omega) hb (by omega)
  omega
theorem quot_lt (U u Y : Int) (hU : 0 ≤ U) (hu : u < 4294967296) (hUY : U < Y) : (U * 4294967296 + u) / Y < 4294967296 :=
  Int.ediv_lt_of_lt_mul (by omega) (by omega)
/-- Two digits, one behind the other, are the whole quotient. -/
theorem two_digits (U v1 v0 Y : Int) (hY : 1 ≤ Y) :
    (U * 18446744073709551616 + (v1 * 4294967296 + v0)) / Y = (U * 4294967296 + v1) / Y * 4294967296 + ((U * 4294967296 + v1) % Y * 4294967296 + v0) / Y := by
  have e := Int.mul_ediv_add_emod (U * 4294967296 + v1) Y
  generalize (U * 4294967296 + v1) / Y = q at *
  generalize (U * 4294967296 + v1) % Y = r at *
  have e2 : U * 18446744073709551616 + (v1 * 4294967296 + v0) = (r * 4294967296 + v0) + q * 4294967296 * Y := by
    have : q * 4294967296 * Y = Y * q * 4294967296 := by rw [Int.mul_comm Y q, Int.mul_right_comm]
    omega
  rw [e2, Int.add_mul_ediv_right _ _ (by omega)]; omega
end Go.Proofs.YtndplngdafnffaaDoor
