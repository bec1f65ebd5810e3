/-
  No two numbers of 64 bits are mixed alike. Conditions: both are of 64 bits.
-/
import Derived.Test.YtlfecceleoiafaaW8
namespace Go.Proofs.Ytlfecceleoiafaa

theorem testBit_high (x i : Nat) (h : x < 2 ^ 64) (hi : 64 ≤ i) : x.testBit i = false :=
  Nat.testBit_lt_two_pow (Nat.lt_of_lt_of_le h (Nat.pow_le_pow_right (by decide) hi))

theorem xorShift_inj (k : Nat) (hk : 1 ≤ k) (x y : Nat) (hx : x < 2 ^ 64) (hy : y < 2 ^ 64) (h : x ^^^ x / 2 ^ k = y ^^^ y / 2 ^ k) : x = y := by
  have all : ∀ n i, 64 ≤ i + n → x.testBit i = y.testBit i := by
    intro n
    induction n with
    | zero => intro i hi; rw [testBit_high x i hx (by omega), testBit_high y i hy (by omega)]
    | succ n ih =>
      intro i hi
      have e := congrArg (fun z => Nat.testBit z i) h
      simp only [Nat.testBit_xor, Nat.testBit_div_two_pow] at e
      have e2 := ih (i + k) (by omega)
      rw [e2] at e
      revert e
      cases x.testBit i <;> cases y.testBit i <;> cases y.testBit (i + k) <;> simp
  exact Nat.eq_of_testBit_eq fun i => all 64 i (by omega)

theorem xor_inj (k : Nat) (hk : 1 ≤ k) (a b : Int) (ha : 0 ≤ a ∧ a < 18446744073709551616) (hb : 0 ≤ b ∧ b < 18446744073709551616)
    (h : bits .xor .u64 a (a / ((2 ^ k : Nat) : Int)) = bits .xor .u64 b (b / ((2 ^ k : Nat) : Int))) : a = b := by
  obtain ⟨x, rfl⟩ := Int.eq_ofNat_of_zero_le ha.1
  obtain ⟨y, rfl⟩ := Int.eq_ofNat_of_zero_le hb.1
  rw [xorShift_u64 x _ (by omega), xorShift_u64 y _ (by omega)] at h
  have := xorShift_inj k hk x y (by omega) (by omega) (by omega)
  omega

theorem m3_inj (a b : Int) (ha : 0 ≤ a ∧ a < 18446744073709551616) (hb : 0 ≤ b ∧ b < 18446744073709551616) (h : m3 a = m3 b) : a = b := xor_inj 31 (by decide) a b ha hb h
theorem unmul (C D t x : Int) (h : C * D = 1 + 18446744073709551616 * t) (hx : 0 ≤ x ∧ x < 18446744073709551616) : x * C % 18446744073709551616 * D % 18446744073709551616 = x := by
  have e := Int.emod_add_mul_ediv (x * C) 18446744073709551616
  have e2 : x * C % 18446744073709551616 * D = x + 18446744073709551616 * (t * x - x * C / 18446744073709551616 * D) := by
    generalize x * C % 18446744073709551616 = r at *
    generalize x * C / 18446744073709551616 = q at *
    have e3 : x * (C * D) = x * (1 + 18446744073709551616 * t) := by rw [h]
    have e4 : (r + 18446744073709551616 * q) * D = x * C * D := by rw [e]
    grind
  rw [e2, Int.add_mul_emod_self_left, Int.emod_eq_of_lt hx.1 hx.2]
theorem mul1 (x y : Int) (hx : 0 ≤ x ∧ x < 18446744073709551616) (hy : 0 ≤ y ∧ y < 18446744073709551616) (h : x * 13787848793156543929 % 18446744073709551616 = y * 13787848793156543929 % 18446744073709551616) : x = y := by
  rw [← unmul 13787848793156543929 10871156337175269513 8125545580553827436 x (by decide) hx, h, unmul 13787848793156543929 10871156337175269513 8125545580553827436 y (by decide) hy]
theorem mul2 (x y : Int) (hx : 0 ≤ x ∧ x < 18446744073709551616) (hy : 0 ≤ y ∧ y < 18446744073709551616) (h : x * 10723151780598845931 % 18446744073709551616 = y * 10723151780598845931 % 18446744073709551616) : x = y := by
  rw [← unmul 10723151780598845931 3573116690164977347 2077064247507883091 x (by decide) hx, h, unmul 10723151780598845931 3573116690164977347 2077064247507883091 y (by decide) hy]
theorem m2_inj (a b : Int) (ha : 0 ≤ a ∧ a < 18446744073709551616) (hb : 0 ≤ b ∧ b < 18446744073709551616) (h : m2 a = m2 b) : a = b := by
  unfold m2 at h
  rw [IntKind.wrap_u64, IntKind.wrap_u64] at h
  exact xor_inj 27 (by decide) a b ha hb (mul2 _ _ (xor_range _ _) (xor_range _ _) h)
theorem m1_inj (a b : Int) (ha : 0 ≤ a ∧ a < 18446744073709551616) (hb : 0 ≤ b ∧ b < 18446744073709551616) (h : m1 a = m1 b) : a = b := by
  unfold m1 at h
  rw [IntKind.wrap_u64, IntKind.wrap_u64] at h
  exact xor_inj 30 (by decide) a b ha hb (mul1 _ _ (xor_range _ _) (xor_range _ _) h)
theorem mixZ_inj (a b : Int) (ha : 0 ≤ a ∧ a < 18446744073709551616) (hb : 0 ≤ b ∧ b < 18446744073709551616) (h : mixZ a = mixZ b) : a = b :=
  m1_inj a b ha hb (m2_inj _ _ (m1_range _) (m1_range _) (m3_inj _ _ (m2_range _) (m2_range _) h))
end Go.Proofs.Ytlfecceleoiafaa
