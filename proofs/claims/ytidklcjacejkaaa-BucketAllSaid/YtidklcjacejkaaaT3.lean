/-
  Contracts: what the document's own Through, Mul and Share answer, for all numbers. Conditions: as each states.
-/
import Derived.Test.YtidklcjacejkaaaT2
namespace Go.Proofs.Ytidklcjacejkaaa
open Go.RowKit

def throughF (v c : Int) : Int := if v / c ≤ 1099511627776 then v / c else 1099511627776

/-- The value of the digits from the n-th on. -/
def pv (d0 d1 d2 d3 d4 d5 : Int) : Nat → Int
  | 0 => (((((d5 * 1048576 + d4) * 1048576 + d3) * 1048576 + d2) * 1048576 + d1) * 1048576 + d0)
  | 1 => ((((d5 * 1048576 + d4) * 1048576 + d3) * 1048576 + d2) * 1048576 + d1)
  | 2 => (((d5 * 1048576 + d4) * 1048576 + d3) * 1048576 + d2)
  | 3 => ((d5 * 1048576 + d4) * 1048576 + d3)
  | 4 => (d5 * 1048576 + d4)
  | 5 => d5
  | _ => 0

theorem pv_le (d0 d1 d2 d3 d4 d5 : Int) (h : 0 ≤ d0 ∧ 0 ≤ d1 ∧ 0 ≤ d2 ∧ 0 ≤ d3 ∧ 0 ≤ d4 ∧ 0 ≤ d5) (n : Nat) : 0 ≤ pv d0 d1 d2 d3 d4 d5 n ∧ pv d0 d1 d2 d3 d4 d5 n ≤ pv d0 d1 d2 d3 d4 d5 0 := by
  match n with
  | 0 | 1 | 2 | 3 | 4 | 5 => simp only [pv]; omega
  | n + 6 => simp only [pv]; omega

theorem div_of (p c q r : Int) (hc : 1 ≤ c) (h : p = q * c + r) (h0 : 0 ≤ r) (h1 : r < c) : p / c = q := by
  rw [h, Int.add_comm, Int.add_mul_ediv_right _ _ (by omega), Int.ediv_eq_zero_of_lt h0 h1]; omega
theorem step_div (p q r c d : Int) (h : p = q * c + r) : p * 1048576 + d = (q * 1048576 + (r * 1048576 + d) / c) * c + (r * 1048576 + d) % c := by
  have e := Int.mul_ediv_add_emod (r * 1048576 + d) c
  rw [Int.add_mul, h, Int.add_mul]
  have e2 : q * c * 1048576 = q * 1048576 * c := by rw [Int.mul_assoc, Int.mul_comm c, Int.mul_assoc]
  rw [Int.mul_comm c] at e
  omega
theorem over_top (v p c q r : Int) (hc : 1 ≤ c) (h : p = q * c + r) (h0 : 0 ≤ r) (h1 : r < c) (hv : p ≤ v) (hq : 1099511627776 < q) : throughF v c = 1099511627776 := by
  unfold throughF
  rw [if_neg]
  have := div_of p c q r hc h h0 h1
  have := Int.ediv_le_ediv (show 0 < c by omega) hv
  omega
theorem end_top (v c q r : Int) (hc : 1 ≤ c) (h : v = q * c + r) (h0 : 0 ≤ r) (h1 : r < c) (hq : q ≤ 1099511627776) : throughF v c = q := by
  unfold throughF
  rw [div_of v c q r hc h h0 h1, if_pos hq]

set_option maxRecDepth 100000 in
set_option maxHeartbeats 4000000 in
theorem through_any (d0 d1 d2 d3 d4 d5 c : Int) (hd : d0 < 1048576 ∧ d1 < 1048576 ∧ d2 < 1048576 ∧ d3 < 1048576 ∧ d4 < 1048576) (hd0 : 0 ≤ d0 ∧ 0 ≤ d1 ∧ 0 ≤ d2 ∧ 0 ≤ d3 ∧ 0 ≤ d4 ∧ 0 ≤ d5) (h5 : d5 < 1048576) (hc : 1 ≤ c) (hc1 : c ≤ 1099511627776) (w : World) :
    Calls Try.prog 32 #[.agg #[.int .i64 d0, .int .i64 d1, .int .i64 d2, .int .i64 d3, .int .i64 d4, .int .i64 d5], .int .i64 c] w fun e w' => e = .returned (.int .i64 (throughF (pv d0 d1 d2 d3 d4 d5 0) c)) ∧ Below w.heap.size w w' := by
  have c0 : (c == 0) = false := by simp; omega
  have HP := Lib.hid (pv_le d0 d1 d2 d3 d4 d5 hd0)
  go_enter Try.func32, Try.ntmps32
  go_wp2_with fail
  go_loop [5, 6, 7] (fun o r i => ∃ (n : Nat) (y out rest : Int), n ≤ 6 ∧ y = (n : Int) - 1 ∧ i = .int .i64 y ∧ o = .int .i64 out ∧ r = .int .i64 rest ∧ 0 ≤ rest ∧ rest < c ∧ 0 ≤ out ∧ out ≤ 1099511627776 ∧ Hid (pv d0 d1 d2 d3 d4 d5 n = out * c + rest)) (fun _ _ i => (intOf i + 1).toNat)
  case atStart => exact ⟨6, 5, 0, 0, by omega, by omega, rfl, rfl, rfl, by omega, by omega, by omega, by omega, by show (0 : Int) = 0 * c + 0; omega⟩
  case round =>
    obtain ⟨n, y, out, rest, hn, hy, rfl, rfl, rfl, hr0, hr1, ho0, ho1, HV⟩ := hrel
    have hn : n = 0 ∨ n = 1 ∨ n = 2 ∨ n = 3 ∨ n = 4 ∨ n = 5 ∨ n = 6 := by omega
    have q0 : ∀ d, 0 ≤ d → 0 ≤ (rest * 1048576 + d) / c := fun d h => Int.ediv_nonneg (by omega) (by omega)
    have q1 : ∀ d, d < 1048576 → (rest * 1048576 + d) / c < 1048576 := fun d h => Int.ediv_lt_of_lt_mul (by omega) (by omega)
    have m0 : ∀ d, 0 ≤ (rest * 1048576 + d) % c := fun d => Int.emod_nonneg _ (by omega)
    have m1 : ∀ d, (rest * 1048576 + d) % c < c := fun d => Int.emod_lt_of_pos _ (by omega)
    rcases hn with rfl | rfl | rfl | rfl | rfl | rfl | rfl
    · obtain rfl : y = -1 := by omega
      clear hy
      have HE := Lib.hid (end_top _ _ _ _ hc HV.out hr0 hr1 ho1)
      clear q0 q1 m0 m1 HV HP
      go_wp2_with fail
      go_ret
      exact ⟨ret_int HE.out.symm, (Below.refl _ _).alloc (Nat.le_refl _) _⟩
    · obtain rfl : y = 0 := by omega
      clear hy
      have a1 := q0 d0 (by omega)
      have a2 := q1 d0 (by omega)
      have a3 := m0 d0
      have a4 := m1 d0
      have HS := Lib.hid (show pv d0 d1 d2 d3 d4 d5 0 = (out * 1048576 + (rest * 1048576 + d0) / c) * c + (rest * 1048576 + d0) % c by
        rw [show pv d0 d1 d2 d3 d4 d5 0 = pv d0 d1 d2 d3 d4 d5 1 * 1048576 + d0 by simp only [pv] <;> omega]; exact step_div _ _ _ _ _ HV.out)
      clear q0 q1 m0 m1 HV
      by_cases top : 1099511627776 < out * 1048576 + (rest * 1048576 + d0) / c
      · have HE := Lib.hid (over_top _ _ _ _ _ hc HS.out a3 a4 (HP.out 0).2 top)
        clear HS HP
        go_wp2_with (go_at_call 26; refine (rtop_any _).mono ?_; rintro e w' ⟨rfl, rfl⟩)
        go_ret
        exact ⟨ret_int HE.out.symm, (Below.refl _ _).alloc (Nat.le_refl _) _⟩
      · clear HP
        go_wp2_with (go_at_call 26; refine (rtop_any _).mono ?_; rintro e w' ⟨rfl, rfl⟩)
        go_round
        case rel => exact ⟨0, -1, _, _, by omega, by omega, rfl, rfl, rfl, a3, a4, by omega, by omega, HS.out⟩
        case measure => simp [intOf]
    · obtain rfl : y = 1 := by omega
      clear hy
      have a1 := q0 d1 (by omega)
      have a2 := q1 d1 (by omega)
      have a3 := m0 d1
      have a4 := m1 d1
      have HS := Lib.hid (show pv d0 d1 d2 d3 d4 d5 1 = (out * 1048576 + (rest * 1048576 + d1) / c) * c + (rest * 1048576 + d1) % c by
        rw [show pv d0 d1 d2 d3 d4 d5 1 = pv d0 d1 d2 d3 d4 d5 2 * 1048576 + d1 by simp only [pv] <;> omega]; exact step_div _ _ _ _ _ HV.out)
      clear q0 q1 m0 m1 HV
      by_cases top : 1099511627776 < out * 1048576 + (rest * 1048576 + d1) / c
      · have HE := Lib.hid (over_top _ _ _ _ _ hc HS.out a3 a4 (HP.out 1).2 top)
        clear HS HP
        go_wp2_with (go_at_call 26; refine (rtop_any _).mono ?_; rintro e w' ⟨rfl, rfl⟩)
        go_ret
        exact ⟨ret_int HE.out.symm, (Below.refl _ _).alloc (Nat.le_refl _) _⟩
      · clear HP
        go_wp2_with (go_at_call 26; refine (rtop_any _).mono ?_; rintro e w' ⟨rfl, rfl⟩)
        go_round
        case rel => exact ⟨1, 0, _, _, by omega, by omega, rfl, rfl, rfl, a3, a4, by omega, by omega, HS.out⟩
        case measure => simp [intOf]
    · obtain rfl : y = 2 := by omega
      clear hy
      have a1 := q0 d2 (by omega)
      have a2 := q1 d2 (by omega)
      have a3 := m0 d2
      have a4 := m1 d2
      have HS := Lib.hid (show pv d0 d1 d2 d3 d4 d5 2 = (out * 1048576 + (rest * 1048576 + d2) / c) * c + (rest * 1048576 + d2) % c by
        rw [show pv d0 d1 d2 d3 d4 d5 2 = pv d0 d1 d2 d3 d4 d5 3 * 1048576 + d2 by simp only [pv] <;> omega]; exact step_div _ _ _ _ _ HV.out)
      clear q0 q1 m0 m1 HV
      by_cases top : 1099511627776 < out * 1048576 + (rest * 1048576 + d2) / c
      · have HE := Lib.hid (over_top _ _ _ _ _ hc HS.out a3 a4 (HP.out 2).2 top)
        clear HS HP
        go_wp2_with (go_at_call 26; refine (rtop_any _).mono ?_; rintro e w' ⟨rfl, rfl⟩)
        go_ret
        exact ⟨ret_int HE.out.symm, (Below.refl _ _).alloc (Nat.le_refl _) _⟩
      · clear HP
        go_wp2_with (go_at_call 26; refine (rtop_any _).mono ?_; rintro e w' ⟨rfl, rfl⟩)
        go_round
        case rel => exact ⟨2, 1, _, _, by omega, by omega, rfl, rfl, rfl, a3, a4, by omega, by omega, HS.out⟩
        case measure => simp [intOf]
    · obtain rfl : y = 3 := by omega
      clear hy
      have a1 := q0 d3 (by omega)
      have a2 := q1 d3 (by omega)
      have a3 := m0 d3
      have a4 := m1 d3
      have HS := Lib.hid (show pv d0 d1 d2 d3 d4 d5 3 = (out * 1048576 + (rest * 1048576 + d3) / c) * c + (rest * 1048576 + d3) % c by
        rw [show pv d0 d1 d2 d3 d4 d5 3 = pv d0 d1 d2 d3 d4 d5 4 * 1048576 + d3 by simp only [pv] <;> omega]; exact step_div _ _ _ _ _ HV.out)
      clear q0 q1 m0 m1 HV
      by_cases top : 1099511627776 < out * 1048576 + (rest * 1048576 + d3) / c
      · have HE := Lib.hid (over_top _ _ _ _ _ hc HS.out a3 a4 (HP.out 3).2 top)
        clear HS HP
        go_wp2_with (go_at_call 26; refine (rtop_any _).mono ?_; rintro e w' ⟨rfl, rfl⟩)
        go_ret
        exact ⟨ret_int HE.out.symm, (Below.refl _ _).alloc (Nat.le_refl _) _⟩
      · clear HP
        go_wp2_with (go_at_call 26; refine (rtop_any _).mono ?_; rintro e w' ⟨rfl, rfl⟩)
        go_round
        case rel => exact ⟨3, 2, _, _, by omega, by omega, rfl, rfl, rfl, a3, a4, by omega, by omega, HS.out⟩
        case measure => simp [intOf]
    · obtain rfl : y = 4 := by omega
      clear hy
      have a1 := q0 d4 (by omega)
      have a2 := q1 d4 (by omega)
      have a3 := m0 d4
      have a4 := m1 d4
      have HS := Lib.hid (show pv d0 d1 d2 d3 d4 d5 4 = (out * 1048576 + (rest * 1048576 + d4) / c) * c + (rest * 1048576 + d4) % c by
        rw [show pv d0 d1 d2 d3 d4 d5 4 = pv d0 d1 d2 d3 d4 d5 5 * 1048576 + d4 by simp only [pv] <;> omega]; exact step_div _ _ _ _ _ HV.out)
      clear q0 q1 m0 m1 HV
      by_cases top : 1099511627776 < out * 1048576 + (rest * 1048576 + d4) / c
      · have HE := Lib.hid (over_top _ _ _ _ _ hc HS.out a3 a4 (HP.out 4).2 top)
        clear HS HP
        go_wp2_with (go_at_call 26; refine (rtop_any _).mono ?_; rintro e w' ⟨rfl, rfl⟩)
        go_ret
        exact ⟨ret_int HE.out.symm, (Below.refl _ _).alloc (Nat.le_refl _) _⟩
      · clear HP
        go_wp2_with (go_at_call 26; refine (rtop_any _).mono ?_; rintro e w' ⟨rfl, rfl⟩)
        go_round
        case rel => exact ⟨4, 3, _, _, by omega, by omega, rfl, rfl, rfl, a3, a4, by omega, by omega, HS.out⟩
        case measure => simp [intOf]
    · obtain rfl : y = 5 := by omega
      clear hy
      have a1 := q0 d5 (by omega)
      have a2 := q1 d5 (by omega)
      have a3 := m0 d5
      have a4 := m1 d5
      have HS := Lib.hid (show pv d0 d1 d2 d3 d4 d5 5 = (out * 1048576 + (rest * 1048576 + d5) / c) * c + (rest * 1048576 + d5) % c by
        rw [show pv d0 d1 d2 d3 d4 d5 5 = pv d0 d1 d2 d3 d4 d5 6 * 1048576 + d5 by simp only [pv] <;> omega]; exact step_div _ _ _ _ _ HV.out)
      clear q0 q1 m0 m1 HV
      by_cases top : 1099511627776 < out * 1048576 + (rest * 1048576 + d5) / c
      · have HE := Lib.hid (over_top _ _ _ _ _ hc HS.out a3 a4 (HP.out 5).2 top)
        clear HS HP
        go_wp2_with (go_at_call 26; refine (rtop_any _).mono ?_; rintro e w' ⟨rfl, rfl⟩)
        go_ret
        exact ⟨ret_int HE.out.symm, (Below.refl _ _).alloc (Nat.le_refl _) _⟩
      · clear HP
        go_wp2_with (go_at_call 26; refine (rtop_any _).mono ?_; rintro e w' ⟨rfl, rfl⟩)
        go_round
        case rel => exact ⟨5, 4, _, _, by omega, by omega, rfl, rfl, rfl, a3, a4, by omega, by omega, HS.out⟩
        case measure => simp [intOf]

theorem sum_prod (a0 a1 a2 b0 b1 b2 : Int) : sumTo a0 a1 a2 b0 b1 b2 9 = (a0 + a1 * 1048576 + a2 * 1099511627776) * (b0 + b1 * 1048576 + b2 * 1099511627776) := by
  simp only [sumTo]; grind
theorem digits_of (n : Int) : n % 1048576 + n / 1048576 % 1048576 * 1048576 + n / 1099511627776 * 1099511627776 = n := by omega
theorem pv_val (d0 d1 d2 d3 d4 d5 : Int) : pv d0 d1 d2 d3 d4 d5 0 = val6 d0 d1 d2 d3 d4 d5 := by simp only [pv, val6]; omega
theorem small_prod (x y : Int) (hx : 0 ≤ x ∧ x ≤ 1048576) (hy : 0 ≤ y ∧ y ≤ 1048576) : 0 ≤ x * y ∧ x * y ≤ 1099511627776 :=
  ⟨Int.mul_nonneg hx.1 hy.1, by have := Int.mul_le_mul hx.2 hy.2 hy.1 (by omega); omega⟩

/-- The digits of two right numbers, multiplied: Times, as a whole. -/
def ProdPost (v : Int) (w : World) (e : Ending) (w' : World) : Prop :=
  ∃ o0 o1 o2 o3 o4 o5 : Int, e = .returned (.agg #[.int .i64 o0, .int .i64 o1, .int .i64 o2, .int .i64 o3, .int .i64 o4, .int .i64 o5]) ∧ pv o0 o1 o2 o3 o4 o5 0 = v ∧
    (o0 < 1048576 ∧ o1 < 1048576 ∧ o2 < 1048576 ∧ o3 < 1048576 ∧ o4 < 1048576) ∧ (0 ≤ o0 ∧ 0 ≤ o1 ∧ 0 ≤ o2 ∧ 0 ≤ o3 ∧ 0 ≤ o4 ∧ 0 ≤ o5) ∧ o5 < 1048576 ∧ Below w.heap.size w w'
theorem prod_any (x y : Int) (hx : 0 ≤ x ∧ x ≤ 1099511627776) (hy : 0 ≤ y ∧ y ≤ 1099511627776) (w : World) :
    Calls Try.prog 33 #[.agg #[.int .i64 (x % 1048576), .int .i64 (x / 1048576 % 1048576), .int .i64 (x / 1099511627776), .int .i64 0], .agg #[.int .i64 (y % 1048576), .int .i64 (y / 1048576 % 1048576), .int .i64 (y / 1099511627776), .int .i64 0]] w (ProdPost (x * y) w) := by
  have x0 : 0 ≤ x % 1048576 ∧ x % 1048576 ≤ 1048576 := by omega
  have x1 : 0 ≤ x / 1048576 % 1048576 ∧ x / 1048576 % 1048576 ≤ 1048576 := by omega
  have x2 : 0 ≤ x / 1099511627776 ∧ x / 1099511627776 ≤ 1048576 := by omega
  have y0 : 0 ≤ y % 1048576 ∧ y % 1048576 ≤ 1048576 := by omega
  have y1 : 0 ≤ y / 1048576 % 1048576 ∧ y / 1048576 % 1048576 ≤ 1048576 := by omega
  have y2 : 0 ≤ y / 1099511627776 ∧ y / 1099511627776 ≤ 1048576 := by omega
  refine (times_any _ _ _ _ _ _ w (small_prod _ _ x0 y0) (small_prod _ _ x0 y1) (small_prod _ _ x0 y2) (small_prod _ _ x1 y0) (small_prod _ _ x1 y1) (small_prod _ _ x1 y2) (small_prod _ _ x2 y0) (small_prod _ _ x2 y1) (small_prod _ _ x2 y2)).mono ?_
  rintro e w' ⟨o0, o1, o2, o3, o4, o5, he, hv, hd, hn, hb⟩
  rw [sum_prod, digits_of x, digits_of y] at hv
  have hp := prod_range x y hx hy
  refine ⟨o0, o1, o2, o3, o4, o5, he, by rw [pv_val]; exact hv, hd, hn, ?_, hb⟩
  rw [← hv] at hp
  simp only [val6] at hp
  omega

theorem through_one (v : Int) (h : 0 ≤ v) : throughF v 1 = near v := by
  unfold throughF; rw [Int.ediv_one, near_nonneg v h]; split <;> split <;> omega

set_option maxHeartbeats 800000 in
theorem rmul_any (a b : Int) (w : World) : Calls Try.prog 22 #[.int .i64 a, .int .i64 b] w fun e w' => e = .returned (.int .i64 (near (near a * near b))) ∧ Below w.heap.size w w' := by
  have ha := near_range a
  have hb := near_range b
  have HT := Lib.hid (through_one (near a * near b) (Int.mul_nonneg ha.1 hb.1))
  go_enter Try.func22, Try.ntmps22
  go_wp2_with fail
  refine (rnear_any _ _).mono ?_
  rintro e w' ⟨rfl, rfl⟩
  go_wp2_with fail
  refine (of_any _ ha.1 ha.2 _).mono ?_
  rintro e w1 ⟨rfl, hb1⟩
  have HB1 := Lib.hid hb1
  clear hb1
  go_wp2_with fail
  refine (rnear_any _ _).mono ?_
  rintro e w' ⟨rfl, rfl⟩
  go_wp2_with fail
  refine (of_any _ hb.1 hb.2 _).mono ?_
  rintro e w2 ⟨rfl, hb2⟩
  have HB2 := Lib.hid (HB1.out.trans (hb2.mono HB1.out.size))
  clear hb2 HB1
  go_wp2_with fail
  refine (prod_any _ _ ha hb _).mono ?_
  rintro e w3 ⟨o0, o1, o2, o3, o4, o5, rfl, hv, hd, hn, h5, hb3⟩
  have HB3 := Lib.hid (HB2.out.trans (hb3.mono HB2.out.size))
  have HV := Lib.hid hv
  clear hb3 HB2 hv
  go_wp2_with fail
  refine (through_any _ _ _ _ _ _ 1 hd hn h5 (by omega) (by omega) _).mono ?_
  rintro e w4 ⟨rfl, hb4⟩
  have HB4 := Lib.hid (HB3.out.trans (hb4.mono HB3.out.size))
  clear hb4 HB3
  go_wp2_with fail
  go_ret
  exact ⟨ret_int (by rw [HV.out, HT.out]), HB4.out⟩
end Go.Proofs.Ytidklcjacejkaaa
