/-
  Contract: the quotient that the library's Div64 answers, where the upper word is not 0. Conditions: the divisor is at most 2^40, and greater than the upper word.
-/
import Derived.Test.YtndplngdafnffaaDoorW2
import Derived.Test.YtndplngdafnffaaDoorDivM
namespace Go.Proofs.YtndplngdafnffaaDoor
open Go.RowKit

/-- What is set up ahead of the two loops, in the walk's own spelling. -/
theorem norm_int (hi lo y : Int) (h0 : 1 ≤ hi) (h1 : hi < y) (hl0 : 0 ≤ lo) (hl : lo < 18446744073709551616) (hy : y ≤ 1099511627776) :
    ∃ s Y U V a b v1 v0 : Int, 23 ≤ s ∧ s ≤ 62 ∧ Hid (64 - (Lib.bitLen y.toNat : Int) = s) ∧ IntKind.u64.wrap (y * 2 ^ s.toNat) = Y ∧ bits .or .u64 (IntKind.u64.wrap (hi * 2 ^ s.toNat)) (lo / 2 ^ (64 - s).toNat) = U ∧ IntKind.u64.wrap (lo * 2 ^ s.toNat) = V ∧
      Y / 4294967296 = a ∧ bits .and .u64 Y 4294967295 = b ∧ V / 4294967296 = v1 ∧ bits .and .u64 V 4294967295 = v0 ∧
      (2147483648 ≤ a ∧ a < 4294967296) ∧ (0 ≤ b ∧ b < 4294967296) ∧ Hid (Y = a * 4294967296 + b) ∧ (9223372036854775808 ≤ Y ∧ Y < 18446744073709551616) ∧ (0 ≤ U ∧ U < Y) ∧ (0 ≤ v1 ∧ v1 < 4294967296) ∧ (0 ≤ v0 ∧ v0 < 4294967296) ∧
      Hid ((U * 18446744073709551616 + (v1 * 4294967296 + v0)) / Y = (hi * 18446744073709551616 + lo) / y) := by
  obtain ⟨yn, rfl⟩ := Int.eq_ofNat_of_zero_le (show 0 ≤ y by omega)
  obtain ⟨hn, rfl⟩ := Int.eq_ofNat_of_zero_le (show 0 ≤ hi by omega)
  obtain ⟨ln, rfl⟩ := Int.eq_ofNat_of_zero_le hl0
  obtain ⟨s, s1, s2, s3, s4, n1, n2, n3, n4, n5, n6, n7⟩ := norm_nat yn hn ln (by omega) (by omega) (by omega) (by omega)
  have z1 : IntKind.u64.wrap ((yn : Int) * 2 ^ (s : Int).toNat) = ((yn * 2 ^ s : Nat) : Int) := by
    rw [IntKind.wrap_u64, Int.toNat_natCast, show ((yn : Int) * 2 ^ s) = ((yn * 2 ^ s : Nat) : Int) by simp]; omega
  have z2 : IntKind.u64.wrap ((hn : Int) * 2 ^ (s : Int).toNat) = ((hn * 2 ^ s : Nat) : Int) := by
    rw [IntKind.wrap_u64, Int.toNat_natCast, show ((hn : Int) * 2 ^ s) = ((hn * 2 ^ s : Nat) : Int) by simp]; omega
  have z3 : IntKind.u64.wrap ((ln : Int) * 2 ^ (s : Int).toNat) = ((ln * 2 ^ s % 18446744073709551616 : Nat) : Int) := by
    rw [IntKind.wrap_u64, Int.toNat_natCast, show ((ln : Int) * 2 ^ s) = ((ln * 2 ^ s : Nat) : Int) by simp]; omega
  have z4 : (ln : Int) / 2 ^ (64 - (s : Int)).toNat = ((ln / 2 ^ (64 - s) : Nat) : Int) := by
    rw [show (64 - (s : Int)).toNat = 64 - s by omega]; simp
  have z5 : ∀ x : Nat, x < 18446744073709551616 → bits .and .u64 (x : Int) 4294967295 = ((x % 4294967296 : Nat) : Int) := fun x hx => by
    have h := bits_and_u64_nat x 4294967295 hx (by omega)
    have e : x &&& 4294967295 = x % 4294967296 := Nat.and_two_pow_sub_one_eq_mod x 32
    rw [e] at h; exact h
  have z6 : bits .or .u64 ((hn * 2 ^ s : Nat) : Int) ((ln / 2 ^ (64 - s) : Nat) : Int) = ((hn * 2 ^ s + ln / 2 ^ (64 - s) : Nat) : Int) := by
    rw [bits_or_u64_nat _ _ n3 (by omega), n5]
  refine ⟨s, ((yn * 2 ^ s : Nat) : Int), ((hn * 2 ^ s + ln / 2 ^ (64 - s) : Nat) : Int), ((ln * 2 ^ s % 18446744073709551616 : Nat) : Int), ((yn * 2 ^ s / 4294967296 : Nat) : Int), ((yn * 2 ^ s % 4294967296 : Nat) : Int), ((ln * 2 ^ s % 18446744073709551616 / 4294967296 : Nat) : Int), ((ln * 2 ^ s % 18446744073709551616 % 4294967296 : Nat) : Int),
    by omega, by omega, ?_, z1, by rw [z2, z4, z6], z3, by omega, z5 _ n2, by omega, z5 _ (by omega), by omega, by omega, ?_, by omega, by omega, by omega, by omega, ?_⟩
  · show 64 - ((Lib.bitLen (yn : Int).toNat : Nat) : Int) = (s : Int)
    rw [Int.toNat_natCast]; omega
  · show ((yn * 2 ^ s : Nat) : Int) = _
    omega
  · show _ = _
    have ps : 0 < 2 ^ s := Nat.pow_pos (by omega)
    have e : ((hn * 2 ^ s + ln / 2 ^ (64 - s) : Nat) : Int) * 18446744073709551616 + (((ln * 2 ^ s % 18446744073709551616 / 4294967296 : Nat) : Int) * 4294967296 + ((ln * 2 ^ s % 18446744073709551616 % 4294967296 : Nat) : Int)) = (((hn * 18446744073709551616 + ln) * 2 ^ s : Nat) : Int) := by
      rw [← n7]; omega
    rw [e, ← Int.natCast_ediv, Nat.mul_div_mul_right _ _ ps, Int.natCast_ediv, Int.natCast_add, Int.natCast_mul]
    rfl

/-- What is left behind a digit of the quotient, in the walk's own spelling. -/
theorem rest_of (U u Y g : Int) (hY : 1 ≤ Y) (hY1 : Y < 18446744073709551616) (h : (U * 4294967296 + u) / Y = g) :
    ∃ R : Int, IntKind.u64.wrap (IntKind.u64.wrap (IntKind.u64.wrap (U * 4294967296) + u) - IntKind.u64.wrap (g * Y)) = R ∧ (0 ≤ R ∧ R < Y) ∧ Hid ((U * 4294967296 + u) % Y = R) := by
  have e := Int.mul_ediv_add_emod (U * 4294967296 + u) Y
  have m0 := Int.emod_nonneg (U * 4294967296 + u) (show Y ≠ 0 by omega)
  have m1 := Int.emod_lt_of_pos (U * 4294967296 + u) (show 0 < Y by omega)
  refine ⟨_, ?_, ⟨m0, m1⟩, rfl⟩
  rw [h, Int.mul_comm] at e
  simp only [IntKind.wrap_u64]
  omega
/-- The first guess of a digit, and what is left of it. -/
theorem guess_of (U u a b Y : Int) (hU : 0 ≤ U) (hu : u < 4294967296) (ha : 1 ≤ a) (hb : 0 ≤ b) (hY : Y = a * 4294967296 + b) :
    0 ≤ U / a ∧ U / a ≤ U ∧ 0 ≤ U / a * a ∧ U / a * a ≤ U ∧ U < U / a * a + a ∧ Hid (U * 4294967296 + u < (U / a + 1) * Y) := by
  have h := Int.lt_ediv_add_one_mul_self U (b := a) (by omega)
  rw [Int.add_mul] at h
  have g0 : 0 ≤ U / a := Int.ediv_nonneg hU (by omega)
  exact ⟨g0, Int.ediv_le_self _ hU, Int.mul_nonneg g0 (by omega), Int.ediv_mul_le U (by omega), by omega, knuth_first U u a b Y hU hu ha hb hY⟩

theorem ret_two_u {k : IntKind} {a b : Int} {v : Value} (h : a = b) : Ending.returned (.tuple #[.int k a, v]) = .returned (.tuple #[.int k b, v]) := by rw [h]
/-- What Div64 tells. -/
def DivPost (N y : Int) (w : World) (e : Ending) (w' : World) : Prop := ∃ r : Int, e = .returned (.tuple #[.int .u64 (N / y), .int .u64 r]) ∧ ∃ n, w' = w.drewN n

set_option maxHeartbeats 8000000 in
set_option maxRecDepth 100000 in
theorem div64_big (hi lo y : Int) (h0 : 1 ≤ hi) (h1 : hi < y) (hl0 : 0 ≤ lo) (hl : lo < 18446744073709551616) (hy : y ≤ 1099511627776) (w : World) :
    Calls Tryd.prog 34 #[.int .u64 hi, .int .u64 lo, .int .u64 y] w (DivPost (hi * 18446744073709551616 + lo) y w) := by
  have c0 : (y == 0) = false := by simp; omega
  have c1 : decide (y ≤ hi) = false := by simp; omega
  have c2 : (hi == 0) = false := by simp; omega
  obtain ⟨s, Y, U, V, a, b, v1, v0, hs0, hs1, HS, eY, eU, eV, ea, eb, ev1, ev0, ha, hb, HY, hY, hU, hv1, hv0, HQ⟩ := norm_int hi lo y h0 h1 hl0 hl hy
  go_enter Tryd.func34, Tryd.ntmps34
  go_wp2_with fail
  refine (Tryd.bits_LeadingZeros64 _ _ (by omega) (by omega)).mono ?_
  rintro e w' ⟨rfl, hw⟩
  subst hw
  rw [HS.out]
  obtain ⟨g0, g1, g2, g3, g4, HF⟩ := guess_of U v1 a b Y hU.1 hv1.2 (by omega) hb.1 HY.out
  go_wp2_with fail
  go_loop [15, 16] (fun p q => ∃ g r : Int, p = .int .u64 g ∧ q = .int .u64 r ∧ 0 ≤ g ∧ g < 18446744073709551616 ∧ 0 ≤ r ∧ r < 4294967296 ∧ Hid (U = g * a + r) ∧ Hid (U * 4294967296 + v1 < (g + 1) * Y)) (fun p _ => (intOf p).toNat)
  case atStart => exact ⟨_, _, rfl, rfl, g0, by omega, by omega, by omega, by show U = _; omega, HF.out⟩
  case round =>
    obtain ⟨g, r, rfl, rfl, hg0, hg1, hr0, hr1, HE, HL⟩ := hrel
    clear g0 g1 g2 g3 g4 HF
    have p0 : g < 4294967296 → 0 ≤ g * b ∧ g * b < 18446744073709551616 := fun h => ⟨Int.mul_nonneg hg0 hb.1, by have := Int.mul_le_mul (show g ≤ 4294967295 by omega) (show b ≤ 4294967295 by omega) hb.1 (by omega); omega⟩
    by_cases t : 4294967296 ≤ g ∨ 4294967296 * r + v1 < g * b
    · have HN := Lib.hid (knuth_next U v1 a b Y g r HY.out (by omega) hU.2 hv1.2 HE.out t)
      have hg2 : 1 ≤ g := by
        rcases t with t | t
        · omega
        · by_cases hz : g = 0
          · rw [hz] at t; omega
          · omega
      have HE' := Lib.hid (show U = (g - 1) * a + (r + a) by rw [HE.out, Int.sub_mul]; omega)
      obtain ⟨gg, hgg⟩ : ∃ x, g - 1 = x := ⟨_, rfl⟩
      rw [hgg] at HN HE'
      by_cases tb : 4294967296 ≤ r + a
      · have hq := knuth_eq U v1 a b Y gg (r + a) HY.out (by omega) HE'.out HN.out (knuth_break U v1 a b Y gg (r + a) HY.out hv1.1 (by omega) hb.1 hb.2 hU.2 (by omega) HE'.out tb)
        by_cases t1 : 4294967296 ≤ g
        · clear t p0
          obtain ⟨R, eR, hR, HR⟩ := rest_of U v1 Y gg (by omega) hY.2 hq
          have hgl := quot_lt U v1 Y hU.1 hv1.2 hU.2
          rw [hq] at hgl
          have HQ1 := Lib.hid hq
          clear hq
          obtain ⟨k0, k1, k2, k3, k4, KF⟩ := guess_of R v0 a b Y hR.1 hv0.2 (by omega) hb.1 HY.out
          go_wp2_with fail
          go_loop [18, 16] (fun p q => ∃ g r : Int, p = .int .u64 g ∧ q = .int .u64 r ∧ 0 ≤ g ∧ g < 18446744073709551616 ∧ 0 ≤ r ∧ r < 4294967296 ∧ Hid (R = g * a + r) ∧ Hid (R * 4294967296 + v0 < (g + 1) * Y)) (fun p _ => (intOf p).toNat)
          case atStart => exact ⟨_, _, rfl, rfl, k0, by omega, by omega, by omega, by show R = _; omega, KF.out⟩
          case round =>
            obtain ⟨j, t, rfl, rfl, hj0, hj1, ht0, ht1, JE, JL⟩ := hrel
            clear k0 k1 k2 k3 k4 KF
            have p2 : j < 4294967296 → 0 ≤ j * b ∧ j * b < 18446744073709551616 := fun h => ⟨Int.mul_nonneg hj0 hb.1, by have := Int.mul_le_mul (show j ≤ 4294967295 by omega) (show b ≤ 4294967295 by omega) hb.1 (by omega); omega⟩
            by_cases u : 4294967296 ≤ j ∨ 4294967296 * t + v0 < j * b
            · have JN := Lib.hid (knuth_next R v0 a b Y j t HY.out (by omega) hR.2 hv0.2 JE.out u)
              have hj2 : 1 ≤ j := by
                rcases u with u | u
                · omega
                · by_cases hz : j = 0
                  · rw [hz] at u; omega
                  · omega
              have JE' := Lib.hid (show R = (j - 1) * a + (t + a) by rw [JE.out, Int.sub_mul]; omega)
              obtain ⟨jj, hjj⟩ : ∃ x, j - 1 = x := ⟨_, rfl⟩
              rw [hjj] at JN JE'
              by_cases ub : 4294967296 ≤ t + a
              · have hq := knuth_eq R v0 a b Y jj (t + a) HY.out (by omega) JE'.out JN.out (knuth_break R v0 a b Y jj (t + a) HY.out hv0.1 (by omega) hb.1 hb.2 hR.2 (by omega) JE'.out ub)
                have hjl := quot_lt R v0 Y hR.1 hv0.2 hR.2
                rw [hq] at hjl
                have HE2 := Lib.hid (show gg * 4294967296 + jj = (hi * 18446744073709551616 + lo) / y by rw [← HQ.out, two_digits U v1 v0 Y (by omega), HQ1.out, HR.out, hq])
                clear hq
                by_cases u1 : 4294967296 ≤ j
                · clear u p2
                  go_wp2_with fail
                  go_ret2
                  exact ⟨_, ret_two_u (HE2.out), 0, rfl⟩
                · have u2 : 4294967296 * t + v0 < j * b := by omega
                  have p3 := p2 (by omega)
                  clear u p2
                  go_wp2_with fail
                  go_ret2
                  exact ⟨_, ret_two_u (HE2.out), 0, rfl⟩
              · by_cases u1 : 4294967296 ≤ j
                · clear u p2
                  go_wp2_with fail
                  go_round
                  case rel => exact ⟨_, _, rfl, rfl, by omega, by omega, by omega, by omega, JE'.out, JN.out⟩
                  case measure => simp [intOf]; omega
                · have u2 : 4294967296 * t + v0 < j * b := by omega
                  have p3 := p2 (by omega)
                  clear u p2
                  go_wp2_with fail
                  go_round
                  case rel => exact ⟨_, _, rfl, rfl, by omega, by omega, by omega, by omega, JE'.out, JN.out⟩
                  case measure => simp [intOf]; omega
            · have hq := knuth_eq R v0 a b Y j t HY.out (by omega) JE.out JL.out (by omega)
              have hjl := quot_lt R v0 Y hR.1 hv0.2 hR.2
              rw [hq] at hjl
              have HE2 := Lib.hid (show gg * 4294967296 + j = (hi * 18446744073709551616 + lo) / y by rw [← HQ.out, two_digits U v1 v0 Y (by omega), HQ1.out, HR.out, hq])
              clear hq
              have u1 : j < 4294967296 := by omega
              have u2 : j * b ≤ 4294967296 * t + v0 := by omega
              have p3 := p2 u1
              clear u p2
              go_wp2_with fail
              go_ret2
              exact ⟨_, ret_two_u (HE2.out), 0, rfl⟩
        · have t2 : 4294967296 * r + v1 < g * b := by omega
          have p1 := p0 (by omega)
          clear t p0
          obtain ⟨R, eR, hR, HR⟩ := rest_of U v1 Y gg (by omega) hY.2 hq
          have hgl := quot_lt U v1 Y hU.1 hv1.2 hU.2
          rw [hq] at hgl
          have HQ1 := Lib.hid hq
          clear hq
          obtain ⟨k0, k1, k2, k3, k4, KF⟩ := guess_of R v0 a b Y hR.1 hv0.2 (by omega) hb.1 HY.out
          go_wp2_with fail
          go_loop [18, 16] (fun p q => ∃ g r : Int, p = .int .u64 g ∧ q = .int .u64 r ∧ 0 ≤ g ∧ g < 18446744073709551616 ∧ 0 ≤ r ∧ r < 4294967296 ∧ Hid (R = g * a + r) ∧ Hid (R * 4294967296 + v0 < (g + 1) * Y)) (fun p _ => (intOf p).toNat)
          case atStart => exact ⟨_, _, rfl, rfl, k0, by omega, by omega, by omega, by show R = _; omega, KF.out⟩
          case round =>
            obtain ⟨j, t, rfl, rfl, hj0, hj1, ht0, ht1, JE, JL⟩ := hrel
            clear k0 k1 k2 k3 k4 KF
            have p2 : j < 4294967296 → 0 ≤ j * b ∧ j * b < 18446744073709551616 := fun h => ⟨Int.mul_nonneg hj0 hb.1, by have := Int.mul_le_mul (show j ≤ 4294967295 by omega) (show b ≤ 4294967295 by omega) hb.1 (by omega); omega⟩
            by_cases u : 4294967296 ≤ j ∨ 4294967296 * t + v0 < j * b
            · have JN := Lib.hid (knuth_next R v0 a b Y j t HY.out (by omega) hR.2 hv0.2 JE.out u)
              have hj2 : 1 ≤ j := by
                rcases u with u | u
                · omega
                · by_cases hz : j = 0
                  · rw [hz] at u; omega
                  · omega
              have JE' := Lib.hid (show R = (j - 1) * a + (t + a) by rw [JE.out, Int.sub_mul]; omega)
              obtain ⟨jj, hjj⟩ : ∃ x, j - 1 = x := ⟨_, rfl⟩
              rw [hjj] at JN JE'
              by_cases ub : 4294967296 ≤ t + a
              · have hq := knuth_eq R v0 a b Y jj (t + a) HY.out (by omega) JE'.out JN.out (knuth_break R v0 a b Y jj (t + a) HY.out hv0.1 (by omega) hb.1 hb.2 hR.2 (by omega) JE'.out ub)
                have hjl := quot_lt R v0 Y hR.1 hv0.2 hR.2
                rw [hq] at hjl
                have HE2 := Lib.hid (show gg * 4294967296 + jj = (hi * 18446744073709551616 + lo) / y by rw [← HQ.out, two_digits U v1 v0 Y (by omega), HQ1.out, HR.out, hq])
                clear hq
                by_cases u1 : 4294967296 ≤ j
                · clear u p2
                  go_wp2_with fail
                  go_ret2
                  exact ⟨_, ret_two_u (HE2.out), 0, rfl⟩
                · have u2 : 4294967296 * t + v0 < j * b := by omega
                  have p3 := p2 (by omega)
                  clear u p2
                  go_wp2_with fail
                  go_ret2
                  exact ⟨_, ret_two_u (HE2.out), 0, rfl⟩
              · by_cases u1 : 4294967296 ≤ j
                · clear u p2
                  go_wp2_with fail
                  go_round
                  case rel => exact ⟨_, _, rfl, rfl, by omega, by omega, by omega, by omega, JE'.out, JN.out⟩
                  case measure => simp [intOf]; omega
                · have u2 : 4294967296 * t + v0 < j * b := by omega
                  have p3 := p2 (by omega)
                  clear u p2
                  go_wp2_with fail
                  go_round
                  case rel => exact ⟨_, _, rfl, rfl, by omega, by omega, by omega, by omega, JE'.out, JN.out⟩
                  case measure => simp [intOf]; omega
            · have hq := knuth_eq R v0 a b Y j t HY.out (by omega) JE.out JL.out (by omega)
              have hjl := quot_lt R v0 Y hR.1 hv0.2 hR.2
              rw [hq] at hjl
              have HE2 := Lib.hid (show gg * 4294967296 + j = (hi * 18446744073709551616 + lo) / y by rw [← HQ.out, two_digits U v1 v0 Y (by omega), HQ1.out, HR.out, hq])
              clear hq
              have u1 : j < 4294967296 := by omega
              have u2 : j * b ≤ 4294967296 * t + v0 := by omega
              have p3 := p2 u1
              clear u p2
              go_wp2_with fail
              go_ret2
              exact ⟨_, ret_two_u (HE2.out), 0, rfl⟩
      · by_cases t1 : 4294967296 ≤ g
        · clear t p0
          go_wp2_with fail
          go_round
          case rel => exact ⟨_, _, rfl, rfl, by omega, by omega, by omega, by omega, HE'.out, HN.out⟩
          case measure => simp [intOf]; omega
        · have t2 : 4294967296 * r + v1 < g * b := by omega
          have p1 := p0 (by omega)
          clear t p0
          go_wp2_with fail
          go_round
          case rel => exact ⟨_, _, rfl, rfl, by omega, by omega, by omega, by omega, HE'.out, HN.out⟩
          case measure => simp [intOf]; omega
    · have hq := knuth_eq U v1 a b Y g r HY.out (by omega) HE.out HL.out (by omega)
      have t1 : g < 4294967296 := by omega
      have t2 : g * b ≤ 4294967296 * r + v1 := by omega
      have p1 := p0 t1
      clear t p0
      obtain ⟨R, eR, hR, HR⟩ := rest_of U v1 Y g (by omega) hY.2 hq
      have hgl := quot_lt U v1 Y hU.1 hv1.2 hU.2
      rw [hq] at hgl
      have HQ1 := Lib.hid hq
      clear hq
      obtain ⟨k0, k1, k2, k3, k4, KF⟩ := guess_of R v0 a b Y hR.1 hv0.2 (by omega) hb.1 HY.out
      go_wp2_with fail
      go_loop [18, 16] (fun p q => ∃ g r : Int, p = .int .u64 g ∧ q = .int .u64 r ∧ 0 ≤ g ∧ g < 18446744073709551616 ∧ 0 ≤ r ∧ r < 4294967296 ∧ Hid (R = g * a + r) ∧ Hid (R * 4294967296 + v0 < (g + 1) * Y)) (fun p _ => (intOf p).toNat)
      case atStart => exact ⟨_, _, rfl, rfl, k0, by omega, by omega, by omega, by show R = _; omega, KF.out⟩
      case round =>
        obtain ⟨j, t, rfl, rfl, hj0, hj1, ht0, ht1, JE, JL⟩ := hrel
        clear k0 k1 k2 k3 k4 KF
        have p2 : j < 4294967296 → 0 ≤ j * b ∧ j * b < 18446744073709551616 := fun h => ⟨Int.mul_nonneg hj0 hb.1, by have := Int.mul_le_mul (show j ≤ 4294967295 by omega) (show b ≤ 4294967295 by omega) hb.1 (by omega); omega⟩
        by_cases u : 4294967296 ≤ j ∨ 4294967296 * t + v0 < j * b
        · have JN := Lib.hid (knuth_next R v0 a b Y j t HY.out (by omega) hR.2 hv0.2 JE.out u)
          have hj2 : 1 ≤ j := by
            rcases u with u | u
            · omega
            · by_cases hz : j = 0
              · rw [hz] at u; omega
              · omega
          have JE' := Lib.hid (show R = (j - 1) * a + (t + a) by rw [JE.out, Int.sub_mul]; omega)
          obtain ⟨jj, hjj⟩ : ∃ x, j - 1 = x := ⟨_, rfl⟩
          rw [hjj] at JN JE'
          by_cases ub : 4294967296 ≤ t + a
          · have hq := knuth_eq R v0 a b Y jj (t + a) HY.out (by omega) JE'.out JN.out (knuth_break R v0 a b Y jj (t + a) HY.out hv0.1 (by omega) hb.1 hb.2 hR.2 (by omega) JE'.out ub)
            have hjl := quot_lt R v0 Y hR.1 hv0.2 hR.2
            rw [hq] at hjl
            have HE2 := Lib.hid (show g * 4294967296 + jj = (hi * 18446744073709551616 + lo) / y by rw [← HQ.out, two_digits U v1 v0 Y (by omega), HQ1.out, HR.out, hq])
            clear hq
            by_cases u1 : 4294967296 ≤ j
            · clear u p2
              go_wp2_with fail
              go_ret2
              exact ⟨_, ret_two_u (HE2.out), 0, rfl⟩
            · have u2 : 4294967296 * t + v0 < j * b := by omega
              have p3 := p2 (by omega)
              clear u p2
              go_wp2_with fail
              go_ret2
              exact ⟨_, ret_two_u (HE2.out), 0, rfl⟩
          · by_cases u1 : 4294967296 ≤ j
            · clear u p2
              go_wp2_with fail
              go_round
              case rel => exact ⟨_, _, rfl, rfl, by omega, by omega, by omega, by omega, JE'.out, JN.out⟩
              case measure => simp [intOf]; omega
            · have u2 : 4294967296 * t + v0 < j * b := by omega
              have p3 := p2 (by omega)
              clear u p2
              go_wp2_with fail
              go_round
              case rel => exact ⟨_, _, rfl, rfl, by omega, by omega, by omega, by omega, JE'.out, JN.out⟩
              case measure => simp [intOf]; omega
        · have hq := knuth_eq R v0 a b Y j t HY.out (by omega) JE.out JL.out (by omega)
          have hjl := quot_lt R v0 Y hR.1 hv0.2 hR.2
          rw [hq] at hjl
          have HE2 := Lib.hid (show g * 4294967296 + j = (hi * 18446744073709551616 + lo) / y by rw [← HQ.out, two_digits U v1 v0 Y (by omega), HQ1.out, HR.out, hq])
          clear hq
          have u1 : j < 4294967296 := by omega
          have u2 : j * b ≤ 4294967296 * t + v0 := by omega
          have p3 := p2 u1
          clear u p2
          go_wp2_with fail
          go_ret2
          exact ⟨_, ret_two_u (HE2.out), 0, rfl⟩
end Go.Proofs.YtndplngdafnffaaDoor
