/-
  The walk of chicanelaw04.LebSizes: it returns true, whatever two numbers. Conditions: as each states.
-/
import Derived.Test.YtanbggegbhcfhaaOne
namespace Go.Proofs.Ytanbggegbhcfhaa
open Go.RowKit
theorem range64 {x : Int} (h : (Lit.int .i64 x).wf = true) : -9223372036854775808 ≤ x ∧ x ≤ 9223372036854775807 := by
  have h1 : IntKind.i64.min = -9223372036854775808 := rfl
  have h2 : IntKind.i64.max = 9223372036854775807 := rfl
  simp only [Lit.wf, Bool.and_eq_true, decide_eq_true_eq] at h
  omega
end Go.Proofs.Ytanbggegbhcfhaa
namespace Go.Proofs.Ytanbggegbhcfhaa.lebSizes
open Go.RowKit

theorem put_len (y : Int) (L : Nat) (hL : (numI y).length = L) (hy : y ≤ 9223372036854775807) (w : World) :
    Calls Try.prog 13 #[.slice none 0 0, .int .i64 y] w fun e w' => ∃ q c, e = .returned (.slice q L c) ∧ Below w.heap.size w w' := by
  refine (put_nil y (numI y) rfl hy w).mono ?_
  intro e w' h
  obtain ⟨q, c, rfl, _, hb⟩ := out_conv h hL rfl
  exact ⟨q, c, rfl, hb⟩

set_option maxHeartbeats 2000000 in
theorem walk_low (a b : Int) (h : a < 0) (w : World) : Calls Try.prog 9 #[.int .i64 a, .int .i64 b] w fun e w' => e = .returned (.bool true) ∧ Below w.heap.size w w' := by
  have d0 : decide (a < 0) = true := by simpa using h
  go_enter Try.func9, Try.ntmps9
  go_wp2_with fail
  refine (alive_any _).mono ?_
  rintro e w5 ⟨rfl, hb5⟩
  have HB5 := Lib.hid hb5
  clear hb5
  go_wp2_with fail
  go_ret
  exact ⟨rfl, HB5.out⟩
set_option maxHeartbeats 2000000 in
theorem walk_less (a b : Int) (h : 0 ≤ a) (h1 : b < a) (w : World) : Calls Try.prog 9 #[.int .i64 a, .int .i64 b] w fun e w' => e = .returned (.bool true) ∧ Below w.heap.size w w' := by
  have d0 : decide (a < 0) = false := by simp; omega
  have d1 : decide (b < a) = true := by simpa using h1
  go_enter Try.func9, Try.ntmps9
  go_wp2_with fail
  refine (alive_any _).mono ?_
  rintro e w5 ⟨rfl, hb5⟩
  have HB5 := Lib.hid hb5
  clear hb5
  go_wp2_with fail
  go_ret
  exact ⟨rfl, HB5.out⟩

theorem facts (a b : Int) (h : 0 ≤ a) (h1 : a ≤ b) (h2 : b ≤ 9223372036854775807) : 1 ≤ (numI a).length ∧ (numI a).length ≤ (numI b).length ∧ (numI b).length ≤ 9 ∧ (b ≤ 36028797018963968 → b ≠ 0 → (numI (b * 128)).length = (numI b).length + 1) := by
  obtain ⟨n, rfl⟩ := Int.eq_ofNat_of_zero_le h
  obtain ⟨m, rfl⟩ := Int.eq_ofNat_of_zero_le (show 0 ≤ b by omega)
  rw [numI_nat, numI_nat]
  refine ⟨num_pos n, num_mono n m (by omega), num_len9 m (by omega), fun _ h0 => ?_⟩
  rw [show (m : Int) * 128 = ((m * 128 : Nat) : Int) by omega, numI_nat]
  exact num_shift m (by omega)

set_option maxHeartbeats 4000000 in
theorem walk_main (a b : Int) (h : 0 ≤ a) (h1 : a ≤ b) (h2 : b ≤ 9223372036854775807) (w : World) : Calls Try.prog 9 #[.int .i64 a, .int .i64 b] w fun e w' => e = .returned (.bool true) ∧ Below w.heap.size w w' := by
  obtain ⟨f1, f2, f3, f4⟩ := facts a b h h1 h2
  obtain ⟨n, hn⟩ : ∃ n, (numI a).length = n := ⟨_, rfl⟩
  obtain ⟨m, hm⟩ : ∃ m, (numI b).length = m := ⟨_, rfl⟩
  have HN := Lib.hid hn
  have HM := Lib.hid hm
  rw [hn] at f1 f2
  rw [hm] at f2 f3 f4
  have HF := Lib.hid f4
  have d0 : decide (a < 0) = false := by simp; omega
  have d1 : decide (b < a) = false := by simp; omega
  clear hn hm f4
  go_enter Try.func9, Try.ntmps9
  go_wp2_with fail
  refine (put_len a n HN.out (by omega) _).mono ?_
  rintro e w1 ⟨q1, c1, rfl, hb1⟩
  have HB1 := Lib.hid hb1
  clear hb1
  go_wp2_with fail
  refine (put_len b m HM.out (by omega) _).mono ?_
  rintro e w2 ⟨q2, c2, rfl, hb2⟩
  have HB2 := Lib.hid (seqB HB1.out hb2)
  clear hb2
  go_wp2_with fail
  refine (alive_any _).mono ?_
  rintro e w3 ⟨rfl, hb3⟩
  have HB3 := Lib.hid (seqB HB2.out hb3)
  clear hb3
  have e1 : decide ((1 : Int) ≤ (n : Int)) = true := by simp; omega
  have e2 : decide (n ≤ m) = true := by simp; omega
  have e3 : decide ((m : Int) ≤ 9) = true := by simp; omega
  by_cases hbig : 36028797018963968 < b
  · have d2 : decide (36028797018963968 < b) = true := by simpa using hbig
    go_wp2_with fail
    go_ret
    exact ⟨rfl, HB3.out⟩
  · have d2 : decide (36028797018963968 < b) = false := by simp; omega
    by_cases hz : b = 0
    · subst hz
      go_wp2_with fail
      go_ret
      exact ⟨rfl, HB3.out⟩
    · have d3 : (b == 0) = false := by simpa using hz
      have HF' := Lib.hid (HF.out (by omega) hz)
      go_wp2_with fail
      refine (put_len (b * 128) (m + 1) HF'.out (by omega) _).mono ?_
      rintro e w4 ⟨q4, c4, rfl, hb4⟩
      have HB4 := Lib.hid (seqB HB3.out hb4)
      clear hb4
      go_wp2_with fail
      go_ret
      exact ⟨rfl, HB4.out⟩

theorem walk (a b : Int) (h2 : b ≤ 9223372036854775807) (w : World) : Calls Try.prog 9 #[.int .i64 a, .int .i64 b] w fun e w' => e = .returned (.bool true) ∧ Below w.heap.size w w' := by
  by_cases h : a < 0
  · exact walk_low a b h w
  by_cases h1 : b < a
  · exact walk_less a b (by omega) h1 w
  exact walk_main a b (by omega) (by omega) h2 w
end Go.Proofs.Ytanbggegbhcfhaa.lebSizes
