/-
  The walk of the statement TickUps: it returns true for every two numbers. Conditions: the library's table of powers of ten holds these.
-/
import Derived.Test.YtndplngdafnffaaDoorW5
namespace Go.Proofs.YtndplngdafnffaaDoor.tickUps
open Go.RowKit

/-- Up is the least number that b times is not less. -/
theorem ups_math (a b : Int) (ha : 0 ≤ a ∧ a ≤ 1099511627776) (hb : 1 ≤ b ∧ b ≤ 1099511627776) :
    0 ≤ upF a b ∧ upF a b ≤ 1099511627776 ∧ a ≤ near (near (upF a b) * near b) ∧ (upF a b ≠ 0 → near (near (upF a b - 1) * near b) < a) := by
  have na := near_of a ha.1 ha.2
  have nb := near_of b (by omega) hb.2
  unfold upF
  rw [na, nb]
  by_cases e : a = 0
  · rw [if_pos e]; subst e
    refine ⟨by omega, by omega, ?_, fun h => absurd rfl h⟩
    exact (near_range _).1
  · rw [if_neg e, if_neg (by omega)]
    have h1 := Int.ediv_mul_le (a + b - 1) (b := b) (by omega)
    have h2 := Int.lt_ediv_add_one_mul_self (a + b - 1) (b := b) (by omega)
    have q0 : 0 ≤ (a + b - 1) / b := Int.ediv_nonneg (by omega) (by omega)
    have q1 : (a + b - 1) / b ≤ a := by
      have : a + b - 1 < (a + 1) * b := by
        have := Int.mul_le_mul_of_nonneg_left hb.1 (show 0 ≤ a by omega)
        rw [Int.add_mul]; omega
      have := Int.ediv_lt_of_lt_mul (by omega) this
      omega
    have q2 : 1 ≤ (a + b - 1) / b := by
      rw [Int.le_ediv_iff_mul_le (by omega)]; omega
    generalize (a + b - 1) / b = q at *
    rw [Int.add_mul] at h2
    rw [near_of q q0 (by omega), near_of (q - 1) (by omega) (by omega)]
    have m0 : 0 ≤ q * b := Int.mul_nonneg q0 (by omega)
    have m1 : 0 ≤ (q - 1) * b := Int.mul_nonneg (by omega) (by omega)
    have m2 : (q - 1) * b = q * b - b := by rw [Int.sub_mul]; omega
    refine ⟨q0, by omega, ?_, fun _ => ?_⟩
    · rw [near_nonneg _ m0]; split <;> omega
    · rw [near_nonneg _ m1]; split <;> omega

set_option maxHeartbeats 800000 in
theorem walk_not (a b : Int) (h : (a < 0 ∨ 1099511627776 < a) ∨ (b < 0 ∨ 1099511627776 < b) ∨ b = 0) (w : World) (ht : Tab w) :
    Calls Tryd.prog 9 #[.int .i64 a, .int .i64 b] w fun e w' => e = .returned (.bool true) ∧ Below w.heap.size w w' := by
  have HT := Lib.hid ht
  clear ht
  by_cases ha : a < 0 ∨ 1099511627776 < a
  · clear h
    go_enter Tryd.func9, Tryd.ntmps9
    go_wp2_with fail
    refine (right_no _ _ ha).mono ?_
    rintro e w' ⟨rfl, rfl⟩
    go_wp2_with fail
    refine (alive_any _ HT.out).mono ?_
    rintro e w' ⟨rfl, hb⟩
    have HB := Lib.hid hb
    clear hb
    go_wp2_with fail
    go_ret
    exact ⟨rfl, HB.out⟩
  · by_cases hb : b < 0 ∨ 1099511627776 < b
    · clear h
      go_enter Tryd.func9, Tryd.ntmps9
      go_wp2_with fail
      refine (right_yes _ _ (by omega) (by omega)).mono ?_
      rintro e w' ⟨rfl, rfl⟩
      go_wp2_with fail
      refine (right_no _ _ hb).mono ?_
      rintro e w' ⟨rfl, rfl⟩
      go_wp2_with fail
      refine (alive_any _ HT.out).mono ?_
      rintro e w' ⟨rfl, hb⟩
      have HB := Lib.hid hb
      clear hb
      go_wp2_with fail
      go_ret
      exact ⟨rfl, HB.out⟩
    · obtain rfl : b = 0 := by omega
      clear h hb
      go_enter Tryd.func9, Tryd.ntmps9
      go_wp2_with fail
      refine (right_yes _ _ (by omega) (by omega)).mono ?_
      rintro e w' ⟨rfl, rfl⟩
      go_wp2_with fail
      refine (right_yes _ _ (by omega) (by omega)).mono ?_
      rintro e w' ⟨rfl, rfl⟩
      go_wp2_with fail
      refine (alive_any _ HT.out).mono ?_
      rintro e w' ⟨rfl, hb⟩
      have HB := Lib.hid hb
      clear hb
      go_wp2_with fail
      go_ret
      exact ⟨rfl, HB.out⟩

set_option maxHeartbeats 800000 in
theorem walk_yes (a b : Int) (ha : 0 ≤ a ∧ a ≤ 1099511627776) (hb : 1 ≤ b ∧ b ≤ 1099511627776) (w : World) (ht : Tab w) :
    Calls Tryd.prog 9 #[.int .i64 a, .int .i64 b] w fun e w' => e = .returned (.bool true) ∧ Below w.heap.size w w' := by
  have HT := Lib.hid ht
  clear ht
  obtain ⟨u0, u1, m1, m2⟩ := ups_math a b ha hb
  have c0 : (b == 0) = false := by simp; omega
  have HM := Lib.hid m2
  clear m2
  by_cases z : upF a b = 0
  · have cz : (upF a b == 0) = true := by simp [z]
    clear z HM
    go_enter Tryd.func9, Tryd.ntmps9
    go_wp2_with fail
    refine (right_yes _ _ (by omega) (by omega)).mono ?_
    rintro e w' ⟨rfl, rfl⟩
    go_wp2_with fail
    refine (right_yes _ _ (by omega) (by omega)).mono ?_
    rintro e w' ⟨rfl, rfl⟩
    go_wp2_with fail
    refine (up_any _ _ _).mono ?_
    rintro e w' ⟨rfl, rfl⟩
    go_wp2_with fail
    refine (alive_any _ HT.out).mono ?_
    rintro e w1 ⟨rfl, hb1⟩
    have HB := Lib.hid hb1
    clear hb1
    go_wp2_with fail
    refine (mul_any _ _ _).mono ?_
    rintro e w2 ⟨rfl, n, rfl⟩
    go_wp2_with fail
    go_ret
    exact ⟨rfl, below_drewN HB.out _⟩
  · have cz : (upF a b == 0) = false := by simp [z]
    have m2 := HM.out z
    clear z HM
    go_enter Tryd.func9, Tryd.ntmps9
    go_wp2_with fail
    refine (right_yes _ _ (by omega) (by omega)).mono ?_
    rintro e w' ⟨rfl, rfl⟩
    go_wp2_with fail
    refine (right_yes _ _ (by omega) (by omega)).mono ?_
    rintro e w' ⟨rfl, rfl⟩
    go_wp2_with fail
    refine (up_any _ _ _).mono ?_
    rintro e w' ⟨rfl, rfl⟩
    go_wp2_with fail
    refine (alive_any _ HT.out).mono ?_
    rintro e w1 ⟨rfl, hb1⟩
    have HB := Lib.hid hb1
    clear hb1
    go_wp2_with fail
    refine (mul_any _ _ _).mono ?_
    rintro e w2 ⟨rfl, n, rfl⟩
    go_wp2_with fail
    refine (mul_any _ _ _).mono ?_
    rintro e w2 ⟨rfl, n2, rfl⟩
    go_wp2_with fail
    go_ret
    exact ⟨rfl, below_drewN HB.out _⟩

theorem walk (a b : Int) (_ : (Lit.int .i64 a).wf = true) (_ : (Lit.int .i64 b).wf = true) (w : World) (ht : Tab w) :
    Calls Tryd.prog 9 #[.int .i64 a, .int .i64 b] w fun e w' => e = .returned (.bool true) ∧ Below w.heap.size w w' := by
  by_cases h : (a < 0 ∨ 1099511627776 < a) ∨ (b < 0 ∨ 1099511627776 < b) ∨ b = 0
  · exact walk_not a b h w ht
  · exact walk_yes a b (by omega) (by omega) w ht
end Go.Proofs.YtndplngdafnffaaDoor.tickUps
