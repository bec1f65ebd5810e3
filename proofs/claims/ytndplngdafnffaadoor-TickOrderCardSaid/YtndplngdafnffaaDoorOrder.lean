/-
  The walk of the statement TickOrder: it returns true for every three numbers. Conditions: the library's table of powers of ten holds these.
-/
import Derived.Test.YtndplngdafnffaaDoorShare
import Derived.Test.YtndplngdafnffaaDoorW5
namespace Go.Proofs.YtndplngdafnffaaDoor.tickOrder
open Go.RowKit

theorem near_mono (a b : Int) (h : a ≤ b) : near a ≤ near b := by unfold near; repeat' split <;> omega
theorem mul_mono (a b c : Int) (h : a ≤ b) : near (near a * near c) ≤ near (near b * near c) :=
  near_mono _ _ (Int.mul_le_mul_of_nonneg_right (near_mono a b h) (near_range c).1)
theorem share_mono (a b c d : Int) (h : a ≤ b) (hd : 1 ≤ near d) : shareF a c d ≤ shareF b c d := by
  have ha := near_range a
  have hb := near_range b
  have hc := near_range c
  have hm := near_mono a b h
  have hp := Int.mul_le_mul_of_nonneg_right hm hc.1
  have hq := Int.ediv_le_ediv (show 0 < near d by omega) hp
  have q0 : 0 ≤ near b * near c / near d := Int.ediv_nonneg (Int.mul_nonneg hb.1 hc.1) (by omega)
  unfold shareF
  rw [if_neg (show ¬ near d = 0 by omega), if_neg (show ¬ near d = 0 by omega)]
  by_cases z : near a = 0 ∨ near c = 0
  · rw [if_pos z]
    repeat' split
    all_goals omega
  · rw [if_neg z]
    rw [if_neg (show ¬ (near b = 0 ∨ near c = 0) by omega)]
    repeat' split
    all_goals omega

set_option maxHeartbeats 800000 in
theorem walk_not (a b c : Int) (h : b < a) (w : World) (ht : Tab w) :
    Calls Tryd.prog 7 #[.int .i64 a, .int .i64 b, .int .i64 c] w fun e w' => e = .returned (.bool true) ∧ Below w.heap.size w w' := by
  have HT := Lib.hid ht
  clear ht
  go_enter Tryd.func7, Tryd.ntmps7
  go_wp2_with fail
  refine (alive_any _ HT.out).mono ?_
  rintro e w1 ⟨rfl, hb1⟩
  have HB1 := Lib.hid hb1
  clear hb1
  go_wp2_with fail
  go_ret
  exact ⟨rfl, HB1.out⟩

set_option maxHeartbeats 3200000 in
theorem walk_yes (a b c : Int) (h : a ≤ b) (w : World) (ht : Tab w) :
    Calls Tryd.prog 7 #[.int .i64 a, .int .i64 b, .int .i64 c] w fun e w' => e = .returned (.bool true) ∧ Below w.heap.size w w' := by
  have HT := Lib.hid ht
  clear ht
  have hm := near_mono a b h
  have m1 := near_mono (near a + near c) (near b + near c) (by omega)
  have m2 := mul_mono a b c h
  have m3 := share_mono a b c 7 h (by decide)
  have m4 := near_mono (near a - near c) (near b - near c) (by omega)
  have m5 := near_mono (near c - near b) (near c - near a) (by omega)
  have e1 : near (near b + near a) = near (near a + near b) := by rw [Int.add_comm]
  have e2 : near (near b * near a) = near (near a * near b) := by rw [Int.mul_comm]
  go_enter Tryd.func7, Tryd.ntmps7
  go_wp2_with fail
  refine (alive_any _ HT.out).mono ?_
  rintro e w1 ⟨rfl, hb1⟩
  have HB1 := Lib.hid hb1
  clear hb1
  go_wp2_with (first
    | (go_at_call 11; refine (add_any _ _ _).mono ?_; rintro e w' ⟨rfl, rfl⟩)
    | (go_at_call 13; refine (sub_any _ _ _).mono ?_; rintro e w' ⟨rfl, rfl⟩)
    | (go_at_call 15; refine (mul_any _ _ _).mono ?_; rintro e w' ⟨rfl, n, rfl⟩)
    | (go_at_call 21; refine (share_any _ _ _ _).mono ?_; rintro e w' ⟨rfl, n, rfl⟩))
  go_ret
  exact ⟨rfl, below_drewN HB1.out _⟩

theorem walk (a b c : Int) (_ : (Lit.int .i64 a).wf = true) (_ : (Lit.int .i64 b).wf = true) (_ : (Lit.int .i64 c).wf = true) (w : World) (ht : Tab w) :
    Calls Tryd.prog 7 #[.int .i64 a, .int .i64 b, .int .i64 c] w fun e w' => e = .returned (.bool true) ∧ Below w.heap.size w w' := by
  by_cases h : a ≤ b
  · exact walk_yes a b c h w ht
  · exact walk_not a b c (by omega) w ht
end Go.Proofs.YtndplngdafnffaaDoor.tickOrder
