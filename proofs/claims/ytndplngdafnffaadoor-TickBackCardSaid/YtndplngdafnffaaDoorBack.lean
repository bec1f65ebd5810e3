/-
  The walk of the statement TickBack: it returns true for every two numbers. Conditions: the library's table of powers of ten holds these.
-/
import Derived.Test.YtndplngdafnffaaDoorW5
namespace Go.Proofs.YtndplngdafnffaaDoor.tickBack
open Go.RowKit

theorem sub_back (a b : Int) (ha : 0 ≤ a ∧ a ≤ 1099511627776) (hb : 0 ≤ b ∧ b ≤ 1099511627776) (h : a + b ≤ 1099511627776) : near (near (near (near a + near b)) - near b) = a := by
  rw [near_of a ha.1 ha.2, near_of b hb.1 hb.2, near_of (a + b) (by omega) h, near_of (a + b) (by omega) h, near_of _ (by omega) (by omega)]; omega

theorem prod_of (a b : Int) (ha : 0 ≤ a ∧ a ≤ 1099511627776) (hb : 0 ≤ b ∧ b ≤ 1099511627776) (h : near (near a * near b) ≠ 1099511627776) : near (near a * near b) = a * b ∧ 0 ≤ a * b ∧ a * b < 1099511627776 := by
  rw [near_of a ha.1 ha.2, near_of b hb.1 hb.2] at *
  have m0 := Int.mul_nonneg ha.1 hb.1
  rw [near_nonneg _ m0] at *
  split at h
  · exact absurd rfl h
  · rename_i h2
    rw [if_neg h2]
    exact ⟨rfl, m0, by omega⟩

theorem up_back (a b : Int) (ha : 0 ≤ a ∧ a ≤ 1099511627776) (hb : 1 ≤ b ∧ b ≤ 1099511627776) (h : a * b < 1099511627776) : upF (a * b) b = a := by
  have m0 : 0 ≤ a * b := Int.mul_nonneg ha.1 (by omega)
  unfold upF
  rw [near_of _ m0 (by omega), near_of b (by omega) hb.2, if_neg (show ¬ b = 0 by omega)]
  split
  · rename_i z
    rcases Int.mul_eq_zero.1 z with z | z <;> omega
  · rw [show a * b + b - 1 = (b - 1) + a * b by omega, Int.add_mul_ediv_right _ _ (by omega), Int.ediv_eq_zero_of_lt (by omega) (by omega)]; omega

theorem share_back (a b : Int) (ha : 0 ≤ a ∧ a ≤ 1099511627776) (hb : 1 ≤ b ∧ b ≤ 1099511627776) (h : a * b < 1099511627776) (w : World) :
    Calls Tryd.prog 21 #[.int .i64 (a * b), .int .i64 1, .int .i64 b] w fun e w' => e = .returned (.int .i64 a) ∧ ∃ n, w' = w.drewN n := by
  have m0 : 0 ≤ a * b := Int.mul_nonneg ha.1 (by omega)
  have n1 : near 1 = 1 := by decide
  have np := near_of _ m0 (Int.le_of_lt h)
  have nb := near_of b (by omega) hb.2
  have hs : shareF (a * b) 1 b = a := by
    unfold shareF
    rw [np, nb, n1, Int.mul_one, Int.mul_ediv_cancel _ (show b ≠ 0 by omega), if_neg (show ¬ b = 0 by omega), if_pos ha.2]
    split
    · rename_i z
      rcases z with z | z
      · rcases Int.mul_eq_zero.1 z with z | z <;> omega
      · omega
    · rfl
  by_cases z : a * b = 0
  · exact (share_zero (a * b) 1 b (Or.inl (by rw [np]; exact z)) w).mono fun e w' ⟨he, hw⟩ => ⟨by rw [he, hs], hw⟩
  · exact (share_low (a * b) 1 b (by rw [np]; omega) (by rw [n1]; omega) (by rw [nb]; omega) (by rw [np, n1]; omega) w).mono fun e w' ⟨he, hw⟩ => ⟨by rw [he, hs], hw⟩

set_option maxHeartbeats 800000 in
theorem walk_not (a b : Int) (h : (a < 0 ∨ 1099511627776 < a) ∨ (b < 0 ∨ 1099511627776 < b)) (w : World) (ht : Tab w) :
    Calls Tryd.prog 8 #[.int .i64 a, .int .i64 b] w fun e w' => e = .returned (.bool true) ∧ Below w.heap.size w w' := by
  have HT := Lib.hid ht
  clear ht
  by_cases ha : a < 0 ∨ 1099511627776 < a
  · clear h
    go_enter Tryd.func8, Tryd.ntmps8
    go_wp2_with fail
    refine (right_no _ _ ha).mono ?_
    rintro e w' ⟨rfl, rfl⟩
    go_wp2_with fail
    refine (alive_any _ HT.out).mono ?_
    rintro e w' ⟨rfl, hb⟩
    have HB := Lib.hid hb
    clear hb
    go_wp2_with fail
    go_ret
    exact ⟨rfl, HB.out⟩
  · have hb : b < 0 ∨ 1099511627776 < b := by omega
    clear h
    go_enter Tryd.func8, Tryd.ntmps8
    go_wp2_with fail
    refine (right_yes _ _ (by omega) (by omega)).mono ?_
    rintro e w' ⟨rfl, rfl⟩
    go_wp2_with fail
    refine (right_no _ _ hb).mono ?_
    rintro e w' ⟨rfl, rfl⟩
    go_wp2_with fail
    refine (alive_any _ HT.out).mono ?_
    rintro e w' ⟨rfl, hb⟩
    have HB := Lib.hid hb
    clear hb
    go_wp2_with fail
    go_ret
    exact ⟨rfl, HB.out⟩

/-- The last test, in its three ways, as one contract for what stands behind the first two. -/
theorem sub_call (a b : Int) (ha : 0 ≤ a ∧ a ≤ 1099511627776) (hb : 0 ≤ b ∧ b ≤ 1099511627776) (h : a + b ≤ 1099511627776) (w : World) :
    Calls Tryd.prog 13 #[.int .i64 (near (near a + near b)), .int .i64 b] w fun e w' => e = .returned (.int .i64 a) ∧ w = w' :=
  (sub_any _ b w).mono fun e w' ⟨he, hw⟩ => ⟨by rw [he, sub_back a b ha hb h], hw⟩
theorem mul_call (a b : Int) (ha : 0 ≤ a ∧ a ≤ 1099511627776) (hb : 0 ≤ b ∧ b ≤ 1099511627776) (h : near (near a * near b) ≠ 1099511627776) (w : World) :
    Calls Tryd.prog 15 #[.int .i64 a, .int .i64 b] w fun e w' => e = .returned (.int .i64 (a * b)) ∧ ∃ n, w' = w.drewN n :=
  (mul_any a b w).mono fun e w' ⟨he, hw⟩ => ⟨by rw [he, (prod_of a b ha hb h).1], hw⟩
theorem mul_top (a b : Int) (h : near (near a * near b) = 1099511627776) (w : World) :
    Calls Tryd.prog 15 #[.int .i64 a, .int .i64 b] w fun e w' => e = .returned (.int .i64 1099511627776) ∧ ∃ n, w' = w.drewN n :=
  (mul_any a b w).mono fun e w' ⟨he, hw⟩ => ⟨by rw [he, h], hw⟩
theorem up_call (a b : Int) (ha : 0 ≤ a ∧ a ≤ 1099511627776) (hb : 1 ≤ b ∧ b ≤ 1099511627776) (h : a * b < 1099511627776) (w : World) :
    Calls Tryd.prog 17 #[.int .i64 (a * b), .int .i64 b] w fun e w' => e = .returned (.int .i64 a) ∧ w = w' :=
  (up_any _ b w).mono fun e w' ⟨he, hw⟩ => ⟨by rw [he, up_back a b ha hb h], hw⟩

set_option maxHeartbeats 1600000 in
theorem walk_yes (a b : Int) (ha : 0 ≤ a ∧ a ≤ 1099511627776) (hb : 0 ≤ b ∧ b ≤ 1099511627776) (w : World) (ht : Tab w) :
    Calls Tryd.prog 8 #[.int .i64 a, .int .i64 b] w fun e w' => e = .returned (.bool true) ∧ Below w.heap.size w w' := by
  have HT := Lib.hid ht
  clear ht
  have hsr := near_range (near a + near b)
  by_cases hz : b = 0
  · subst hz
    have hpr := near_range (near a * near 0)
    have hs : a + 0 ≤ 1099511627776 := by omega
    · go_enter Tryd.func8, Tryd.ntmps8
      go_wp2_with (first
        | (go_at_call 19; refine (right_yes _ _ (by omega) (by omega)).mono ?_; rintro e w' ⟨rfl, rfl⟩)
        | (go_at_call 11; refine (add_any _ _ _).mono ?_; rintro e w' ⟨rfl, rfl⟩)
        | (go_at_call 15; refine (mul_any _ _ _).mono ?_; rintro e w' ⟨rfl, n, rfl⟩)
        | (go_at_call 10; refine (alive_any _ (tab_on HT.out (below_drewN (Below.refl _ _) _))).mono ?_; rintro e w1 ⟨rfl, hb1⟩; have HB := Lib.hid hb1; clear hb1)
        | (go_at_call 13; refine (sub_call _ _ ha hb hs _).mono ?_; rintro e w' ⟨rfl, rfl⟩))
      go_ret
      exact ⟨rfl, by first | exact (below_drewN (Below.refl _ w) _).trans HB.out | exact below_drewN ((below_drewN (Below.refl _ w) _).trans HB.out) _⟩
  · have hb1 : 1 ≤ b ∧ b ≤ 1099511627776 := by omega
    have cz : (b == 0) = false := by simp [hz]
    clear hz
    by_cases hs : a + b ≤ 1099511627776
    · by_cases ht : near (near a * near b) = 1099511627776
      · have HTT := Lib.hid ht
        clear ht
        go_enter Tryd.func8, Tryd.ntmps8
        go_wp2_with (first
          | (go_at_call 19; refine (right_yes _ _ (by omega) (by omega)).mono ?_; rintro e w' ⟨rfl, rfl⟩)
          | (go_at_call 11; refine (add_any _ _ _).mono ?_; rintro e w' ⟨rfl, rfl⟩)
          | (go_at_call 15; refine (mul_top _ _ HTT.out _).mono ?_; rintro e w' ⟨rfl, n, rfl⟩)
          | (go_at_call 10; refine (alive_any _ (tab_on HT.out (below_drewN (Below.refl _ _) _))).mono ?_; rintro e w1 ⟨rfl, hb1⟩; have HB := Lib.hid hb1; clear hb1)
          | (go_at_call 13; refine (sub_call _ _ ha hb hs _).mono ?_; rintro e w' ⟨rfl, rfl⟩))
        go_ret
        exact ⟨rfl, by first | exact (below_drewN (Below.refl _ w) _).trans HB.out | exact below_drewN ((below_drewN (Below.refl _ w) _).trans HB.out) _⟩
      · have hp := prod_of a b ha hb ht
        have HTT := Lib.hid ht
        have HP := Lib.hid hp.1
        have hp := hp.2
        have hp : True ∧ 0 ≤ a * b ∧ a * b < 1099511627776 := ⟨trivial, hp⟩
        have ct : (a * b == 1099511627776) = false := by simp; omega
        clear ht
        go_enter Tryd.func8, Tryd.ntmps8
        go_wp2_with (first
          | (go_at_call 19; refine (right_yes _ _ (by omega) (by omega)).mono ?_; rintro e w' ⟨rfl, rfl⟩)
          | (go_at_call 11; refine (add_any _ _ _).mono ?_; rintro e w' ⟨rfl, rfl⟩)
          | (go_at_call 15; refine (mul_call _ _ ha hb HTT.out _).mono ?_; rintro e w' ⟨rfl, n, rfl⟩)
          | (go_at_call 10; refine (alive_any _ (tab_on HT.out (below_drewN (Below.refl _ _) _))).mono ?_; rintro e w1 ⟨rfl, hb1⟩; have HB := Lib.hid hb1; clear hb1)
          | (go_at_call 13; refine (sub_call _ _ ha hb hs _).mono ?_; rintro e w' ⟨rfl, rfl⟩)
          | (go_at_call 17; refine (up_call _ _ ha hb1 hp.2.2 _).mono ?_; rintro e w' ⟨rfl, rfl⟩)
          | (go_at_call 21; refine (share_back _ _ ha hb1 hp.2.2 _).mono ?_; rintro e w' ⟨rfl, n2, rfl⟩))
        go_ret
        exact ⟨rfl, by first | exact (below_drewN (Below.refl _ w) _).trans HB.out | exact below_drewN ((below_drewN (Below.refl _ w) _).trans HB.out) _⟩
    · by_cases ht : near (near a * near b) = 1099511627776
      · have HTT := Lib.hid ht
        clear ht
        go_enter Tryd.func8, Tryd.ntmps8
        go_wp2_with (first
          | (go_at_call 19; refine (right_yes _ _ (by omega) (by omega)).mono ?_; rintro e w' ⟨rfl, rfl⟩)
          | (go_at_call 11; refine (add_any _ _ _).mono ?_; rintro e w' ⟨rfl, rfl⟩)
          | (go_at_call 15; refine (mul_top _ _ HTT.out _).mono ?_; rintro e w' ⟨rfl, n, rfl⟩)
          | (go_at_call 10; refine (alive_any _ (tab_on HT.out (below_drewN (Below.refl _ _) _))).mono ?_; rintro e w1 ⟨rfl, hb1⟩; have HB := Lib.hid hb1; clear hb1))
        go_ret
        exact ⟨rfl, by first | exact (below_drewN (Below.refl _ w) _).trans HB.out | exact below_drewN ((below_drewN (Below.refl _ w) _).trans HB.out) _⟩
      · have hp := prod_of a b ha hb ht
        have HTT := Lib.hid ht
        have HP := Lib.hid hp.1
        have hp := hp.2
        have hp : True ∧ 0 ≤ a * b ∧ a * b < 1099511627776 := ⟨trivial, hp⟩
        have ct : (a * b == 1099511627776) = false := by simp; omega
        clear ht
        go_enter Tryd.func8, Tryd.ntmps8
        go_wp2_with (first
          | (go_at_call 19; refine (right_yes _ _ (by omega) (by omega)).mono ?_; rintro e w' ⟨rfl, rfl⟩)
          | (go_at_call 11; refine (add_any _ _ _).mono ?_; rintro e w' ⟨rfl, rfl⟩)
          | (go_at_call 15; refine (mul_call _ _ ha hb HTT.out _).mono ?_; rintro e w' ⟨rfl, n, rfl⟩)
          | (go_at_call 10; refine (alive_any _ (tab_on HT.out (below_drewN (Below.refl _ _) _))).mono ?_; rintro e w1 ⟨rfl, hb1⟩; have HB := Lib.hid hb1; clear hb1)
          | (go_at_call 17; refine (up_call _ _ ha hb1 hp.2.2 _).mono ?_; rintro e w' ⟨rfl, rfl⟩)
          | (go_at_call 21; refine (share_back _ _ ha hb1 hp.2.2 _).mono ?_; rintro e w' ⟨rfl, n2, rfl⟩))
        go_ret
        exact ⟨rfl, by first | exact (below_drewN (Below.refl _ w) _).trans HB.out | exact below_drewN ((below_drewN (Below.refl _ w) _).trans HB.out) _⟩

theorem walk (a b : Int) (_ : (Lit.int .i64 a).wf = true) (_ : (Lit.int .i64 b).wf = true) (w : World) (ht : Tab w) :
    Calls Tryd.prog 8 #[.int .i64 a, .int .i64 b] w fun e w' => e = .returned (.bool true) ∧ Below w.heap.size w w' := by
  by_cases h : (a < 0 ∨ 1099511627776 < a) ∨ (b < 0 ∨ 1099511627776 < b)
  · exact walk_not a b h w ht
  · exact walk_yes a b (by omega) (by omega) w ht
end Go.Proofs.YtndplngdafnffaaDoor.tickBack
