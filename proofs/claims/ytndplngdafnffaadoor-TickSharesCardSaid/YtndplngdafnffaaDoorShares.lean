/-
  The walk of the statement TickShares: it returns true for every three numbers. Conditions: the library's table of powers of ten holds these.
-/
import Derived.Test.YtndplngdafnffaaDoorShare
import Derived.Test.YtndplngdafnffaaDoorW7
namespace Go.Proofs.YtndplngdafnffaaDoor.tickShares
open Go.RowKit

theorem share_le (a b c : Int) (h1 : near b ≤ near c) (h2 : near c ≠ 0) : shareF a b c ≤ near a := by
  have ha := near_range a
  have hb := near_range b
  have hc := near_range c
  unfold shareF
  rw [if_neg h2]
  split
  · exact ha.1
  · have h : near a * near b / near c ≤ near a := by
      apply Int.ediv_le_of_le_mul (by omega)
      exact Int.mul_le_mul_of_nonneg_left h1 ha.1
    split <;> omega

set_option maxHeartbeats 1600000 in
theorem walk (a b c : Int) (_ : (Lit.int .i64 a).wf = true) (_ : (Lit.int .i64 b).wf = true) (_ : (Lit.int .i64 c).wf = true) (w : World) (ht : Tab w) :
    Calls Tryd.prog 4 #[.int .i64 a, .int .i64 b, .int .i64 c] w fun e w' => e = .returned (.bool true) ∧ Below w.heap.size w w' := by
  have HT := Lib.hid ht
  clear ht
  by_cases h1 : near c < near b
  · go_enter Tryd.func4, Tryd.ntmps4
    go_wp2_with fail
    refine (share_any _ _ _ _).mono ?_
    rintro e w' ⟨rfl, n, rfl⟩
    go_wp2_with fail
    refine (alive_any _ (tab_on HT.out (below_drewN (Below.refl _ _) _))).mono ?_
    rintro e w1 ⟨rfl, hb1⟩
    have HB1 := Lib.hid ((below_drewN (Below.refl _ w) _).trans hb1)
    clear hb1
    go_wp2_with fail
    refine (rshare_any _ _ _ _).mono ?_
    rintro e w2 ⟨rfl, hb2⟩
    have HB2 := Lib.hid (HB1.out.trans (hb2.mono HB1.out.size))
    clear hb2 HB1
    go_wp2_with (go_at_call 20; refine (rnear_any _ _).mono ?_; rintro e w' ⟨rfl, rfl⟩)
    go_ret
    exact ⟨rfl, HB2.out⟩
  · by_cases h2 : near c = 0
    · have c2 : (near c == 0) = true := by simp [h2]
      clear h2
      go_enter Tryd.func4, Tryd.ntmps4
      go_wp2_with fail
      refine (share_any _ _ _ _).mono ?_
      rintro e w' ⟨rfl, n, rfl⟩
      go_wp2_with fail
      refine (alive_any _ (tab_on HT.out (below_drewN (Below.refl _ _) _))).mono ?_
      rintro e w1 ⟨rfl, hb1⟩
      have HB1 := Lib.hid ((below_drewN (Below.refl _ w) _).trans hb1)
      clear hb1
      go_wp2_with fail
      refine (rshare_any _ _ _ _).mono ?_
      rintro e w2 ⟨rfl, hb2⟩
      have HB2 := Lib.hid (HB1.out.trans (hb2.mono HB1.out.size))
      clear hb2 HB1
      go_wp2_with (go_at_call 20; refine (rnear_any _ _).mono ?_; rintro e w' ⟨rfl, rfl⟩)
      go_ret
      exact ⟨rfl, HB2.out⟩
    · have c2 : (near c == 0) = false := by simp [h2]
      have h3 := share_le a b c (by omega) h2
      clear h2
      go_enter Tryd.func4, Tryd.ntmps4
      go_wp2_with fail
      refine (share_any _ _ _ _).mono ?_
      rintro e w' ⟨rfl, n, rfl⟩
      go_wp2_with fail
      refine (alive_any _ (tab_on HT.out (below_drewN (Below.refl _ _) _))).mono ?_
      rintro e w1 ⟨rfl, hb1⟩
      have HB1 := Lib.hid ((below_drewN (Below.refl _ w) _).trans hb1)
      clear hb1
      go_wp2_with fail
      refine (rshare_any _ _ _ _).mono ?_
      rintro e w2 ⟨rfl, hb2⟩
      have HB2 := Lib.hid (HB1.out.trans (hb2.mono HB1.out.size))
      clear hb2 HB1
      go_wp2_with (go_at_call 20; refine (rnear_any _ _).mono ?_; rintro e w' ⟨rfl, rfl⟩)
      go_ret
      exact ⟨rfl, HB2.out⟩
end Go.Proofs.YtndplngdafnffaaDoor.tickShares
