/-
  Contract: Same. Conditions: the slices' lengths.
-/
import Derived.Test.YtmghkcjljnlocaaGreatDoorPU
namespace Go.Proofs.YtmghkcjljnlocaaGreatDoor
open Go.RowKit
theorem prx_ne {x y : Prx} (h : x ≠ y) : x.s ≠ y.s ∨ (x.s = y.s ∧ x.on ≠ y.on) ∨ (x.s = y.s ∧ x.on = y.on ∧ x.most ≠ y.most) ∨ (x.s = y.s ∧ x.on = y.on ∧ x.most = y.most ∧ x.ts ≠ y.ts) := by
  obtain ⟨s, u, k, a⟩ := x
  obtain ⟨s', u', k', a'⟩ := y
  simp only [ne_eq, Prx.mk.injEq, not_and] at *
  by_cases h1 : s = s'
  · by_cases h2 : u = u'
    · by_cases h3 : k = k'
      · exact Or.inr (Or.inr (Or.inr ⟨h1, h2, h3, h h1 h2 h3⟩))
      · exact Or.inr (Or.inr (Or.inl ⟨h1, h2, h3⟩))
    · exact Or.inr (Or.inl ⟨h1, h2⟩)
  · exact Or.inl h1
set_option maxRecDepth 100000 in
set_option maxHeartbeats 8000000 in
theorem same1_any (x y : Prx) (q1 q2 : Option Addr) (m1 m2 d1 d2 : Nat) (w : World) (hl1 : x.ts.length = m1) (hl2 : y.ts.length = m2) (hm1 : m1 ≤ 1000000) (hm2 : m2 ≤ 1000000) (hi1 : ToxIn w q1 m1 x.ts) (hi2 : ToxIn w q2 m2 y.ts) :
    Calls Tryz.prog 61 #[.agg #[.string x.s, .bool x.on, .int .i64 x.most, .slice q1 m1 d1], .agg #[.string y.s, .bool y.on, .int .i64 y.most, .slice q2 m2 d2]] w fun e w' => e = .returned (.bool (decide (x = y))) ∧ Below w.heap.size w w' := by
  have hal : Below w.heap.size w ((w.alloc (.cells #[.string x.s, .bool x.on, .int .i64 x.most, .slice q1 m1 d1] TP)).alloc (.cells #[.string y.s, .bool y.on, .int .i64 y.most, .slice q2 m2 d2] TP)) := ((Below.refl _ _).alloc (Nat.le_refl _) _).alloc (by rw [World.size_alloc]; exact Nat.le_succ _) _
  have HAL := Lib.hid hal
  obtain ⟨X, hX⟩ : ∃ X, decide (x = y) = X := ⟨_, rfl⟩
  rw [hX]
  have HE := Lib.hid (fun W (hW : Below w.heap.size w W) => eqT_any q1 q2 m1 m2 d1 d2 x.ts y.ts W hl1 hl2 hm1 hm2 (toxs_on hi1 hW) (toxs_on hi2 hW))
  have HX := Lib.hid hX
  clear hX hi1 hi2 hl1 hl2
  have hne : x ≠ y → X = false := fun h => by rw [← HX.out]; exact decide_eq_false h
  by_cases hxy : x = y
  · have HF := Lib.hid (show X = true from by rw [← HX.out]; exact decide_eq_true hxy)
    subst hxy
    have HE2 := Lib.hid (HE.out _ hal)
    rw [decide_eq_true (rfl : x.ts = x.ts)] at HE2
    clear HE hne hal
    go_enter Tryz.func61, Tryz.ntmps61
    go_wp2_with fail
    refine HE2.out.mono ?_
    rintro e w' ⟨rfl, N, rfl⟩
    go_wp2_with fail
    go_ret
    exact ⟨by rw [HF.out]; rfl, seqB HAL.out (nbelow_drewN _ N)⟩
  · have HF := Lib.hid (hne hxy)
    have hp := prx_ne hxy
    clear hxy hne
    rcases hp with h | ⟨h1, h⟩ | ⟨h1, h2, h⟩ | ⟨h1, h2, h3, h⟩
    · have g := neqL h
      clear h HE hal
      go_enter Tryz.func61, Tryz.ntmps61
      go_wp2_with fail
      go_ret
      exact ⟨by rw [HF.out]; rfl, HAL.out⟩
    · have g : (x.on == y.on) = false := by simpa using h
      have k1 : (x.s.toList == y.s.toList) = true := by rw [h1]; exact beq_self_eq_true _
      clear h HE hal h1
      go_enter Tryz.func61, Tryz.ntmps61
      go_wp2_with fail
      go_ret
      exact ⟨by rw [HF.out]; rfl, HAL.out⟩
    · have g : (x.most == y.most) = false := by simpa using h
      have g2 : decide (x.most = y.most) = false := decide_eq_false h
      have k1 : (x.s.toList == y.s.toList) = true := by rw [h1]; exact beq_self_eq_true _
      have k2 : (x.on == y.on) = true := by rw [h2]; exact beq_self_eq_true _
      clear h1 h2 HE hal
      go_enter Tryz.func61, Tryz.ntmps61
      go_wp2_with fail
      go_ret
      exact ⟨by rw [HF.out]; rfl, HAL.out⟩
    · have HE2 := Lib.hid (HE.out _ hal)
      rw [decide_eq_false h] at HE2
      have k1 : (x.s.toList == y.s.toList) = true := by rw [h1]; exact beq_self_eq_true _
      have k2 : (x.on == y.on) = true := by rw [h2]; exact beq_self_eq_true _
      have k3 : (x.most == y.most) = true := by rw [h3]; exact beq_self_eq_true _
      have k4 : decide (x.most = y.most) = true := decide_eq_true h3
      clear h h1 h2 h3 HE hal
      go_enter Tryz.func61, Tryz.ntmps61
      go_wp2_with fail
      refine HE2.out.mono ?_
      rintro e w' ⟨rfl, N, rfl⟩
      go_wp2_with fail
      go_ret
      exact ⟨by rw [HF.out]; rfl, seqB HAL.out (nbelow_drewN _ N)⟩
end Go.Proofs.YtmghkcjljnlocaaGreatDoor
