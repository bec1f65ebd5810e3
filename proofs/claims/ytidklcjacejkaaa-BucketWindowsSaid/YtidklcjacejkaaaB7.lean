/-
  Mathematics of windows: what was taken from some step to another is no more than the burst, and the rate for each tick. Conditions: as each states.
-/
import Derived.Test.YtidklcjacejkaaaB6
namespace Go.Proofs.Ytidklcjacejkaaa

def sm : List Int → Int
  | [] => 0
  | x :: r => x + sm r
theorem sm_append (l m : List Int) : sm (l ++ m) = sm l + sm m := by
  induction l with
  | nil => simp [sm]
  | cons x r ih => simp only [List.cons_append, sm, ih]; omega
theorem sm_nonneg {l : List Int} (h : ∀ g ∈ l, 0 ≤ g) : 0 ≤ sm l := by
  induction l with
  | nil => exact Int.le_refl _
  | cons x r ih =>
    have h1 := h x (by simp)
    have h2 := ih fun g hg => h g (by simp [hg])
    simp only [sm]
    omega
structure Win (r u : Int) (ats gs : List Int) (L t : Int) : Prop where
  len : ats.length = gs.length
  pos : ∀ g ∈ gs, 0 ≤ g
  lev : 0 ≤ L
  atl : ∀ i, i < ats.length → 0 ≤ ats.getD i 0 ∧ ats.getD i 0 ≤ t
  mono : ∀ i j, i ≤ j → j < ats.length → ats.getD i 0 ≤ ats.getD j 0
  tail : ∀ i, i < ats.length → sm (gs.drop i) + L ≤ u + r * (t - ats.getD i 0)
  pairs : ∀ i j, i ≤ j → j < ats.length → sm ((gs.drop i).take (j + 1 - i)) ≤ u + r * (ats.getD j 0 - ats.getD i 0)
theorem win_nil (r u L : Int) (hL : 0 ≤ L) : Win r u [] [] L 0 :=
  ⟨rfl, (fun _ h => by cases h), hL, fun i h => absurd h (Nat.not_lt_zero _), fun _ _ _ h => absurd h (Nat.not_lt_zero _), fun i h => absurd h (Nat.not_lt_zero _), fun _ _ _ h => absurd h (Nat.not_lt_zero _)⟩
theorem getD_old {l : List Int} (x : Int) {i : Nat} (h : i < l.length) : (l ++ [x]).getD i 0 = l.getD i 0 := by
  rw [List.getD_eq_getElem?_getD, List.getD_eq_getElem?_getD, List.getElem?_append_left h]
theorem getD_new (l : List Int) (x : Int) : (l ++ [x]).getD l.length 0 = x := by
  rw [List.getD_eq_getElem?_getD, List.getElem?_append_right (Nat.le_refl _), Nat.sub_self]
  rfl
theorem win_step {r u L t t' L' K D : Int} {ats gs : List Int} (h : Win r u ats gs L t) (hr : 0 ≤ r) (ht0 : 0 ≤ t) (ht : t ≤ t') (h1 : L' ≤ L + r * (t' - t)) (h2 : L' ≤ u) (hK : 0 ≤ K) (hD : 0 ≤ D) (hKD : L' - K = D) : Win r u (ats ++ [t']) (gs ++ [K]) D t' := by
  have hlen := h.len
  have hsp : ∀ a, r * (t' - a) = r * (t - a) + r * (t' - t) := fun a => by rw [← Int.mul_add]; congr 1; omega
  have hp0 : 0 ≤ r * (t' - t) := Int.mul_nonneg hr (by omega)
  have tl : ∀ i, i < ats.length → sm (gs.drop i) + K + D ≤ u + r * (t' - ats.getD i 0) := fun i hi => by
    have := h.tail i hi
    rw [hsp]
    omega
  have dr : ∀ i, i ≤ ats.length → (gs ++ [K]).drop i = gs.drop i ++ [K] := fun i hi => List.drop_append_of_le_length (by omega)
  refine ⟨by simp [hlen], fun g hg => ?_, hD, fun i hi => ?_, fun i j hij hj => ?_, fun i hi => ?_, fun i j hij hj => ?_⟩
  · rcases List.mem_append.1 hg with h3 | h3
    · exact h.pos g h3
    · rw [List.mem_singleton.1 h3]; exact hK
  · rw [List.length_append, List.length_singleton] at hi
    rcases Nat.lt_or_eq_of_le (Nat.le_of_lt_succ hi) with h3 | h3
    · rw [getD_old _ h3]
      have := h.atl i h3
      omega
    · rw [h3, getD_new]
      omega
  · rw [List.length_append, List.length_singleton] at hj
    rcases Nat.lt_or_eq_of_le (Nat.le_of_lt_succ hj) with h3 | h3
    · rw [getD_old _ h3, getD_old _ (by omega)]
      exact h.mono i j hij h3
    · subst h3
      rw [getD_new]
      rcases Nat.lt_or_eq_of_le hij with h4 | h4
      · rw [getD_old _ h4]
        have := h.atl i h4
        omega
      · rw [h4, getD_new]
        exact Int.le_refl _
  · rw [List.length_append, List.length_singleton] at hi
    rw [dr i (by omega), sm_append]
    rcases Nat.lt_or_eq_of_le (Nat.le_of_lt_succ hi) with h3 | h3
    · rw [getD_old _ h3]
      have := tl i h3
      simp only [sm]
      omega
    · subst h3
      rw [getD_new, Int.sub_self, Int.mul_zero, hlen, List.drop_length]
      simp only [sm]
      omega
  · rw [List.length_append, List.length_singleton] at hj
    rw [dr i (by omega)]
    rcases Nat.lt_or_eq_of_le (Nat.le_of_lt_succ hj) with h3 | h3
    · rw [getD_old _ h3, getD_old _ (by omega), List.take_append_of_le_length (by rw [List.length_drop]; omega)]
      exact h.pairs i j hij h3
    · subst h3
      rw [List.take_of_length_le (by rw [List.length_append, List.length_drop, List.length_singleton]; omega), sm_append, getD_new]
      rcases Nat.lt_or_eq_of_le hij with h4 | h4
      · rw [getD_old _ h4]
        have := tl i h4
        simp only [sm]
        omega
      · subst h4
        rw [getD_new, Int.sub_self, Int.mul_zero, hlen, List.drop_length]
        simp only [sm]
        omega
/-- The sum from i on, up to j; one more. -/
theorem sm_next (gs : List Int) (i j : Nat) (hij : i ≤ j) (hj : j < gs.length) : sm ((gs.drop i).take (j + 1 - i)) = sm ((gs.drop i).take (j - i)) + gs.getD j 0 := by
  rw [show j + 1 - i = (j - i) + 1 by omega, List.take_add_one, sm_append, List.getElem?_drop, show i + (j - i) = j by omega, List.getD_eq_getElem?_getD, List.getElem?_eq_getElem hj]
  simp [sm]
theorem near_add {S g : Int} (hS : 0 ≤ S) (hg : 0 ≤ g) : near (near (near S) + near g) = near (S + g) := by
  unfold near
  (repeat' split) <;> omega
end Go.Proofs.Ytidklcjacejkaaa
