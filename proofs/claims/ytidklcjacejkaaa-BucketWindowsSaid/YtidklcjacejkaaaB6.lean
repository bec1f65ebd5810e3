/-
  Mathematics of buckets: ticks that pass one by one, the least tick, a greater rate or burst. Conditions: as each states.
-/
import Derived.Test.YtidklcjacejkaaaB5
namespace Go.Proofs.Ytidklcjacejkaaa
open Go.RowKit

theorem near_mono {m n : Int} (h : m ≤ n) : near m ≤ near n := by unfold near; (repeat' split) <;> omega
theorem lvl_lvl {r u l t a b : Int} (hr : 0 ≤ r) (ha : t ≤ a) (hb : a ≤ b) : lvl r u (lvl r u l t a) a b = lvl r u l t b := by
  have h1 : 0 ≤ r * (a - t) := Int.mul_nonneg hr (by omega)
  have h2 : 0 ≤ r * (b - a) := Int.mul_nonneg hr (by omega)
  have h3 : r * (b - t) = r * (a - t) + r * (b - a) := by rw [← Int.mul_add]; congr 1; omega
  unfold lvl
  rw [h3]
  generalize r * (a - t) = P at *
  generalize r * (b - a) = Q at *
  (repeat' split) <;> omega
theorem fill_same {r u l t now : Int} (h : ¬ t < near now) : fillL r u l t now = l ∧ fillT r u l t now = t := by
  unfold fillL fillT
  rw [if_neg (fun h' => h h'.2), if_neg (fun h' => h h'.2)]
  exact ⟨rfl, rfl⟩
theorem fill_steps {r u l t : Int} (h : rightB r u l t = true) {m n : Int} (hmn : m ≤ n) :
    fillL r u (fillL r u l t m) (fillT r u l t m) n = fillL r u l t n ∧ fillT r u (fillL r u l t m) (fillT r u l t m) n = fillT r u l t n := by
  have hr := (rightB_iff r u l t).1 h
  have hab := near_mono hmn
  have h' := fill_right h m
  by_cases h0 : ¬ t < near m
  · rw [(fill_same h0).1, (fill_same h0).2]
    exact ⟨rfl, rfl⟩
  unfold fillL fillT at h' ⊢
  generalize near m = a at *
  generalize near n = b at *
  by_cases h1 : t < a
  · have c1 : rightB r u l t = true ∧ t < a := ⟨h, h1⟩
    have c2 : rightB r u l t = true ∧ t < b := ⟨h, by omega⟩
    simp only [if_pos c1, if_pos c2] at h' ⊢
    by_cases h2 : a < b
    · have c3 : rightB r u (lvl r u l t a) a = true ∧ a < b := ⟨h', h2⟩
      rw [if_pos c3, if_pos c3]
      exact ⟨lvl_lvl hr.1.1 (by omega) (by omega), rfl⟩
    · obtain rfl : a = b := by omega
      have c3 : ¬ (rightB r u (lvl r u l t a) a = true ∧ a < a) := fun h => by omega
      rw [if_neg c3, if_neg c3]
      exact ⟨rfl, rfl⟩
  · exact absurd h1 h0
theorem fill_back {r u l t : Int} {m n : Int} (h : rightB r u l t = true) (hmn : m ≤ n) :
    fillL r u (fillL r u l t n) (fillT r u l t n) m = fillL r u l t n ∧ fillT r u (fillL r u l t n) (fillT r u l t n) m = fillT r u l t n := by
  have hab := near_mono hmn
  have hT : ¬ fillT r u l t n < near m := by
    unfold fillT
    by_cases h1 : t < near n
    · rw [if_pos ⟨h, h1⟩]; omega
    · rw [if_neg (fun h => h1 h.2)]; omega
  exact fill_same hT
theorem when_ex {r u l t n : Int} (h : rightB r u l t = true) (hn : n ≤ fillL r u l t 1099511627776) : ∃ x, IsW r u l t n x := by
  have hr := (rightB_iff r u l t).1 h
  have key : ∀ (k : Nat), n ≤ fillL r u l t (t + k) → t + k ≤ 1099511627776 → ∃ x, IsW r u l t n x := by
    intro k
    induction k with
    | zero =>
      intro h1 h2
      exact ⟨t, Int.le_refl _, by omega, by simpa using h1, fun y a b => by omega⟩
    | succ k ih =>
      intro h1 h2
      by_cases h3 : n ≤ fillL r u l t (t + k)
      · exact ih h3 (by omega)
      · refine ⟨t + (k + 1 : Nat), by omega, h2, h1, fun y a b => ?_⟩
        have := fill_mono h a (show y ≤ t + k by omega) (by omega)
        omega
  refine key (1099511627776 - t).toNat ?_ (by omega)
  rw [show t + ((1099511627776 - t).toNat : Int) = 1099511627776 by omega]
  exact hn
theorem take_range {L n : Int} (hL : 0 ≤ L) : 0 ≤ takeB L n ∧ takeB L n ≤ L ∧ (0 ≤ n → takeB L n ≤ n) ∧ (n ≤ 0 → takeB L n = 0) ∧ (n ≤ 0 ∨ takeB L n = n ∨ L - takeB L n = 0) := by
  unfold takeB
  refine ⟨?_, ?_, ?_, ?_, ?_⟩ <;> (repeat' split) <;> omega
/-- A level less by what was taken is right, too. -/
theorem less_right {r u l t k : Int} (h : rightB r u l t = true) (h0 : 0 ≤ k) (h1 : k ≤ l) : rightB r u (l - k) t = true := by
  have hr := (rightB_iff r u l t).1 h
  rw [rightB_iff]
  exact ⟨hr.1, hr.2.1, ⟨by omega, by omega⟩, hr.2.2.2.1, hr.2.2.2.2.1, by omega⟩
theorem fillT_ge {r u l t now : Int} (h : rightB r u l t = true) : ¬ fillT r u l t now < near now := by
  unfold fillT
  by_cases h1 : t < near now
  · rw [if_pos ⟨h, h1⟩]; omega
  · rw [if_neg (fun h => h1 h.2)]; exact h1
theorem add_more {a m : Int} (ha : 0 ≤ a ∧ a ≤ 1099511627776) (hm : 0 ≤ m) : a ≤ near (near a + near m) ∧ near (near a + near m) ≤ 1099511627776 := by
  rw [near_of a ha.1 ha.2]
  have := near_range m
  unfold near at *
  (repeat' split at *) <;> omega
theorem more_right {r u l t r' u' : Int} (h : rightB r u l t = true) (h1 : r ≤ r' ∧ r' ≤ 1099511627776) (h2 : u ≤ u' ∧ u' ≤ 1099511627776) : rightB r' u' l t = true := by
  have hr := (rightB_iff r u l t).1 h
  rw [rightB_iff]
  exact ⟨⟨by omega, h1.2⟩, ⟨by omega, h2.2⟩, hr.2.2.1, hr.2.2.2.1, by omega, by omega⟩
theorem more_fill {r u l t r' u' : Int} (h : rightB r u l t = true) (h1 : r ≤ r' ∧ r' ≤ 1099511627776) (h2 : u ≤ u' ∧ u' ≤ 1099511627776) (now : Int) : fillL r u l t now ≤ fillL r' u' l t now := by
  have hr := (rightB_iff r u l t).1 h
  have h' := more_right h h1 h2
  unfold fillL
  by_cases hc : t < near now
  · rw [if_pos ⟨h, hc⟩, if_pos ⟨h', hc⟩]
    have hm : r * (near now - t) ≤ r' * (near now - t) := Int.mul_le_mul_of_nonneg_right h1.1 (by omega)
    unfold lvl
    generalize r * (near now - t) = P at *
    generalize r' * (near now - t) = Q at *
    (repeat' split) <;> omega
  · rw [if_neg (fun h => hc h.2), if_neg (fun h => hc h.2)]
    exact Int.le_refl _
theorem more_most {r u l t r' u' : Int} (h : rightB r u l t = true) (h1 : r ≤ r' ∧ r' ≤ 1099511627776) (h2 : u ≤ u' ∧ u' ≤ 1099511627776) (k : Int) : mostV r u l t k ≤ mostV r' u' l t k := by
  have hr := (rightB_iff r u l t).1 h
  have h' := more_right h h1 h2
  unfold mostV
  rw [if_pos h, if_pos h']
  have hk := near_range k
  have e1 : near r * near k ≤ near r' * near k := Int.mul_le_mul_of_nonneg_right (near_mono h1.1) hk.1
  have e2 := near_mono (near_mono e1)
  have e3 := near_mono h2.1
  exact near_mono (by omega)
/-! A window of ticks. -/
/-- What is taken is no more than there was, and what has come since. -/
theorem window_step {r u l t now L T : Int} (h : rightB r u l t = true) (hL : fillL r u l t now = L) (hT : fillT r u l t now = T) (htn : t ≤ near now) : T = near now ∧ L ≤ l + r * (T - t) ∧ L ≤ u ∧ 0 ≤ L := by
  have hr := (rightB_iff r u l t).1 h
  subst hL hT
  unfold fillL fillT
  by_cases hc : t < near now
  · rw [if_pos ⟨h, hc⟩, if_pos ⟨h, hc⟩]
    have hp : 0 ≤ r * (near now - t) := Int.mul_nonneg hr.1.1 (by omega)
    unfold lvl
    refine ⟨rfl, ?_, ?_, ?_⟩ <;> split <;> omega
  · rw [if_neg (fun h => hc h.2), if_neg (fun h => hc h.2)]
    refine ⟨by omega, ?_, hr.2.2.2.2.2, hr.2.2.1.1⟩
    rw [Int.sub_self, Int.mul_zero]
    omega
theorem near_le {x y : Int} (hx : 0 ≤ x) (h : x ≤ y) : near x ≤ y := by
  unfold near
  (repeat' split) <;> omega
theorem most_fits {r u s d : Int} (hr : 0 ≤ r ∧ r ≤ 1099511627776) (hu : 0 ≤ u ∧ u ≤ 1099511627776) (hd : 0 ≤ d ∧ d ≤ 1099511627776) (h0 : 0 ≤ s) (hs : s ≤ u + r * d) : near s ≤ near (near u + near (near (near r * near d))) := by
  rw [near_of u hu.1 hu.2, near_of r hr.1 hr.2, near_of d hd.1 hd.2]
  have hp : 0 ≤ r * d := Int.mul_nonneg hr.1 hd.1
  generalize r * d = P at *
  unfold near
  (repeat' split) <;> omega
end Go.Proofs.Ytidklcjacejkaaa
