/-
  The mathematics of lines: the words of a line, the line of words, and how they hang together. Conditions: as each states.
-/
import Derived.Test.YtngnkkigjlenoaaGreatDoorA
namespace Go.Proofs.YtngnkkigjlenoaaGreatDoor
open Go.RowKit

/-- May a line have these bytes? -/
def mayL (xs : List Int) : Prop := ∀ x ∈ xs, knd x ≠ 1
instance (xs : List Int) : Decidable (mayL xs) := inferInstanceAs (Decidable (∀ x ∈ xs, knd x ≠ 1))
def kL : List Int → Int
  | [] => 0
  | c :: _ => knd c
def endsL (xs : List Int) : Bool := decide (kL xs = 2 ∨ kL xs = 0)
theorem getD_drop (xs : List Int) (k : Nat) (h : k < xs.length) : xs.drop k = xs.getD k 0 :: xs.drop (k + 1) := by
  rw [List.getD_eq_getElem?_getD, List.getElem?_eq_getElem h]
  exact List.drop_eq_getElem_cons h
theorem kAt_drop (xs : List Int) (k : Nat) : kAt xs k = kL (xs.drop k) := by
  unfold kAt
  by_cases h : xs.length ≤ k
  · rw [if_pos h, List.drop_eq_nil_of_le h]
    rfl
  · rw [if_neg h, getD_drop xs k (by omega)]
    rfl
theorem endsAt_drop (xs : List Int) (k : Nat) : endsAt xs k = endsL (xs.drop k) := by unfold endsAt endsL; rw [kAt_drop]
theorem kL_pos {c : Int} {r : List Int} : 1 ≤ kL (c :: r) := (knd_range c).1
theorem ends_cons {c : Int} {r : List Int} (h : endsL (c :: r) = true) : knd c = 2 := by
  have := knd_range c
  have h' : knd c = 2 ∨ knd c = 0 := of_decide_eq_true h
  omega
theorem ends_nil : endsL [] = true := rfl
theorem ends_blank {c : Int} (h : knd c = 2) (r : List Int) : endsL (c :: r) = true := by simp [endsL, kL, h]
theorem ends_app {xs t : List Int} (h : endsL xs = true) (ht : endsL t = true) : endsL (xs ++ t) = true := by
  cases xs with
  | nil => exact ht
  | cons c r => exact ends_blank (ends_cons h) _

/-- A word between quotes: is it whole, the word, what is left. -/
def quoL : List Int → Bool × List Int × List Int
  | [] => (false, [], [])
  | [c] => if knd c = 4 then (true, [], []) else if knd c = 5 then (false, [], []) else if knd c = 1 then (false, [], [c]) else (false, [c], [])
  | c :: d :: r => if knd c = 4 then (true, [], d :: r) else if knd c = 5 then (if knd d = 4 ∨ knd d = 5 then ((quoL r).1, d :: (quoL r).2.1, (quoL r).2.2) else (false, [], d :: r))
    else if knd c = 1 then (false, [], c :: d :: r) else ((quoL (d :: r)).1, c :: (quoL (d :: r)).2.1, (quoL (d :: r)).2.2)
theorem quoL_nil : quoL [] = (false, [], []) := by unfold quoL; rfl
theorem quoL_quote {c : Int} (h : knd c = 4) (r : List Int) : quoL (c :: r) = (true, [], r) := by
  cases r with
  | nil => unfold quoL; rw [if_pos h]
  | cons d r => unfold quoL; rw [if_pos h]
theorem quoL_stroke {c d : Int} (h : knd c = 5) (hd : knd d = 4 ∨ knd d = 5) (r : List Int) : quoL (c :: d :: r) = ((quoL r).1, d :: (quoL r).2.1, (quoL r).2.2) := by
  conv => lhs; unfold quoL
  rw [if_neg (by omega), if_pos h, if_pos hd]
theorem quoL_lone {c : Int} (h : knd c = 5) {r : List Int} (hr : ¬ (kL r = 4 ∨ kL r = 5)) : quoL (c :: r) = (false, [], r) := by
  cases r with
  | nil => unfold quoL; rw [if_neg (by omega), if_pos h]
  | cons d r =>
    unfold quoL
    rw [if_neg (by omega), if_pos h]
    exact if_neg hr
theorem quoL_odd {c : Int} (h : knd c = 1) (r : List Int) : quoL (c :: r) = (false, [], c :: r) := by
  cases r with
  | nil => unfold quoL; rw [if_neg (by omega), if_neg (by omega), if_pos h]
  | cons d r => unfold quoL; rw [if_neg (by omega), if_neg (by omega), if_pos h]
theorem quoL_sign {c : Int} (h : knd c = 2 ∨ knd c = 3 ∨ knd c = 6) (r : List Int) : quoL (c :: r) = ((quoL r).1, c :: (quoL r).2.1, (quoL r).2.2) := by
  cases r with
  | nil => rw [quoL_nil]; unfold quoL; rw [if_neg (by omega), if_neg (by omega), if_neg (by omega)]
  | cons d r =>
    conv => lhs; unfold quoL
    rw [if_neg (by omega), if_neg (by omega), if_neg (by omega)]
theorem knd_cases (c : Int) : knd c = 4 ∨ knd c = 5 ∨ knd c = 1 ∨ (knd c = 2 ∨ knd c = 3 ∨ knd c = 6) := by have := knd_range c; omega
/-- One step of a word between quotes, by the signs' kinds. -/
theorem quo_ind {P : List Int → Prop} (h0 : P []) (h4 : ∀ c r, knd c = 4 → P (c :: r)) (h5 : ∀ c d r, knd c = 5 → (knd d = 4 ∨ knd d = 5) → P r → P (c :: d :: r)) (h5' : ∀ c r, knd c = 5 → ¬ (kL r = 4 ∨ kL r = 5) → P (c :: r)) (h1 : ∀ c r, knd c = 1 → P (c :: r)) (h2 : ∀ c r, (knd c = 2 ∨ knd c = 3 ∨ knd c = 6) → P r → P (c :: r)) : ∀ n, ∀ xs : List Int, xs.length ≤ n → P xs := by
  intro n
  induction n with
  | zero => intro xs hx; obtain rfl : xs = [] := List.length_eq_zero_iff.1 (by omega); exact h0
  | succ n ih =>
    intro xs hx
    cases xs with
    | nil => exact h0
    | cons c r =>
      have hr : r.length ≤ n := by simpa using hx
      rcases knd_cases c with h | h | h | h
      · exact h4 c r h
      · by_cases hk : kL r = 4 ∨ kL r = 5
        · cases r with
          | nil => simp [kL] at hk
          | cons d r => exact h5 c d r h hk (ih r (by simp at hr; omega))
        · exact h5' c r h hk
      · exact h1 c r h
      · exact h2 c r h (ih r hr)
theorem quo_suffix (xs : List Int) : (quoL xs).2.2 <:+ xs := by
  refine quo_ind (P := fun xs => (quoL xs).2.2 <:+ xs) ?_ ?_ ?_ ?_ ?_ ?_ xs.length xs (Nat.le_refl _)
  · exact List.suffix_refl _
  · intro c r h; rw [quoL_quote h]; exact List.suffix_cons _ _
  · intro c d r h hd ih; rw [quoL_stroke h hd]; exact ih.trans ((List.suffix_cons d r).trans (List.suffix_cons c _))
  · intro c r h hr; rw [quoL_lone h hr]; exact List.suffix_cons _ _
  · intro c r h; rw [quoL_odd h]; exact List.suffix_refl _
  · intro c r h ih; rw [quoL_sign h]; exact ih.trans (List.suffix_cons _ _)
theorem quo_app (t : List Int) (xs : List Int) : (quoL xs).1 = true → quoL (xs ++ t) = (true, (quoL xs).2.1, (quoL xs).2.2 ++ t) := by
  refine quo_ind (P := fun xs => (quoL xs).1 = true → quoL (xs ++ t) = (true, (quoL xs).2.1, (quoL xs).2.2 ++ t)) ?_ ?_ ?_ ?_ ?_ ?_ xs.length xs (Nat.le_refl _)
  · intro h; rw [quoL_nil] at h; cases h
  · intro c r h _; rw [quoL_quote h, List.cons_append, quoL_quote h]
  · intro c d r h hd ih he
    rw [quoL_stroke h hd] at he ⊢
    rw [List.cons_append, List.cons_append, quoL_stroke h hd, ih he]
  · intro c r h hr he; rw [quoL_lone h hr] at he; cases he
  · intro c r h he; rw [quoL_odd h] at he; cases he
  · intro c r h ih he
    rw [quoL_sign h] at he ⊢
    rw [List.cons_append, quoL_sign h, ih he]
/-- What of a word stands between quotes. -/
def escL : List Int → List Int
  | [] => []
  | c :: r => if knd c = 4 ∨ knd c = 5 then 92 :: c :: escL r else c :: escL r
theorem quo_esc (w t : List Int) (hw : mayL w) : quoL (escL w ++ 34 :: t) = (true, w, t) := by
  induction w with
  | nil => exact quoL_quote (by decide) t
  | cons c r ih =>
    have ih := ih fun x hx => hw x (List.mem_cons_of_mem _ hx)
    have hc := hw c List.mem_cons_self
    have := knd_range c
    unfold escL
    by_cases h : knd c = 4 ∨ knd c = 5
    · rw [if_pos h, List.cons_append, List.cons_append, quoL_stroke (by decide) h, ih]
    · rw [if_neg h, List.cons_append, quoL_sign (by omega), ih]

/-- A word without quotes, and what is left. -/
def bareL : List Int → List Int × List Int
  | [] => ([], [])
  | c :: r => if knd c = 6 ∨ knd c = 3 then (c :: (bareL r).1, (bareL r).2) else ([], c :: r)
theorem bare_yes {c : Int} (h : knd c = 6 ∨ knd c = 3) (r : List Int) : bareL (c :: r) = (c :: (bareL r).1, (bareL r).2) := by
  conv => lhs; unfold bareL
  rw [if_pos h]
theorem bare_no {c : Int} (h : ¬ (knd c = 6 ∨ knd c = 3)) (r : List Int) : bareL (c :: r) = ([], c :: r) := by unfold bareL; rw [if_neg h]
theorem bare_stop {r : List Int} (h : ¬ (kL r = 6 ∨ kL r = 3)) : bareL r = ([], r) := by
  cases r with
  | nil => rfl
  | cons c r => exact bare_no h r
theorem bare_join (xs : List Int) : (bareL xs).1 ++ (bareL xs).2 = xs := by
  induction xs with
  | nil => rfl
  | cons c r ih =>
    by_cases h : knd c = 6 ∨ knd c = 3
    · rw [bare_yes h, List.cons_append, ih]
    · rw [bare_no h]; rfl
theorem bare_app {xs t : List Int} (h : endsL (bareL xs).2 = true) (ht : endsL t = true) : bareL (xs ++ t) = ((bareL xs).1, (bareL xs).2 ++ t) := by
  induction xs with
  | nil =>
    refine bare_stop ?_
    show ¬ (kL t = 6 ∨ kL t = 3)
    have ht' : kL t = 2 ∨ kL t = 0 := of_decide_eq_true ht
    omega
  | cons c r ih =>
    by_cases hc : knd c = 6 ∨ knd c = 3
    · rw [bare_yes hc] at h ⊢
      rw [List.cons_append, bare_yes hc, ih h]
    · rw [bare_no hc, List.cons_append, bare_no hc]
theorem bare_word {w t : List Int} (hw : ∀ x ∈ w, knd x = 6 ∨ knd x = 3) (ht : endsL t = true) : bareL (w ++ t) = (w, t) := by
  induction w with
  | nil => exact bare_app (xs := []) rfl ht
  | cons c r ih => rw [List.cons_append, bare_yes (hw c List.mem_cons_self), ih fun x hx => hw x (List.mem_cons_of_mem _ hx)]

/-- What stands behind a sign that ends the line. -/
def remL : List Int → List Int
  | [] => []
  | c :: r => if knd c = 1 then c :: r else remL r
theorem rem_suffix (xs : List Int) : remL xs <:+ xs := by
  induction xs with
  | nil => exact List.suffix_refl _
  | cons c r ih =>
    unfold remL
    split
    · exact List.suffix_refl _
    · exact ih.trans (List.suffix_cons _ _)
theorem rem_stop {r : List Int} (h : kL r = 0 ∨ kL r = 1) : remL r = r := by
  cases r with
  | nil => rfl
  | cons c r =>
    have := knd_range c
    unfold remL
    rw [if_pos (by simpa [kL] using (by simp [kL] at h; omega : knd c = 1))]
theorem rem_go {c : Int} (h : ¬ knd c = 1) (r : List Int) : remL (c :: r) = remL r := by
  conv => lhs; unfold remL
  rw [if_neg h]
theorem rem_may {xs : List Int} (h : mayL xs) : remL xs = [] := by
  induction xs with
  | nil => rfl
  | cons c r ih => rw [rem_go (h c List.mem_cons_self)]; exact ih fun x hx => h x (List.mem_cons_of_mem _ hx)
theorem may_rem {xs : List Int} (h : remL xs = []) : mayL xs := by
  induction xs with
  | nil => intro x hx; cases hx
  | cons c r ih =>
    by_cases hc : knd c = 1
    · unfold remL at h
      rw [if_pos hc] at h
      cases h
    · rw [rem_go hc] at h
      intro x hx
      rcases List.mem_cons.1 hx with rfl | hx
      · exact hc
      · exact ih h x hx
theorem rem_head (xs : List Int) : remL xs = [] ∨ kL (remL xs) = 1 := by
  induction xs with
  | nil => exact Or.inl rfl
  | cons c r ih =>
    by_cases hc : knd c = 1
    · exact Or.inr (by unfold remL; rw [if_pos hc]; exact hc)
    · rw [rem_go hc]; exact ih
theorem rem_app {xs : List Int} (t : List Int) (h : remL xs = []) : remL (xs ++ t) = remL t := by
  induction xs with
  | nil => rfl
  | cons c r ih =>
    by_cases hc : knd c = 1
    · unfold remL at h
      rw [if_pos hc] at h
      cases h
    · rw [rem_go hc] at h
      rw [List.cons_append, rem_go hc]
      exact ih h

/-- What a line is: its words, or what is left where it is amiss, and the error. -/
inductive Out
  | ok (ws : List (List Int))
  | bad (rest : List Int) (e : Int)
/-- The words of a line behind those that were there. -/
def spl : Nat → List (List Int) → List Int → Out
  | 0, ws, _ => .ok ws
  | _ + 1, ws, [] => .ok ws
  | f + 1, ws, c :: r =>
    if knd c = 1 then .bad (c :: r) 150
    else if knd c = 2 then spl f ws r
    else if knd c = 3 then spl f ws (remL (c :: r))
    else if ws.length = 16 then .bad (c :: r) 151
    else if knd c = 4 then (if (quoL r).1 && endsL (quoL r).2.2 then spl f (ws ++ [(quoL r).2.1]) (quoL r).2.2 else .bad (quoL r).2.2 150)
    else if endsL (bareL (c :: r)).2 then spl f (ws ++ [(bareL (c :: r)).1]) (bareL (c :: r)).2 else .bad (bareL (c :: r)).2 150
theorem suf_len {a b : List Int} (h : a <:+ b) : a.length ≤ b.length := h.length_le
theorem bare_len {c : Int} {r : List Int} (h : endsL (bareL (c :: r)).2 = true) (h2 : ¬ knd c = 2) : (bareL (c :: r)).2.length ≤ r.length := by
  by_cases hc : knd c = 6 ∨ knd c = 3
  · rw [bare_yes hc]
    have := congrArg List.length (bare_join r)
    rw [List.length_append] at this
    show (bareL r).2.length ≤ _
    omega
  · rw [bare_no hc] at h
    exact absurd (ends_cons h) h2
theorem rem_len {c : Int} {r : List Int} (h : ¬ knd c = 1) : (remL (c :: r)).length ≤ r.length := by rw [rem_go h]; exact suf_len (rem_suffix r)
theorem spl_fuel (f : Nat) : ∀ (g : Nat) (ws : List (List Int)) (xs : List Int), xs.length < f → xs.length < g → spl f ws xs = spl g ws xs := by
  induction f with
  | zero => intro g ws xs h; omega
  | succ f ih =>
    intro g ws xs hf hg
    obtain ⟨g, rfl⟩ : ∃ g', g = g' + 1 := ⟨g - 1, by omega⟩
    cases xs with
    | nil => rfl
    | cons c r =>
      simp only [List.length_cons] at hf hg
      unfold spl
      by_cases h1 : knd c = 1
      · rw [if_pos h1, if_pos h1]
      by_cases h2 : knd c = 2
      · rw [if_neg h1, if_neg h1, if_pos h2, if_pos h2]
        exact ih g ws r (by omega) (by omega)
      by_cases h3 : knd c = 3
      · rw [if_neg h1, if_neg h1, if_neg h2, if_neg h2, if_pos h3, if_pos h3]
        have := rem_len (r := r) h1
        exact ih g ws _ (by omega) (by omega)
      by_cases hl : ws.length = 16
      · rw [if_neg h1, if_neg h1, if_neg h2, if_neg h2, if_neg h3, if_neg h3, if_pos hl, if_pos hl]
      by_cases h4 : knd c = 4
      · rw [if_neg h1, if_neg h1, if_neg h2, if_neg h2, if_neg h3, if_neg h3, if_neg hl, if_neg hl, if_pos h4, if_pos h4]
        split
        · have := suf_len (quo_suffix r)
          exact ih g _ _ (by omega) (by omega)
        · rfl
      · rw [if_neg h1, if_neg h1, if_neg h2, if_neg h2, if_neg h3, if_neg h3, if_neg hl, if_neg hl, if_neg h4, if_neg h4]
        split
        · next he =>
          have := bare_len he h2
          exact ih g _ _ (by omega) (by omega)
        · rfl
/-- The words of the rest of a line. -/
def spS (ws : List (List Int)) (xs : List Int) : Out := spl (xs.length + 1) ws xs
theorem spS_of {f : Nat} {ws : List (List Int)} {xs : List Int} (h : xs.length < f) : spl f ws xs = spS ws xs := spl_fuel _ _ _ _ h (by omega)
theorem spS_nil (ws : List (List Int)) : spS ws [] = .ok ws := rfl
theorem spS_odd {ws : List (List Int)} {c : Int} {r : List Int} (h : knd c = 1) : spS ws (c :: r) = .bad (c :: r) 150 := by unfold spS spl; rw [if_pos h]
theorem spS_gap {ws : List (List Int)} {c : Int} {r : List Int} (h : knd c = 2) : spS ws (c :: r) = spS ws r := by
  conv => lhs; unfold spS spl
  rw [if_neg (by omega), if_pos h]
  exact spS_of (by simp)
theorem spS_hash {ws : List (List Int)} {c : Int} {r : List Int} (h : knd c = 3) : spS ws (c :: r) = spS ws (remL (c :: r)) := by
  conv => lhs; unfold spS spl
  rw [if_neg (by omega), if_neg (by omega), if_pos h]
  have := rem_len (c := c) (r := r) (by omega)
  exact spS_of (by simp; omega)
theorem spS_many {ws : List (List Int)} {c : Int} {r : List Int} (h : ¬ (knd c = 1 ∨ knd c = 2 ∨ knd c = 3)) (hl : ws.length = 16) : spS ws (c :: r) = .bad (c :: r) 151 := by
  unfold spS spl
  rw [if_neg (by omega), if_neg (by omega), if_neg (by omega), if_pos hl]
theorem spS_quote {ws : List (List Int)} {c : Int} {r : List Int} (h : knd c = 4) (hl : ¬ ws.length = 16) : spS ws (c :: r) = if (quoL r).1 && endsL (quoL r).2.2 then spS (ws ++ [(quoL r).2.1]) (quoL r).2.2 else .bad (quoL r).2.2 150 := by
  conv => lhs; unfold spS spl
  rw [if_neg (by omega), if_neg (by omega), if_neg (by omega), if_neg hl, if_pos h]
  split
  · have := suf_len (quo_suffix r)
    exact spS_of (by simp; omega)
  · rfl
theorem spS_bare {ws : List (List Int)} {c : Int} {r : List Int} (h : knd c = 5 ∨ knd c = 6) (hl : ¬ ws.length = 16) : spS ws (c :: r) = if endsL (bareL (c :: r)).2 then spS (ws ++ [(bareL (c :: r)).1]) (bareL (c :: r)).2 else .bad (bareL (c :: r)).2 150 := by
  conv => lhs; unfold spS spl
  rw [if_neg (by omega), if_neg (by omega), if_neg (by omega), if_neg hl, if_neg (by omega)]
  split
  · next he =>
    have := bare_len he (by omega)
    exact spS_of (by simp; omega)
  · rfl

/-! What stands behind. -/
theorem spS_rest (t : List Int) (n : Nat) : ∀ (ws : List (List Int)) (xs : List Int) (l : List (List Int)), xs.length ≤ n → spS ws xs = .ok l → spS ws (xs ++ 32 :: 35 :: t) = spS l (remL t) := by
  have ht : endsL (32 :: 35 :: t) = true := ends_blank (by decide) _
  induction n with
  | zero =>
    intro ws xs l hx h
    obtain rfl : xs = [] := List.length_eq_zero_iff.1 (by omega)
    obtain rfl : ws = l := by simpa [spS_nil] using h
    rw [List.nil_append, spS_gap (by decide), spS_hash (by decide), rem_go (by decide)]
  | succ n ih =>
    intro ws xs l hx h
    cases xs with
    | nil =>
      obtain rfl : ws = l := by simpa [spS_nil] using h
      rw [List.nil_append, spS_gap (by decide), spS_hash (by decide), rem_go (by decide)]
    | cons c r =>
      have hr : r.length ≤ n := by simpa using hx
      rw [List.cons_append]
      have hc := knd_range c
      by_cases h1 : knd c = 1
      · rw [spS_odd h1] at h; cases h
      by_cases h2 : knd c = 2
      · rw [spS_gap h2] at h ⊢
        exact ih ws r l hr h
      by_cases h3 : knd c = 3
      · rw [spS_hash h3] at h ⊢
        rcases rem_head (c :: r) with h0 | h0
        · rw [h0] at h
          obtain rfl : ws = l := by simpa [spS_nil] using h
          rw [← List.cons_append, rem_app _ h0, rem_go (by decide), rem_go (by decide)]
        · generalize remL (c :: r) = y at h h0
          cases y with
          | nil => simp [kL] at h0
          | cons d y => rw [spS_odd h0] at h; cases h
      by_cases hl : ws.length = 16
      · rw [spS_many (by omega) hl] at h; cases h
      by_cases h4 : knd c = 4
      · rw [spS_quote h4 hl] at h ⊢
        by_cases hq : ((quoL r).1 && endsL (quoL r).2.2) = true
        · rw [if_pos hq] at h
          have hq' := hq
          rw [Bool.and_eq_true] at hq'
          rw [quo_app _ r hq'.1]
          simp only []
          rw [if_pos (by rw [Bool.true_and]; exact ends_app hq'.2 ht)]
          have := suf_len (quo_suffix r)
          exact ih _ _ l (by omega) h
        · rw [if_neg hq] at h; cases h
      · rw [spS_bare (by omega) hl] at h ⊢
        by_cases hq : endsL (bareL (c :: r)).2 = true
        · rw [if_pos hq] at h
          rw [← List.cons_append, bare_app hq ht]
          simp only []
          rw [if_pos (ends_app hq ht)]
          have := bare_len hq h2
          exact ih _ _ l (by omega) h
        · rw [if_neg hq] at h; cases h

/-! The line of words. -/
def plainL (w : List Int) : Bool := decide (w ≠ [] ∧ kL w ≠ 3 ∧ ∀ x ∈ w, knd x = 6 ∨ knd x = 3)
def wrtL (w : List Int) : List Int := if plainL w then w else 34 :: (escL w ++ [34])
theorem wrt_ne (w : List Int) : wrtL w ≠ [] := by
  unfold wrtL
  split
  · next h => unfold plainL at h; exact (of_decide_eq_true h).1
  · simp
/-- The line of words behind one that is there. -/
def addL (x w : List Int) : List Int := (if x = [] then [] else x ++ [32]) ++ wrtL w
def linL (l : List (List Int)) : List Int := l.foldl addL []
theorem add_ne (x w : List Int) : addL x w ≠ [] := by
  unfold addL
  have := wrt_ne w
  simp [this]
theorem spS_word {ws : List (List Int)} {w t : List Int} (hw : mayL w) (ht : endsL t = true) (hl : ¬ ws.length = 16) : spS ws (wrtL w ++ t) = spS (ws ++ [w]) t := by
  unfold wrtL
  by_cases hp : plainL w = true
  · rw [if_pos hp]
    have hp' := of_decide_eq_true hp
    obtain ⟨h1, h2, h3⟩ := hp'
    cases w with
    | nil => exact absurd rfl h1
    | cons c r =>
      have h6 : knd c = 6 := by
        have := h3 c List.mem_cons_self
        simp [kL] at h2
        omega
      have hb := bare_word h3 ht
      rw [List.cons_append] at hb ⊢
      rw [spS_bare (Or.inr h6) hl, hb]
      simp only []
      rw [if_pos ht]
  · rw [if_neg hp, List.cons_append, List.append_assoc, spS_quote (by decide) hl, show [34] ++ t = 34 :: t from rfl, quo_esc w t hw]
    simp [ht]
theorem spS_gaps {ws : List (List Int)} {g : List Int} (hg : ∀ x ∈ g, knd x = 2) (t : List Int) : spS ws (g ++ t) = spS ws t := by
  induction g with
  | nil => rfl
  | cons c r ih => rw [List.cons_append, spS_gap (hg c List.mem_cons_self)]; exact ih fun x hx => hg x (List.mem_cons_of_mem _ hx)
theorem foldl_add (l : List (List Int)) : ∀ x, l ≠ [] → l.foldl addL x = (if x = [] then [] else x ++ [32]) ++ linL l := by
  induction l with
  | nil => intro x h; exact absurd rfl h
  | cons w l ih =>
    intro x _
    cases l with
    | nil => show addL x w = _ ++ addL [] w; unfold addL; simp
    | cons v l =>
      rw [List.foldl_cons, ih (addL x w) (by simp), if_neg (add_ne x w)]
      show _ = _ ++ (v :: l).foldl addL (addL [] w)
      rw [ih (addL [] w) (by simp), if_neg (add_ne [] w)]
      unfold addL
      simp
theorem spS_line (l : List (List Int)) : ∀ (ws : List (List Int)) (t : List Int), (∀ w ∈ l, mayL w) → ws.length + l.length ≤ 16 → endsL t = true → spS ws (linL l ++ t) = spS (ws ++ l) t := by
  induction l with
  | nil => intro ws t _ _ _; rw [List.append_nil]; rfl
  | cons w l ih =>
    intro ws t hm hl ht
    rw [List.length_cons] at hl
    have hw := hm w List.mem_cons_self
    cases l with
    | nil =>
      have : linL [w] = wrtL w := by show addL [] w = _; unfold addL; simp
      rw [this, spS_word hw ht (by omega)]
    | cons v l =>
      have h1 : linL (w :: v :: l) = wrtL w ++ 32 :: linL (v :: l) := by
        show (v :: l).foldl addL (addL [] w) = _
        rw [foldl_add _ _ (by simp), if_neg (add_ne _ _)]
        unfold addL
        simp
      rw [h1, List.append_assoc, List.cons_append, spS_word hw (ends_blank (by decide) _) (by omega), spS_gap (by decide), ih (ws ++ [w]) t (fun x hx => hm x (List.mem_cons_of_mem _ hx)) (by simp at hl ⊢; omega) ht]
      simp
/-- The line of words, as Join tells it. -/
def joinW (l : List (List Int)) : List Int := if 16 < l.length ∨ (∃ w ∈ l, ¬ mayL w) ∨ 256 < (linL l).length then [] else linL l
theorem join_back {l : List (List Int)} {a b : List Int} (h : joinW l ≠ []) (ha : ∀ x ∈ a, knd x = 2) (hb : ∀ x ∈ b, knd x = 2) : spS [] (a ++ joinW l ++ b) = .ok l := by
  unfold joinW at h ⊢
  by_cases hc : 16 < l.length ∨ (∃ w ∈ l, ¬ mayL w) ∨ 256 < (linL l).length
  · rw [if_pos hc] at h; exact absurd rfl h
  · rw [if_neg hc, List.append_assoc, spS_gaps ha]
    have hm : ∀ w ∈ l, mayL w := fun w hw => Classical.byContradiction fun hn => hc (Or.inr (Or.inl ⟨w, hw, hn⟩))
    have hbe : endsL b = true := by
      cases b with
      | nil => rfl
      | cons c r => exact ends_blank (hb c List.mem_cons_self) r
    have h2 : ([] : List (List Int)).length + l.length ≤ 16 := by simp; omega
    rw [spS_line l [] b hm h2 hbe, List.nil_append]
    have := spS_gaps (ws := l) hb []
    rw [List.append_nil] at this
    rw [this, spS_nil]
theorem join_nil : joinW [] = [] := by unfold joinW; split <;> rfl
end Go.Proofs.YtngnkkigjlenoaaGreatDoor
