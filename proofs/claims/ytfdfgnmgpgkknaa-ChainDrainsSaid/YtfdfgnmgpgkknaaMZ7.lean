/-
  Mathematics of bytes with ticks, told as pieces of one tick each, as few as can be. Conditions: as each states.
-/
import Derived.Test.YtfdfgnmgpgkknaaMZ4
namespace Go.Proofs.Ytfdfgnmgpgkknaa.gc

def bytesOf' (ps : List Pc) : List Int := ps.flatMap fun p => nums p.2
def tkOf (ps : List Pc) : List Int := ps.flatMap fun p => List.replicate p.2.size p.1
/-- One more text for a tick, behind the others. -/
def stepR (ps : List Pc) (t : Int) (b : ByteArray) : List Pc :=
  match ps.getLast? with
  | some d => if d.1 = t then ps.dropLast ++ [(d.1, d.2 ++ b)] else ps ++ [(t, b)]
  | none => [(t, b)]
/-- The pieces of the first bytes. -/
def runsK (S : ByteArray) (A : List Int) : Nat → List Pc
  | 0 => []
  | k + 1 => stepR (runsK S A k) (A.getD k 0) (S.extract k (k + 1))
/-- Pieces as few as can be: none is empty, their ticks rise. -/
def Good (ps : List Pc) : Prop := (∀ p ∈ ps, 0 < p.2.size) ∧ ps.Pairwise fun p q => p.1 < q.1
theorem good_nil : Good [] := ⟨fun _ h => (by cases h), List.Pairwise.nil⟩
theorem append_nums' (s t : ByteArray) : nums (s ++ t) = nums s ++ nums t := by
  conv => lhs; rw [← str_nums s, ← str_nums t, str_append]
  exact nums_str _ ((nums_all s).append (nums_all t))
theorem append_size' (s t : ByteArray) : (s ++ t).size = s.size + t.size := by rw [← nums_length, append_nums', List.length_append, nums_length, nums_length]
theorem nums_inj' {s t : ByteArray} (h : nums s = nums t) : s = t := by rw [← str_nums s, h, str_nums]
theorem last_split {ps : List Pc} {d : Pc} (h : ps.getLast? = some d) : ps = ps.dropLast ++ [d] := by
  obtain ⟨ys, rfl⟩ := List.getLast?_eq_some_iff.1 h
  simp
theorem step_none {ps : List Pc} (h : ps = []) (t : Int) (b : ByteArray) : stepR ps t b = [(t, b)] := by subst h; rfl
theorem step_same {ps : List Pc} {d : Pc} (h : ps.getLast? = some d) {t : Int} (ht : d.1 = t) (b : ByteArray) : stepR ps t b = ps.dropLast ++ [(d.1, d.2 ++ b)] := by unfold stepR; rw [h]; simp [ht]
theorem step_more {ps : List Pc} {t : Int} (h : ∀ d, ps.getLast? = some d → d.1 ≠ t) (b : ByteArray) : stepR ps t b = ps ++ [(t, b)] := by
  unfold stepR
  cases e : ps.getLast? with
  | none => rw [List.getLast?_eq_none_iff] at e; subst e; rfl
  | some d => simp [h d e]
theorem step_cases (ps : List Pc) (t : Int) (b : ByteArray) : (∃ d, ps.getLast? = some d ∧ d.1 = t ∧ stepR ps t b = ps.dropLast ++ [(d.1, d.2 ++ b)]) ∨ ((∀ d, ps.getLast? = some d → d.1 ≠ t) ∧ stepR ps t b = ps ++ [(t, b)]) := by
  cases e : ps.getLast? with
  | none => exact Or.inr ⟨fun d h => (by cases h), step_more (fun d h => by rw [e] at h; cases h) b⟩
  | some d =>
    by_cases ht : d.1 = t
    · exact Or.inl ⟨d, rfl, ht, step_same e ht b⟩
    · exact Or.inr ⟨fun d' h => (by cases h; exact ht), step_more (fun d' h => by rw [e] at h; cases h; exact ht) b⟩
theorem step_bytes (ps : List Pc) (t : Int) (b : ByteArray) : bytesOf' (stepR ps t b) = bytesOf' ps ++ nums b := by
  rcases step_cases ps t b with ⟨d, h, ht, e⟩ | ⟨_, e⟩
  · rw [e]
    conv => rhs; rw [last_split h]
    simp [bytesOf', append_nums']
  · rw [e]
    simp [bytesOf']
theorem step_tk (ps : List Pc) (t : Int) (b : ByteArray) : tkOf (stepR ps t b) = tkOf ps ++ List.replicate b.size t := by
  rcases step_cases ps t b with ⟨d, h, ht, e⟩ | ⟨_, e⟩
  · rw [e]
    conv => rhs; rw [last_split h]
    simp [tkOf, ← ht]
  · rw [e]
    simp [tkOf]
theorem step_last (ps : List Pc) (t : Int) (b : ByteArray) : ∃ d, (stepR ps t b).getLast? = some d ∧ d.1 = t := by
  rcases step_cases ps t b with ⟨d, h, ht, e⟩ | ⟨_, e⟩
  · exact ⟨(d.1, d.2 ++ b), by rw [e]; simp, ht⟩
  · exact ⟨(t, b), by rw [e]; simp, rfl⟩
theorem step_length (ps : List Pc) (t : Int) (b : ByteArray) : (stepR ps t b).length ≤ ps.length + 1 := by
  rcases step_cases ps t b with ⟨d, h, ht, e⟩ | ⟨_, e⟩
  · rw [e]
    simp
  · rw [e]
    simp
theorem step_good {ps : List Pc} {t : Int} {b : ByteArray} (h : Good ps) (hb : 0 < b.size) (hl : ∀ d ∈ ps, d.1 ≤ t) : Good (stepR ps t b) := by
  rcases step_cases ps t b with ⟨d, hd, ht, e⟩ | ⟨hne, e⟩
  · rw [e]
    have h1 := h
    rw [last_split hd] at h1
    obtain ⟨g1, g2⟩ := h1
    rw [List.pairwise_append] at g2
    refine ⟨fun p hp => ?_, ?_⟩
    · rcases List.mem_append.1 hp with hp | hp
      · exact g1 p (List.mem_append_left _ hp)
      · rw [List.mem_singleton] at hp
        subst hp
        show 0 < (d.2 ++ b).size
        rw [append_size']
        omega
    · rw [List.pairwise_append]
      refine ⟨g2.1, List.pairwise_singleton _ _, fun p hp q hq => ?_⟩
      rw [List.mem_singleton] at hq
      subst hq
      exact g2.2.2 p hp d (List.mem_singleton.2 rfl)
  · rw [e]
    refine ⟨fun p hp => ?_, ?_⟩
    · rcases List.mem_append.1 hp with hp | hp
      · exact h.1 p hp
      · rw [List.mem_singleton] at hp
        subst hp
        exact hb
    · rw [List.pairwise_append]
      refine ⟨h.2, List.pairwise_singleton _ _, fun p hp q hq => ?_⟩
      rw [List.mem_singleton] at hq
      subst hq
      have h1 := hl p hp
      rcases Int.lt_or_eq_of_le h1 with h2 | h2
      · exact h2
      · exfalso
        cases el : ps.getLast? with
        | none => rw [List.getLast?_eq_none_iff] at el; subst el; cases hp
        | some d =>
          have hdm : d ∈ ps := List.mem_of_getLast? el
          have hdt := hl d hdm
          have hdn := hne d el
          have h3 := h.2
          rw [last_split el] at h3 hp
          rcases List.mem_append.1 hp with hp | hp
          · have := (List.pairwise_append.1 h3).2.2 p hp d (List.mem_singleton.2 rfl)
            omega
          · rw [List.mem_singleton] at hp
            subst hp
            exact hdn h2
theorem tk_le {ps : List Pc} {t : Int} (h : ∀ x ∈ tkOf ps, x ≤ t) (hp : ∀ p ∈ ps, 0 < p.2.size) : ∀ d ∈ ps, d.1 ≤ t := fun d hd => by
  refine h d.1 (List.mem_flatMap.2 ⟨d, hd, ?_⟩)
  rw [List.mem_replicate]
  have := hp d hd
  exact ⟨by omega, rfl⟩
/-- Rows of ticks that never fall. -/
def Up (A : List Int) : Prop := A.Pairwise fun x y => x ≤ y
theorem up_take {A : List Int} (h : Up A) (k : Nat) : Up (A.take k) := List.Pairwise.sublist (List.take_sublist k A) h
theorem up_drop {A : List Int} (h : Up A) (k : Nat) : Up (A.drop k) := List.Pairwise.sublist (List.drop_sublist k A) h
theorem up_le {A : List Int} (h : Up A) {k : Nat} (hk : k < A.length) : ∀ x ∈ A.take k, x ≤ A.getD k 0 := fun x hx => by
  have e := List.take_append_drop k A
  have h' := h
  unfold Up at h'
  rw [← e, List.pairwise_append] at h'
  refine h'.2.2 x hx _ ?_
  rw [List.getD_eq_getElem?_getD, List.getElem?_eq_getElem hk]
  show A[k] ∈ A.drop k
  rw [List.drop_eq_getElem_cons hk]
  exact List.mem_cons_self
theorem ext_nums (S : ByteArray) (i j : Nat) : nums (S.extract i j) = ((nums S).drop i).take (j - i) := by
  unfold nums
  simp [List.map_take, List.map_drop]
theorem runs_all (S : ByteArray) (A : List Int) (n : Nat) (hS : S.size = n) (hA : A.length = n) (k : Nat) (hk : k ≤ n) :
    bytesOf' (runsK S A k) = (nums S).take k ∧ tkOf (runsK S A k) = A.take k ∧ (runsK S A k).length ≤ k ∧ (0 < k → ∃ d, (runsK S A k).getLast? = some d ∧ d.1 = A.getD (k - 1) 0) ∧ (Up A → Good (runsK S A k)) := by
  induction k with
  | zero => exact ⟨rfl, rfl, Nat.le_refl _, fun h => absurd h (Nat.lt_irrefl _), fun _ => good_nil⟩
  | succ k ih =>
    obtain ⟨h1, h2, h3, h4, h5⟩ := ih (by omega)
    have hn1 : nums (S.extract k (k + 1)) = [(nums S).getD k 0] := by
      rw [ext_nums, show k + 1 - k = 1 by omega, List.getD_eq_getElem?_getD]
      have hl : k < (nums S).length := by rw [nums_length]; omega
      rw [List.drop_eq_getElem_cons hl, List.getElem?_eq_getElem hl]
      rfl
    have hs1 : (S.extract k (k + 1)).size = 1 := by rw [← nums_length, hn1]; rfl
    refine ⟨?_, ?_, ?_, fun _ => ?_, fun hu => ?_⟩
    · show bytesOf' (stepR _ _ _) = _
      rw [step_bytes, h1, hn1, List.take_add_one, List.getD_eq_getElem?_getD, List.getElem?_eq_getElem (by rw [nums_length]; omega)]
      rfl
    · show tkOf (stepR _ _ _) = _
      rw [step_tk, h2, hs1, List.take_add_one, List.getD_eq_getElem?_getD, List.getElem?_eq_getElem (by omega)]
      rfl
    · have := step_length (runsK S A k) (A.getD k 0) (S.extract k (k + 1))
      show (stepR _ _ _).length ≤ _
      omega
    · exact step_last _ _ _
    · refine step_good (h5 hu) (by omega) (tk_le ?_ (h5 hu).1)
      rw [h2]
      exact up_le hu (by omega)
theorem tk_count {r : List Pc} {t : Int} (h : ∀ p ∈ r, t < p.1) : (tkOf r).count t = 0 := by
  rw [List.count_eq_zero]
  intro hm
  obtain ⟨p, hp, hx⟩ := List.mem_flatMap.1 hm
  have := h p hp
  rw [List.mem_replicate] at hx
  omega
theorem tk_first {r : List Pc} {p : Pc} (h : Good (p :: r)) : (tkOf (p :: r)).count p.1 = p.2.size ∧ (tkOf (p :: r)).head? = some p.1 := by
  have e : tkOf (p :: r) = List.replicate p.2.size p.1 ++ tkOf r := rfl
  have h0 := h.1 p List.mem_cons_self
  refine ⟨?_, ?_⟩
  · rw [e, List.count_append, tk_count (List.pairwise_cons.1 h.2).1, List.count_replicate_self]
    rfl
  · rw [e]
    obtain ⟨m, hm⟩ : ∃ m, p.2.size = m + 1 := ⟨p.2.size - 1, by omega⟩
    rw [hm]
    rfl
theorem runs_unique {ps qs : List Pc} (hp : Good ps) (hq : Good qs) (hb : bytesOf' ps = bytesOf' qs) (ht : tkOf ps = tkOf qs) : ps = qs := by
  induction ps generalizing qs with
  | nil =>
    cases qs with
    | nil => rfl
    | cons q s =>
      have h := (tk_first hq).2
      rw [← ht] at h
      cases h
  | cons p r ih =>
    cases qs with
    | nil =>
      have h := (tk_first hp).2
      rw [ht] at h
      cases h
    | cons q s =>
      have h1 := tk_first hp
      have h2 := tk_first hq
      rw [ht, h2.2] at h1
      have e1 : q.1 = p.1 := by simpa using h1.2
      rw [← e1, h2.1] at h1
      have e2 : q.2.size = p.2.size := h1.1
      have hb1 : nums p.2 ++ bytesOf' r = nums q.2 ++ bytesOf' s := hb
      have ht1 : List.replicate p.2.size p.1 ++ tkOf r = List.replicate q.2.size q.1 ++ tkOf s := ht
      have hb2 := List.append_inj hb1 (by rw [nums_length, nums_length, e2])
      have ht2 := List.append_inj ht1 (by simp [e2])
      have hpq : p = q := Prod.ext e1.symm (nums_inj' hb2.1)
      rw [hpq, ih ⟨fun x hx => hp.1 x (List.mem_cons_of_mem _ hx), (List.pairwise_cons.1 hp.2).2⟩ ⟨fun x hx => hq.1 x (List.mem_cons_of_mem _ hx), (List.pairwise_cons.1 hq.2).2⟩ hb2.2 ht2.2]
end Go.Proofs.Ytfdfgnmgpgkknaa.gc
