/-
  Mathematics of a heap in a row, and of where each id stands: rising, sinking, settling, removing. Conditions: as each states.
-/
import Derived.Test.YtpohfcjmjfhdoaaS
namespace Go.Proofs.Ytpohfcjmjfhdoaa

theorem ahead_neg {d e f : Due} (h : aheadB d e = false) (k : aheadB e f = false) : aheadB d f = false := by
  simp only [aheadB, decide_eq_false_iff_not] at h k ⊢
  omega
/-- d is ahead of e, e is not behind f. -/
theorem ahead_mix {d e f : Due} (h : aheadB d e = true) (k : aheadB f e = false) : aheadB f d = false := by
  simp only [aheadB, decide_eq_false_iff_not, decide_eq_true_eq] at h k ⊢
  omega
/-- The row, where each id stands, and how many ids stand somewhere. -/
structure St where
  h : List Due
  pl : Int → Option Nat
  sz : Nat
def up (k : Nat) : Nat := (k - 1) / 2
def St.put (s : St) (k : Nat) (d : Due) : St := ⟨s.h.set k d, fun i => if i = d.2 then some k else s.pl i, if (s.pl d.2).isSome = true then s.sz else s.sz + 1⟩
def St.at (s : St) (k : Nat) : Due := s.h.getD k (0, 0)
theorem put_len (s : St) (k : Nat) (d : Due) : (s.put k d).h.length = s.h.length := by simp [St.put]
theorem put_at_same {s : St} {k : Nat} {d : Due} (hk : k < s.h.length) : (s.put k d).at k = d := by simp [St.put, St.at, hk]
theorem put_at_other {s : St} {k j : Nat} {d : Due} (h : j ≠ k) : (s.put k d).at j = s.at j := by simp [St.put, St.at, h.symm]
theorem up_lt {k : Nat} (h : 0 < k) : up k < k := by unfold up; omega
def riseS (d : Due) (s : St) (k : Nat) : St :=
  if _h : 0 < k ∧ aheadB d (s.at (up k)) = true then riseS d (s.put k (s.at (up k))) (up k) else s.put k d
termination_by k
decreasing_by exact up_lt _h.1
theorem rise_step {d : Due} {s : St} {k : Nat} (h : 0 < k) (ha : aheadB d (s.at (up k)) = true) : riseS d s k = riseS d (s.put k (s.at (up k))) (up k) := by
  rw [riseS, dif_pos ⟨h, ha⟩]
theorem rise_end {d : Due} {s : St} {k : Nat} (h : ¬ (0 < k ∧ aheadB d (s.at (up k)) = true)) : riseS d s k = s.put k d := by
  rw [riseS, dif_neg h]
/-- Of the two below k the one that is ahead. -/
def down (s : St) (k : Nat) : Nat := if 2 * k + 2 < s.h.length ∧ aheadB (s.at (2 * k + 2)) (s.at (2 * k + 1)) = true then 2 * k + 2 else 2 * k + 1
theorem down_gt (s : St) (k : Nat) : k < down s k := by unfold down; split <;> omega
def sinkS (d : Due) (s : St) (k : Nat) : St :=
  if _h : down s k < s.h.length ∧ aheadB (s.at (down s k)) d = true then sinkS d (s.put k (s.at (down s k))) (down s k) else s.put k d
termination_by s.h.length - k
decreasing_by have := down_gt s k; have := _h.1; rw [put_len]; omega
theorem sink_step {d : Due} {s : St} {k : Nat} (h : down s k < s.h.length) (ha : aheadB (s.at (down s k)) d = true) : sinkS d s k = sinkS d (s.put k (s.at (down s k))) (down s k) := by
  rw [sinkS, dif_pos ⟨h, ha⟩]
theorem sink_end {d : Due} {s : St} {k : Nat} (h : ¬ (down s k < s.h.length ∧ aheadB (s.at (down s k)) d = true)) : sinkS d s k = s.put k d := by
  rw [sinkS, dif_neg h]
def settleS (d : Due) (s : St) (k : Nat) : St := if aheadB d (s.at (up k)) = true then riseS d s k else sinkS d s k
/-- The last one is gone, and the id of the one at k. -/
def St.cut (s : St) (k : Nat) : St := ⟨s.h.take (s.h.length - 1), fun i => if i = (s.at k).2 then none else s.pl i, if (s.pl (s.at k).2).isSome = true then s.sz - 1 else s.sz⟩
def removeS (s : St) (k : Nat) : St := if k < s.h.length - 1 then settleS (s.at (s.h.length - 1)) (s.cut k) k else s.cut k

/-- Each id stands where it is said to stand, and there are as many as alarms. -/
structure Placed (s : St) : Prop where
  at_ : ∀ k, k < s.h.length → s.pl (s.at k).2 = some k
  of : ∀ i k, s.pl i = some k → k < s.h.length ∧ (s.at k).2 = i
  sz : s.sz = s.h.length
/-- So it is but for the place k, where d is to come. -/
structure Hole (s : St) (k : Nat) (d : Due) : Prop where
  lt : k < s.h.length
  at_ : ∀ j, j < s.h.length → j ≠ k → s.pl (s.at j).2 = some j
  of : ∀ i j, s.pl i = some j → i ≠ d.2 → j < s.h.length ∧ j ≠ k ∧ (s.at j).2 = i
  ne : ∀ j, j < s.h.length → j ≠ k → (s.at j).2 ≠ d.2
  sz : (if (s.pl d.2).isSome = true then s.sz else s.sz + 1) = s.h.length
theorem Hole.move {s : St} {k u : Nat} {d : Due} (h : Hole s k d) (hu : u < s.h.length) (hne : u ≠ k) : Hole (s.put k (s.at u)) u d := by
  have hpu := h.at_ u hu hne
  have hud := h.ne u hu hne
  refine ⟨by rw [put_len]; exact hu, fun j hj hj' => ?_, fun i j hi hid => ?_, fun j hj hj' => ?_, ?_⟩
  · rw [put_len] at hj
    by_cases e : j = k
    · subst e
      rw [put_at_same h.lt]
      simp [St.put]
    · rw [put_at_other e]
      have h1 := h.at_ j hj e
      by_cases e2 : (s.at j).2 = (s.at u).2
      · rw [e2, hpu] at h1
        injection h1 with h1
        exact absurd h1.symm hj'
      · simp [St.put, e2, h1]
  · rw [put_len]
    by_cases e : i = (s.at u).2
    · subst e
      simp only [St.put, if_pos] at hi
      injection hi with hi
      subst hi
      exact ⟨h.lt, hne.symm, by rw [put_at_same h.lt]⟩
    · simp only [St.put, if_neg e] at hi
      obtain ⟨h1, h2, h3⟩ := h.of i j hi hid
      refine ⟨h1, ?_, by rw [put_at_other h2]; exact h3⟩
      rintro rfl
      exact e h3.symm
  · rw [put_len] at hj
    by_cases e : j = k
    · subst e
      rw [put_at_same h.lt]
      exact hud
    · rw [put_at_other e]
      exact h.ne j hj e
  · have hs := h.sz
    rw [put_len]
    have e1 : (s.put k (s.at u)).pl d.2 = s.pl d.2 := if_neg (fun e : d.2 = (s.at u).2 => hud e.symm)
    have e2 : (s.put k (s.at u)).sz = s.sz := by simp [St.put, hpu]
    rw [e1, e2]
    exact hs
theorem Hole.fill {s : St} {k : Nat} {d : Due} (h : Hole s k d) : Placed (s.put k d) := by
  refine ⟨fun j hj => ?_, fun i j hi => ?_, ?_⟩
  · rw [put_len] at hj
    by_cases e : j = k
    · subst e
      rw [put_at_same h.lt]
      simp [St.put]
    · rw [put_at_other e]
      simp [St.put, h.ne j hj e, h.at_ j hj e]
  · rw [put_len]
    by_cases e : i = d.2
    · subst e
      simp only [St.put, if_pos] at hi
      injection hi with hi
      subst hi
      exact ⟨h.lt, by rw [put_at_same h.lt]⟩
    · simp only [St.put, if_neg e] at hi
      obtain ⟨h1, h2, h3⟩ := h.of i j hi e
      exact ⟨h1, by rw [put_at_other h2]; exact h3⟩
  · rw [put_len]
    exact h.sz

/-- None is ahead of the one above it. -/
def Heap (s : St) : Prop := ∀ j, 0 < j → j < s.h.length → aheadB (s.at j) (s.at (up j)) = false
/-- What stands at j, where d stands at k. -/
def look (s : St) (k : Nat) (d : Due) (j : Nat) : Due := if j = k then d else s.at j
theorem look_put {s : St} {k : Nat} {d : Due} (hk : k < s.h.length) (j : Nat) : (s.put k d).at j = look s k d j := by
  unfold look
  by_cases e : j = k
  · subst e
    rw [if_pos rfl, put_at_same hk]
  · rw [if_neg e, put_at_other e]
structure Rises (s : St) (k : Nat) (d : Due) : Prop where
  lt : k < s.h.length
  r1 : ∀ j, 0 < j → j < s.h.length → j ≠ k → aheadB (look s k d j) (look s k d (up j)) = false
  r2 : ∀ j, 0 < j → j < s.h.length → up j = k → 0 < k → aheadB (s.at j) (s.at (up k)) = false
structure Sinks (s : St) (k : Nat) (d : Due) : Prop where
  lt : k < s.h.length
  r1 : ∀ j, 0 < j → j < s.h.length → up j ≠ k → aheadB (look s k d j) (look s k d (up j)) = false
  r2 : ∀ j, 0 < j → j < s.h.length → up j = k → 0 < k → aheadB (s.at j) (s.at (up k)) = false
theorem up_ne {j : Nat} (h : 0 < j) : up j ≠ j := by have := up_lt h; omega
theorem Rises.step {s : St} {k : Nat} {d : Due} (h : Rises s k d) (hk : 0 < k) (ha : aheadB d (s.at (up k)) = true) : Rises (s.put k (s.at (up k))) (up k) d := by
  have hu := up_lt hk
  have hkl := h.lt
  have hun : up k ≠ k := up_ne hk
  have l2 : ∀ j, j ≠ up k → j ≠ k → look (s.put k (s.at (up k))) (up k) d j = s.at j := fun j h1 h2 => by unfold look; rw [if_neg h1, put_at_other h2]
  have l3 : look (s.put k (s.at (up k))) (up k) d k = s.at (up k) := by unfold look; rw [if_neg (Ne.symm hun), put_at_same hkl]
  have l4 : look (s.put k (s.at (up k))) (up k) d (up k) = d := by unfold look; rw [if_pos rfl]
  refine ⟨by rw [put_len]; omega, fun j hj hjl hju => ?_, fun j hj hjl hju hu0 => ?_⟩
  · rw [put_len] at hjl
    by_cases e : j = k
    · subst e
      rw [l3, l4]
      exact ahead_asymm ha
    · rw [l2 j hju e]
      by_cases e2 : up j = k
      · rw [e2, l3]
        exact h.r2 j hj hjl e2 hk
      · have h1 := h.r1 j hj hjl e
        unfold look at h1
        rw [if_neg e, if_neg e2] at h1
        by_cases e3 : up j = up k
        · rw [e3, l4]
          rw [e3] at h1
          exact ahead_mix ha h1
        · rw [l2 _ e3 e2]
          exact h1
  · rw [put_len] at hjl
    have hupk : up (up k) < up k := up_lt hu0
    rw [put_at_other (by omega : up (up k) ≠ k)]
    have h1 := h.r1 (up k) hu0 (by omega) hun
    unfold look at h1
    rw [if_neg hun, if_neg (by omega : up (up k) ≠ k)] at h1
    by_cases e : j = k
    · subst e
      rw [put_at_same hkl]
      exact h1
    · rw [put_at_other e]
      have h2 := h.r1 j hj hjl e
      unfold look at h2
      rw [if_neg e, hju, if_neg hun] at h2
      exact ahead_neg h2 h1
theorem Rises.done {s : St} {k : Nat} {d : Due} (h : Rises s k d) (hn : ¬ (0 < k ∧ aheadB d (s.at (up k)) = true)) : Heap (s.put k d) := by
  intro j hj hjl
  rw [put_len] at hjl
  rw [look_put h.lt, look_put h.lt]
  by_cases e : j = k
  · subst e
    have hun : up j ≠ j := up_ne hj
    unfold look
    rw [if_pos rfl, if_neg hun]
    cases ha : aheadB d (s.at (up j)) with
    | false => rfl
    | true => exact absurd ⟨hj, ha⟩ hn
  · exact h.r1 j hj hjl e
theorem down_two (s : St) (k : Nat) : (down s k = 2 * k + 2 ∧ 2 * k + 2 < s.h.length ∧ aheadB (s.at (2 * k + 2)) (s.at (2 * k + 1)) = true) ∨ (down s k = 2 * k + 1 ∧ (2 * k + 2 < s.h.length → aheadB (s.at (2 * k + 2)) (s.at (2 * k + 1)) = false)) := by
  unfold down
  split
  · rename_i h
    exact Or.inl ⟨rfl, h.1, h.2⟩
  · rename_i h
    refine Or.inr ⟨rfl, fun h1 => ?_⟩
    cases ha : aheadB (s.at (2 * k + 2)) (s.at (2 * k + 1)) with
    | false => rfl
    | true => exact absurd ⟨h1, ha⟩ h
theorem down_up (s : St) (k : Nat) : up (down s k) = k := by
  rcases down_two s k with ⟨e, _⟩ | ⟨e, _⟩ <;> rw [e] <;> unfold up <;> omega
/-- The one that is told is not behind the other one. -/
theorem down_least {s : St} {k j : Nat} (hj : 0 < j) (hjl : j < s.h.length) (hju : up j = k) : aheadB (s.at j) (s.at (down s k)) = false := by
  have hj2 : j = 2 * k + 1 ∨ j = 2 * k + 2 := by unfold up at hju; omega
  rcases down_two s k with ⟨e, h1, h2⟩ | ⟨e, h1⟩
  · rw [e]
    rcases hj2 with rfl | rfl
    · exact ahead_asymm h2
    · exact ahead_irrefl _
  · rw [e]
    rcases hj2 with rfl | rfl
    · exact ahead_irrefl _
    · exact h1 hjl
theorem Sinks.step {s : St} {k : Nat} {d : Due} (h : Sinks s k d) (hb : down s k < s.h.length) (ha : aheadB (s.at (down s k)) d = true) : Sinks (s.put k (s.at (down s k))) (down s k) d := by
  have hgt := down_gt s k
  have hub := down_up s k
  obtain ⟨b, hbe⟩ : ∃ b, down s k = b := ⟨_, rfl⟩
  have hleast : ∀ j, 0 < j → j < s.h.length → up j = k → aheadB (s.at j) (s.at b) = false := fun j h1 h2 h3 => by rw [← hbe]; exact down_least h1 h2 h3
  rw [hbe] at hb ha hgt hub ⊢
  have hkl := h.lt
  have hbk : b ≠ k := by omega
  have l2 : ∀ j, j ≠ b → j ≠ k → look (s.put k (s.at b)) b d j = s.at j := fun j h1 h2 => by unfold look; rw [if_neg h1, put_at_other h2]
  have l3 : look (s.put k (s.at b)) b d k = s.at b := by unfold look; rw [if_neg (Ne.symm hbk), put_at_same hkl]
  have l4 : look (s.put k (s.at b)) b d b = d := by unfold look; rw [if_pos rfl]
  refine ⟨by rw [put_len]; omega, fun j hj hjl hju => ?_, fun j hj hjl hju hu0 => ?_⟩
  · rw [put_len] at hjl
    by_cases e : j = b
    · subst e
      rw [l4, hub, l3]
      exact ahead_asymm ha
    · by_cases e2 : j = k
      · subst e2
        rw [l3, l2 _ hju (up_ne hj)]
        have := h.r2 b (by omega) hb hub hj
        exact this
      · rw [l2 j e e2]
        by_cases e3 : up j = k
        · rw [e3, l3]
          exact hleast j hj hjl e3
        · rw [l2 _ hju e3]
          have h1 := h.r1 j hj hjl e3
          unfold look at h1
          rw [if_neg e2, if_neg e3] at h1
          exact h1
  · rw [put_len] at hjl
    rw [hub, put_at_same hkl]
    have hjb : up j < j := up_lt hj
    have hjk : j ≠ k := by omega
    rw [put_at_other hjk]
    have h1 := h.r1 j hj hjl (by omega)
    unfold look at h1
    rw [if_neg hjk, if_neg (by omega : up j ≠ k), hju] at h1
    exact h1
theorem Sinks.done {s : St} {k : Nat} {d : Due} (h : Sinks s k d) (hn : ¬ (down s k < s.h.length ∧ aheadB (s.at (down s k)) d = true)) : Heap (s.put k d) := by
  intro j hj hjl
  rw [put_len] at hjl
  rw [look_put h.lt, look_put h.lt]
  by_cases e : up j = k
  · have hjk : j ≠ k := by have := up_lt hj; omega
    have hle := down_least hj hjl e
    have hdl : down s k < s.h.length := by
      rcases down_two s k with ⟨e1, h1, _⟩ | ⟨e1, _⟩
      · omega
      · rw [e1]
        unfold up at e
        omega
    unfold look
    rw [if_neg hjk, if_pos e]
    cases ha : aheadB (s.at (down s k)) d with
    | true => exact absurd ⟨hdl, ha⟩ hn
    | false => exact ahead_neg hle ha
  · exact h.r1 j hj hjl e

/-- The row with d at k, in some order. -/
theorem set_swap {h : List Due} {k u : Nat} {d : Due} (hk : k < h.length) (hu : u < h.length) (hne : u ≠ k) : ((h.set k (h.getD u (0, 0))).set u d).Perm (h.set k d) := by
  have h1 : k < (h.set k d).length := by simpa using hk
  have h2 : u < (h.set k d).length := by simpa using hu
  have p := @List.set_set_perm _ (h.set k d) k u h1 h2
  have e1 : (h.set k d)[u] = h.getD u (0, 0) := by
    rw [List.getElem_set_ne (Ne.symm hne)]
    simp [hu]
  have e2 : (h.set k d)[k] = d := by simp
  rw [e1, e2, List.set_set] at p
  exact p
/-- What rising comes to. -/
theorem rise_ok (d : Due) (k : Nat) : ∀ s : St, Hole s k d → Rises s k d → Placed (riseS d s k) ∧ Heap (riseS d s k) ∧ (riseS d s k).h.Perm (s.h.set k d) := by
  induction k using Nat.strongRecOn with
  | _ k ih =>
    intro s hh hr
    by_cases hc : 0 < k ∧ aheadB d (s.at (up k)) = true
    · rw [rise_step hc.1 hc.2]
      have hu := up_lt hc.1
      have hul : up k < s.h.length := by have := hh.lt; omega
      obtain ⟨h1, h2, h3⟩ := ih (up k) hu _ (hh.move hul (by omega)) (hr.step hc.1 hc.2)
      exact ⟨h1, h2, h3.trans (set_swap hh.lt hul (by omega))⟩
    · rw [rise_end hc]
      exact ⟨hh.fill, hr.done hc, List.Perm.refl _⟩
theorem sink_ok (d : Due) (n : Nat) : ∀ (s : St) (k : Nat), s.h.length - k = n → Hole s k d → Sinks s k d → Placed (sinkS d s k) ∧ Heap (sinkS d s k) ∧ (sinkS d s k).h.Perm (s.h.set k d) := by
  induction n using Nat.strongRecOn with
  | _ n ih =>
    intro s k hn hh hr
    by_cases hc : down s k < s.h.length ∧ aheadB (s.at (down s k)) d = true
    · rw [sink_step hc.1 hc.2]
      have hg := down_gt s k
      have hl := hc.1
      obtain ⟨h1, h2, h3⟩ := ih (s.h.length - down s k) (by omega) (s.put k (s.at (down s k))) (down s k) (by rw [put_len]) (hh.move hc.1 (by omega)) (hr.step hc.1 hc.2)
      exact ⟨h1, h2, h3.trans (set_swap hh.lt hc.1 (by omega))⟩
    · rw [sink_end hc]
      exact ⟨hh.fill, hr.done hc, List.Perm.refl _⟩
theorem settle_ok {d : Due} {s : St} {k : Nat} (hh : Hole s k d) (hp : Heap s) : Placed (settleS d s k) ∧ Heap (settleS d s k) ∧ (settleS d s k).h.Perm (s.h.set k d) := by
  have hk := hh.lt
  have hr2 : ∀ j, 0 < j → j < s.h.length → up j = k → 0 < k → aheadB (s.at j) (s.at (up k)) = false := fun j hj hjl hju hk0 => by
    have h1 := hp j hj hjl
    rw [hju] at h1
    exact ahead_neg h1 (hp k hk0 hk)
  unfold settleS
  by_cases ha : aheadB d (s.at (up k)) = true
  · rw [if_pos ha]
    refine rise_ok d k s hh ⟨hk, fun j hj hjl hjk => ?_, hr2⟩
    unfold look
    rw [if_neg hjk]
    by_cases e : up j = k
    · rw [if_pos e]
      have h1 := hp j hj hjl
      rw [e] at h1
      rcases Nat.eq_zero_or_pos k with rfl | hk0
      · exact ahead_mix ha h1
      · exact ahead_mix ha (ahead_neg h1 (hp k hk0 hk))
    · rw [if_neg e]
      exact hp j hj hjl
  · rw [if_neg ha]
    have ha' : aheadB d (s.at (up k)) = false := by simpa using ha
    refine sink_ok d _ s k rfl hh ⟨hk, fun j hj hjl hjk => ?_, hr2⟩
    unfold look
    rw [if_neg hjk]
    by_cases e : j = k
    · subst e
      rw [if_pos rfl]
      exact ha'
    · rw [if_neg e]
      exact hp j hj hjl
end Go.Proofs.Ytpohfcjmjfhdoaa
