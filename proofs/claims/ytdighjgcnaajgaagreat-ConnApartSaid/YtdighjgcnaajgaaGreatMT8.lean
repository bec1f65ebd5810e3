/-
  A connection without a Reset is never broken: each way goes for itself. Conditions: none.
-/
import Derived.Test.YtdighjgcnaajgaaGreatMT5
namespace Go.Proofs.YtdighjgcnaajgaaGreat
open Go.RowKit

namespace Ch
/-- No stage is a Reset. -/
structure NR (c : Ch) : Prop where
  en : Ends c
  no : ∀ k, k < c.L.length → (c.at' k).s.tx.k ≠ 5
section
variable {c : Ch}
theorem NR.same {c' : Ch} (h : NR c) (e : c'.L = c.L) : NR c' := ⟨h.en.same e, fun k hk => by
  have ha : c'.at' k = c.at' k := by unfold at'; rw [e]
  rw [ha]
  exact h.no k (by rwa [e] at hk)⟩
theorem NR.on (h : NR c) (k : Nat) (hk : k < c.L.length) (o : Op) : NR (c.onC k o) := ⟨h.en.on k hk o, fun j hj => by
  rw [len_on] at hj
  by_cases e : k = j
  · subst e
    rw [at_on _ _ _ hk]
    show (doS (c.at' k).s o).1.tx.k ≠ 5
    rw [(kind_do (h.en.ok k hk) o).2]
    exact h.no k hk
  · rw [at_other _ _ _ _ e]
    exact h.no j hj⟩
theorem NR.loseN (h : NR c) (n : Nat) (hn : n ≤ c.L.length) : NR (c.loseN n) := by
  induction n with
  | zero => exact h
  | succ n ih => exact ((ih (by omega)).on n (by rw [len_loseN]; omega) oDrain).same rfl
theorem NR.lose (h : NR c) (n : Nat) (hn : n ≤ c.L.length) : NR (c.lose n) := (h.loseN n hn).same rfl
theorem NR.looks (h : NR c) (now : Int) (n : Nat) (hn : n ≤ c.L.length) : NR (c.looks now n) := by
  induction n with
  | zero => exact h
  | succ n ih => exact (ih (by omega)).on n (by rw [len_looks]; omega) _
theorem NR.flow1 (h : NR c) (now : Int) (i : Nat) (hi : i + 1 < c.L.length) : NR (c.flow1 now i) := by
  unfold Ch.flow1
  dsimp only
  split
  · exact ((h.on (i + 1) hi _).on i (by rw [len_on]; omega) _).on (i + 1) (by rw [len_on, len_on]; exact hi) _
  · exact h.on (i + 1) hi _
theorem NR.flow (h : NR c) (now : Int) (n : Nat) (hn : n < c.L.length) : NR (c.flow now n) := by
  induction n with
  | zero => exact h
  | succ n ih => exact (ih (by omega)).flow1 now n (by rw [len_flow]; exact hn)
theorem NR.ends1 (h : NR c) (now : Int) (i : Nat) (hi : i + 1 < c.L.length) : NR (c.ends1 now i) := by
  unfold Ch.ends1
  dsimp only
  split
  · exact ((h.on i (by omega) _).lose (i + 1) (by rw [len_on]; omega)).on (i + 1) (by rw [len_lose, len_on]; exact hi) _
  · exact h.on i (by omega) _
theorem NR.ends (h : NR c) (now : Int) (n : Nat) (hn : n < c.L.length) : NR (c.ends now n) := by
  induction n with
  | zero => exact h
  | succ n ih => exact (ih (by omega)).ends1 now n (by rw [len_ends]; exact hn)
theorem NR.step3 (h : NR c) (now : Int) (h2 : 2 ≤ c.L.length) : NR (c.step3 now) := by
  have h1 := (h.looks now c.L.length (Nat.le_refl _)).flow now (c.L.length - 1) (by rw [len_looks]; omega)
  exact h1.ends now (c.L.length - 1) (by rw [len_flow, len_looks]; omega)
theorem NR.any (h : NR c) (now : Int) (n : Nat) (hn : n ≤ c.L.length) : c.anyB now n = false := by
  induction n with
  | zero => rfl
  | succ n ih =>
    show (c.anyB now n || _) = false
    rw [ih (by omega), Bool.false_or]
    refine decide_eq_false fun e => ?_
    have hl := h.looks now n (by omega)
    have hk := kind_look (hl.en.ok n (by rw [len_looks]; omega)) now
    have hno := hl.no n (by rw [len_looks]; omega)
    have e : (lookS ((c.looks now n).at' n).s now).st = 2 := e
    rcases hk.1 with q | q | q
    · rw [q] at e; exact absurd e (by decide)
    · rw [q] at e; exact absurd e (by decide)
    · rw [hk.2] at q
      exact hno q.2
/-- .. nor Broken. -/
structure Calm (c : Ch) : Prop where
  nr : NR c
  st : c.state ≠ 2
  two : 2 ≤ c.L.length
theorem Calm.step (h : Calm c) (now : Int) : Calm (c.stepC now) := by
  have hl : (c.stepC now).L.length = c.L.length := len_step c now
  refine ⟨?_, ?_, by rw [hl]; exact h.two⟩
  · unfold stepC
    rw [h.nr.any now _ (Nat.le_refl _)]
    split
    · exact h.nr
    · rw [if_neg (by decide)]
      exact ((h.nr.step3 now h.two).on (c.L.length - 1) (by rw [len_step3]; have := h.two; omega) _).same rfl
  · unfold stepC
    rw [h.nr.any now _ (Nat.le_refl _)]
    split
    · exact h.st
    · rw [if_neg (by decide)]
      have h3 := len_step3 c now
      have ho := (h.nr.step3 now h.two).en.outlet now (by rw [h3]; exact h.two)
      rw [h3] at ho
      show ((c.step3 now).ansC (c.L.length - 1) (oLook now)).n ≠ 2
      omega
theorem Calm.do (h : Calm c) (o : COp) (hk : o.kind = 0 ∨ o.kind = 1 ∨ o.kind = 3 ∨ o.kind = 4) : Calm (c.doN o) := by
  have h2 := h.two
  have hl : (c.doN o).L.length = c.L.length := len_kept c o (by omega) (by omega)
  rcases hk with e | e | e | e
  · refine ⟨?_, ?_, by rw [hl]; exact h2⟩
    · unfold doN
      rw [if_pos e]
      split
      · exact h.nr
      · exact h.nr.on 0 (by omega) _
    · unfold doN
      rw [if_pos e]
      split <;> exact h.st
  · refine ⟨?_, ?_, by rw [hl]; exact h2⟩
    · unfold doN
      rw [if_neg (by omega), if_pos e]
      split
      · exact (h.nr.on 0 (by omega) _).same rfl
      · exact h.nr
    · unfold doN
      rw [if_neg (by omega), if_pos e]
      split <;> exact h.st
  · have : c.doN o = c.stepC o.now := by unfold doN; rw [if_neg (by omega), if_neg (by omega), if_neg (by omega), if_pos e]
    rw [this]
    exact h.step o.now
  · refine ⟨?_, ?_, by rw [hl]; exact h2⟩
    · unfold doN
      rw [if_neg (by omega), if_neg (by omega), if_neg (by omega), if_neg (by omega), if_pos e]
      split
      · exact h.nr
      · exact h.nr.on _ (by omega) _
    · unfold doN
      rw [if_neg (by omega), if_neg (by omega), if_neg (by omega), if_neg (by omega), if_pos e]
      split <;> exact h.st
end
end Ch
namespace Lk
variable {k : Lk}
theorem calm_send (h : k.c.Calm) (now : Int) (b : ByteArray) : (k.sendK now b).c.Calm := h.do (oPut now b) (Or.inl rfl)
theorem calm_fin (h : k.c.Calm) (now : Int) : (k.finK now).c.Calm := h.do (oFin now) (Or.inr (Or.inl rfl))
theorem calm_step (h : k.c.Calm) (now n : Int) : (k.stepK now n).c.Calm ∧ k.stepE now n ≠ 2 := by
  have h3 := ((h.do (oStep now) (Or.inr (Or.inr (Or.inl rfl)))).do (oTake now n) (Or.inr (Or.inr (Or.inr rfl)))).do (oStep now) (Or.inr (Or.inr (Or.inl rfl)))
  refine ⟨h3, ?_⟩
  unfold stepE
  split
  · decide
  · exact h3.st
end Lk
/-- A link that was made of no Reset. -/
theorem calm_new {k : Lk} {l : List Tox} {up : Bool} {room now : Int} (h : MkL k l up room now) (hl : ∀ t ∈ l, t.k ≠ 5) : k.c.Calm := by
  obtain ⟨ts, hm⟩ := h.made
  rw [hm.c]
  have hst : ∀ j, j < (frL ts room now).length → ((frC ts room now).at' j).s.st = 0 ∧ ((frC ts room now).at' j).s.tx.k ≠ 5 := fun j hj => by
    rw [frL_len] at hj
    rcases Nat.eq_zero_or_pos j with rfl | h0
    · rw [(fr_ends ts room now).1]
      exact ⟨rfl, by show (0 : Int) ≠ 5; decide⟩
    · by_cases h1 : j = ts.length + 1
      · subst h1
        rw [(fr_ends ts room now).2]
        exact ⟨rfl, by show (0 : Int) ≠ 5; decide⟩
      · obtain ⟨i, rfl⟩ : ∃ i, j = i + 1 := ⟨j - 1, by omega⟩
        rw [fr_at (by omega)]
        refine ⟨rfl, ?_⟩
        have hi : i < (upL up l).length := by rw [← hm.len]; omega
        rcases (hm.each i hi).1 with e | e
        · show (ts.getD i (noTox, 0)).1.k ≠ 5
          rw [e]
          exact hl _ (List.mem_filter.1 (getD_mem hi)).1
        · show (ts.getD i (noTox, 0)).1.k ≠ 5
          rw [e]
          decide
  refine ⟨⟨⟨fun j hj => Or.inl (hst j hj).1, ?_⟩, fun j hj => (hst j hj).2⟩, by show (0 : Int) ≠ 2; decide, by show 2 ≤ (frL ts room now).length; rw [frL_len]; omega⟩
  show ((frC ts room now).at' ((frL ts room now).length - 1)).s.tx.k = 0
  rw [frL_len, show ts.length + 2 - 1 = ts.length + 1 by omega, (fr_ends ts room now).2]
  rfl
namespace Cn
variable {k : Cn}
def Calm (k : Cn) : Prop := k.A.c.Calm ∧ k.B.c.Calm
/-- A Step where nothing breaks. -/
theorem calm_stepS (h : k.Calm) (now n0 n1 : Int) : k.stepS now n0 n1 = ⟨⟨k.A.stepK now n0, k.B.stepK now n1, k.names⟩, ⟨k.A.stepT now n0, k.A.stepE now n0⟩, ⟨k.B.stepT now n1, k.B.stepE now n1⟩⟩ := by
  have e1 : k.step1 now n0 n1 = ⟨⟨k.A.stepK now n0, k.B.stepK now n1, k.names⟩, ⟨k.A.stepT now n0, k.A.stepE now n0⟩, ⟨k.B.stepT now n1, k.B.stepE now n1⟩⟩ := rfl
  unfold stepS
  rw [e1]
  exact if_neg fun e => e.elim (Lk.calm_step h.1 now n0).2 (Lk.calm_step h.2 now n1).2
/-- Calls that send, finish, step: what goes Up hangs on calls of Up alone. -/
theorem calm_do (h : k.Calm) (o : YOp) (hk : o.kind = 0 ∨ o.kind = 1 ∨ o.kind = 3) : (k.doK o).Calm ∧ (o.kind ≠ 3 → o.way ≠ 0 → (k.doK o).A = k.A) := by
  rcases hk with e | e | e
  · have : k.doK o = k.sendK o.way o.now o.s := by unfold doK; rw [if_pos e]
    rw [this]
    unfold sendK
    split
    · unfold on
      split
      · rename_i hw hz
        exact ⟨⟨Lk.calm_send h.1 _ _, h.2⟩, fun _ h0 => absurd (by omega) h0⟩
      · exact ⟨⟨h.1, Lk.calm_send h.2 _ _⟩, fun _ _ => rfl⟩
    · exact ⟨h, fun _ _ => rfl⟩
  · have : k.doK o = k.finK o.way o.now := by unfold doK; rw [if_neg (by omega), if_pos e]
    rw [this]
    unfold finK
    split
    · unfold on
      split
      · rename_i hw hz
        exact ⟨⟨Lk.calm_fin h.1 _, h.2⟩, fun _ h0 => absurd (by omega) h0⟩
      · exact ⟨⟨h.1, Lk.calm_fin h.2 _⟩, fun _ _ => rfl⟩
    · exact ⟨h, fun _ _ => rfl⟩
  · have : k.doK o = (k.stepS o.now o.n0 o.n1).k := by unfold doK; rw [if_neg (by omega), if_neg (by omega), if_neg (by omega), if_pos e]
    rw [this, calm_stepS h]
    exact ⟨⟨(Lk.calm_step h.1 _ _).1, (Lk.calm_step h.2 _ _).1⟩, fun h3 => absurd e h3⟩
/-- The same call on two that are the same Up. -/
theorem calm_same {k' : Cn} (h : k.Calm) (h' : k'.Calm) (he : k.A = k'.A) (o : YOp) (hk : o.kind = 0 ∨ o.kind = 1 ∨ o.kind = 3) (hw : o.kind ≠ 3 → o.way = 0) :
    (k.doK o).A = (k'.doK o).A ∧ (k.ansK o).n = (k'.ansK o).n ∧ (k.ansK o).x = (k'.ansK o).x := by
  rcases hk with e | e | e
  · have w0 := hw (by omega)
    have a : ∀ c : Cn, (c.doK o).A = c.A.sendK o.now o.s ∧ c.ansK o = ⟨(c.A.c.doA (Lk.oPut o.now o.s)).n, noOut, noOut, 0⟩ := fun c => by
      unfold doK ansK sendK sendN
      rw [if_pos e, if_pos e, w0]
      exact ⟨rfl, rfl⟩
    rw [(a k).1, (a k').1, (a k).2, (a k').2, he]
    exact ⟨rfl, rfl, rfl⟩
  · have w0 := hw (by omega)
    have a : ∀ c : Cn, (c.doK o).A = c.A.finK o.now ∧ c.ansK o = noYA := fun c => by
      have h1 : c.doK o = c.finK o.way o.now := by unfold doK; rw [if_neg (show ¬ o.kind = 0 by omega), if_pos e]
      refine ⟨?_, ?_⟩
      · rw [h1]
        unfold finK
        rw [w0]
        rfl
      · unfold ansK
        rw [if_neg (show ¬ o.kind = 0 by omega), if_neg (show ¬ o.kind = 3 by omega), if_neg (show ¬ o.kind = 4 by omega), if_neg (show ¬ o.kind = 5 by omega), if_neg (show ¬ o.kind = 6 by omega)]
    rw [(a k).1, (a k').1, (a k).2, (a k').2, he]
    exact ⟨rfl, rfl, rfl⟩
  · have a : ∀ c : Cn, c.Calm → (c.doK o).A = c.A.stepK o.now o.n0 ∧ (c.ansK o).n = 0 ∧ (c.ansK o).x = ⟨c.A.stepT o.now o.n0, c.A.stepE o.now o.n0⟩ := fun c hc => by
      unfold doK ansK
      rw [if_neg (by omega), if_neg (by omega), if_neg (by omega), if_pos e, if_neg (by omega), if_pos e, calm_stepS hc]
      exact ⟨rfl, rfl, rfl⟩
    rw [(a k h).1, (a k' h').1, (a k h).2.1, (a k' h').2.1, (a k h).2.2, (a k' h').2.2, he]
    exact ⟨rfl, rfl, rfl⟩
end Cn
/-- Two connections, each of its own; the same, Up. -/
structure ApZ (w W : World) (Ua Ub : Own) (ga gb : Nat) (Ka Kb : Cn) (M : Nat) : Prop where
  a : KHd w W Ua ga Ka M
  b : KHd w W Ub gb Kb M
  ap : ∀ i, Ua i → ¬ Ub i
  ca : Ka.Calm
  cb : Kb.Calm
  eq : Ka.A = Kb.A
theorem ApZ.on {w W W' : World} {Ua Ub : Own} {ga gb : Nat} {Ka Kb : Cn} {M : Nat} (h : ApZ w W Ua Ub ga gb Ka Kb M) (hb : Below W.heap.size W W') : ApZ w W' Ua Ub ga gb Ka Kb M := ⟨h.a.on hb, h.b.on hb, h.ap, h.ca, h.cb, h.eq⟩
theorem ApZ.more {w W : World} {Ua Ub : Own} {ga gb : Nat} {Ka Kb : Cn} {M M' : Nat} (h : ApZ w W Ua Ub ga gb Ka Kb M) (hM : M ≤ M') (hf : M' ≤ 400000) : ApZ w W Ua Ub ga gb Ka Kb M' := ⟨h.a.mono hM hf, h.b.mono hM hf, h.ap, h.ca, h.cb, h.eq⟩
/-- What one leaves of the other one. -/
theorem ap_keep {w W W' : World} {Ua Ua' Ub : Own} {g : Nat} {K : Cn} {M : Nat} (hb : KHd w W Ub g K M) (hr : Rest W Ua W' Ua') (ap : ∀ i, Ua i → ¬ Ub i) (hB : Below w.heap.size w W') : KHd w W' Ub g K M ∧ ∀ i, Ua' i → ¬ Ub i := by
  have hn : ∀ i, Ub i → ¬ Ua i := fun i hi ha => ap i ha hi
  exact ⟨⟨krep_keep hb.1 fun i hi => (hr i (krep_lt hb.1 hi) (hn i hi)).1, hb.2.1, hB⟩, fun i ha hi => (hr i (krep_lt hb.1 hi) (hn i hi)).2 ha⟩
end Go.Proofs.YtdighjgcnaajgaaGreat
