/-
  Layer 11 (chain) as mathematics: without Timeout, Reset and Limit, and without Break, nothing is lost, and nothing is broken (P11.5). Conditions: none.
  Layer 11 (chain) as mathematics: only a Reset is ever Broken; the outlet is a Pass. Conditions: none.
-/
import Derived.Test.YtfdfgnmgpgkknaaMY12
namespace Go.Proofs.Ytfdfgnmgpgkknaa
open Go.RowKit
namespace Ch
section
variable {c : Ch}
theorem stok_two {s : St} (h : StOk s) : s.st ≠ 2 := by
  rcases h.2 with e | e <;> omega
theorem Safe.none_broken (h : Safe c) (now : Int) (n : Nat) (hn : n ≤ c.L.length) : c.anyB now n = false := by
  induction n with
  | zero => rfl
  | succ n ih =>
    have h1 := (h.looks now n (by omega)).ok n (by rw [len_looks]; omega)
    have h2 : (lookS ((c.looks now n).at' n).s now).st ≠ 2 := stok_two (stok_look h1 now)
    show (c.anyB now n || decide ((lookS ((c.looks now n).at' n).s now).st = 2)) = false
    rw [ih (by omega), decide_eq_false h2]
    rfl
theorem Safe.step (h : Safe c) (now : Int) (hl : 2 ≤ c.L.length) (hs : c.state ≠ 2) : Safe (c.stepC now) ∧ (c.stepC now).lost = c.lost ∧ (c.stepC now).state ≠ 2 := by
  unfold stepC
  split
  · exact ⟨h, rfl, hs⟩
  · rw [if_neg (by rw [h.none_broken now _ (Nat.le_refl _)]; decide)]
    have h1 := h.looks now c.L.length (Nat.le_refl _)
    have h2 := h1.flow now (c.L.length - 1) (by rw [len_looks]; omega)
    have h3 := h2.ends now (c.L.length - 1) (by rw [len_flow, len_looks]; omega)
    have hl3 : (c.step3 now).L.length = c.L.length := by unfold step3; rw [len_ends, len_flow, len_looks]
    have h4 : Safe (c.step3 now) := h3.1
    have h5 := h4.look (c.L.length - 1) (by omega) now
    refine ⟨h5.same rfl id, ?_, ?_⟩
    · show (c.step3 now).lost = c.lost
      have := h3.2
      rw [lost_flow, lost_looks] at this
      exact this
    · show (lookS ((c.step3 now).at' (c.L.length - 1)).s now).st ≠ 2
      exact stok_two (stok_look (h4.ok (c.L.length - 1) (by omega)) now)
theorem Safe.ins (h : Safe c) (k : Nat) (t : Tox) (seed now : Int) (hk : k + 2 ≤ c.L.length) (ht : t.k ≠ 4 ∧ t.k ≠ 5 ∧ t.k ≠ 6) : Safe (c.insN k t seed now) := by
  have hp : Safe ({ c with L := insL c.L k ⟨newS t seed c.room now, false⟩ } : Ch) := by
    have g1 : ∀ j, j ≤ k → ({ c with L := insL c.L k ⟨newS t seed c.room now, false⟩ } : Ch).at' j = c.at' j := fun j hj => insL_lt _ _ _ _ (by omega) hj
    have g2 : ({ c with L := insL c.L k ⟨newS t seed c.room now, false⟩ } : Ch).at' (k + 1) = ⟨newS t seed c.room now, false⟩ := insL_eq _ _ _ (by omega)
    have g3 : ∀ j, k + 1 ≤ j → ({ c with L := insL c.L k ⟨newS t seed c.room now, false⟩ } : Ch).at' (j + 1) = c.at' j := fun j hj => insL_gt _ _ _ _ (by omega) hj
    have gl : ({ c with L := insL c.L k ⟨newS t seed c.room now, false⟩ } : Ch).L.length = c.L.length + 1 := len_insL _ _ _ (by omega)
    have gs : ({ c with L := insL c.L k ⟨newS t seed c.room now, false⟩ } : Ch).shut = c.shut := rfl
    generalize ({ c with L := insL c.L k ⟨newS t seed c.room now, false⟩ } : Ch) = d at *
    refine ⟨fun i hi => ?_, fun i hi => ?_, fun i hi hc => ?_⟩
    · rcases Nat.lt_trichotomy i (k + 1) with g | rfl | g
      · rw [g1 i (by omega)]; exact h.ok i (by omega)
      · rw [g2]; exact stok_new t _ _ _ ht
      · obtain ⟨j, rfl⟩ : ∃ j, i = j + 1 := ⟨i - 1, by omega⟩
        rw [g3 j (by omega)]; exact h.ok j (by omega)
    · rcases Nat.lt_trichotomy i (k + 1) with g | rfl | g
      · rw [g1 i (by omega)]; exact h.flag i (by omega)
      · rw [g2]; rfl
      · obtain ⟨j, rfl⟩ : ∃ j, i = j + 1 := ⟨i - 1, by omega⟩
        rw [g3 j (by omega)]; exact h.flag j (by omega)
    · rw [gs]
      rcases Nat.lt_trichotomy i (k + 1) with g | rfl | g
      · rw [g1 i (by omega)] at hc
        have := h.src i (by omega) hc
        exact ⟨this.1, fun j hj => by rw [g1 j (by omega)]; exact this.2 j hj⟩
      · rw [g2] at hc
        cases hc
      · obtain ⟨i, rfl⟩ : ∃ j, i = j + 1 := ⟨i - 1, by omega⟩
        rw [g3 i (by omega)] at hc
        have := h.src i (by omega) hc
        refine ⟨this.1, fun j hj => ?_⟩
        rcases Nat.lt_trichotomy j (k + 1) with g' | rfl | g'
        · rw [g1 j (by omega)]; exact this.2 j (by omega)
        · rw [g2]; rfl
        · obtain ⟨j, rfl⟩ : ∃ l, j = l + 1 := ⟨j - 1, by omega⟩
          rw [g3 j (by omega)]; exact this.2 j (by omega)
  have hl : ({ c with L := insL c.L k ⟨newS t seed c.room now, false⟩ } : Ch).L.length = c.L.length + 1 := len_insL _ _ _ (by omega)
  unfold insN
  dsimp only
  split
  · rename_i hc
    have hf := hp.flag (k + 2) (by omega)
    have hc : (({ c with L := insL c.L k ⟨newS t seed c.room now, false⟩ } : Ch).at' (k + 2)).closed = true := hc
    rw [hf] at hc
    have hs := hp.src (k + 2) (by omega) hc
    exact hp.close (k + 1) (by omega) now hs.1 (fun j hj => hs.2 j (by omega))
  · exact hp
theorem Safe.rem (h : Safe c) (k : Nat) (now : Int) (hk : k + 3 ≤ c.L.length) : Safe (c.remC k now) ∧ (c.remC k now).lost = c.lost := by
  have hl := len_rem1 c k hk
  have g1 : ∀ j, j ≤ k → (c.rem1 k).at' j = c.at' j := fun j hj => out_lt _ _ _ (by omega) hj
  have g2 : ∀ j, k + 1 ≤ j → (c.rem1 k).at' j = c.at' (j + 1) := fun j hj => out_ge _ _ _ (by omega) hj
  have h1 : Safe (c.rem1 k) := by
    refine ⟨fun i hi => ?_, fun i hi => ?_, fun i hi hc => ?_⟩
    · by_cases g : i ≤ k
      · rw [g1 i g]; exact h.ok i (by omega)
      · rw [g2 i (by omega)]; exact h.ok (i + 1) (by omega)
    · by_cases g : i ≤ k
      · rw [g1 i g]; exact h.flag i (by omega)
      · rw [g2 i (by omega)]; exact h.flag (i + 1) (by omega)
    · show c.shut = true ∧ _
      by_cases g : i ≤ k
      · rw [g1 i g] at hc
        have := h.src i (by omega) hc
        exact ⟨this.1, fun j hj => by rw [g1 j (by omega)]; exact this.2 j hj⟩
      · rw [g2 i (by omega)] at hc
        have := h.src (i + 1) (by omega) hc
        refine ⟨this.1, fun j hj => ?_⟩
        by_cases g' : j ≤ k
        · rw [g1 j g']; exact this.2 j (by omega)
        · rw [g2 j (by omega)]; exact this.2 (j + 1) (by omega)
  have h2 : Safe (c.rem2 k now) := h1.push (k + 1) (by omega) now _ (fun i hi hi' hc => by
    rw [g2 i (by omega)] at hc
    exact (h.src (i + 1) (by omega) hc).2 (k + 1) (by omega))
  have hp := sz_push (c.at' (k + 2)).s now (c.at' (k + 1)).s.S
  have hg : c.gone k now = ((c.at' (k + 1)).s.S.size : Int) - (if (lookS (c.at' (k + 2)).s now).st = 0 then (c.at' (k + 1)).s.S.size else 0 : Nat) := by
    unfold gone rem2
    rw [at_on _ _ _ (by omega), g2 (k + 1) (Nat.le_refl _)]
    have hp' : ((doS (c.at' (k + 1 + 1)).s (oPush now (c.at' (k + 1)).s.S)).1.S.size : Int) = ((c.at' (k + 1 + 1)).s.S.size : Int) + ((if (lookS (c.at' (k + 2)).s now).st = 0 then (c.at' (k + 1)).s.S.size else 0 : Nat) : Int) := by
      rw [← Int.natCast_add]
      exact congrArg _ hp
    simp only
    rw [hp']
    omega
  have hg0 : ¬ 0 < c.gone k now := by
    rw [hg]
    split
    · omega
    · rename_i hn
      have := (stok_look (h.ok (k + 2) (by omega)) now).2
      rcases this with e | e
      · exact absurd e hn
      · have hc : (c.at' (k + 2)).s.closed = true := e.2.1
        have := (h.src (k + 2) (by omega) hc).2 (k + 1) (by omega)
        omega
  have h3 : c.rem3 k now = c.rem2 k now := by
    unfold rem3
    rw [if_neg hg0]
  have hl2 : (c.rem2 k now).L.length = (c.rem1 k).L.length := len_on _ _ _
  unfold remC
  rw [h3]
  split
  · rename_i hc
    rw [h.flag (k + 1) (by omega)] at hc
    have hs := h.src (k + 1) (by omega) hc
    refine ⟨h2.close (k + 1) (by omega) now hs.1 (fun j hj => ?_), rfl⟩
    show (((c.rem1 k).onC (k + 1) _).at' j).s.S.size = 0
    rw [at_other _ _ _ _ (by omega), g1 j (by omega)]
    exact hs.2 j hj
  · exact ⟨h2, rfl⟩
/-- P11.5: nothing is lost, and nothing broken, but by Timeout, Reset, Limit or Break. -/
theorem safe_do (h : Safe c) (o : COp) (hl : 2 ≤ c.L.length) (hs : c.state ≠ 2) (h2 : o.kind ≠ 2) (h5 : o.kind = 5 → o.t.k ≠ 4 ∧ o.t.k ≠ 5 ∧ o.t.k ≠ 6) : Safe (c.doN o) ∧ (c.doN o).lost = c.lost ∧ (c.doN o).state ≠ 2 := by
  unfold Ch.doN
  split
  · split
    · exact ⟨h, rfl, hs⟩
    · rename_i hn
      have hsh : c.shut = false := by
        cases e : c.shut with
        | false => rfl
        | true => exact absurd (Or.inl e) hn
      exact ⟨h.put o.now o.s (by omega) hsh, rfl, hs⟩
  split
  · split
    · have h1 := (h.same (c' := { c with shut := true }) rfl (fun _ => rfl)).close 0 (by show 0 < c.L.length; omega) o.now rfl (fun j hj => by cases hj)
      exact ⟨h1.same rfl (fun _ => rfl), rfl, hs⟩
    · exact ⟨h, rfl, hs⟩
  try rw [if_neg h2]
  split
  · exact h.step o.now hl hs
  split
  · try rw [if_neg hs]
    exact ⟨h.take (c.L.length - 1) (by omega) o.now o.n, rfl, hs⟩
  split
  · rename_i hk
    split
    · exact ⟨h, rfl, hs⟩
    · rename_i he
      have hb : ¬ (o.n < 0 ∨ (c.L.length : Int) - 2 < o.n ∨ 8 ≤ (c.L.length : Int) - 2) := fun hb => he (by unfold insE; rw [if_pos hb]; decide)
      exact ⟨h.ins _ _ _ _ (by omega) (h5 hk), lost_ins _ _ _ _ _, by rw [state_ins]; exact hs⟩
  split
  · split
    · have h1 := h.rem o.n.toNat o.now (by omega)
      exact ⟨h1.1, h1.2, by rw [state_rem]; exact hs⟩
    · exact ⟨h, rfl, hs⟩
  split
  · split
    · exact ⟨h.upd (o.n.toNat + 1) (by omega) o.now o.t, rfl, hs⟩
    · exact ⟨h, rfl, hs⟩
  · exact ⟨h, rfl, hs⟩
end
end Ch
end Go.Proofs.Ytfdfgnmgpgkknaa
namespace Go.Proofs.Ytfdfgnmgpgkknaa
open Go.RowKit

/-- Only a Reset is Broken. -/
def KindOk (s : St) : Prop := s.st = 0 ∨ s.st = 1 ∨ (s.st = 2 ∧ s.tx.k = 5)
theorem kind_look {s : St} (h : KindOk s) (now : Int) : KindOk (lookS s now) ∧ (lookS s now).tx.k = s.tx.k := by
  refine ⟨?_, rfl⟩
  show stateS s (tickS s.clock now) = 0 ∨ stateS s (tickS s.clock now) = 1 ∨ (stateS s (tickS s.clock now) = 2 ∧ s.tx.k = 5)
  unfold stateS
  split
  · exact h
  · split
    · rename_i h5
      exact Or.inr (Or.inr ⟨rfl, h5.1⟩)
    · (repeat' split) <;> first | exact Or.inl rfl | exact Or.inr (Or.inl rfl)
theorem force_tx (s : St) (b : ByteArray) : (forceS s b).tx = s.tx ∧ (forceS s b).st = s.st := by
  unfold forceS
  split
  · exact ⟨rfl, rfl⟩
  · split <;> exact ⟨rfl, rfl⟩
theorem kind_of {s s' : St} (h : KindOk s) (e : s'.tx.k = s.tx.k ∧ s'.st = s.st) : KindOk s' ∧ s'.tx.k = s.tx.k := ⟨by unfold KindOk; rw [e.1, e.2]; exact h, e.1⟩
theorem kind_do {s : St} (h : KindOk s) (o : Op) : KindOk (doS s o).1 ∧ (doS s o).1.tx.k = s.tx.k := by
  have hl := kind_look h o.now
  unfold doS
  by_cases k0 : o.kind = 0
  · rw [if_pos k0]
    show KindOk (bringS s o.now o.s).1 ∧ (bringS s o.now o.s).1.tx.k = s.tx.k
    unfold bringS
    dsimp only
    split
    · exact hl
    · have hf := force_tx (lookS s o.now) (o.s.extract 0 (if freeS (lookS s o.now) < (o.s.size : Int) then freeS (lookS s o.now) else (o.s.size : Int)).toNat)
      have := kind_of hl.1 (s' := forceS (lookS s o.now) (o.s.extract 0 (if freeS (lookS s o.now) < (o.s.size : Int) then freeS (lookS s o.now) else (o.s.size : Int)).toNat)) ⟨by rw [hf.1], hf.2⟩
      exact ⟨this.1, this.2.trans hl.2⟩
  rw [if_neg k0]
  by_cases k1 : o.kind = 1
  · rw [if_pos k1]
    show KindOk (pushS s o.now o.s) ∧ (pushS s o.now o.s).tx.k = s.tx.k
    unfold pushS
    dsimp only
    split
    · exact hl
    · have hf := force_tx (lookS s o.now) o.s
      have := kind_of hl.1 (s' := forceS (lookS s o.now) o.s) ⟨by rw [hf.1], hf.2⟩
      exact ⟨this.1, this.2.trans hl.2⟩
  rw [if_neg k1]
  by_cases k2 : o.kind = 2
  · rw [if_pos k2]
    show KindOk (takeS s o.now o.n).1 ∧ (takeS s o.now o.n).1.tx.k = s.tx.k
    unfold takeS
    dsimp only
    split
    · exact hl
    · generalize lookS s o.now = s1 at *
      have hg := Ch.give_st s1 (if o.n < ((gc.readyN s1.A s1.clock : Nat) : Int) then o.n else ((gc.readyN s1.A s1.clock : Nat) : Int))
      have := kind_of hl.1 (s' := cutS (giveS s1 (if o.n < ((gc.readyN s1.A s1.clock : Nat) : Int) then o.n else ((gc.readyN s1.A s1.clock : Nat) : Int))).1 (gc.takeK s1.A s1.clock (giveS s1 (if o.n < ((gc.readyN s1.A s1.clock : Nat) : Int) then o.n else ((gc.readyN s1.A s1.clock : Nat) : Int))).2)) ⟨by show (giveS s1 _).1.tx.k = _; rw [hg.2.1], hg.1⟩
      exact ⟨this.1, this.2.trans hl.2⟩
  rw [if_neg k2]
  by_cases k3 : o.kind = 3
  · rw [if_pos k3]
    show KindOk (closeS s o.now) ∧ (closeS s o.now).tx.k = s.tx.k
    unfold closeS
    split <;> exact ⟨h, rfl⟩
  rw [if_neg k3]
  by_cases k4 : o.kind = 4
  · rw [if_pos k4]
    exact hl
  rw [if_neg k4]
  by_cases k5 : o.kind = 5
  · rw [if_pos k5]
    show KindOk (updS s o.t o.now).1 ∧ (updS s o.t o.now).1.tx.k = s.tx.k
    unfold updS
    split
    · exact ⟨h, rfl⟩
    · rename_i e
      split
      · exact ⟨h, rfl⟩
      · split
        · exact ⟨h, rfl⟩
        · refine ⟨?_, ?_⟩
          · rcases hl.1 with e1 | e1 | e1
            · exact Or.inl e1
            · exact Or.inr (Or.inl e1)
            · refine Or.inr (Or.inr ⟨e1.1, ?_⟩)
              show o.t.k = 5
              have := e1.2
              omega
          · show o.t.k = s.tx.k
            omega
  rw [if_neg k5]
  by_cases k6 : o.kind = 6
  · rw [if_pos k6]
    exact ⟨h, rfl⟩
  rw [if_neg k6]
  exact ⟨h, rfl⟩
theorem kind_new (t : Tox) (seed room now : Int) : KindOk (newS t seed room now) := Or.inl rfl
namespace Ch
structure Ends (c : Ch) : Prop where
  ok : ∀ k, k < c.L.length → KindOk (c.at' k).s
  out : (c.at' (c.L.length - 1)).s.tx.k = 0
theorem Ends.same {c c' : Ch} (h : Ends c) (e : c'.L = c.L) : Ends c' := by
  have ha : ∀ k, c'.at' k = c.at' k := fun k => by unfold at'; rw [e]
  exact ⟨fun k hk => by rw [ha]; exact h.ok k (by rwa [e] at hk), by rw [ha, e]; exact h.out⟩
section
variable {c : Ch}
theorem Ends.on (h : Ends c) (k : Nat) (hk : k < c.L.length) (o : Op) : Ends (c.onC k o) := by
  have h1 := kind_do (h.ok k hk) o
  refine ⟨fun j hj => ?_, ?_⟩
  · rw [len_on] at hj
    by_cases e : k = j
    · subst e
      rw [at_on _ _ _ hk]
      exact h1.1
    · rw [at_other _ _ _ _ e]
      exact h.ok j hj
  · rw [len_on]
    by_cases e : k = c.L.length - 1
    · subst e
      rw [at_on _ _ _ hk]
      exact h1.2.trans h.out
    · rw [at_other _ _ _ _ e]
      exact h.out
theorem Ends.loseN (h : Ends c) (n : Nat) (hn : n ≤ c.L.length) : Ends (c.loseN n) := by
  induction n with
  | zero => exact h
  | succ n ih => exact ((ih (by omega)).on n (by rw [len_loseN]; omega) oDrain).same rfl
theorem Ends.lose (h : Ends c) (n : Nat) (hn : n ≤ c.L.length) : Ends (c.lose n) := (h.loseN n hn).same rfl
theorem Ends.break (h : Ends c) : Ends c.breakC := by
  unfold breakC
  split
  · exact h
  · exact (h.lose _ (Nat.le_refl _)).same rfl
theorem Ends.looks (h : Ends c) (now : Int) (n : Nat) (hn : n ≤ c.L.length) : Ends (c.looks now n) := by
  induction n with
  | zero => exact h
  | succ n ih => exact (ih (by omega)).on n (by rw [len_looks]; omega) _
theorem Ends.flow1 (h : Ends c) (now : Int) (i : Nat) (hi : i + 1 < c.L.length) : Ends (c.flow1 now i) := by
  unfold Ch.flow1
  dsimp only
  split
  · exact ((h.on (i + 1) hi _).on i (by rw [len_on]; omega) _).on (i + 1) (by rw [len_on, len_on]; exact hi) _
  · exact h.on (i + 1) hi _
theorem Ends.flow (h : Ends c) (now : Int) (n : Nat) (hn : n < c.L.length) : Ends (c.flow now n) := by
  induction n with
  | zero => exact h
  | succ n ih => exact (ih (by omega)).flow1 now n (by rw [len_flow]; exact hn)
theorem Ends.ends1 (h : Ends c) (now : Int) (i : Nat) (hi : i + 1 < c.L.length) : Ends (c.ends1 now i) := by
  unfold Ch.ends1
  dsimp only
  split
  · exact ((h.on i (by omega) _).lose (i + 1) (by rw [len_on]; omega)).on (i + 1) (by rw [len_lose, len_on]; exact hi) _
  · exact h.on i (by omega) _
theorem Ends.ends (h : Ends c) (now : Int) (n : Nat) (hn : n < c.L.length) : Ends (c.ends now n) := by
  induction n with
  | zero => exact h
  | succ n ih => exact (ih (by omega)).ends1 now n (by rw [len_ends]; exact hn)
theorem len_step3 (c : Ch) (now : Int) : (c.step3 now).L.length = c.L.length := by unfold step3; rw [len_ends, len_flow, len_looks]
theorem Ends.step3 (h : Ends c) (now : Int) (h2 : 2 ≤ c.L.length) : Ends (c.step3 now) := by
  have h1 := (h.looks now c.L.length (Nat.le_refl _)).flow now (c.L.length - 1) (by rw [len_looks]; omega)
  exact h1.ends now (c.L.length - 1) (by rw [len_flow, len_looks]; omega)
/-- The outlet is Open, or Closed. -/
theorem Ends.outlet (h : Ends c) (now : Int) (h2 : 2 ≤ c.L.length) : (c.ansC (c.L.length - 1) (oLook now)).n = 0 ∨ (c.ansC (c.L.length - 1) (oLook now)).n = 1 := by
  have h1 := kind_look (h.ok (c.L.length - 1) (by omega)) now
  rcases h1.1 with e | e | e
  · exact Or.inl e
  · exact Or.inr e
  · have := e.2
    rw [h1.2, h.out] at this
    omega
theorem Ends.step (h : Ends c) (now : Int) (h2 : 2 ≤ c.L.length) : Ends (c.stepC now) := by
  unfold stepC
  split
  · exact h
  · split
    · exact (h.looks now _ (Nat.le_refl _)).break
    · exact ((h.step3 now h2).on (c.L.length - 1) (by rw [len_step3]; omega) _).same rfl
theorem Ends.ins (h : Ends c) (k : Nat) (t : Tox) (seed now : Int) (hk : k + 2 ≤ c.L.length) : Ends (c.insN k t seed now) := by
  have hp : Ends ({ c with L := insL c.L k ⟨newS t seed c.room now, false⟩ } : Ch) := by
    have g1 : ∀ j, j ≤ k → ({ c with L := insL c.L k ⟨newS t seed c.room now, false⟩ } : Ch).at' j = c.at' j := fun j hj => insL_lt _ _ _ _ (by omega) hj
    have g2 : ({ c with L := insL c.L k ⟨newS t seed c.room now, false⟩ } : Ch).at' (k + 1) = ⟨newS t seed c.room now, false⟩ := insL_eq _ _ _ (by omega)
    have g3 : ∀ j, k + 1 ≤ j → ({ c with L := insL c.L k ⟨newS t seed c.room now, false⟩ } : Ch).at' (j + 1) = c.at' j := fun j hj => insL_gt _ _ _ _ (by omega) hj
    have gl : ({ c with L := insL c.L k ⟨newS t seed c.room now, false⟩ } : Ch).L.length = c.L.length + 1 := len_insL _ _ _ (by omega)
    generalize ({ c with L := insL c.L k ⟨newS t seed c.room now, false⟩ } : Ch) = d at *
    refine ⟨fun i hi => ?_, ?_⟩
    · rcases Nat.lt_trichotomy i (k + 1) with e | rfl | e
      · rw [g1 i (by omega)]; exact h.ok i (by omega)
      · rw [g2]; exact kind_new t _ _ _
      · obtain ⟨j, rfl⟩ : ∃ j, i = j + 1 := ⟨i - 1, by omega⟩
        rw [g3 j (by omega)]; exact h.ok j (by omega)
    · rw [gl, show c.L.length + 1 - 1 = (c.L.length - 1) + 1 by omega, g3 _ (by omega)]
      exact h.out
  have hl : ({ c with L := insL c.L k ⟨newS t seed c.room now, false⟩ } : Ch).L.length = c.L.length + 1 := len_insL _ _ _ (by omega)
  unfold insN
  dsimp only
  split
  · exact hp.on (k + 1) (by show k + 1 < (insL c.L k _).length; rw [len_insL _ _ _ (by omega)]; omega) _
  · exact hp
theorem Ends.rem (h : Ends c) (k : Nat) (now : Int) (hk : k + 3 ≤ c.L.length) : Ends (c.remC k now) := by
  have hl := len_rem1 c k hk
  have h1 : Ends (c.rem1 k) := by
    refine ⟨fun i hi => ?_, ?_⟩
    · by_cases e : i ≤ k
      · show KindOk ((outL c.L k).getD i noPrt).s
        rw [out_lt _ _ _ (by omega) e]
        exact h.ok i (by omega)
      · show KindOk ((outL c.L k).getD i noPrt).s
        rw [out_ge _ _ _ (by omega) (by omega)]
        exact h.ok (i + 1) (by omega)
    · show ((outL c.L k).getD ((c.rem1 k).L.length - 1) noPrt).s.tx.k = 0
      rw [out_ge _ _ _ (by omega) (by omega), show (c.rem1 k).L.length - 1 + 1 = c.L.length - 1 by omega]
      exact h.out
  have h2 : Ends (c.rem2 k now) := h1.on (k + 1) (by omega) _
  have hl2 : (c.rem2 k now).L.length = (c.rem1 k).L.length := len_on _ _ _
  have h3 : Ends (c.rem3 k now) ∧ (c.rem3 k now).L.length = (c.rem1 k).L.length := by
    unfold rem3
    split
    · refine ⟨(h2.same (c' := { c.rem2 k now with lost := c.lost + c.gone k now }) rfl).lose (k + 1) (by show k + 1 ≤ (c.rem2 k now).L.length; omega), ?_⟩
      rw [len_lose]
      exact hl2
    · exact ⟨h2, hl2⟩
  unfold remC
  split
  · exact h3.1.on (k + 1) (by omega) _
  · exact h3.1
theorem Ends.doN (h : Ends c) (o : COp) (h2 : 2 ≤ c.L.length) : Ends (c.doN o) := by
  unfold Ch.doN
  split
  · split
    · exact h
    · exact h.on 0 (by omega) _
  split
  · split
    · exact (h.on 0 (by omega) _).same rfl
    · exact h
  split
  · exact h.break
  split
  · exact h.step o.now h2
  split
  · split
    · exact h
    · exact h.on (c.L.length - 1) (by omega) _
  split
  · split
    · exact h
    · rename_i he
      have hb : ¬ (o.n < 0 ∨ (c.L.length : Int) - 2 < o.n ∨ 8 ≤ (c.L.length : Int) - 2) := fun hb => he (by unfold insE; rw [if_pos hb]; decide)
      exact h.ins _ _ _ _ (by omega)
  split
  · split
    · exact h.rem _ _ (by omega)
    · exact h
  split
  · split
    · exact h.on _ (by omega) _
    · exact h
  · exact h
theorem Ends.new (room now : Int) : Ends (newC room now) := by
  refine ⟨fun k hk => ?_, rfl⟩
  have hk : k < 2 := hk
  match k, hk with
  | 0, _ => exact kind_new noTox 0 room now
  | 1, _ => exact kind_new noTox 0 room now
end
end Ch
end Go.Proofs.Ytfdfgnmgpgkknaa
