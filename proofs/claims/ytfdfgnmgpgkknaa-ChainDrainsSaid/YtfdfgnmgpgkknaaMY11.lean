/-
  Layer 11 (chain) as mathematics: what is Closed, or Broken, stays so (P11.3, P11.4); what is lost stays lost. Conditions: none.
  Layer 11 (chain) as mathematics: each stage stays within its numbers: what passed a stage, and what the stages up to it hold, is no more than what was put. Conditions: none.
  Layer 11 (chain) as mathematics: each call leaves each stage within its numbers. Conditions: none.
  Layer 11 (chain) as mathematics: insert, remove, and every call. Conditions: none.
  Layer 11 (chain) as mathematics: remove, and every call. Conditions: none.
-/
import Derived.Test.YtfdfgnmgpgkknaaMY10
namespace Go.Proofs.Ytfdfgnmgpgkknaa
open Go.RowKit
namespace Ch

theorem lost_loseN (c : Ch) (n : Nat) : c.lost ≤ (c.loseN n).lost := by
  induction n with
  | zero => exact Int.le_refl _
  | succ n ih =>
    show c.lost ≤ (c.loseN n).lost + (((c.loseN n).ansC n oDrain).s.size : Nat)
    omega
theorem lost_break (c : Ch) : c.lost ≤ c.breakC.lost := by
  unfold breakC
  split
  · exact Int.le_refl _
  · exact lost_loseN c _
theorem lost_looks (c : Ch) (now : Int) (n : Nat) : (c.looks now n).lost = c.lost := by
  induction n with
  | zero => rfl
  | succ n ih => exact ih
theorem lost_flow1 (c : Ch) (now : Int) (i : Nat) : (c.flow1 now i).lost = c.lost := by
  unfold flow1
  dsimp only
  split <;> rfl
theorem lost_flow (c : Ch) (now : Int) (n : Nat) : (c.flow now n).lost = c.lost := by
  induction n with
  | zero => rfl
  | succ n ih => exact (lost_flow1 _ _ _).trans ih
theorem lost_ends1 (c : Ch) (now : Int) (i : Nat) : c.lost ≤ (c.ends1 now i).lost := by
  unfold ends1
  dsimp only
  split
  · exact lost_loseN (c.onC i (oLook now)) (i + 1)
  · exact Int.le_refl _
theorem lost_ends (c : Ch) (now : Int) (n : Nat) : c.lost ≤ (c.ends now n).lost := by
  induction n with
  | zero => exact Int.le_refl _
  | succ n ih => exact Int.le_trans ih (lost_ends1 _ _ _)
theorem lost_step (c : Ch) (now : Int) : c.lost ≤ (c.stepC now).lost := by
  unfold stepC
  split
  · exact Int.le_refl _
  · split
    · have := lost_break (c.looks now c.L.length)
      rw [lost_looks] at this
      exact this
    · show c.lost ≤ (c.step3 now).lost
      unfold step3
      have := lost_ends ((c.looks now c.L.length).flow now (c.L.length - 1)) now (c.L.length - 1)
      rw [lost_flow, lost_looks] at this
      exact this
theorem lost_ins (c : Ch) (k : Nat) (t : Tox) (seed now : Int) : (c.insN k t seed now).lost = c.lost := by
  unfold insN
  dsimp only
  split <;> rfl
theorem lost_rem (c : Ch) (k : Nat) (now : Int) : c.lost ≤ (c.remC k now).lost := by
  have h : c.lost ≤ (c.rem3 k now).lost := by
    unfold rem3
    split
    · have := lost_loseN ({ c.rem2 k now with lost := c.lost + c.gone k now } : Ch) (k + 1)
      have h2 : ({ c.rem2 k now with lost := c.lost + c.gone k now } : Ch).lost = c.lost + c.gone k now := rfl
      show c.lost ≤ (({ c.rem2 k now with lost := c.lost + c.gone k now } : Ch).loseN (k + 1)).lost
      omega
    · exact Int.le_refl _
  unfold remC
  split <;> exact h
/-- What is lost stays lost. -/
theorem lost_do (c : Ch) (o : COp) : c.lost ≤ (c.doN o).lost := by
  unfold doN
  split
  · split <;> exact Int.le_refl _
  split
  · split <;> exact Int.le_refl _
  split
  · exact lost_break c
  split
  · exact lost_step c _
  split
  · split <;> exact Int.le_refl _
  split
  · split
    · exact Int.le_refl _
    · rw [lost_ins]; exact Int.le_refl _
  split
  · split
    · exact lost_rem c _ _
    · exact Int.le_refl _
  split
  · split <;> exact Int.le_refl _
  · exact Int.le_refl _

theorem state_loseN (c : Ch) (n : Nat) : (c.loseN n).state = c.state := by
  induction n with
  | zero => rfl
  | succ n ih => exact ih
theorem state_rem (c : Ch) (k : Nat) (now : Int) : (c.remC k now).state = c.state := by
  have h : (c.rem3 k now).state = c.state := by
    unfold rem3
    split
    · exact state_loseN _ _
    · rfl
  unfold remC
  split <;> exact h
theorem state_ins (c : Ch) (k : Nat) (t : Tox) (seed now : Int) : (c.insN k t seed now).state = c.state := by
  unfold insN
  dsimp only
  split <;> rfl
/-- What is Closed, or Broken, stays so; nothing is put then. -/
theorem state_do (c : Ch) (o : COp) (h : c.state = 1 ∨ c.state = 2) : (c.doN o).state = c.state ∧ (o.kind = 0 → (c.doA o).n = 0) ∧ (c.state = 2 → (c.doA o).s.size = 0) := by
  have h0 : c.state ≠ 0 := by omega
  refine ⟨?_, fun hk => ?_, fun h2 => ?_⟩
  · unfold doN
    split
    · split <;> rfl
    split
    · first | rfl | rw [if_neg h0]
    split
    · unfold breakC
      split
      · rfl
      · show (2 : Int) = _
        omega
    split
    · unfold stepC
      rw [if_pos h0]
    split
    · split <;> rfl
    split
    · split
      · rfl
      · exact state_ins c _ _ _ _
    split
    · split
      · exact state_rem c _ _
      · rfl
    split
    · split <;> rfl
    · rfl
  · unfold doA
    rw [if_pos hk, if_pos (Or.inr h0)]
    rfl
  · unfold doA
    split
    · rw [if_pos (Or.inr h0)]
      rfl
    split
    · rfl
    split
    · rfl
    split
    · rfl
    split
    · first | rfl | (rw [if_pos h2]; rfl)
    split
    · rfl
    split
    · split <;> rfl
    split
    · split <;> rfl
    · rfl
/-- Of what is Broken nothing is held. -/
theorem none_held (c : Ch) (o : COp) (h : 2 ≤ c.L.length ∧ c.L.length ≤ 10) (hs : c.state = 2) (hh : c.held = 0) : (c.doN o).held = 0 := by
  have h1 := bal_do c o h
  have h2 := lost_do c o
  have h3 := state_do c o (Or.inr hs)
  have h4 : (if o.kind = 0 then (c.doA o).n else 0) = 0 := by
    split
    · exact h3.2.1 (by assumption)
    · rfl
  rw [h4, h3.2.2 hs] at h1
  unfold bal at h1
  omega
theorem held_loseAll (c : Ch) (n : Nat) (h : n ≤ c.L.length) : ∀ i, i < n → ((c.loseN n).at' i).s.S.size = 0 := by
  induction n with
  | zero => intro i hi; cases hi
  | succ n ih =>
    intro i hi
    show (((c.loseN n).onC n oDrain).at' i).s.S.size = 0
    by_cases e : n = i
    · subst e
      rw [at_on _ _ _ (by rw [len_loseN]; omega)]
      rfl
    · rw [at_other _ _ _ _ e]
      exact ih (by omega) i (by omega)
theorem sum_zero (l : List Prt) (h : ∀ i, i < l.length → (l.getD i noPrt).s.S.size = 0) : (l.map fun p => p.s.S.size).sum = 0 := by
  induction l with
  | nil => rfl
  | cons p r ih =>
    have h0 := h 0 (by simp)
    have h1 := ih (fun i hi => by
      have := h (i + 1) (by simpa using hi)
      rwa [List.getD_cons_succ] at this)
    simp only [List.getD_cons_zero] at h0
    simp only [List.map_cons, List.sum_cons]
    omega
theorem held_break (c : Ch) (h : c.state ≠ 1) : c.breakC.held = 0 ∧ c.breakC.state = 2 ∧ c.breakC.shut = true := by
  unfold breakC
  rw [if_neg h]
  refine ⟨sum_zero _ fun i hi => ?_, rfl, rfl⟩
  have hi' : i < c.L.length := by
    have : (c.loseN c.L.length).L.length = c.L.length := len_loseN _ _
    have hh : i < (c.loseN c.L.length).L.length := hi
    omega
  exact held_loseAll c c.L.length (Nat.le_refl _) i hi'
end Ch
end Go.Proofs.Ytfdfgnmgpgkknaa
namespace Go.Proofs.Ytfdfgnmgpgkknaa
open Go.RowKit
namespace Ch

/-- What the stages up to one hold. -/
def pre (c : Ch) (k : Nat) : Nat := ((c.L.take (k + 1)).map fun p => p.s.S.size).sum
theorem pre_lt (c : Ch) (k i : Nat) (o : Op) (h : i < k) : (c.onC k o).pre i = c.pre i := by
  unfold pre onC
  simp only
  rw [List.take_set_of_le (by omega)]
theorem pre_ge (c : Ch) (k i : Nat) (o : Op) (h : k ≤ i) (hk : k < c.L.length) : (c.onC k o).pre i + (c.at' k).s.S.size = c.pre i + (doS (c.at' k).s o).1.S.size := by
  unfold pre onC
  simp only
  rw [List.take_set]
  have h1 := held_set (c.L.take (i + 1)) k ⟨(doS (c.at' k).s o).1, (c.at' k).closed || o.kind == 3⟩ (by rw [List.length_take]; omega)
  have h2 : (c.L.take (i + 1)).getD k noPrt = c.at' k := by
    unfold at'
    rw [List.getD_eq_getElem?_getD, List.getD_eq_getElem?_getD, List.getElem?_take_of_lt (by omega)]
  rw [h2] at h1
  exact h1
structure Fine (c : Ch) (M : Nat) : Prop where
  len : 2 ≤ c.L.length ∧ c.L.length ≤ 10
  top : M ≤ 400000
  ok : ∀ k, k < c.L.length → Ok (c.at' k).s M ∧ (c.at' k).s.A.length = (c.at' k).s.S.size
  pre : ∀ k, k < c.L.length → (c.at' k).s.passed + c.pre k ≤ M
theorem size_le_pre (c : Ch) (k : Nat) (h : k < c.L.length) : (c.at' k).s.S.size ≤ c.pre k := by
  have h1 := pre_ge c k k ⟨9, 0, 0, ⟨#[]⟩, noTox⟩ (Nat.le_refl _) h
  have h2 := sum_set ((c.L.take (k + 1)).map fun p => p.s.S.size) k 0 (by rw [List.length_map, List.length_take]; omega)
  have h3 : ((c.L.take (k + 1)).map fun p => p.s.S.size).getD k 0 = (c.at' k).s.S.size := by
    unfold at'
    rw [List.getD_eq_getElem?_getD, List.getD_eq_getElem?_getD, List.getElem?_map, List.getElem?_take_of_lt (by omega), List.getElem?_eq_getElem h]
    rfl
  rw [h3] at h2
  show _ ≤ ((c.L.take (k + 1)).map fun p => p.s.S.size).sum
  omega
/-- A call on a stage. -/
theorem fine_on {c : Ch} {M M' : Nat} (hc : Fine c M) (k : Nat) (hk : k < c.L.length) (o : Op) (d : Nat) (ht : o.t.s.size ≤ maxLen) (hf : M' ≤ 400000) (hM : M ≤ M') (ho : M + o.s.size ≤ 1000000)
    (h1 : (doS (c.at' k).s o).1.passed + (doS (c.at' k).s o).1.S.size ≤ (c.at' k).s.passed + (c.at' k).s.S.size + d) (h2 : (doS (c.at' k).s o).1.S.size ≤ (c.at' k).s.S.size + d)
    (hd : ∀ j, k ≤ j → j < c.L.length → (c.at' j).s.passed + c.pre j + d ≤ M') : Fine (c.onC k o) M' := by
  have hpre : ∀ j, j < c.L.length → ((c.onC k o).at' j).s.passed + (c.onC k o).pre j ≤ M' := fun j hj => by
    by_cases e : k = j
    · subst e
      rw [at_on _ _ _ hk]
      have e1 := pre_ge c k k o (Nat.le_refl _) hk
      have e2 := hd k (Nat.le_refl _) hk
      show (doS (c.at' k).s o).1.passed + _ ≤ _
      omega
    · rw [at_other _ _ _ _ e]
      by_cases l : j < k
      · rw [pre_lt _ _ _ _ l]
        have := hc.pre j hj
        omega
      · have e1 := pre_ge c k j o (by omega) hk
        have e2 := hd j (by omega) hj
        omega
  refine ⟨by rw [len_on]; exact hc.len, hf, fun j hj => ?_, fun j hj => hpre j (by rwa [len_on] at hj)⟩
  rw [len_on] at hj
  have hb := hpre j hj
  have hs := size_le_pre (c.onC k o) j (by rw [len_on]; exact hj)
  by_cases e : k = j
  · subst e
    rw [at_on _ _ _ hk] at *
    have hok := (hc.ok k hk).1.doS (hc.ok k hk).2 o ht (Nat.le_refl _) ho
    exact ⟨⟨hok.tx, hok.name, hok.clock, ⟨hok.passed.1, by
      show (doS (c.at' k).s o).1.passed + ((doS (c.at' k).s o).1.S.size : Int) ≤ M'
      have hs' : (doS (c.at' k).s o).1.S.size ≤ (c.onC k o).pre k := hs
      have hb' : (doS (c.at' k).s o).1.passed + ((c.onC k o).pre k : Int) ≤ M' := hb
      omega⟩, hok.room, hok.bk, by omega⟩, len_do (hc.ok k hk).2 o⟩
  · rw [at_other _ _ _ _ e]
    exact ⟨(hc.ok j hj).1.more hM (by omega), (hc.ok j hj).2⟩
theorem passed_do (s : St) (now : Int) : (doS s (oClose now)).1.passed = s.passed ∧ (doS s (oLook now)).1.passed = s.passed ∧ (doS s oDrain).1.passed = s.passed := by
  refine ⟨?_, rfl, rfl⟩
  show (closeS s now).passed = _
  unfold closeS
  split <;> rfl
theorem passed_take (s : St) (now n : Int) (hl : s.A.length = s.S.size) : (doS s (oTake now n)).1.passed + (doS s (oTake now n)).1.S.size = s.passed + s.S.size ∧ (doS s (oTake now n)).1.S.size ≤ s.S.size := by
  have h := sz_take s now n
  refine ⟨?_, by omega⟩
  show (takeS s now n).1.passed + ((takeS s now n).1.S.size : Int) = _
  unfold takeS
  dsimp only
  split
  · rfl
  · generalize hm : (if n < ((gc.readyN (lookS s now).A (lookS s now).clock : Nat) : Int) then n else ((gc.readyN (lookS s now).A (lookS s now).clock : Nat) : Int)) = m
    have hk := give_keeps (lookS s now) m
    have hK := gc.takeK_le (lookS s now).A (lookS s now).clock (giveS (lookS s now) m).2
    have hl' : (lookS s now).A.length = (lookS s now).S.size := hl
    show (giveS (lookS s now) m).1.passed + ((gc.takeK (lookS s now).A (lookS s now).clock (giveS (lookS s now) m).2 : Nat) : Int) + (((giveS (lookS s now) m).1.S.extract _ (giveS (lookS s now) m).1.S.size).size : Int) = _
    rw [hk.1, hk.2.2.2.2.2.1, ByteArray.size_extract]
    have e1 : (lookS s now).S = s.S := rfl
    have e2 : (lookS s now).passed = s.passed := rfl
    rw [e1, e2]
    rw [e1] at hl'
    omega
end Ch
end Go.Proofs.Ytfdfgnmgpgkknaa
namespace Go.Proofs.Ytfdfgnmgpgkknaa
open Go.RowKit
namespace Ch

theorem Fine.same {c c' : Ch} {M : Nat} (h : Fine c M) (e : c'.L = c.L) : Fine c' M := by
  have ha : ∀ k, c'.at' k = c.at' k := fun k => by unfold at'; rw [e]
  have hp : ∀ k, c'.pre k = c.pre k := fun k => by unfold Ch.pre; rw [e]
  exact ⟨by rw [e]; exact h.len, h.top, fun k hk => by rw [ha]; exact h.ok k (by rwa [e] at hk), fun k hk => by rw [ha, hp]; exact h.pre k (by rwa [e] at hk)⟩
theorem Fine.held_le {c : Ch} {M : Nat} (h : Fine c M) : c.held ≤ M := by
  have h1 := h.len
  have h2 := h.pre (c.L.length - 1) (by omega)
  have h3 := (h.ok (c.L.length - 1) (by omega)).1.passed
  have h4 : c.pre (c.L.length - 1) = c.held := by
    unfold Ch.pre held
    rw [List.take_of_length_le (by omega)]
  omega
theorem nothing : (⟨#[]⟩ : ByteArray).size = 0 := rfl
theorem noTox_s : noTox.s.size ≤ maxLen := by decide
section
variable {c : Ch} {M : Nat}
theorem Fine.mono {M' : Nat} (h : Fine c M) (hM : M ≤ M') (hf : M' ≤ 400000) : Fine c M' :=
  ⟨h.len, hf, fun k hk => ⟨(h.ok k hk).1.more hM (by omega), (h.ok k hk).2⟩, fun k hk => by have := h.pre k hk; omega⟩
theorem Fine.still (h : Fine c M) (k : Nat) (hk : k < c.L.length) (o : Op) (ht : o.t.s.size ≤ maxLen) (ho : o.s.size = 0)
    (h1 : (doS (c.at' k).s o).1.passed + (doS (c.at' k).s o).1.S.size ≤ (c.at' k).s.passed + (c.at' k).s.S.size) (h2 : (doS (c.at' k).s o).1.S.size ≤ (c.at' k).s.S.size) : Fine (c.onC k o) M :=
  fine_on h k hk o 0 ht h.top (Nat.le_refl _) (by have := h.top; omega) (by omega) (by omega) (fun j _ hj => by have := h.pre j hj; omega)
theorem Fine.close (h : Fine c M) (k : Nat) (hk : k < c.L.length) (now : Int) : Fine (c.onC k (oClose now)) M :=
  h.still k hk _ noTox_s rfl (by rw [(passed_do _ now).1, sz_close]; exact Int.le_refl _) (by rw [sz_close]; exact Nat.le_refl _)
theorem Fine.look (h : Fine c M) (k : Nat) (hk : k < c.L.length) (now : Int) : Fine (c.onC k (oLook now)) M :=
  h.still k hk _ noTox_s rfl (Int.le_refl _) (Nat.le_refl _)
theorem Fine.drain (h : Fine c M) (k : Nat) (hk : k < c.L.length) : Fine (c.onC k oDrain) M :=
  h.still k hk _ noTox_s rfl (by rw [(passed_do _ 0).2.2, (sz_drain _).1]; omega) (by rw [(sz_drain _).1]; exact Nat.zero_le _)
theorem Fine.take (h : Fine c M) (k : Nat) (hk : k < c.L.length) (now n : Int) : Fine (c.onC k (oTake now n)) M :=
  have e := passed_take (c.at' k).s now n (h.ok k hk).2
  h.still k hk _ noTox_s rfl (by rw [e.1]; exact Int.le_refl _) e.2
theorem upd_passed (s : St) (t : Tox) (now : Int) : (updS s t now).1.passed = s.passed := by
  unfold updS
  (repeat' split) <;> rfl
theorem Fine.upd (h : Fine c M) (k : Nat) (hk : k < c.L.length) (now : Int) (t : Tox) (ht : t.s.size ≤ maxLen) : Fine (c.onC k (oUpd now t)) M :=
  h.still k hk _ ht rfl (by rw [sz_upd]; show (updS (c.at' k).s t now).1.passed + _ ≤ _; rw [upd_passed]; exact Int.le_refl _) (by rw [sz_upd]; exact Nat.le_refl _)
theorem Fine.loseN (h : Fine c M) (n : Nat) (hn : n ≤ c.L.length) : Fine (c.loseN n) M := by
  induction n with
  | zero => exact h
  | succ n ih => exact ((ih (by omega)).drain n (by rw [len_loseN]; omega)).same rfl
theorem Fine.lose (h : Fine c M) (n : Nat) (hn : n ≤ c.L.length) : Fine (c.lose n) M := (h.loseN n hn).same rfl
theorem Fine.break (h : Fine c M) : Fine c.breakC M := by
  unfold breakC
  split
  · exact h
  · exact (h.lose _ (Nat.le_refl _)).same rfl
theorem Fine.looks (h : Fine c M) (now : Int) (n : Nat) (hn : n ≤ c.L.length) : Fine (c.looks now n) M := by
  induction n with
  | zero => exact h
  | succ n ih => exact (ih (by omega)).look n (by rw [len_looks]; omega) now
theorem force_passed (s : St) (b : ByteArray) : (forceS s b).passed = s.passed := by
  unfold forceS
  split
  · rfl
  · split <;> rfl
theorem push_passed (s : St) (now : Int) (b : ByteArray) : (pushS s now b).passed = s.passed := by
  unfold pushS
  dsimp only
  split
  · rfl
  · exact force_passed _ _
theorem bring_passed (s : St) (now : Int) (b : ByteArray) : (bringS s now b).1.passed = s.passed := by
  unfold bringS
  dsimp only
  split
  · rfl
  · exact force_passed _ _
theorem Fine.push (h : Fine c M) (k : Nat) (hk : k < c.L.length) (now : Int) (b : ByteArray) (hb : b.size ≤ 400000) (hd : ∀ j, k ≤ j → j < c.L.length → (c.at' j).s.passed + c.pre j + b.size ≤ M) : Fine (c.onC k (oPush now b)) M := by
  have e := sz_push (c.at' k).s now b
  have e2 : (doS (c.at' k).s (oPush now b)).1.passed = (c.at' k).s.passed := push_passed _ _ _
  have e3 : (doS (c.at' k).s (oPush now b)).1.S.size ≤ (c.at' k).s.S.size + b.size := by rw [e]; split <;> omega
  exact fine_on h k hk _ b.size noTox_s h.top (Nat.le_refl _) (by have := h.top; show M + b.size ≤ _; omega) (by omega) e3 hd
theorem Fine.put (h : Fine c M) (now : Int) (b : ByteArray) (hb : M + b.size ≤ 400000) : Fine (c.onC 0 (oPut now b)) (M + b.size) := by
  have h0 := h.len
  have e := sz_put (c.at' 0).s now b
  have e1 := do_n (c.at' 0).s (oPut now b) rfl
  have e2 : (doS (c.at' 0).s (oPut now b)).1.passed = (c.at' 0).s.passed := bring_passed _ _ _
  have e4 : (oPut now b).s.size = b.size := rfl
  exact fine_on h 0 (by omega) _ b.size noTox_s hb (by omega) (by show M + b.size ≤ _; omega) (by omega) (by omega) (fun j _ hj => by have := h.pre j hj; omega)
theorem Fine.flow1 (h : Fine c M) (now : Int) (i : Nat) (hi : i + 1 < c.L.length) : Fine (c.flow1 now i) M := by
  have h1 := h.look (i + 1) hi now
  unfold Ch.flow1
  dsimp only
  split
  · have hl : (c.onC (i + 1) (oLook now)).L.length = c.L.length := len_on _ _ _
    generalize c.onC (i + 1) (oLook now) = d at *
    generalize freeS (d.at' (i + 1)).s = m at *
    have h2 := h1.take i (by omega) now m
    have e := sz_take (d.at' i).s now m
    have hs := size_le_pre d i (by omega)
    have hp := h1.pre i (by omega)
    have hq := (h1.ok i (by omega)).1.passed.1
    have ht := h1.top
    refine h2.push (i + 1) (by rw [len_on]; omega) now _ (by unfold ansC; omega) fun j hj hj' => ?_
    rw [len_on] at hj'
    rw [at_other _ _ _ _ (by omega)]
    have e1 := pre_ge d i j (oTake now m) (by omega) (by omega)
    have e2 := h1.pre j hj'
    unfold ansC
    omega
  · exact h1
theorem Fine.flow (h : Fine c M) (now : Int) (n : Nat) (hn : n < c.L.length) : Fine (c.flow now n) M := by
  induction n with
  | zero => exact h
  | succ n ih => exact (ih (by omega)).flow1 now n (by rw [len_flow]; exact hn)
theorem Fine.ends1 (h : Fine c M) (now : Int) (i : Nat) (hi : i + 1 < c.L.length) : Fine (c.ends1 now i) M := by
  have h1 := h.look i (by omega) now
  unfold Ch.ends1
  dsimp only
  split
  · exact (h1.lose (i + 1) (by rw [len_on]; omega)).close (i + 1) (by rw [len_lose, len_on]; omega) now
  · exact h1
theorem Fine.ends (h : Fine c M) (now : Int) (n : Nat) (hn : n < c.L.length) : Fine (c.ends now n) M := by
  induction n with
  | zero => exact h
  | succ n ih => exact (ih (by omega)).ends1 now n (by rw [len_ends]; exact hn)
theorem Fine.step (h : Fine c M) (now : Int) : Fine (c.stepC now) M := by
  have h0 := h.len
  have h1 := h.looks now c.L.length (Nat.le_refl _)
  unfold stepC
  split
  · exact h
  · split
    · exact h1.break
    · have h2 := h1.flow now (c.L.length - 1) (by rw [len_looks]; omega)
      have h3 := h2.ends now (c.L.length - 1) (by rw [len_flow, len_looks]; omega)
      exact (h3.look (c.L.length - 1) (by rw [len_ends, len_flow, len_looks]; omega) now).same rfl
end
end Ch
end Go.Proofs.Ytfdfgnmgpgkknaa
namespace Go.Proofs.Ytfdfgnmgpgkknaa
open Go.RowKit
namespace Ch
section
variable {c : Ch} {M : Nat}
def insL (l : List Prt) (k : Nat) (p : Prt) : List Prt := l.take (k + 1) ++ p :: l.drop (k + 1)
theorem insL_lt (l : List Prt) (k j : Nat) (p : Prt) (h : k + 1 ≤ l.length) (hj : j ≤ k) : (insL l k p).getD j noPrt = l.getD j noPrt := by
  unfold insL
  rw [List.getD_eq_getElem?_getD, List.getD_eq_getElem?_getD, List.getElem?_append_left (by rw [List.length_take]; omega), List.getElem?_take_of_lt (by omega)]
theorem insL_eq (l : List Prt) (k : Nat) (p : Prt) (h : k + 1 ≤ l.length) : (insL l k p).getD (k + 1) noPrt = p := by
  unfold insL
  rw [List.getD_eq_getElem?_getD, List.getElem?_append_right (by rw [List.length_take]; omega), List.length_take]
  rw [show k + 1 - min (k + 1) l.length = 0 by omega]
  rfl
theorem insL_gt (l : List Prt) (k j : Nat) (p : Prt) (h : k + 1 ≤ l.length) (hj : k + 1 ≤ j) : (insL l k p).getD (j + 1) noPrt = l.getD j noPrt := by
  unfold insL
  rw [List.getD_eq_getElem?_getD, List.getD_eq_getElem?_getD, List.getElem?_append_right (by rw [List.length_take]; omega), List.length_take]
  rw [show j + 1 - min (k + 1) l.length = (j - (k + 1)) + 1 by omega, List.getElem?_cons_succ, List.getElem?_drop]
  congr 2
  omega
def sumL (l : List Prt) (j : Nat) : Nat := ((l.take (j + 1)).map fun p => p.s.S.size).sum
theorem sum_lt (l : List Prt) (k j : Nat) (p : Prt) (h : k + 1 ≤ l.length) (hj : j ≤ k) : sumL (insL l k p) j = sumL l j := by
  unfold sumL insL
  rw [List.take_append_of_le_length (by rw [List.length_take]; omega), List.take_take, show min (j + 1) (k + 1) = j + 1 by omega]
theorem sum_ge (l : List Prt) (k j : Nat) (p : Prt) (h : k + 1 ≤ l.length) (hj : k ≤ j) : sumL (insL l k p) (j + 1) = sumL l j + p.s.S.size := by
  unfold sumL insL
  rw [List.take_append, List.length_take, List.take_of_length_le (by rw [List.length_take]; omega)]
  rw [show j + 1 + 1 - min (k + 1) l.length = (j - k) + 1 by omega, List.take_succ_cons]
  have e : l.take (j + 1) = l.take (k + 1) ++ (l.drop (k + 1)).take (j - k) := by
    rw [← List.take_add, show k + 1 + (j - k) = j + 1 by omega]
  rw [e]
  simp only [List.map_append, List.map_cons, List.sum_append, List.sum_cons]
  omega
theorem len_insL (l : List Prt) (k : Nat) (p : Prt) (h : k + 1 ≤ l.length) : (insL l k p).length = l.length + 1 := by
  unfold insL
  simp
  omega
theorem Fine.put_in (h : Fine c M) (k : Nat) (hk : k + 2 ≤ c.L.length) (h8 : c.L.length < 10) (p : Prt) (hp : Ok p.s 0) (hl : p.s.A.length = p.s.S.size) (hz : p.s.S.size = 0) (h0 : p.s.passed = 0) : Fine { c with L := insL c.L k p } M := by
  refine ⟨?_, h.top, fun j hj => ?_, fun j hj => ?_⟩
  · show 2 ≤ (insL c.L k p).length ∧ (insL c.L k p).length ≤ 10
    rw [len_insL _ _ _ (by omega)]
    omega
  · have hj : j < (insL c.L k p).length := hj
    rw [len_insL _ _ _ (by omega)] at hj
    show Ok ((insL c.L k p).getD j noPrt).s M ∧ ((insL c.L k p).getD j noPrt).s.A.length = ((insL c.L k p).getD j noPrt).s.S.size
    rcases Nat.lt_trichotomy j (k + 1) with g | rfl | g
    · rw [insL_lt _ _ _ _ (by omega) (by omega)]
      exact h.ok j (by omega)
    · rw [insL_eq _ _ _ (by omega)]
      exact ⟨hp.more (Nat.zero_le _) (by have := h.top; omega), hl⟩
    · obtain ⟨i, rfl⟩ : ∃ i, j = i + 1 := ⟨j - 1, by omega⟩
      rw [insL_gt _ _ _ _ (by omega) (by omega)]
      exact h.ok i (by omega)
  · have hj : j < (insL c.L k p).length := hj
    rw [len_insL _ _ _ (by omega)] at hj
    show ((insL c.L k p).getD j noPrt).s.passed + (sumL (insL c.L k p) j : Int) ≤ M
    rcases Nat.lt_trichotomy j (k + 1) with g | rfl | g
    · rw [insL_lt _ _ _ _ (by omega) (by omega), sum_lt _ _ _ _ (by omega) (by omega)]
      exact h.pre j (by omega)
    · rw [insL_eq _ _ _ (by omega), sum_ge _ _ _ _ (by omega) (Nat.le_refl _), hz, h0]
      have h1 := h.pre k (by omega)
      have h2 := (h.ok k (by omega)).1.passed.1
      have h3 : c.pre k = sumL c.L k := rfl
      omega
    · obtain ⟨i, rfl⟩ : ∃ i, j = i + 1 := ⟨j - 1, by omega⟩
      rw [insL_gt _ _ _ _ (by omega) (by omega), sum_ge _ _ _ _ (by omega) (by omega), hz]
      have h1 := h.pre i (by omega)
      exact h1
theorem Fine.ins (h : Fine c M) (k : Nat) (t : Tox) (seed now : Int) (hk : k + 2 ≤ c.L.length) (h8 : c.L.length < 10) (ht : t.s.size ≤ maxLen) (hE : newE t c.room = 0) : Fine (c.insN k t seed now) M := by
  have ho := newE_ok hE
  have h1 := h.put_in k hk h8 ⟨newS t seed c.room now, false⟩ (ok_new ht ho.1 ho.2.1 ho.2.2) rfl rfl rfl
  unfold insN
  dsimp only
  split
  · exact h1.close (k + 1) (by show k + 1 < (insL c.L k _).length; rw [len_insL _ _ _ (by omega)]; omega) now
  · exact h1
/-- What is left without one. -/
def outL (l : List Prt) (k : Nat) : List Prt := l.take (k + 1) ++ l.drop (k + 2)
theorem out_in (l : List Prt) (k : Nat) (h : k + 1 < l.length) : insL (outL l k) k (l.getD (k + 1) noPrt) = l := by
  unfold insL outL
  have e1 : (l.take (k + 1) ++ l.drop (k + 2)).take (k + 1) = l.take (k + 1) := by
    rw [List.take_append_of_le_length (by rw [List.length_take]; omega), List.take_take, Nat.min_self]
  have e2 : (l.take (k + 1) ++ l.drop (k + 2)).drop (k + 1) = l.drop (k + 2) := by
    rw [List.drop_append_of_le_length (by rw [List.length_take]; omega), List.drop_take]
    simp
  rw [e1, e2, List.getD_eq_getElem?_getD, List.getElem?_eq_getElem h]
  have e3 : l.drop (k + 1) = l[k + 1] :: l.drop (k + 2) := List.drop_eq_getElem_cons h
  show l.take (k + 1) ++ l[k + 1] :: l.drop (k + 2) = l
  rw [← e3, List.take_append_drop]
end
end Ch
end Go.Proofs.Ytfdfgnmgpgkknaa
namespace Go.Proofs.Ytfdfgnmgpgkknaa
open Go.RowKit
namespace Ch
section
variable {c : Ch} {M : Nat}
theorem len_outL (l : List Prt) (k : Nat) (h : k + 2 ≤ l.length) : (outL l k).length + 1 = l.length := by
  unfold outL
  simp
  omega
theorem out_lt (l : List Prt) (k j : Nat) (h : k + 2 ≤ l.length) (hj : j ≤ k) : (outL l k).getD j noPrt = l.getD j noPrt := by
  have e := insL_lt (outL l k) k j (l.getD (k + 1) noPrt) (by have := len_outL l k h; omega) hj
  rw [out_in _ _ (by omega)] at e
  exact e.symm
theorem out_ge (l : List Prt) (k j : Nat) (h : k + 2 ≤ l.length) (hj : k + 1 ≤ j) : (outL l k).getD j noPrt = l.getD (j + 1) noPrt := by
  have e := insL_gt (outL l k) k j (l.getD (k + 1) noPrt) (by have := len_outL l k h; omega) hj
  rw [out_in _ _ (by omega)] at e
  exact e.symm
theorem out_sum_lt (l : List Prt) (k j : Nat) (h : k + 2 ≤ l.length) (hj : j ≤ k) : sumL (outL l k) j = sumL l j := by
  have e := sum_lt (outL l k) k j (l.getD (k + 1) noPrt) (by have := len_outL l k h; omega) hj
  rw [out_in _ _ (by omega)] at e
  exact e.symm
theorem out_sum_ge (l : List Prt) (k j : Nat) (h : k + 2 ≤ l.length) (hj : k ≤ j) : sumL l (j + 1) = sumL (outL l k) j + (l.getD (k + 1) noPrt).s.S.size := by
  have e := sum_ge (outL l k) k j (l.getD (k + 1) noPrt) (by have := len_outL l k h; omega) hj
  rw [out_in _ _ (by omega)] at e
  exact e
theorem Fine.rem1 (h : Fine c M) (k : Nat) (hk : k + 3 ≤ c.L.length) : Fine (c.rem1 k) M ∧ ∀ j, k + 1 ≤ j → j < (c.rem1 k).L.length → ((c.rem1 k).at' j).s.passed + (c.rem1 k).pre j + (c.at' (k + 1)).s.S.size ≤ M := by
  have hl := len_outL c.L k (by omega)
  have hc := h.len
  have hj1 : ∀ j, k + 1 ≤ j → j < (c.rem1 k).L.length → ((c.rem1 k).at' j).s.passed + (c.rem1 k).pre j + (c.at' (k + 1)).s.S.size ≤ M := fun j hj hj' => by
    have hj' : j < (outL c.L k).length := hj'
    have e1 := h.pre (j + 1) (by omega)
    have e2 := out_sum_ge c.L k j (by omega) (by omega)
    have e3 := out_ge c.L k j (by omega) hj
    show ((outL c.L k).getD j noPrt).s.passed + (sumL (outL c.L k) j : Int) + ((c.L.getD (k + 1) noPrt).s.S.size : Int) ≤ M
    have e1 : (c.L.getD (j + 1) noPrt).s.passed + (sumL c.L (j + 1) : Int) ≤ M := e1
    rw [e3]
    omega
  refine ⟨⟨?_, h.top, fun j hj => ?_, fun j hj => ?_⟩, hj1⟩
  · show 2 ≤ (outL c.L k).length ∧ (outL c.L k).length ≤ 10
    omega
  · have hj : j < (outL c.L k).length := hj
    show Ok ((outL c.L k).getD j noPrt).s M ∧ ((outL c.L k).getD j noPrt).s.A.length = ((outL c.L k).getD j noPrt).s.S.size
    by_cases g : j ≤ k
    · rw [out_lt _ _ _ (by omega) g]
      exact h.ok j (by omega)
    · rw [out_ge _ _ _ (by omega) (by omega)]
      exact h.ok (j + 1) (by omega)
  · by_cases g : j ≤ k
    · show ((outL c.L k).getD j noPrt).s.passed + (sumL (outL c.L k) j : Int) ≤ M
      have hj : j < (outL c.L k).length := hj
      rw [out_lt _ _ _ (by omega) g, out_sum_lt _ _ _ (by omega) g]
      exact h.pre j (by omega)
    · have := hj1 j (by omega) hj
      omega
theorem Fine.rem (h : Fine c M) (k : Nat) (now : Int) (hk : k + 3 ≤ c.L.length) : Fine (c.remC k now) M := by
  obtain ⟨h1, hd⟩ := h.rem1 k hk
  have hl := len_rem1 c k hk
  have hs := size_le_pre c (k + 1) (by omega)
  have hp := h.pre (k + 1) (by omega)
  have hq := (h.ok (k + 1) (by omega)).1.passed.1
  have ht := h.top
  have h2 : Fine (c.rem2 k now) M := h1.push (k + 1) (by omega) now _ (by omega) hd
  have hl2 : (c.rem2 k now).L.length = (c.rem1 k).L.length := len_on _ _ _
  have h3 : Fine (c.rem3 k now) M ∧ (c.rem3 k now).L.length = (c.rem1 k).L.length := by
    unfold rem3
    split
    · refine ⟨(h2.same (c' := { c.rem2 k now with lost := c.lost + c.gone k now }) rfl).lose (k + 1) (by show k + 1 ≤ (c.rem2 k now).L.length; omega), ?_⟩
      rw [len_lose]
      exact hl2
    · exact ⟨h2, hl2⟩
  unfold remC
  split
  · exact h3.1.close (k + 1) (by omega) now
  · exact h3.1
/-- Every call leaves each stage within its numbers. -/
theorem Fine.doN (h : Fine c M) (o : COp) (ht : o.t.s.size ≤ maxLen) (hM : M + o.s.size ≤ 400000) : Fine (c.doN o) (M + o.s.size) := by
  have hl := h.len
  have hm := h.mono (Nat.le_add_right M o.s.size) hM
  unfold Ch.doN
  split
  · split
    · exact hm
    · exact h.put o.now o.s hM
  split
  · split
    · exact (hm.close 0 (by omega) o.now).same rfl
    · exact hm
  split
  · exact hm.break
  split
  · exact hm.step o.now
  split
  · split
    · exact hm
    · exact hm.take (c.L.length - 1) (by omega) o.now o.n
  split
  · split
    · exact hm
    · rename_i he
      have hb : ¬ (o.n < 0 ∨ (c.L.length : Int) - 2 < o.n ∨ 8 ≤ (c.L.length : Int) - 2) := fun hb => he (by unfold insE; rw [if_pos hb]; decide)
      have hE : newE o.t c.room = 0 := by
        have : c.insE o.n o.t = 0 := by omega
        unfold insE at this
        rwa [if_neg hb] at this
      exact hm.ins o.n.toNat o.t o.seed o.now (by omega) (by omega) ht hE
  split
  · split
    · exact hm.rem o.n.toNat o.now (by omega)
    · exact hm
  split
  · split
    · exact hm.upd (o.n.toNat + 1) (by omega) o.now o.t ht
    · exact hm
  · exact hm
theorem Fine.new {room now : Int} (h : newE noTox room = 0) : Fine (newC room now) 0 := by
  have ho := newE_ok h
  have h1 : Ok (newS noTox 0 room now) 0 := ok_new noTox_s ho.1 ho.2.1 ho.2.2
  refine ⟨(show 2 ≤ 2 ∧ 2 ≤ 10 by decide), by decide, fun k hk => ?_, fun k hk => ?_⟩
  · have hk : k < 2 := hk
    match k, hk with
    | 0, _ => exact ⟨h1, rfl⟩
    | 1, _ => exact ⟨h1, rfl⟩
  · have hk : k < 2 := hk
    match k, hk with
    | 0, _ => exact Int.le_refl _
    | 1, _ => exact Int.le_refl _
end
end Ch
end Go.Proofs.Ytfdfgnmgpgkknaa
