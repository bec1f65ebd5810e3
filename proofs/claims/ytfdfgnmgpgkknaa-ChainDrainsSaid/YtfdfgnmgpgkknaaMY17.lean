/-
  Layer 11 (chain) as mathematics: two chains that are broken, and hold nothing, are alike whatever their stages were told last. Conditions: none.
  Layer 11 (chain) as mathematics: a stage that is removed, as the program goes about it. Conditions: none.
-/
import Derived.Test.YtfdfgnmgpgkknaaMY13
namespace Go.Proofs.Ytfdfgnmgpgkknaa
open Go.RowKit

structure LikeP (p' p : Prt) : Prop where
  closed : p'.closed = p.closed
  tx : p'.s.tx = p.s.tx
  z' : p'.s.S.size = 0
  z : p.s.S.size = 0
namespace Ch
/-- Broken, and alike. -/
structure Brk (c' c : Ch) : Prop where
  st' : c'.state = 2
  st : c.state = 2
  room : c'.room = c.room
  lost : c'.lost = c.lost
  shut : c'.shut = c.shut
  len : c'.L.length = c.L.length
  ok : ∀ k, k < c.L.length → LikeP (c'.at' k) (c.at' k)
/-- The same, or broken and alike. -/
def Like (c' c : Ch) : Prop := c' = c ∨ Brk c' c
theorem like_refl (c : Ch) : Like c c := Or.inl rfl
section
variable {c' c : Ch}
theorem Brk.on (h : Brk c' c) (k : Nat) (hk : k < c.L.length) (o' o : Op) (_ho : o'.kind = o.kind) (h1 : LikeP ⟨(doS (c'.at' k).s o').1, (c'.at' k).closed || o'.kind == 3⟩ ⟨(doS (c.at' k).s o).1, (c.at' k).closed || o.kind == 3⟩) : Brk (c'.onC k o') (c.onC k o) := by
  refine ⟨h.st', h.st, h.room, h.lost, h.shut, by rw [len_on, len_on]; exact h.len, fun j hj => ?_⟩
  rw [len_on] at hj
  by_cases e : k = j
  · subst e
    rw [at_on _ _ _ hk, at_on _ _ _ (by rw [h.len]; exact hk)]
    exact h1
  · rw [at_other _ _ _ _ e, at_other _ _ _ _ e]
    exact h.ok j hj
theorem close_tx (s : St) (now : Int) : (closeS s now).tx = s.tx := by unfold closeS; split <;> rfl
theorem push_tx (s : St) (now : Int) (b : ByteArray) : (pushS s now b).tx = s.tx := by
  unfold pushS
  dsimp only
  split
  · rfl
  · exact (force_tx _ _).1
theorem Brk.close (h : Brk c' c) (k : Nat) (hk : k < c.L.length) (now : Int) : Brk (c'.onC k (oClose now)) (c.onC k (oClose now)) := by
  have hp := h.ok k hk
  refine h.on k hk _ _ rfl ⟨?_, ?_, ?_, ?_⟩
  · show ((c'.at' k).closed || true) = ((c.at' k).closed || true)
    rw [Bool.or_true, Bool.or_true]
  · show (closeS _ _).tx = (closeS _ _).tx
    rw [close_tx, close_tx]
    exact hp.tx
  · show (closeS _ _).S.size = 0
    rw [close_S]
    exact hp.z'
  · show (closeS _ _).S.size = 0
    rw [close_S]
    exact hp.z
theorem Brk.drain (h : Brk c' c) (k : Nat) (hk : k < c.L.length) : Brk (c'.onC k oDrain) (c.onC k oDrain) := by
  have hp := h.ok k hk
  refine h.on k hk _ _ rfl ⟨?_, hp.tx, rfl, rfl⟩
  show ((c'.at' k).closed || false) = ((c.at' k).closed || false)
  rw [hp.closed]
theorem Brk.push (h : Brk c' c) (k : Nat) (hk : k < c.L.length) (now : Int) (b' b : ByteArray) (hb' : b'.size = 0) (hb : b.size = 0) : Brk (c'.onC k (oPush now b')) (c.onC k (oPush now b)) := by
  have hp := h.ok k hk
  refine h.on k hk _ _ rfl ⟨?_, ?_, ?_, ?_⟩
  · show ((c'.at' k).closed || false) = ((c.at' k).closed || false)
    rw [hp.closed]
  · show (pushS _ _ _).tx = (pushS _ _ _).tx
    rw [push_tx, push_tx]
    exact hp.tx
  · rw [sz_push, hp.z', hb']
    split <;> rfl
  · rw [sz_push, hp.z, hb]
    split <;> rfl
theorem upd_tx (s s' : St) (t : Tox) (now : Int) (e : s'.tx = s.tx) : (updS s' t now).1.tx = (updS s t now).1.tx ∧ (updS s' t now).2 = (updS s t now).2 := by
  unfold updS
  rw [e]
  split
  · exact ⟨e, rfl⟩
  · split
    · exact ⟨e, rfl⟩
    · split
      · exact ⟨e, rfl⟩
      · exact ⟨rfl, rfl⟩
theorem Brk.upd (h : Brk c' c) (k : Nat) (hk : k < c.L.length) (now : Int) (t : Tox) : Brk (c'.onC k (oUpd now t)) (c.onC k (oUpd now t)) := by
  have hp := h.ok k hk
  refine h.on k hk _ _ rfl ⟨?_, (upd_tx _ _ t now hp.tx).1, ?_, ?_⟩
  · show ((c'.at' k).closed || false) = ((c.at' k).closed || false)
    rw [hp.closed]
  · rw [sz_upd]
    exact hp.z'
  · rw [sz_upd]
    exact hp.z
theorem Brk.loseN (h : Brk c' c) (n : Nat) (hn : n ≤ c.L.length) : Brk (c'.loseN n) (c.loseN n) := by
  induction n with
  | zero => exact h
  | succ n ih =>
    have h1 := ih (by omega)
    have hk : n < (c.loseN n).L.length := by rw [len_loseN]; omega
    have hp := h1.ok n hk
    have h2 := h1.drain n hk
    refine ⟨h2.st', h2.st, h2.room, ?_, h2.shut, h2.len, h2.ok⟩
    show (c'.loseN n).lost + (((c'.loseN n).at' n).s.S.size : Nat) = (c.loseN n).lost + (((c.loseN n).at' n).s.S.size : Nat)
    rw [h1.lost, hp.z, hp.z']
theorem Brk.lose (h : Brk c' c) (n : Nat) (hn : n ≤ c.L.length) : Brk (c'.lose n) (c.lose n) := by
  have h1 := h.loseN n hn
  exact ⟨h1.st', h1.st, h1.room, h1.lost, rfl, h1.len, h1.ok⟩
theorem Brk.break (h : Brk c' c) : Brk c'.breakC c.breakC := by
  unfold breakC
  rw [if_neg (by rw [h.st']; decide), if_neg (by rw [h.st]; decide), h.len]
  have h1 := h.lose c.L.length (Nat.le_refl _)
  exact ⟨rfl, rfl, h1.room, h1.lost, h1.shut, h1.len, h1.ok⟩
theorem Brk.list {l' l : List Prt} (h : Brk c' c) (hl : l'.length = l.length) (ho : ∀ k, k < l.length → LikeP (l'.getD k noPrt) (l.getD k noPrt)) : Brk { c' with L := l' } { c with L := l } := ⟨h.st', h.st, h.room, h.lost, h.shut, hl, ho⟩
theorem Brk.ins (h : Brk c' c) (k : Nat) (t : Tox) (seed now : Int) (hk : k + 2 ≤ c.L.length) : Brk (c'.insN k t seed now) (c.insN k t seed now) := by
  have hk' : k + 2 ≤ c'.L.length := by rw [h.len]; exact hk
  have h1 : Brk { c' with L := insL c'.L k ⟨newS t seed c'.room now, false⟩ } { c with L := insL c.L k ⟨newS t seed c.room now, false⟩ } := by
    refine h.list (by rw [len_insL _ _ _ (by omega), len_insL _ _ _ (by omega), h.len]) fun i hi => ?_
    rw [len_insL _ _ _ (by omega)] at hi
    rcases Nat.lt_trichotomy i (k + 1) with e | rfl | e
    · rw [insL_lt _ _ _ _ (by omega) (by omega), insL_lt _ _ _ _ (by omega) (by omega)]
      exact h.ok i (by omega)
    · rw [insL_eq _ _ _ (by omega), insL_eq _ _ _ (by omega)]
      exact ⟨rfl, rfl, rfl, rfl⟩
    · obtain ⟨j, rfl⟩ : ∃ j, i = j + 1 := ⟨i - 1, by omega⟩
      rw [insL_gt _ _ _ _ (by omega) (by omega), insL_gt _ _ _ _ (by omega) (by omega)]
      exact h.ok j (by omega)
  have hl : (insL c.L k (⟨newS t seed c.room now, false⟩ : Prt)).length = c.L.length + 1 := len_insL _ _ _ (by omega)
  have hc : (({ c' with L := insL c'.L k ⟨newS t seed c'.room now, false⟩ } : Ch).at' (k + 2)).closed = (({ c with L := insL c.L k ⟨newS t seed c.room now, false⟩ } : Ch).at' (k + 2)).closed := (h1.ok (k + 2) (by show k + 2 < (insL c.L k _).length; omega)).closed
  have e' : c'.insN k t seed now = if (({ c' with L := insL c'.L k ⟨newS t seed c'.room now, false⟩ } : Ch).at' (k + 2)).closed = true then ({ c' with L := insL c'.L k ⟨newS t seed c'.room now, false⟩ } : Ch).onC (k + 1) (oClose now) else { c' with L := insL c'.L k ⟨newS t seed c'.room now, false⟩ } := rfl
  have e : c.insN k t seed now = if (({ c with L := insL c.L k ⟨newS t seed c.room now, false⟩ } : Ch).at' (k + 2)).closed = true then ({ c with L := insL c.L k ⟨newS t seed c.room now, false⟩ } : Ch).onC (k + 1) (oClose now) else { c with L := insL c.L k ⟨newS t seed c.room now, false⟩ } := rfl
  rw [e', e, hc]
  split
  · exact h1.close (k + 1) (by show k + 1 < (insL c.L k _).length; omega) now
  · exact h1
theorem gone_none {c : Ch} (k : Nat) (now : Int) (hk : k + 3 ≤ c.L.length) (h0 : (c.at' (k + 1)).s.S.size = 0) : c.gone k now = 0 := by
  have hl := len_rem1 c k hk
  have hp := sz_push ((c.rem1 k).at' (k + 1)).s now (c.at' (k + 1)).s.S
  have h1 : ((c.rem2 k now).at' (k + 1)).s.S.size = ((c.rem1 k).at' (k + 1)).s.S.size := by
    unfold rem2
    rw [at_on _ _ _ (by omega)]
    show (doS _ _).1.S.size = _
    rw [hp, h0]
    split <;> rfl
  unfold gone
  rw [h0, h1]
  omega
theorem Brk.rem (h : Brk c' c) (k : Nat) (now : Int) (hk : k + 3 ≤ c.L.length) : Brk (c'.remC k now) (c.remC k now) := by
  have hk' : k + 3 ≤ c'.L.length := by rw [h.len]; exact hk
  have hp := h.ok (k + 1) (by omega)
  have hl := len_rem1 c k hk
  have h1 : Brk (c'.rem1 k) (c.rem1 k) := by
    have hl' := len_rem1 c' k hk'
    refine h.list (by have := h.len; show (c'.rem1 k).L.length = (c.rem1 k).L.length; omega) fun i hi => ?_
    have hi : i < (c.rem1 k).L.length := hi
    show LikeP ((outL c'.L k).getD i noPrt) ((outL c.L k).getD i noPrt)
    by_cases e : i ≤ k
    · rw [out_lt _ _ _ (by omega) e, out_lt _ _ _ (by omega) e]
      exact h.ok i (by omega)
    · rw [out_ge _ _ _ (by omega) (by omega), out_ge _ _ _ (by omega) (by omega)]
      exact h.ok (i + 1) (by omega)
  have h2 : Brk (c'.rem2 k now) (c.rem2 k now) := h1.push (k + 1) (by omega) now _ _ hp.z' hp.z
  have e3' : c'.rem3 k now = c'.rem2 k now := by unfold rem3; rw [gone_none k now hk' hp.z', if_neg (by decide)]
  have e3 : c.rem3 k now = c.rem2 k now := by unfold rem3; rw [gone_none k now hk hp.z, if_neg (by decide)]
  have hl2 : (c.rem2 k now).L.length = (c.rem1 k).L.length := len_on _ _ _
  unfold remC
  rw [e3', e3, hp.closed]
  split
  · exact h2.close (k + 1) (by omega) now
  · exact h2
theorem brk_do (h : Brk c' c) (o : COp) (h2 : 2 ≤ c.L.length) : Brk (c'.doN o) (c.doN o) ∧ c'.doA o = c.doA o := by
  have hs' : c'.state ≠ 0 := by rw [h.st']; decide
  have hs : c.state ≠ 0 := by rw [h.st]; decide
  have hE : c'.insE o.n o.t = c.insE o.n o.t := by unfold insE; rw [h.len, h.room]
  unfold doN doA
  by_cases k0 : o.kind = 0
  · rw [if_pos k0, if_pos k0, if_pos k0, if_pos k0, if_pos (Or.inr hs'), if_pos (Or.inr hs), if_pos (Or.inr hs'), if_pos (Or.inr hs)]
    exact ⟨h, rfl⟩
  rw [if_neg k0, if_neg k0, if_neg k0, if_neg k0]
  by_cases k1 : o.kind = 1
  · rw [if_pos k1, if_pos k1, if_pos k1, if_pos k1, if_neg hs', if_neg hs]
    exact ⟨h, rfl⟩
  rw [if_neg k1, if_neg k1, if_neg k1, if_neg k1]
  by_cases k2 : o.kind = 2
  · rw [if_pos k2, if_pos k2, if_pos k2, if_pos k2]
    exact ⟨h.break, rfl⟩
  rw [if_neg k2, if_neg k2, if_neg k2, if_neg k2]
  by_cases k3 : o.kind = 3
  · rw [if_pos k3, if_pos k3, if_pos k3, if_pos k3]
    unfold stepC
    rw [if_pos hs', if_pos hs, h.st', h.st]
    exact ⟨h, rfl⟩
  rw [if_neg k3, if_neg k3, if_neg k3, if_neg k3]
  by_cases k4 : o.kind = 4
  · rw [if_pos k4, if_pos k4, if_pos k4, if_pos k4, if_pos h.st', if_pos h.st, if_pos h.st', if_pos h.st]
    exact ⟨h, rfl⟩
  rw [if_neg k4, if_neg k4, if_neg k4, if_neg k4]
  by_cases k5 : o.kind = 5
  · rw [if_pos k5, if_pos k5, if_pos k5, if_pos k5, hE]
    refine ⟨?_, rfl⟩
    split
    · exact h
    · rename_i he
      have hb : ¬ (o.n < 0 ∨ (c.L.length : Int) - 2 < o.n ∨ 8 ≤ (c.L.length : Int) - 2) := fun hb => he (by unfold insE; rw [if_pos hb]; decide)
      exact h.ins _ _ _ _ (by omega)
  rw [if_neg k5, if_neg k5, if_neg k5, if_neg k5]
  by_cases k6 : o.kind = 6
  · rw [if_pos k6, if_pos k6, if_pos k6, if_pos k6, h.len]
    refine ⟨?_, rfl⟩
    split
    · exact h.rem _ _ (by omega)
    · exact h
  rw [if_neg k6, if_neg k6, if_neg k6, if_neg k6]
  by_cases k7 : o.kind = 7
  · rw [if_pos k7, if_pos k7, if_pos k7, if_pos k7, h.len]
    by_cases hn : 0 ≤ o.n ∧ o.n < (c.L.length : Int) - 2
    · rw [if_pos hn, if_pos hn, if_pos hn, if_pos hn]
      have hk : o.n.toNat + 1 < c.L.length := by omega
      refine ⟨h.upd _ hk o.now o.t, ?_⟩
      show (⟨0, ⟨#[]⟩, (updS (c'.at' (o.n.toNat + 1)).s o.t o.now).2⟩ : Ans) = ⟨0, ⟨#[]⟩, (updS (c.at' (o.n.toNat + 1)).s o.t o.now).2⟩
      rw [(upd_tx _ _ o.t o.now (h.ok _ hk).tx).2]
    · rw [if_neg hn, if_neg hn, if_neg hn, if_neg hn]
      exact ⟨h, rfl⟩
  rw [if_neg k7, if_neg k7, if_neg k7, if_neg k7]
  exact ⟨h, rfl⟩
theorem Brk.held (h : Brk c' c) : c'.held = 0 ∧ c.held = 0 :=
  ⟨sum_zero _ fun i hi => (h.ok i (by rw [← h.len]; exact hi)).z', sum_zero _ fun i hi => (h.ok i hi).z⟩
theorem Like.held (h : Like c' c) : c'.held = c.held := by
  rcases h with rfl | h
  · rfl
  · rw [h.held.1, h.held.2]
theorem Like.state (h : Like c' c) : c'.state = c.state := by
  rcases h with rfl | h
  · rfl
  · rw [h.st, h.st']
theorem Like.lost (h : Like c' c) : c'.lost = c.lost := by
  rcases h with rfl | h
  · rfl
  · exact h.lost
theorem Like.len (h : Like c' c) : c'.L.length = c.L.length := by
  rcases h with rfl | h
  · rfl
  · exact h.len
theorem Like.tx (h : Like c' c) (k : Nat) (hk : k < c.L.length) : (c'.at' k).s.tx = (c.at' k).s.tx := by
  rcases h with rfl | h
  · rfl
  · exact (h.ok k hk).tx
end
/-! A chain that breaks in a step: whatever stages were looked at ahead of that. -/
theorem looks_same (c : Ch) (now : Int) (n : Nat) (hn : n ≤ c.L.length) (k : Nat) (hk : k < c.L.length) : ((c.looks now n).at' k).closed = (c.at' k).closed ∧ ((c.looks now n).at' k).s.tx = (c.at' k).s.tx ∧ ((c.looks now n).at' k).s.S = (c.at' k).s.S := by
  induction n with
  | zero => exact ⟨rfl, rfl, rfl⟩
  | succ n ih =>
    have h1 := ih (by omega)
    show (((c.looks now n).onC n (oLook now)).at' k).closed = _ ∧ (((c.looks now n).onC n (oLook now)).at' k).s.tx = _ ∧ (((c.looks now n).onC n (oLook now)).at' k).s.S = _
    by_cases e : n = k
    · subst e
      rw [at_on _ _ _ (by rw [len_looks]; omega)]
      refine ⟨?_, h1.2.1, h1.2.2⟩
      show (((c.looks now n).at' n).closed || false) = _
      rw [Bool.or_false]
      exact h1.1
    · rw [at_other _ _ _ _ e]
      exact h1
theorem looks_rest (c : Ch) (now : Int) (n : Nat) : (c.looks now n).room = c.room ∧ (c.looks now n).shut = c.shut ∧ (c.looks now n).state = c.state := by
  induction n with
  | zero => exact ⟨rfl, rfl, rfl⟩
  | succ n ih => exact ih
theorem lose_same (c : Ch) (n : Nat) (hn : n ≤ c.L.length) (k : Nat) (hk : k < c.L.length) : ((c.loseN n).at' k).closed = (c.at' k).closed ∧ ((c.loseN n).at' k).s.tx = (c.at' k).s.tx := by
  induction n with
  | zero => exact ⟨rfl, rfl⟩
  | succ n ih =>
    have h1 := ih (by omega)
    show (((c.loseN n).onC n oDrain).at' k).closed = _ ∧ (((c.loseN n).onC n oDrain).at' k).s.tx = _
    by_cases e : n = k
    · subst e
      rw [at_on _ _ _ (by rw [len_loseN]; omega)]
      refine ⟨?_, h1.2⟩
      show (((c.loseN n).at' n).closed || false) = _
      rw [Bool.or_false]
      exact h1.1
    · rw [at_other _ _ _ _ e]
      exact h1
theorem lose_lost {d' d : Ch} (hl : d'.lost = d.lost) (hS : ∀ k, k < d.L.length → (d'.at' k).s.S = (d.at' k).s.S) (n : Nat) (hn : n ≤ d.L.length) : (d'.loseN n).lost = (d.loseN n).lost := by
  induction n with
  | zero => exact hl
  | succ n ih =>
    show (d'.loseN n).lost + (((d'.loseN n).at' n).s.S.size : Nat) = (d.loseN n).lost + (((d.loseN n).at' n).s.S.size : Nat)
    rw [ih (by omega), at_loseN _ _ _ (Nat.le_refl _), at_loseN _ _ _ (Nat.le_refl _), hS n (by omega)]
theorem loseN_room (c : Ch) (n : Nat) : (c.loseN n).room = c.room := by
  induction n with
  | zero => rfl
  | succ n ih => exact ih
theorem brk_looks (c : Ch) (now : Int) (i j : Nat) (hi : i ≤ c.L.length) (hj : j ≤ c.L.length) (hs : c.state = 0) : Brk (c.looks now i).breakC (c.looks now j).breakC := by
  have e1 := looks_rest c now i
  have e2 := looks_rest c now j
  unfold breakC
  rw [if_neg (by rw [e1.2.2, hs]; decide), if_neg (by rw [e2.2.2, hs]; decide)]
  refine ⟨rfl, rfl, ?_, ?_, rfl, ?_, fun k hk => ?_⟩
  · show ((c.looks now i).loseN _).room = ((c.looks now j).loseN _).room
    rw [loseN_room, loseN_room, e1.1, e2.1]
  · show ((c.looks now i).loseN _).lost = ((c.looks now j).loseN _).lost
    rw [len_looks, len_looks]
    refine lose_lost (by rw [lost_looks, lost_looks]) (fun k hk => ?_) _ (by rw [len_looks]; exact Nat.le_refl _)
    rw [len_looks] at hk
    rw [(looks_same c now i hi k hk).2.2, (looks_same c now j hj k hk).2.2]
  · show ((c.looks now i).loseN _).L.length = ((c.looks now j).loseN _).L.length
    rw [len_loseN, len_loseN, len_looks, len_looks]
  · have hk : k < c.L.length := by
      have h : k < ((c.looks now j).loseN (c.looks now j).L.length).L.length := hk
      rwa [len_loseN, len_looks] at h
    show LikeP (((c.looks now i).loseN _).at' k) (((c.looks now j).loseN _).at' k)
    have a1 := lose_same (c.looks now i) (c.looks now i).L.length (Nat.le_refl _) k (by rw [len_looks]; exact hk)
    have a2 := lose_same (c.looks now j) (c.looks now j).L.length (Nat.le_refl _) k (by rw [len_looks]; exact hk)
    have b1 := looks_same c now i hi k hk
    have b2 := looks_same c now j hj k hk
    exact ⟨by rw [a1.1, a2.1, b1.1, b2.1], by rw [a1.2, a2.2, b1.2.1, b2.2.1], held_loseAll _ _ (Nat.le_refl _) k (by rw [len_looks]; exact hk), held_loseAll _ _ (Nat.le_refl _) k (by rw [len_looks]; exact hk)⟩
end Ch
end Go.Proofs.Ytfdfgnmgpgkknaa
namespace Go.Proofs.Ytfdfgnmgpgkknaa
open Go.RowKit
namespace Ch

theorem ch_ext {c d : Ch} (h1 : c.L = d.L) (h2 : c.room = d.room) (h3 : c.lost = d.lost) (h4 : c.shut = d.shut) (h5 : c.state = d.state) : c = d := by
  cases c
  cases d
  simp only at h1 h2 h3 h4 h5
  subst h1 h2 h3 h4 h5
  rfl
theorem outL_set_lt (l : List Prt) (k j : Nat) (x : Prt) (hj : j ≤ k) : outL (l.set j x) k = (outL l k).set j x := by
  unfold outL
  rw [List.take_set, List.drop_set_of_lt (by omega)]
  by_cases hl : j < (l.take (k + 1)).length
  · rw [List.set_append_left _ _ hl]
  · have hl2 : l.length ≤ j := by rw [List.length_take] at hl; omega
    have e1 : (l.take (k + 1)).set j x = l.take (k + 1) := List.set_eq_of_length_le (by omega)
    have e2 : l.drop (k + 2) = [] := List.drop_of_length_le (by omega)
    rw [e1, e2, List.append_nil, List.set_eq_of_length_le (by omega)]
theorem outL_set_eq (l : List Prt) (k : Nat) (x : Prt) : outL (l.set (k + 1) x) k = outL l k := by
  unfold outL
  rw [List.take_set_of_le (Nat.le_refl _), List.drop_set_of_lt (by omega)]
theorem outL_set_gt (l : List Prt) (k : Nat) (x : Prt) (hk : k + 2 < l.length) : outL (l.set (k + 2) x) k = (outL l k).set (k + 1) x := by
  unfold outL
  have hl : (l.take (k + 1)).length = k + 1 := by rw [List.length_take]; omega
  rw [List.take_set_of_le (by omega), List.set_append_right _ _ (by omega), hl, Nat.sub_self]
  congr 1
  rw [List.drop_set, if_neg (by omega), Nat.sub_self]
theorem rem_on_lt (d : Ch) (k j : Nat) (o : Op) (hj : j ≤ k) (hk : k + 3 ≤ d.L.length) : (d.onC j o).rem1 k = (d.rem1 k).onC j o ∧ (d.rem1 k).ansC j o = d.ansC j o := by
  have e : (d.rem1 k).at' j = d.at' j := out_lt _ _ _ (by omega) hj
  refine ⟨ch_ext ?_ rfl rfl rfl rfl, by unfold ansC; rw [e]⟩
  show outL (d.L.set j _) k = (outL d.L k).set j _
  rw [outL_set_lt _ _ _ _ hj, e]
theorem rem_on_eq (d : Ch) (k : Nat) (o : Op) : (d.onC (k + 1) o).rem1 k = d.rem1 k := ch_ext (outL_set_eq _ _ _) rfl rfl rfl rfl
theorem rem_on_gt (d : Ch) (k : Nat) (o : Op) (hk : k + 3 ≤ d.L.length) : (d.onC (k + 2) o).rem1 k = (d.rem1 k).onC (k + 1) o := by
  have e : (d.rem1 k).at' (k + 1) = d.at' (k + 2) := out_ge _ _ _ (by omega) (Nat.le_refl _)
  refine ch_ext ?_ rfl rfl rfl rfl
  show outL (d.L.set (k + 2) _) k = (outL d.L k).set (k + 1) _
  rw [outL_set_gt _ _ _ (by omega), e]
theorem push_look (s : St) (now : Int) (b : ByteArray) : pushS (lookS s now) now b = pushS s now b := by
  unfold pushS
  rw [look_look]
theorem on_look_push (d : Ch) (i : Nat) (now : Int) (b : ByteArray) (hi : i < d.L.length) : (d.onC i (oLook now)).onC i (oPush now b) = d.onC i (oPush now b) := by
  refine ch_ext ?_ rfl rfl rfl rfl
  have e := at_on d i (oLook now) hi
  show ((d.L.set i _).set i _) = d.L.set i _
  rw [List.set_set]
  congr 1
  rw [e]
  show (⟨pushS (lookS (d.at' i).s now) now b, ((d.at' i).closed || false) || false⟩ : Prt) = ⟨pushS (d.at' i).s now b, (d.at' i).closed || false⟩
  rw [push_look, Bool.or_false]
theorem push_shut (s : St) (now : Int) (b : ByteArray) (h : (lookS s now).st ≠ 0) : pushS s now b = lookS s now := by
  unfold pushS
  dsimp only
  rw [if_pos h]
/-- Behind a stage that is removed: what the program makes of a chain d, in which that one was drained. -/
def remP (c d : Ch) (k : Nat) (now : Int) : Ch :=
  let e := (d.onC (k + 1) oDrain).onC (k + 2) (oPush now (d.at' (k + 1)).s.S)
  if (c.at' (k + 1)).closed = true then (e.onC (k + 2) (oClose now)).rem1 k else e.rem1 k
theorem remP_of {c d : Ch} {k : Nat} {now : Int} (hl : k + 3 ≤ d.L.length) (h : ((d.rem1 k).onC (k + 1) (oPush now (d.at' (k + 1)).s.S)) = c.rem3 k now) : remP c d k now = c.remC k now := by
  have h1 : ((d.onC (k + 1) oDrain).onC (k + 2) (oPush now (d.at' (k + 1)).s.S)).rem1 k = c.rem3 k now := by
    rw [rem_on_gt _ _ _ (by rw [len_on]; exact hl), rem_on_eq]
    exact h
  unfold remP remC
  dsimp only
  split
  · rw [rem_on_gt _ _ _ (by rw [len_on, len_on]; exact hl), h1]
  · exact h1
theorem gone_is (c : Ch) (k : Nat) (now : Int) (hk : k + 3 ≤ c.L.length) : c.gone k now = ((c.at' (k + 1)).s.S.size : Int) - (if (lookS (c.at' (k + 2)).s now).st = 0 then (c.at' (k + 1)).s.S.size else 0 : Nat) := by
  have hl := len_rem1 c k hk
  have g2 : (c.rem1 k).at' (k + 1) = c.at' (k + 2) := out_ge _ _ _ (by omega) (Nat.le_refl _)
  have hp := sz_push (c.at' (k + 2)).s now (c.at' (k + 1)).s.S
  have e : ((c.rem2 k now).at' (k + 1)).s = (doS (c.at' (k + 2)).s (oPush now (c.at' (k + 1)).s.S)).1 := by
    unfold rem2
    rw [at_on _ _ _ (by omega), g2]
  unfold gone
  rw [e, g2, hp]
  omega
/-- It held nothing. -/
theorem remP_none (c : Ch) (k : Nat) (now : Int) (hk : k + 3 ≤ c.L.length) (h0 : (c.at' (k + 1)).s.S.size = 0) : remP c c k now = c.remC k now := by
  refine remP_of hk ?_
  have e : c.rem3 k now = c.rem2 k now := by unfold rem3; rw [gone_none k now hk h0, if_neg (by decide)]
  rw [e]
  rfl
/-- It held something, and the one behind it is Open. -/
theorem remP_open (c : Ch) (k : Nat) (now : Int) (hk : k + 3 ≤ c.L.length) (h0 : (lookS (c.at' (k + 2)).s now).st = 0) : remP c (c.onC (k + 2) (oLook now)) k now = c.remC k now := by
  refine remP_of (by rw [len_on]; exact hk) ?_
  have hg := gone_is c k now hk
  rw [if_pos h0] at hg
  have e : c.rem3 k now = c.rem2 k now := by unfold rem3; rw [if_neg (by omega)]
  have hl := len_rem1 c k hk
  rw [e, at_other _ _ _ _ (by omega), rem_on_gt _ _ _ hk, on_look_push _ _ _ _ (by omega)]
  rfl
theorem lose_more (d : Ch) (x : Int) (n : Nat) : ({ d with lost := d.lost + x } : Ch).loseN n = { d.loseN n with lost := (d.loseN n).lost + x } := by
  induction n with
  | zero => rfl
  | succ n ih =>
    show ({ (({ d with lost := d.lost + x } : Ch).loseN n).onC n oDrain with lost := (({ d with lost := d.lost + x } : Ch).loseN n).lost + _ } : Ch) = _
    rw [ih]
    refine ch_ext rfl (by rfl) ?_ rfl rfl
    show (d.loseN n).lost + x + (((d.loseN n).ansC n oDrain).s.size : Int) = (d.loseN n).lost + (((d.loseN n).ansC n oDrain).s.size : Int) + x
    omega
theorem lose_rem (d : Ch) (k n : Nat) (hn : n ≤ k + 1) (hk : k + 3 ≤ d.L.length) : (d.loseN n).rem1 k = (d.rem1 k).loseN n := by
  induction n with
  | zero => rfl
  | succ n ih =>
    have h1 := ih (by omega)
    have h2 := rem_on_lt (d.loseN n) k n oDrain (by omega) (by rw [len_loseN]; exact hk)
    rw [h1] at h2
    refine ch_ext ?_ ?_ ?_ ?_ ?_
    · have := congrArg Ch.L h2.1
      exact this
    · have := congrArg Ch.room h2.1
      exact this
    · show (d.loseN n).lost + _ = ((d.rem1 k).loseN n).lost + _
      rw [h2.2, ← h1]
      rfl
    · have := congrArg Ch.shut h2.1
      exact this
    · have := congrArg Ch.state h2.1
      exact this
/-- It held something, and the one behind it is not Open. -/
theorem remP_lost (c : Ch) (k : Nat) (now : Int) (hk : k + 3 ≤ c.L.length) (hz : 0 < (c.at' (k + 1)).s.S.size) (h0 : (lookS (c.at' (k + 2)).s now).st ≠ 0) : remP c ((c.onC (k + 2) (oLook now)).lose (k + 2)) k now = c.remC k now := by
  refine remP_of (by rw [len_lose, len_on]; exact hk) ?_
  have hl := len_rem1 c k hk
  have hg := gone_is c k now hk
  rw [if_neg h0] at hg
  have g2 : (c.rem1 k).at' (k + 1) = c.at' (k + 2) := out_ge _ _ _ (by omega) (Nat.le_refl _)
  -- the model's
  have hE : c.rem2 k now = (c.rem1 k).onC (k + 1) (oLook now) := by
    refine ch_ext ?_ rfl rfl rfl rfl
    show (c.rem1 k).L.set (k + 1) _ = (c.rem1 k).L.set (k + 1) _
    congr 1
    rw [g2]
    show (⟨pushS (c.at' (k + 2)).s now _, (c.at' (k + 2)).closed || false⟩ : Prt) = ⟨lookS (c.at' (k + 2)).s now, (c.at' (k + 2)).closed || false⟩
    rw [push_shut _ _ _ h0]
  have e3 : c.rem3 k now = ({ c.rem2 k now with lost := c.lost + ((c.at' (k + 1)).s.S.size : Int) } : Ch).lose (k + 1) := by
    have e : c.gone k now = ((c.at' (k + 1)).s.S.size : Int) := by omega
    unfold rem3
    rw [e, if_pos (by omega)]
  rw [e3, hE]
  generalize hEE : (c.rem1 k).onC (k + 1) (oLook now) = E
  have hEl : E.L.length + 1 = c.L.length := by rw [← hEE, len_on]; exact hl
  have hElost : E.lost = c.lost := by rw [← hEE]; rfl
  have hEat : E.at' (k + 1) = ⟨lookS (c.at' (k + 2)).s now, (c.at' (k + 2)).closed || false⟩ := by rw [← hEE, at_on _ _ _ (by omega), g2]; rfl
  have hm : ({ E with lost := c.lost + ((c.at' (k + 1)).s.S.size : Int) } : Ch).loseN (k + 1) = { E.loseN (k + 1) with lost := (E.loseN (k + 1)).lost + ((c.at' (k + 1)).s.S.size : Int) } := by
    rw [← hElost]
    exact lose_more E _ _
  -- the program's
  have hrem : (c.onC (k + 2) (oLook now)).rem1 k = E := by rw [rem_on_gt _ _ _ hk]; exact hEE
  have hlen : (c.onC (k + 2) (oLook now)).L.length = c.L.length := len_on _ _ _
  have hat1 : (c.onC (k + 2) (oLook now)).at' (k + 1) = c.at' (k + 1) := at_other _ _ _ _ (by omega)
  generalize hD : c.onC (k + 2) (oLook now) = D at *
  have hDl : (D.loseN (k + 2)).rem1 k = { E.loseN (k + 1) with lost := (E.loseN (k + 1)).lost + ((c.at' (k + 1)).s.S.size : Int) } := by
    have h1 := lose_rem D k (k + 1) (Nat.le_refl _) (by omega)
    rw [hrem] at h1
    have h2 := rem_on_eq (D.loseN (k + 1)) k oDrain
    rw [h1] at h2
    have ha : ((D.loseN (k + 1)).ansC (k + 1) oDrain).s.size = (c.at' (k + 1)).s.S.size := by
      show ((D.loseN (k + 1)).at' (k + 1)).s.S.size = _
      rw [at_loseN _ _ _ (Nat.le_refl _), hat1]
    have hlo : (D.loseN (k + 1)).lost = (E.loseN (k + 1)).lost := by
      have := congrArg Ch.lost h1
      exact this
    refine ch_ext ?_ ?_ ?_ ?_ ?_
    · have := congrArg Ch.L h2
      exact this
    · have := congrArg Ch.room h2
      exact this
    · show (D.loseN (k + 1)).lost + (((D.loseN (k + 1)).ansC (k + 1) oDrain).s.size : Int) = _
      rw [ha, hlo]
    · have := congrArg Ch.shut h2
      exact this
    · have := congrArg Ch.state h2
      exact this
  have hT : ((D.lose (k + 2)).at' (k + 1)).s.S.size = 0 := held_loseAll D (k + 2) (by omega) (k + 1) (by omega)
  have hTe : ((D.lose (k + 2)).at' (k + 1)).s.S = ⟨#[]⟩ := ByteArray.ext (Array.eq_empty_of_size_eq_zero hT)
  rw [hTe]
  have hDL := congrArg Ch.L hDl
  have hDlost := congrArg Ch.lost hDl
  have hDroom := congrArg Ch.room hDl
  have hDst := congrArg Ch.state hDl
  have hatE : (E.loseN (k + 1)).at' (k + 1) = E.at' (k + 1) := at_loseN _ _ _ (Nat.le_refl _)
  have hat : ((D.lose (k + 2)).rem1 k).at' (k + 1) = ⟨lookS (c.at' (k + 2)).s now, (c.at' (k + 2)).closed || false⟩ := by
    rw [← hEat, ← hatE]
    show ((D.loseN (k + 2)).rem1 k).L.getD (k + 1) noPrt = _
    rw [hDL]
    rfl
  refine ch_ext ?_ ?_ ?_ rfl ?_
  · have e1 : (((D.lose (k + 2)).rem1 k).onC (k + 1) (oPush now ⟨#[]⟩)).L = ((D.lose (k + 2)).rem1 k).L := by
      show ((D.lose (k + 2)).rem1 k).L.set (k + 1) ⟨(doS (((D.lose (k + 2)).rem1 k).at' (k + 1)).s (oPush now ⟨#[]⟩)).1, (((D.lose (k + 2)).rem1 k).at' (k + 1)).closed || (oPush now ⟨#[]⟩).kind == 3⟩ = _
      rw [hat]
      have e2 : (⟨(doS (lookS (c.at' (k + 2)).s now) (oPush now ⟨#[]⟩)).1, ((c.at' (k + 2)).closed || false) || (oPush now ⟨#[]⟩).kind == 3⟩ : Prt) = ⟨lookS (c.at' (k + 2)).s now, (c.at' (k + 2)).closed || false⟩ := by
        show (⟨pushS (lookS (c.at' (k + 2)).s now) now ⟨#[]⟩, ((c.at' (k + 2)).closed || false) || false⟩ : Prt) = _
        rw [push_shut _ _ _ (by rw [look_look]; exact h0), look_look, Bool.or_false]
      rw [e2, ← hat]
      have hl3 : k + 1 < ((D.lose (k + 2)).rem1 k).L.length := by
        have := len_rem1 (D.lose (k + 2)) k (by rw [len_lose]; omega)
        rw [len_lose] at this
        omega
      unfold at'
      rw [List.getD_eq_getElem?_getD, List.getElem?_eq_getElem hl3]
      exact List.set_getElem_self hl3
    rw [e1]
    show ((D.loseN (k + 2)).rem1 k).L = (({ E with lost := c.lost + ((c.at' (k + 1)).s.S.size : Int) } : Ch).loseN (k + 1)).L
    rw [hm, hDL]
  · show ((D.loseN (k + 2)).rem1 k).room = (({ E with lost := c.lost + ((c.at' (k + 1)).s.S.size : Int) } : Ch).loseN (k + 1)).room
    rw [hm, hDroom]
  · show ((D.loseN (k + 2)).rem1 k).lost = (({ E with lost := c.lost + ((c.at' (k + 1)).s.S.size : Int) } : Ch).loseN (k + 1)).lost
    rw [hm, hDlost]
  · show ((D.loseN (k + 2)).rem1 k).state = (({ E with lost := c.lost + ((c.at' (k + 1)).s.S.size : Int) } : Ch).loseN (k + 1)).state
    rw [hm, hDst]
end Ch
end Go.Proofs.Ytfdfgnmgpgkknaa
