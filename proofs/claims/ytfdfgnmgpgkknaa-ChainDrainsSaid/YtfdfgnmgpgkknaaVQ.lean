/-
  A chain without toxics: all that was put comes out (P11.3, P11.4). Conditions: none.
-/
import Derived.Test.YtfdfgnmgpgkknaaMY30
namespace Go.Proofs.Ytfdfgnmgpgkknaa
open Go.RowKit
/-- A stage that passes all that it has. -/
structure Pas (s : St) : Prop where
  k : s.tx.k = 0
  len : s.A.length = s.S.size
  rdy : ∀ x ∈ s.A, x ≤ s.clock
  lst : s.last ≤ s.clock
  clk : gc.near s.clock = s.clock
  rm : 1 ≤ s.room
theorem gc_near_id (x : Int) : gc.near (gb.near x) = gb.near x := by
  unfold gc.near gb.near
  (repeat' split) <;> omega
theorem tick_up (c now : Int) : c ≤ tickS c now := by
  unfold tickS
  split <;> omega
theorem tick_near (c now : Int) (h : gc.near c = c) : gc.near (tickS c now) = tickS c now := by
  unfold tickS
  split
  · exact gc_near_id now
  · exact h
theorem Pas.look {s : St} (h : Pas s) (now : Int) : Pas (lookS s now) :=
  ⟨h.k, h.len, fun x hx => Int.le_trans (h.rdy x hx) (tick_up _ _), Int.le_trans h.lst (tick_up _ _), tick_near _ _ h.clk, h.rm⟩
theorem Pas.close {s : St} (h : Pas s) (now : Int) : Pas (closeS s now) := by
  unfold closeS
  split <;> exact ⟨h.k, h.len, fun x hx => Int.le_trans (h.rdy x hx) (tick_up _ _), Int.le_trans h.lst (tick_up _ _), tick_near _ _ h.clk, h.rm⟩
theorem Pas.force {s : St} (h : Pas s) (b : ByteArray) : Pas (forceS s b) := by
  have hl := len_force h.len b
  unfold forceS at hl ⊢
  have hk := h.k
  split
  · exact h
  · rename_i hb
    rw [if_neg hb, if_neg (by omega)] at hl
    rw [if_neg (by omega)]
    have hp : gc.putT s.last s.clock = s.clock := by
      unfold gc.putT
      rw [h.clk, if_neg (by have := h.lst; omega)]
    refine ⟨h.k, hl, fun x hx => ?_, ?_, h.clk, h.rm⟩
    · have hx : x ∈ s.A ++ List.replicate b.size (gc.putT s.last s.clock) := hx
      rw [hp] at hx
      rcases List.mem_append.1 hx with e | e
      · exact h.rdy x e
      · rw [(List.mem_replicate.1 e).2]
        exact Int.le_refl _
    · show gc.putT s.last s.clock ≤ s.clock
      rw [hp]
      exact Int.le_refl _
theorem all_ready {A : List Int} {x : Int} (h : ∀ y ∈ A, y ≤ x) : gc.readyN A x = A.length := by
  refine gc.ready_is (Nat.le_refl _) (fun j hj => ?_) (fun hj => absurd hj (Nat.lt_irrefl _))
  rw [List.getD_eq_getElem?_getD, List.getElem?_eq_getElem hj]
  exact h _ (List.getElem_mem hj)
/-- How many bytes it gives. -/
theorem Pas.took {s : St} (h : Pas s) (now most : Int) (h0 : (lookS s now).st = 0) (hm : 1 ≤ most) (hz : 0 < s.S.size) : 1 ≤ (takeS s now most).2.size := by
  have hl := h.look now
  have hr := all_ready hl.rdy
  unfold takeS
  dsimp only
  rw [if_neg (by omega)]
  have hg : ∀ n, giveS (lookS s now) n = (lookS s now, n) := fun n => by
    have hk := hl.k
    unfold giveS
    rw [if_neg (by omega), if_neg (by omega), if_neg (by omega), if_neg (by omega)]
  rw [hg]
  have hA := hl.len
  show 1 ≤ (ByteArray.extract _ 0 _).size
  rw [ByteArray.size_extract]
  unfold gc.takeK
  rw [hr, hA]
  have e : (lookS s now).S.size = s.S.size := rfl
  rw [e]
  dsimp only
  split <;> omega
theorem Pas.take {s : St} (h : Pas s) (now most : Int) : Pas (takeS s now most).1 := by
  have hl := h.look now
  have hg : ∀ n, giveS (lookS s now) n = (lookS s now, n) := fun n => by
    have hk := hl.k
    unfold giveS
    rw [if_neg (by omega), if_neg (by omega), if_neg (by omega), if_neg (by omega)]
  have hn := len_do (s := s) h.len (Ch.oTake now most)
  have hn : (takeS s now most).1.A.length = (takeS s now most).1.S.size := hn
  unfold takeS at hn ⊢
  dsimp only at hn ⊢
  split
  · exact hl
  · rename_i hx
    rw [if_neg hx] at hn
    rw [hg] at hn ⊢
    exact ⟨hl.k, hn, fun x hx => hl.rdy x (List.mem_of_mem_drop hx), hl.lst, hl.clk, hl.rm⟩
theorem Pas.do {s : St} (h : Pas s) (o : Op) : Pas (doS s o).1 := by
  unfold doS
  split
  · unfold bringS
    dsimp only
    split
    · exact h.look _
    · exact (h.look _).force _
  split
  · unfold pushS
    dsimp only
    split
    · exact h.look _
    · exact (h.look _).force _
  split
  · exact h.take _ _
  split
  · exact h.close _
  split
  · exact h.look _
  split
  · have hk := h.k
    unfold updS
    split
    · exact h
    · rw [if_pos (by omega)]
      exact h
  split
  · exact ⟨h.k, rfl, (fun x hx => by cases hx), h.lst, h.clk, h.rm⟩
  · exact h
theorem Pas.new (room : Int) (h : 1 ≤ room) : Pas (newS noTox 0 room 0) :=
  ⟨rfl, rfl, (fun x hx => by cases hx), by show (0 : Int) ≤ gb.near 0; decide, gc_near_id 0, h⟩
namespace Ch
/-- Two stages that pass all. -/
structure Two (c : Ch) : Prop where
  len : c.L.length = 2
  p : ∀ k, k < 2 → Pas (c.at' k).s
variable {c : Ch}
theorem Two.same {c' : Ch} (h : Two c) (e : c'.L = c.L) : Two c' := by
  have ha : ∀ k, c'.at' k = c.at' k := fun k => by unfold at'; rw [e]
  exact ⟨by rw [e]; exact h.len, fun k hk => by rw [ha]; exact h.p k hk⟩
theorem Two.on (h : Two c) (k : Nat) (hk : k < 2) (o : Op) : Two (c.onC k o) := by
  refine ⟨by rw [len_on]; exact h.len, fun j hj => ?_⟩
  by_cases e : k = j
  · subst e
    rw [at_on _ _ _ (by rw [h.len]; exact hk)]
    exact (h.p k hk).do o
  · rw [at_other _ _ _ _ e]
    exact h.p j hj
theorem Two.loseN (h : Two c) (n : Nat) (hn : n ≤ 2) : Two (c.loseN n) := by
  induction n with
  | zero => exact h
  | succ n ih => exact ((ih (by omega)).on n (by omega) oDrain).same rfl
theorem Two.looks (h : Two c) (now : Int) (n : Nat) (hn : n ≤ 2) : Two (c.looks now n) := by
  induction n with
  | zero => exact h
  | succ n ih => exact (ih (by omega)).on n (by omega) _
theorem Two.flow1 (h : Two c) (now : Int) : Two (c.flow1 now 0) := by
  unfold Ch.flow1
  dsimp only
  split
  · exact ((h.on 1 (by omega) _).on 0 (by omega) _).on 1 (by omega) _
  · exact h.on 1 (by omega) _
theorem Two.ends1 (h : Two c) (now : Int) : Two (c.ends1 now 0) := by
  unfold Ch.ends1
  dsimp only
  split
  · exact (((h.on 0 (by omega) _).loseN 1 (by omega)).same (c' := (c.onC 0 (oLook now)).lose 1) rfl).on 1 (by omega) _
  · exact h.on 0 (by omega) _
theorem Two.step3 (h : Two c) (now : Int) : Two (c.step3 now) := by
  unfold Ch.step3
  rw [h.len]
  exact ((h.looks now 2 (Nat.le_refl _)).flow1 now).ends1 now
theorem Two.break (h : Two c) : Two c.breakC := by
  unfold breakC
  split
  · exact h
  · exact (h.loseN c.L.length (by rw [h.len]; exact Nat.le_refl _)).same rfl
theorem Two.step (h : Two c) (now : Int) : Two (c.stepC now) := by
  unfold stepC
  split
  · exact h
  · split
    · exact (h.looks now _ (by rw [h.len]; exact Nat.le_refl _)).break
    · exact ((h.step3 now).on (c.L.length - 1) (by rw [h.len]; decide) _).same rfl
theorem Two.doN (h : Two c) (o : COp) (hk : o.kind = 0 ∨ o.kind = 1 ∨ o.kind = 3 ∨ o.kind = 4) : Two (c.doN o) := by
  unfold Ch.doN
  split
  · split
    · exact h
    · exact h.on 0 (by omega) _
  split
  · split
    · exact (h.on 0 (by omega) _).same rfl
    · exact h
  split
  · omega
  split
  · exact h.step _
  split
  · split
    · exact h
    · exact h.on _ (by rw [h.len]; decide) _
  omega
theorem Two.new (room : Int) (h : 1 ≤ room) : Two (newC room 0) := ⟨rfl, fun k hk => by
  rcases (show k = 0 ∨ k = 1 by omega) with rfl | rfl <;> exact Pas.new room h⟩
/-- What an open chain without toxics keeps. -/
structure Dr (c : Ch) (i o : ByteArray) : Prop where
  two : Two c
  kept : Kept c i o
  safe : Safe c
  lost : c.lost = 0
  st : c.state = 0 ∨ (c.state = 1 ∧ c.held = 0)
  bal : (i.size : Int) = o.size + c.held
theorem list_two {α : Type} (l : List α) (h : l.length = 2) : ∃ a b, l = [a, b] := by
  cases l with
  | nil => simp at h
  | cons a r =>
    cases r with
    | nil => simp at h
    | cons b r =>
      cases r with
      | nil => exact ⟨a, b, rfl⟩
      | cons x y => simp at h
theorem held_two (h : c.L.length = 2) : c.held = (c.at' 0).s.S.size + (c.at' 1).s.S.size := by
  obtain ⟨a, b, e⟩ : ∃ a b, c.L = [a, b] := list_two c.L h
  unfold held at'
  rw [e]
  show a.s.S.size + (b.s.S.size + 0) = a.s.S.size + b.s.S.size
  rw [Nat.add_zero]
/-- Open, or Closed and empty, behind a Step. -/
theorem step_st (h2 : Two c) (hs : Safe c) (h0 : c.state = 0) (now : Int) : (c.stepC now).state = 0 ∨ ((c.stepC now).state = 1 ∧ (c.stepC now).held = 0) := by
  have hl := h2.len
  have ha := hs.none_broken now c.L.length (Nat.le_refl _)
  have hsf := hs.step now (by omega) (by omega)
  have h2' := h2.step now
  have e : c.stepC now = { (c.step3 now).onC (c.L.length - 1) (oLook now) with state := ((c.step3 now).ansC (c.L.length - 1) (oLook now)).n } := by
    unfold stepC
    rw [if_neg (by omega), if_neg (by rw [ha]; decide)]
  have e1 : (c.stepC now).state = (lookS ((c.step3 now).at' 1).s now).st := by rw [e]; show (lookS ((c.step3 now).at' (c.L.length - 1)).s now).st = _; rw [hl]
  have e2 : ((c.stepC now).at' 1).s = lookS ((c.step3 now).at' 1).s now := by
    rw [e]
    show (((c.step3 now).onC (c.L.length - 1) (oLook now)).at' 1).s = _
    rw [hl]
    show (((c.step3 now).onC 1 (oLook now)).at' 1).s = _
    rw [at_on _ _ _ (by rw [(h2.step3 now).len]; decide)]
    rfl
  have ho := (hsf.1.ok 1 (by rw [h2'.len]; decide)).2
  rw [e2] at ho
  rw [e1]
  rcases ho with f | ⟨f, f1, f2⟩
  · exact Or.inl f
  · refine Or.inr ⟨f, ?_⟩
    have hsrc := (hsf.1.src 1 (by rw [h2'.len]; decide) (by rw [e2]; exact f1)).2 0 (by decide)
    rw [held_two h2'.len, hsrc, e2, f2]
theorem held_doN (h2 : Two c) (hs : Safe c) (o : COp) (hst : c.state ≠ 2) (hl0 : c.lost = 0) (hk : o.kind = 0 ∨ o.kind = 1 ∨ o.kind = 3 ∨ o.kind = 4) : ((c.doN o).held : Int) + (c.doA o).s.size = c.held + (if o.kind = 0 then (c.doA o).n else 0) ∧ (c.doN o).lost = 0 := by
  have hb := bal_do c o (by rw [h2.len]; decide)
  have hd := safe_do hs o (by rw [h2.len]; decide) hst (by omega) (by omega)
  unfold bal at hb
  rw [hd.2.1, hl0] at hb
  exact ⟨by omega, by rw [hd.2.1]; exact hl0⟩
theorem Dr.do {i u : ByteArray} (h : Dr c i u) (o : COp) (hk : o.kind = 0 ∨ o.kind = 1 ∨ o.kind = 3 ∨ o.kind = 4) (hn : o.kind = 0 → 0 ≤ (c.doA o).n ∧ (c.doA o).n ≤ o.s.size) :
    Dr (c.doN o) (i ++ (if o.kind = 0 then o.s.extract 0 (c.doA o).n.toNat else ⟨#[]⟩)) (u ++ (c.doA o).s) := by
  have hst : c.state ≠ 2 := by have := h.st; omega
  have h2 : 2 ≤ c.L.length := by rw [h.two.len]; decide
  have hd := safe_do h.safe o h2 hst (by omega) (by omega)
  have hh := held_doN h.two h.safe o hst h.lost hk
  have hT := h.two.doN o hk
  have hb := h.bal
  refine ⟨hT, keeps_do c o i u h2 h.kept, hd.1, hh.2, ?_, ?_⟩
  · rcases h.st with e | ⟨e, e0⟩
    · rcases hk with k | k | k | k
      · refine Or.inl ?_
        unfold doN
        rw [if_pos k]
        split <;> exact e
      · refine Or.inl ?_
        unfold doN
        rw [if_neg (by omega), if_pos k]
        split <;> exact e
      · have e3 : c.doN o = c.stepC o.now := by
          unfold doN
          rw [if_neg (by omega), if_neg (by omega), if_neg (by omega), if_pos k]
        rw [e3]
        exact step_st h.two h.safe e o.now
      · refine Or.inl ?_
        unfold doN
        rw [if_neg (by omega), if_neg (by omega), if_neg (by omega), if_neg (by omega), if_pos k]
        split <;> exact e
    · have hs := state_do c o (Or.inl e)
      refine Or.inr ⟨hs.1.trans e, ?_⟩
      have := hs.2.1
      have h1 := hh.1
      rw [e0] at h1
      by_cases k0 : o.kind = 0
      · rw [if_pos k0, this k0] at h1
        omega
      · rw [if_neg k0] at h1
        omega
  · rw [ByteArray.size_append, ByteArray.size_append]
    have h1 := hh.1
    by_cases k0 : o.kind = 0
    · have h4 := hn k0
      rw [if_pos k0] at h1
      rw [if_pos k0, ByteArray.size_extract]
      omega
    · rw [if_neg k0] at h1
      rw [if_neg k0]
      show ((i.size + 0 : Nat) : Int) = _
      omega
theorem Dr.new (room : Int) (h : 1 ≤ room) : Dr (newC room 0) ⟨#[]⟩ ⟨#[]⟩ := ⟨Two.new room h, kept_new room 0, safe_new room 0, rfl, Or.inl rfl, rfl⟩
theorem Dr.fin {i u : ByteArray} (h : Dr c i u) (hs : c.state = 1) : i = u ∧ c.held = 0 := by
  have h0 : c.held = 0 := by have := h.st; omega
  have hp := kept_pf h.kept
  have hb := h.bal
  rw [h0] at hb
  have e : u.size = i.size := by omega
  rw [e] at hp
  refine ⟨?_, h0⟩
  rw [← hp.2]
  exact (extract_all i).symm
theorem on_closed (k j : Nat) (o : Op) (hj : j < c.L.length) (h : (c.at' k).s.closed = true) : ((c.onC j o).at' k).s.closed = true := by
  by_cases e : j = k
  · subst e
    rw [at_on _ _ _ hj]
    show (doS (c.at' j).s o).1.closed = true
    rw [closed_do, h]
    rfl
  · rw [at_other _ _ _ _ e]
    exact h
theorem look_end {s : St} (h : StOk s) (hk : s.tx.k = 0) (hc : s.closed = true) (hz : s.S.size = 0) (now : Int) : (lookS s now).st = 1 := by
  have hs := h.2
  show stateS s (tickS s.clock now) = 1
  unfold stateS
  by_cases h0 : s.st = 0
  · rw [if_neg (by omega), if_neg (by omega), if_neg (by omega), if_neg (by omega), if_pos ⟨hc, hz, Or.inl (by omega)⟩]
  · rw [if_pos h0]
    rcases hs with e | e
    · exact absurd e h0
    · exact e.1
theorem look_open {s : St} (h : StOk s) (hz : 0 < s.S.size) (now : Int) : (lookS s now).st = 0 := by
  rcases (stok_look h now).2 with e | ⟨_, _, e⟩
  · exact e
  · have e : s.S.size = 0 := e
    omega
theorem flow_size (h2 : Two c) (hs : Safe c) (now : Int) (hz : 0 < c.held) : 1 ≤ ((c.flow1 now 0).at' 1).s.S.size := by
  have hl := h2.len
  rw [held_two hl] at hz
  have hd1 : ((c.onC 1 (oLook now)).at' 1).s = lookS (c.at' 1).s now := by rw [at_on _ _ _ (by omega)]; rfl
  have hd0 : (c.onC 1 (oLook now)).at' 0 = c.at' 0 := at_other _ _ _ _ (by decide)
  have key : ∀ o : Op, ((((c.onC 1 (oLook now)).onC 0 o).at' 1).s) = lookS (c.at' 1).s now := fun o => by rw [at_other _ _ _ _ (by decide), hd1]
  have hp : ∀ o T, ((((c.onC 1 (oLook now)).onC 0 o).onC 1 (oPush now T)).at' 1).s.S.size = (c.at' 1).s.S.size + if (lookS (c.at' 1).s now).st = 0 then T.size else 0 := fun o T => by
    rw [at_on _ _ _ (by rw [len_on, len_on]; omega)]
    show (doS (((c.onC 1 (oLook now)).onC 0 o).at' 1).s (oPush now T)).1.S.size = _
    rw [sz_push, key, look_look]
    rfl
  unfold Ch.flow1
  dsimp only
  by_cases hb : 0 < (c.at' 1).s.S.size
  · split
    · have := hp (oTake now (freeS ((c.onC 1 (oLook now)).at' 1).s)) ((c.onC 1 (oLook now)).ansC 0 (oTake now (freeS ((c.onC 1 (oLook now)).at' 1).s))).s
      show 1 ≤ ((((c.onC 1 (oLook now)).onC 0 (oTake now (freeS ((c.onC 1 (oLook now)).at' 1).s))).onC 1 (oPush now ((c.onC 1 (oLook now)).ansC 0 (oTake now (freeS ((c.onC 1 (oLook now)).at' 1).s))).s)).at' 1).s.S.size
      omega
    · show 1 ≤ ((c.onC 1 (oLook now)).at' 1).s.S.size
      rw [hd1]
      exact hb
  · have hst : (lookS (c.at' 1).s now).st = 0 := by
      rcases (stok_look (hs.ok 1 (by omega)) now).2 with e | ⟨_, e, _⟩
      · exact e
      · have := (hs.src 1 (by omega) e).2 0 (by decide)
        omega
    rw [if_pos (show (c.ansC (0 + 1) (oLook now)).n = 0 from hst)]
    have hfr : 1 ≤ freeS ((c.onC 1 (oLook now)).at' 1).s := by
      rw [hd1]
      have hr := (h2.p 1 (by decide)).rm
      have e1 : (lookS (c.at' 1).s now).S.size = (c.at' 1).s.S.size := rfl
      have e2 : (lookS (c.at' 1).s now).room = (c.at' 1).s.room := rfl
      unfold freeS
      rw [e1, e2]
      split <;> omega
    have hT : 1 ≤ ((c.onC 1 (oLook now)).ansC 0 (oTake now (freeS ((c.onC 1 (oLook now)).at' 1).s))).s.size := by
      show 1 ≤ (takeS ((c.onC 1 (oLook now)).at' 0).s now (freeS ((c.onC 1 (oLook now)).at' 1).s)).2.size
      rw [hd0]
      exact (h2.p 0 (by decide)).took now _ (look_open (hs.ok 0 (by omega)) (by omega) now) hfr (by omega)
    have := hp (oTake now (freeS ((c.onC 1 (oLook now)).at' 1).s)) ((c.onC 1 (oLook now)).ansC 0 (oTake now (freeS ((c.onC 1 (oLook now)).at' 1).s))).s
    rw [if_pos hst] at this
    show 1 ≤ ((((c.onC 1 (oLook now)).onC 0 (oTake now (freeS ((c.onC 1 (oLook now)).at' 1).s))).onC 1 (oPush now ((c.onC 1 (oLook now)).ansC 0 (oTake now (freeS ((c.onC 1 (oLook now)).at' 1).s))).s)).at' 1).s.S.size
    omega
theorem ends_size (hl : c.L.length = 2) (now : Int) : ((c.ends1 now 0).at' 1).s.S = (c.at' 1).s.S := by
  unfold Ch.ends1
  dsimp only
  have h0 : (c.onC 0 (oLook now)).at' 1 = c.at' 1 := at_other _ _ _ _ (by decide)
  split
  · have h1 : ((c.onC 0 (oLook now)).lose 1).at' 1 = c.at' 1 := by
      show (((c.onC 0 (oLook now)).onC 0 oDrain).at' 1) = _
      rw [at_other _ _ _ _ (by decide), h0]
    rw [at_on _ _ _ (by rw [len_lose, len_on]; omega)]
    show (closeS (((c.onC 0 (oLook now)).lose 1).at' 1).s now).S = _
    rw [close_S, h1]
  · rw [h0]
theorem looks_lost (now : Int) (n : Nat) : (c.looks now n).lost = c.lost := by
  induction n with
  | zero => rfl
  | succ n ih => exact ih
theorem flow1_lost (now : Int) (n : Nat) : (c.flow1 now n).lost = c.lost := by
  unfold Ch.flow1
  dsimp only
  split <;> rfl
/-- A Step of an open chain without toxics. -/
theorem step_two (h2 : Two c) (hs : Safe c) (h0 : c.state = 0) (hc : (c.at' 0).s.closed = true) (now : Int) : (c.held = 0 → (c.stepC now).state = 1) ∧ (0 < c.held → 1 ≤ ((c.stepC now).at' 1).s.S.size) ∧ ((c.stepC now).at' 0).s.closed = true := by
  have hl := h2.len
  have ha := hs.none_broken now c.L.length (Nat.le_refl _)
  have e : c.stepC now = { (c.step3 now).onC (c.L.length - 1) (oLook now) with state := ((c.step3 now).ansC (c.L.length - 1) (oLook now)).n } := by
    unfold stepC
    rw [if_neg (by omega), if_neg (by rw [ha]; decide)]
  have e1 : (c.stepC now).state = (lookS ((c.step3 now).at' 1).s now).st := by rw [e]; show (lookS ((c.step3 now).at' (c.L.length - 1)).s now).st = _; rw [hl]
  have e2 : ((c.stepC now).at' 1).s = lookS ((c.step3 now).at' 1).s now := by
    rw [e]
    show (((c.step3 now).onC (c.L.length - 1) (oLook now)).at' 1).s = _
    rw [hl]
    show (((c.step3 now).onC 1 (oLook now)).at' 1).s = _
    rw [at_on _ _ _ (by rw [(h2.step3 now).len]; decide)]
    rfl
  have e3 : (c.stepC now).at' 0 = (c.step3 now).at' 0 := by
    rw [e]
    show ((c.step3 now).onC (c.L.length - 1) (oLook now)).at' 0 = _
    rw [hl]
    exact at_other _ _ _ _ (by decide)
  have e4 : c.step3 now = ((c.looks now 2).flow1 now 0).ends1 now 0 := by
    unfold Ch.step3
    rw [hl]
    rfl
  have hT1 := h2.looks now 2 (Nat.le_refl _)
  have hT2 := hT1.flow1 now
  have hT3 := hT2.ends1 now
  have hS1 := hs.looks now 2 (by omega)
  have hS2 := hS1.flow1 now 0 (by rw [hT1.len]; decide)
  have hb1 := bal_looks c now 2 (by omega)
  have hb2 := bal_flow1 (c.looks now 2) now 0 (by rw [hT1.len]; decide)
  have l1 : (c.looks now 2).lost = c.lost := looks_lost now 2
  have l2 : ((c.looks now 2).flow1 now 0).lost = (c.looks now 2).lost := flow1_lost now 0
  have c1 : ((c.looks now 2).at' 0).s.closed = true := by
    show ((((c.onC 0 (oLook now)).onC 1 (oLook now))).at' 0).s.closed = true
    exact on_closed _ _ _ (by rw [len_on]; omega) (on_closed _ _ _ (by omega) hc)
  have c2 : (((c.looks now 2).flow1 now 0).at' 0).s.closed = true := by
    unfold Ch.flow1
    dsimp only
    have q1 := on_closed 0 1 (oLook now) (by rw [hT1.len]; decide) c1
    split
    · exact on_closed _ _ _ (by rw [len_on, len_on, hT1.len]; decide) (on_closed _ _ _ (by rw [len_on, hT1.len]; decide) q1)
    · exact q1
  unfold bal at hb1 hb2
  have hh1 : (c.looks now 2).held = c.held := by omega
  have hh2 : ((c.looks now 2).flow1 now 0).held = c.held := by omega
  have hfs := flow_size hT1 hS1 now
  rw [hh1] at hfs
  generalize (c.looks now 2).flow1 now 0 = d at *
  have hes := ends_size hT2.len now
  have hl2 := hT2.len
  have c3 : ((d.ends1 now 0).at' 0).s.closed = true := by
    unfold Ch.ends1
    dsimp only
    have q1 := on_closed 0 0 (oLook now) (by omega) c2
    split
    · refine on_closed _ _ _ (by rw [len_lose, len_on]; omega) ?_
      show (((d.onC 0 (oLook now)).onC 0 oDrain).at' 0).s.closed = true
      exact on_closed _ _ _ (by rw [len_on]; omega) q1
    · exact q1
  refine ⟨fun hz => ?_, fun hz => ?_, by rw [e3, e4]; exact c3⟩
  · rw [e1, e4]
    have hz2 : d.held = 0 := by omega
    rw [held_two hl2] at hz2
    have hn : (lookS (d.at' 0).s now).st = 1 := look_end (hS2.ok 0 (by omega)) (hT2.p 0 (by decide)).k c2 (by omega) now
    have hS3 := (hS2.ends1 now 0 (by omega)).1
    have hcl : ((d.ends1 now 0).at' 1).s.closed = true := by
      unfold Ch.ends1
      dsimp only
      rw [if_pos (show (d.ansC 0 (oLook now)).n = 1 from hn), at_on _ _ _ (by rw [len_lose, len_on]; omega)]
      show (doS (((d.onC 0 (oLook now)).lose 1).at' 1).s (oClose now)).1.closed = true
      rw [closed_do]
      show (_ || ((3 : Int) == 3)) = true
      simp
    exact look_end (hS3.ok 1 (by rw [hT3.len]; decide)) (hT3.p 1 (by decide)).k hcl (by rw [hes]; omega) now
  · rw [e2, e4]
    show 1 ≤ ((d.ends1 now 0).at' 1).s.S.size
    rw [hes]
    exact hfs hz
/-- A round: a Step, and a Take. -/
theorem Dr.round {i u : ByteArray} (h : Dr c i u) (h0 : c.state = 0) (hc : (c.at' 0).s.closed = true) (now most : Int) (hm : 1 ≤ most) (b b' : ByteArray) (t t' : Tox) (n sd sd' : Int) {c1 c2 : Ch} {a : Ans}
    (e1 : c.doN ⟨3, now, n, b, t, sd⟩ = c1) (e2 : c1.doN ⟨4, now, most, b', t', sd'⟩ = c2) (ea : c1.doA ⟨4, now, most, b', t', sd'⟩ = a) :
    Dr c2 i (u ++ a.s) ∧ (c2.state = 1 ∨ (c2.state = 0 ∧ (c2.at' 0).s.closed = true ∧ c2.held < c.held)) := by
  have d1 := h.do ⟨3, now, n, b, t, sd⟩ (by simp) (fun k => absurd k (by show ¬ ((3 : Int) = 0); decide))
  have ha1 : (c.doA ⟨3, now, n, b, t, sd⟩).s = ⟨#[]⟩ := rfl
  rw [ha1, if_neg (show ¬ ((3 : Int) = 0) by decide), cat_none, cat_none, e1] at d1
  have d2 := d1.do ⟨4, now, most, b', t', sd'⟩ (by simp) (fun k => absurd k (by show ¬ ((4 : Int) = 0); decide))
  rw [if_neg (show ¬ ((4 : Int) = 0) by decide), cat_none, e2, ea] at d2
  refine ⟨d2, ?_⟩
  have es : c1 = c.stepC now := by rw [← e1]; rfl
  have hst := step_two h.two h.safe h0 hc now
  rw [← es] at hst
  have hb1 := held_doN h.two h.safe ⟨3, now, n, b, t, sd⟩ (by omega) h.lost (by simp)
  rw [e1, ha1] at hb1
  have hb1' : (c1.held : Int) + 0 = c.held + 0 := hb1.1
  rcases d1.st with f | ⟨f, f0⟩
  · have hz : 0 < c.held := by
      rcases Nat.eq_zero_or_pos c.held with e | e
      · have := hst.1 e
        omega
      · exact e
    have hs1 := hst.2.1 hz
    have hl1 := d1.two.len
    have e3 : c1.doN ⟨4, now, most, b', t', sd'⟩ = c1.onC (c1.L.length - 1) (oTake now most) := by
      show (if c1.state = 2 then c1 else _) = _
      rw [if_neg (by omega)]
    have e4 : c1.doA ⟨4, now, most, b', t', sd'⟩ = ⟨0, (c1.ansC (c1.L.length - 1) (oTake now most)).s, 0⟩ := by
      show (if c1.state = 2 then noAns else _) = _
      rw [if_neg (by omega)]
    have ht : 1 ≤ a.s.size := by
      rw [← ea, e4, hl1]
      exact (d1.two.p 1 (by decide)).took now most (look_open (d1.safe.ok 1 (by omega)) (by omega) now) hm (by omega)
    have hb2 := held_doN d1.two d1.safe ⟨4, now, most, b', t', sd'⟩ (by omega) d1.lost (by simp)
    rw [e2, ea, if_neg (show ¬ ((4 : Int) = 0) by decide)] at hb2
    refine Or.inr ⟨?_, ?_, by have := hb2.1; omega⟩
    · rw [← e2, e3]
      exact f
    · rw [← e2, e3]
      exact on_closed _ _ _ (by omega) hst.2.2
  · have := (state_do c1 ⟨4, now, most, b', t', sd'⟩ (Or.inl f)).1
    rw [e2] at this
    exact Or.inl (this.trans f)
theorem Dr.shut {i u : ByteArray} (h : Dr c i u) (now n sd : Int) (b : ByteArray) (t : Tox) {c1 : Ch} (e1 : c.doN ⟨1, now, n, b, t, sd⟩ = c1) : Dr c1 i u ∧ (c1.state = 0 → (c1.at' 0).s.closed = true) := by
  have d1 := h.do ⟨1, now, n, b, t, sd⟩ (by simp) (fun k => absurd k (by show ¬ ((1 : Int) = 0); decide))
  have ha1 : (c.doA ⟨1, now, n, b, t, sd⟩).s = ⟨#[]⟩ := rfl
  rw [ha1, if_neg (show ¬ ((1 : Int) = 0) by decide), cat_none, cat_none, e1] at d1
  refine ⟨d1, fun hs => ?_⟩
  have e2 : c.doN ⟨1, now, n, b, t, sd⟩ = if c.state = 0 then { c.onC 0 (oClose now) with shut := true } else c := rfl
  rw [← e1, e2] at hs ⊢
  by_cases h0 : c.state = 0
  · rw [if_pos h0]
    show ((c.onC 0 (oClose now)).at' 0).s.closed = true
    rw [at_on _ _ _ (by rw [h.two.len]; decide)]
    show (doS (c.at' 0).s (oClose now)).1.closed = true
    rw [closed_do]
    show (_ || ((3 : Int) == 3)) = true
    simp
  · rw [if_neg h0] at hs
    exact absurd hs h0
end Ch
end Go.Proofs.Ytfdfgnmgpgkknaa
