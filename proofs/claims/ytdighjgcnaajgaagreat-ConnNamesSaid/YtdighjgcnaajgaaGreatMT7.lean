/-
  A toxic's name: there once, of either way. Conditions: none.
-/
import Derived.Test.YtdighjgcnaajgaaGreatMT5
namespace Go.Proofs.YtdighjgcnaajgaaGreat
open Go.RowKit

theorem contains_iff (l : List ByteArray) (s : ByteArray) : Lib.containsS l s = true ↔ s ∈ l := Lib.containsS_iff l s
/-- A toxic of the other way. -/
def Tox.flip (t : Tox) : Tox := { t with up := !t.up }
theorem Tox.flip_chk (t : Tox) : t.flip.chk = t.chk := rfl
theorem chk_range (t : Tox) : t.chk = 0 ∨ (90 ≤ t.chk ∧ t.chk ≤ 92) := by
  unfold Tox.chk gx.checkB
  split
  · right; decide
  split
  · right; decide
  split
  · right; decide
  · left; rfl
theorem take_name {l : List ByteArray} {j : Nat} (h : j < l.length) : l.take (j + 1) = l.take j ++ [l.getD j ByteArray.empty] := by
  rw [List.take_add_one, List.getElem?_eq_getElem h, List.getD_eq_getElem?_getD, List.getElem?_eq_getElem h]
  rfl
/-- A connection, a toxic and its other one in blocks beside it. -/
structure NmZ (w W : World) (V : Own) (g : Nat) (K : Cn) (M B1 B2 : Nat) (t : Tox) : Prop where
  hd : KHd w W V g K M
  b1 : W.heap[B1]? = some (toxObj t)
  b2 : W.heap[B2]? = some (toxObj t.flip)
  n1 : ¬ V B1
  n2 : ¬ V B2
theorem NmZ.on {w W W' : World} {V : Own} {g : Nat} {K : Cn} {M B1 B2 : Nat} {t : Tox} (h : NmZ w W V g K M B1 B2 t) (hb : Below W.heap.size W W') : NmZ w W' V g K M B1 B2 t :=
  ⟨h.hd.on hb, (hb.block _ (gb.blk_lt h.b1)).trans h.b1, (hb.block _ (gb.blk_lt h.b2)).trans h.b2, h.n1, h.n2⟩
theorem NmZ.step {w W W' : World} {V : Own} {g : Nat} {K K' : Cn} {M M' B1 B2 : Nat} {t : Tox} (h : NmZ w W V g K M B1 B2 t) (hs : KStp W V g K' M' W') : ∃ V', NmZ w W' V' g K' M' B1 B2 t := by
  obtain ⟨V', hd, hr⟩ := h.hd.step hs
  have r1 := hr _ (gb.blk_lt h.b1) h.n1
  have r2 := hr _ (gb.blk_lt h.b2) h.n2
  exact ⟨V', hd, r1.1.trans h.b1, r2.1.trans h.b2, r1.2, r2.2⟩
theorem NmZ.cells {w W : World} {V : Own} {g : Nat} {K : Cn} {M B1 B2 : Nat} {t : Tox} (h : NmZ w W V g K M B1 B2 t) :
    (W.cell? ⟨B1, 0, none⟩ = some (.string t.s) ∧ W.cell? ⟨B1, 1, none⟩ = some (.int .i64 t.k) ∧ W.cell? ⟨B1, 2, none⟩ = some (.bool t.up) ∧ W.cell? ⟨B1, 3, none⟩ = some (.int .i64 t.o) ∧ W.cell? ⟨B1, 4, none⟩ = some (.int .i64 t.a) ∧ W.cell? ⟨B1, 5, none⟩ = some (.int .i64 t.b)) ∧
    (W.cell? ⟨B2, 0, none⟩ = some (.string t.s) ∧ W.cell? ⟨B2, 1, none⟩ = some (.int .i64 t.k) ∧ W.cell? ⟨B2, 2, none⟩ = some (.bool (!t.up)) ∧ W.cell? ⟨B2, 3, none⟩ = some (.int .i64 t.o) ∧ W.cell? ⟨B2, 4, none⟩ = some (.int .i64 t.a) ∧ W.cell? ⟨B2, 5, none⟩ = some (.int .i64 t.b)) := ⟨tox_cells h.b1, tox_cells h.b2⟩
namespace Cn
variable {k : Cn}
/-- Where a toxic of a name comes. -/
theorem add_cases (k : Cn) (t : Tox) (now : Int) : (t.chk ≠ 0 ∧ k.addE t now = t.chk) ∨ (t.chk = 0 ∧ t.s ∈ k.names ∧ k.addE t now = 141 ∧ k.addK t now = k) ∨ (t.chk = 0 ∧ t.s ∉ k.names ∧ k.addE t now = (k.lk (wayT t)).addE t now ∧ ((k.lk (wayT t)).addE t now = 0 → k.addK t now = { k.on (wayT t) (fun l => l.addK t now) with names := k.names ++ [t.s] })) := by
  unfold addE addK
  by_cases hc : t.chk = 0
  · right
    rw [if_neg (show ¬ t.chk ≠ 0 from fun e => e hc), if_neg (show ¬ t.chk ≠ 0 from fun e => e hc)]
    by_cases hm : t.s ∈ k.names
    · left
      have h := (contains_iff _ _).2 hm
      rw [if_pos h, if_pos h]
      exact ⟨hc, hm, rfl, rfl⟩
    · right
      have h : ¬ Lib.containsS k.names t.s = true := fun e => hm ((contains_iff _ _).1 e)
      rw [if_neg h, if_neg h]
      exact ⟨hc, hm, rfl, fun e => by rw [if_pos e]⟩
  · left
    rw [if_pos hc]
    exact ⟨hc, rfl⟩
/-- The names of a way, behind a toxic that came. -/
theorem add_mem {t : Tox} {now : Int} (ho : Lok (k.lk (wayT t))) (hb : (k.lk (wayT t)).Bal) (hu : t.up = (k.lk (wayT t)).up) (hc : t.chk = 0) (h0 : (k.lk (wayT t)).addE t now = 0) (hK : k.addK t now = { k.on (wayT t) (fun l => l.addK t now) with names := k.names ++ [t.s] }) :
    (k.addK t now).names = k.names ++ [t.s] ∧ t.s ∈ ((k.addK t now).lk (wayT t)).names := by
  have hn := (Lk.add_names ho hb t now).1 h0 hc hu
  have hl := lk_on k (way_lt t) (fun l => l.addK t now)
  rw [hK]
  refine ⟨rfl, ?_⟩
  have e : (({ k.on (wayT t) (fun l => l.addK t now) with names := k.names ++ [t.s] } : Cn).lk (wayT t)) = (k.on (wayT t) fun l => l.addK t now).lk (wayT t) := by
    unfold lk
    split <;> rfl
  rw [e, hl, hn]
  simp
theorem idx_mem (l : Lk) (s : ByteArray) : ¬ l.idx s < 0 ↔ s ∈ l.names := by
  have h := out_iff l.names s
  have e : l.idx s = Lib.idxOfS l.names s := rfl
  rw [e, h]
  exact Classical.not_not
/-- A name that is there is dropped, once. -/
theorem drop_yes (hp : k.Prm) {s : ByteArray} (now : Int) (hs : s ∈ k.names) : k.dropE s = 0 ∧ (k.dropK s now).names = ers k.names s ∧ (k.dropK s now).Prm := by
  have hN : ¬ Lib.idxOfS k.names s < 0 := fun h => (out_iff _ _).1 h hs
  have hm := hp.subset hs
  have hpd := prm_dropK hp s now
  refine ⟨?_, ?_, hpd⟩
  · unfold dropE
    by_cases ha : ¬ k.A.idx s < 0
    · rw [if_pos ha]
    · rw [if_neg ha]
      rcases List.mem_append.1 hm with h | h
      · exact absurd ((idx_mem k.A s).2 h) ha
      · rw [if_pos ((idx_mem k.B s).2 h)]
  · unfold dropK
    by_cases ha : ¬ k.A.idx s < 0
    · rw [if_pos ha]
      exact (out_erase hN).1
    · rw [if_neg ha]
      rcases List.mem_append.1 hm with h | h
      · exact absurd ((idx_mem k.A s).2 h) ha
      · rw [if_pos ((idx_mem k.B s).2 h)]
        exact (out_erase hN).1
theorem drop_none (hp : k.Prm) {s : ByteArray} (now : Int) (hs : s ∉ k.names) : k.dropE s = 142 ∧ k.dropK s now = k := by
  have ha : ¬ ¬ k.A.idx s < 0 := fun h => hs (hp.symm.subset (List.mem_append_left _ ((idx_mem k.A s).1 h)))
  have hb : ¬ ¬ k.B.idx s < 0 := fun h => hs (hp.symm.subset (List.mem_append_right _ ((idx_mem k.B s).1 h)))
  unfold dropE dropK
  rw [if_neg ha, if_neg hb, if_neg ha, if_neg hb]
  exact ⟨rfl, rfl⟩
theorem ers_last {l : List ByteArray} {s : ByteArray} (h : s ∉ l) : ers (l ++ [s]) s = l := by
  have := @List.erase_append_right ByteArray instBEqOfDecidableEq _ s l [s] h
  have e2 : ers [s] s = [] := @List.erase_cons_head ByteArray instBEqOfDecidableEq _ s []
  show @List.erase ByteArray instBEqOfDecidableEq (l ++ [s]) s = l
  rw [this]
  show l ++ ers [s] s = l
  rw [e2, List.append_nil]
/-- Another one of its name, of the other way, comes when it is gone, or there is no room. -/
theorem add_free {t : Tox} {now : Int} (hp : k.Prm) (ho : ∀ i, Lok (k.lk i) ∧ (k.lk i).Bal) (hu : t.up = (k.lk (wayT t)).up) (hc : t.chk = 0) (hs : t.s ∉ k.names) : (k.addE t now = 0 ∧ (k.addK t now).names.length = k.names.length + 1) ∨ k.addE t now = 110 := by
  rcases add_cases k t now with ⟨h, _⟩ | ⟨_, h, _⟩ | ⟨_, _, h1, h2⟩
  · exact absurd hc h
  · exact absurd h hs
  · rw [h1]
    have hn : ¬ Lib.containsS (k.lk (wayT t)).names t.s = true := fun e => by
      have hm := (contains_iff _ _).1 e
      refine hs (hp.symm.subset ?_)
      unfold lk at hm
      split at hm
      · exact List.mem_append_left _ hm
      · exact List.mem_append_right _ hm
    have hE : (k.lk (wayT t)).addE t now = (k.lk (wayT t)).drawE t now := by
      unfold Lk.addE
      rw [if_neg (fun e => e.elim (fun e => e hc) (fun e => e hu)), if_neg hn]
    have hd := Lk.draw_e (ho (wayT t)).1 t now hc
    rw [← hE] at hd
    split at hd
    · exact Or.inr hd
    · left
      rw [h2 hd]
      exact ⟨hd, by simp⟩
end Cn
end Go.Proofs.YtdighjgcnaajgaaGreat
