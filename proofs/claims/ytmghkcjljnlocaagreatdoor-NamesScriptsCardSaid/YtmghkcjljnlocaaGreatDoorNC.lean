/-
  A registry: a toxic that is added and dropped, a proxy that is switched and switched back; any list. Conditions: none.
-/
import Derived.Test.YtmghkcjljnlocaaGreatDoorNB
namespace Go.Proofs.YtmghkcjljnlocaaGreatDoor
open Go.RowKit
namespace Nm
theorem find_set {l : List Prx} {k : Nat} {p : Prx} (h : k < l.length) (hs : p.s = (l.getD k noPrx).s) (s : ByteArray) : fP (l.set k p) s = fP l s := by
  have e : (l.set k p).map (·.s) = l.map (·.s) := by
    rw [List.map_set]
    refine List.ext_getElem (by simp) fun j h1 h2 => ?_
    rw [List.getElem_set]
    split
    · rename_i e
      subst e
      rw [List.getElem_map, hs, get_is h]
    · rfl
  have key : ∀ m : List Prx, fP m s = (m.map (·.s)).findIdx fun x => decide (x = s) := fun m => by
    unfold fP fnd
    rw [List.findIdx_map]
    rfl
  rw [key, key, e]
theorem get_set {l : List Prx} {k : Nat} {p : Prx} (h : k < l.length) : (l.set k p).getD k noPrx = p := by
  rw [get_is (by rw [List.length_set]; exact h), List.getElem_set_self]
/-- A toxic more. -/
theorem tox_add {l : List Tox} {o : NOp} (h3 : o.kind = 3) (he : (toxL l o).2 = 0) : (toxL l o).1 = l ++ [o.t] ∧ ∀ t ∈ l, t.s ≠ o.t.s := by
  have hN : toxN o = o.t.s := if_neg (by omega)
  unfold toxL at *
  split at he
  · rename_i q
    exact absurd he q.2
  rename_i q
  rw [if_neg q]
  dsimp only at *
  rw [if_pos h3] at *
  split at he
  · exact absurd he (show ¬ (141 : Int) = 0 by decide)
  rename_i q4
  rw [if_neg q4]
  split at he
  · exact absurd he (show ¬ (143 : Int) = 0 by decide)
  rename_i q5
  rw [if_neg q5]
  rw [hN] at q4
  exact ⟨rfl, fun t ht e => q4 (fnd_lt.2 ⟨t, ht, e⟩)⟩
theorem tox_drop {l : List Tox} {t : Tox} {o : NOp} (h4 : o.kind = 4) (hx : o.x = t.s) (hn : ∀ u ∈ l, u.s ≠ t.s) : toxL (l ++ [t]) o = (l, 0) := by
  have hN : toxN o = t.s := (if_pos h4).trans hx
  have hk : fT (l ++ [t]) t.s = l.length := fnd_hit (by simp) (by simp) fun j hj e => by
    rw [List.getElem_append_left hj] at e
    exact hn _ (List.getElem_mem hj) e
  unfold toxL
  rw [if_neg (fun e => e.1 h4)]
  dsimp only
  rw [hN, hk, if_neg (by omega), if_neg (Decidable.not_not.2 (by simp)), if_pos h4]
  rw [List.take_left', List.drop_eq_nil_of_le (by simp), List.append_nil]
  rfl
theorem do_tox {l : List Prx} {o : NOp} (h : o.kind = 3 ∨ o.kind = 4 ∨ o.kind = 5) (hk : fP l o.s < l.length) : doR l o = (l.set (fP l o.s) { l.getD (fP l o.s) noPrx with ts := (toxL (l.getD (fP l o.s) noPrx).ts o).1 }, (toxL (l.getD (fP l o.s) noPrx).ts o).2) := by
  unfold doR
  rw [if_neg (by omega), if_neg (by omega)]
  dsimp only
  rw [if_neg (Decidable.not_not.2 hk), if_neg (by omega), if_neg (by omega)]
theorem back_tox {l : List Prx} {o o' : NOp} (h3 : o.kind = 3) (he : (doR l o).2 = 0) (h4 : o'.kind = 4) (hs : o'.s = o.s) (hx : o'.x = o.t.s) : doR (doR l o).1 o' = (l, 0) ∧ (doR l o).1 ≠ l := by
  have hk : fP l o.s < l.length := by
    by_cases hk : fP l o.s < l.length
    · exact hk
    · unfold doR at he
      rw [if_neg (by omega), if_neg (by omega)] at he
      dsimp only at he
      rw [if_pos hk] at he
      exact absurd he (show ¬ (142 : Int) = 0 by decide)
  rw [do_tox (Or.inl h3) hk] at he ⊢
  obtain ⟨e1, hn⟩ := tox_add h3 he
  dsimp only
  rw [e1]
  generalize hp : l.getD (fP l o.s) noPrx = p at *
  have hf : fP (l.set (fP l o.s) { p with ts := p.ts ++ [o.t] }) o'.s = fP l o.s := by
    rw [hs]
    exact find_set hk (by rw [hp]) _
  have hk2 : fP (l.set (fP l o.s) { p with ts := p.ts ++ [o.t] }) o'.s < (l.set (fP l o.s) { p with ts := p.ts ++ [o.t] }).length := by
    rw [hf, List.length_set]
    exact hk
  refine ⟨?_, fun e => ?_⟩
  · rw [do_tox (Or.inr (Or.inl h4)) hk2, hf, get_set hk]
    rw [tox_drop h4 hx hn, List.set_set]
    refine Prod.ext ?_ rfl
    show l.set (fP l o.s) p = l
    rw [← hp]
    exact set_same hk
  · have e2 := congrArg (fun m : List Prx => (m.getD (fP l o.s) noPrx).ts.length) e
    rw [get_set hk, hp] at e2
    simp at e2
theorem do_switch {l : List Prx} {o : NOp} (h : o.kind = 2) (hk : fP l o.s < l.length) : doR l o = (l.set (fP l o.s) { l.getD (fP l o.s) noPrx with on := o.on }, 0) := by
  unfold doR
  rw [if_neg (by omega), if_neg (by omega)]
  dsimp only
  rw [if_neg (Decidable.not_not.2 hk), if_neg (by omega), if_pos h]
theorem back_switch {l : List Prx} {o o' : NOp} (h : o.kind = 2) (h' : o'.kind = 2) (hk : fP l o.s < l.length) (hs : o'.s = o.s) (ho : o'.on = (l.getD (fP l o.s) noPrx).on) : (doR l o).2 = 0 ∧ doR (doR l o).1 o' = (l, 0) := by
  rw [do_switch h hk]
  dsimp only
  generalize hp : l.getD (fP l o.s) noPrx = p at *
  have hf : fP (l.set (fP l o.s) { p with on := o.on }) o'.s = fP l o.s := by
    rw [hs]
    exact find_set hk (by rw [hp]) _
  have hk2 : fP (l.set (fP l o.s) { p with on := o.on }) o'.s < (l.set (fP l o.s) { p with on := o.on }).length := by
    rw [hf, List.length_set]
    exact hk
  refine ⟨rfl, ?_⟩
  rw [do_switch h' hk2, hf, get_set hk, ho, List.set_set]
  refine Prod.ext ?_ rfl
  show l.set (fP l o.s) p = l
  rw [← hp]
  exact set_same hk
open Classical in
/-- Any list: one that is no registry is refused, or reset to none. -/
noncomputable def doP (l : List Prx) (o : NOp) : List Prx × Int := if Right l then doR l o else if o.kind = 6 then ([], 0) else ([], 1)
theorem right_nil : Right [] := ⟨fun p h => (List.not_mem_nil h).elim, List.Pairwise.nil, by decide⟩
theorem doP_right (l : List Prx) (o : NOp) : Right (doP l o).1 := by
  unfold doP
  split
  · rename_i h
    exact do_right h o
  split
  · exact right_nil
  · exact right_nil
/-- The adjacent ones in order: all in order. -/
theorem ord_adj {l : List Prx} (h : ∀ i (h1 : i + 1 < l.length), ltB (l[i]'(by omega)).s l[i + 1].s = true) : Ord l := by
  induction l with
  | nil => exact List.Pairwise.nil
  | cons a r ih =>
    have hr : Ord r := ih fun i h1 => h (i + 1) (by simpa using h1)
    refine List.pairwise_cons.2 ⟨fun x hx => ?_, hr⟩
    cases r with
    | nil => exact (List.not_mem_nil hx).elim
    | cons b r' =>
      have hab : ltB a.s b.s = true := h 0 (by simp)
      rcases List.mem_cons.1 hx with rfl | hx
      · exact hab
      · exact lt_trans hab ((List.pairwise_cons.1 hr).1 x hx)
theorem ord_at {l : List Prx} (h : Ord l) {i : Nat} (h1 : i + 1 < l.length) : ltB (l[i]'(by omega)).s l[i + 1].s = true :=
  List.pairwise_iff_getElem.1 h i (i + 1) (by omega) h1 (by omega)
end Nm
end Go.Proofs.YtmghkcjljnlocaaGreatDoor
