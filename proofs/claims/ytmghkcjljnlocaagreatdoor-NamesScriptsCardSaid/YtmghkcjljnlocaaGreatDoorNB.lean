/-
  A registry: what a call leaves as it was, and what is taken back. Conditions: none.
-/
import Derived.Test.YtmghkcjljnlocaaGreatDoorNA
namespace Go.Proofs.YtmghkcjljnlocaaGreatDoor
open Go.RowKit
namespace Nm
theorem get_is {l : List Prx} {k : Nat} (h : k < l.length) : l.getD k noPrx = l[k] := by
  rw [List.getD_eq_getElem?_getD, List.getElem?_eq_getElem h]
  rfl
theorem set_same {l : List Prx} {k : Nat} (h : k < l.length) : l.set k (l.getD k noPrx) = l := by
  rw [get_is h, List.set_getElem_self]
theorem tox_err {l : List Tox} {o : NOp} (h : (toxL l o).2 ≠ 0) : (toxL l o).1 = l := by
  unfold toxL at *
  split at h
  · rename_i q
    rw [if_pos q]
  rename_i q
  rw [if_neg q]
  dsimp only at *
  split at h
  · rename_i q3
    rw [if_pos q3]
    split at h
    · rename_i q4
      rw [if_pos q4]
    rename_i q4
    rw [if_neg q4]
    split at h
    · rename_i q5
      rw [if_pos q5]
    · exact absurd rfl h
  rename_i q3
  rw [if_neg q3]
  split at h
  · rename_i q4
    rw [if_pos q4]
  rename_i q4
  rw [if_neg q4]
  split at h
  · exact absurd rfl h
  rename_i q5
  rw [if_neg q5]
  split at h
  · rename_i q6
    rw [if_pos q6]
  · exact absurd rfl h
/-- An error changes nothing. -/
theorem do_err {l : List Prx} {o : NOp} (h : (doR l o).2 ≠ 0) : (doR l o).1 = l := by
  unfold doR at *
  split at h
  · rename_i q
    rw [if_pos q]
    unfold addL at *
    split at h
    · rename_i q
      rw [if_pos q]
    rename_i q
    rw [if_neg q]
    split at h
    · rename_i q
      rw [if_pos q]
    rename_i q
    rw [if_neg q]
    split at h
    · rename_i q
      rw [if_pos q]
    rename_i q
    rw [if_neg q]
    split at h
    · rename_i q
      rw [if_pos q]
    · exact absurd rfl h
  rename_i q
  rw [if_neg q]
  split at h
  · exact absurd rfl h
  rename_i q6
  rw [if_neg q6]
  dsimp only at *
  split at h
  · rename_i q7
    rw [if_pos q7]
  rename_i q7
  rw [if_neg q7]
  have hk := Decidable.not_not.1 q7
  split at h
  · exact absurd rfl h
  rename_i q8
  rw [if_neg q8]
  split at h
  · exact absurd rfl h
  rename_i q9
  rw [if_neg q9]
  show l.set (fP l o.s) { l.getD (fP l o.s) noPrx with ts := (toxL (l.getD (fP l o.s) noPrx).ts o).1 } = l
  rw [tox_err h]
  exact set_same hk
/-- Names in order stand once. -/
theorem ord_once {l : List Prx} (h : Ord l) {i j : Nat} (hi : i < l.length) (hj : j < l.length) (e : l[i].s = l[j].s) : i = j := by
  have hp := List.pairwise_iff_getElem.1 h
  rcases Nat.lt_trichotomy i j with g | g | g
  · exact absurd e (lt_ne (hp i j hi hj g))
  · exact g
  · exact absurd e.symm (lt_ne (hp j i hj hi g))
theorem find_at {l : List Prx} (h : Ord l) {k : Nat} (hk : k < l.length) : fP l l[k].s = k :=
  fnd_hit hk rfl fun j hj e => by
    have := ord_once h (show j < l.length by omega) hk e
    omega
theorem find_mem {l : List Prx} (h : Ord l) {p : Prx} (hp : p ∈ l) : ∃ hk : fP l p.s < l.length, l[fP l p.s] = p := by
  obtain ⟨k, hk, rfl⟩ := List.getElem_of_mem hp
  have e := find_at h hk
  exact ⟨by rw [e]; exact hk, by simp only [e]⟩
/-- A call changes no proxy but the one of its name. -/
theorem do_other {l : List Prx} {o : NOp} (h6 : o.kind ≠ 6) {p : Prx} (hp : p ∈ l) (hn : p.s ≠ o.s) : p ∈ (doR l o).1 := by
  have hset : ∀ q : Prx, ∀ hk : fP l o.s < l.length, p ∈ l.set (fP l o.s) q := fun q hk => by
    obtain ⟨j, hj, rfl⟩ := List.getElem_of_mem hp
    have hne : fP l o.s ≠ j := fun e => hn (by have := fnd_key (key := Prx.s) hk; subst e; exact this)
    refine List.mem_iff_getElem.2 ⟨j, by rw [List.length_set]; exact hj, ?_⟩
    rw [List.getElem_set, if_neg hne]
  unfold doR
  split
  · unfold addL
    repeat' split
    all_goals first | exact hp | exact put_mem.2 (Or.inr hp)
  dsimp only
  split
  · exact hp
  rename_i hk
  have hk := Decidable.not_not.1 hk
  split
  · obtain ⟨j, hj, rfl⟩ := List.getElem_of_mem hp
    have hne : fP l o.s ≠ j := fun e => hn (by have := fnd_key (key := Prx.s) hk; subst e; exact this)
    rcases Nat.lt_or_ge j (fP l o.s) with g | g
    · exact List.mem_append.2 (Or.inl (List.mem_take_iff_getElem.2 ⟨j, by omega, rfl⟩))
    · refine List.mem_append.2 (Or.inr (List.mem_iff_getElem.2 ⟨j - (fP l o.s + 1), by rw [List.length_drop]; omega, ?_⟩))
      rw [List.getElem_drop]
      congr 1
      omega
  split
  · exact hset _ hk
  · exact hset _ hk
theorem do_length {l : List Prx} {o : NOp} : (doR l o).1.length ≤ l.length + 1 ∧ l.length ≤ (doR l o).1.length + 1 := by
  unfold doR
  split
  · unfold addL
    repeat' split
    all_goals first | (rw [put_length]; omega) | (show l.length ≤ l.length + 1 ∧ l.length ≤ l.length + 1; omega)
  split
  · rw [List.length_map]
    omega
  dsimp only
  split
  · show l.length ≤ l.length + 1 ∧ l.length ≤ l.length + 1
    omega
  rename_i hk
  have hk := Decidable.not_not.1 hk
  split
  · rw [List.length_append, List.length_take, List.length_drop]
    omega
  split
  · rw [List.length_set]
    omega
  · rw [List.length_set]
    omega
/-- Out of what was put: what was there. -/
theorem put_out {l : List Prx} {p : Prx} (h : Ord l) (hn : ∀ q ∈ l, q.s ≠ p.s) : (putL l p).take (fP (putL l p) p.s) ++ (putL l p).drop (fP (putL l p) p.s + 1) = l ∧ fP (putL l p) p.s < (putL l p).length := by
  have key : ∃ k, k < (putL l p).length ∧ (putL l p)[k]? = some p ∧ (putL l p).take k ++ (putL l p).drop (k + 1) = l := by
    clear h
    induction l with
    | nil => exact ⟨0, Nat.zero_lt_one, rfl, rfl⟩
    | cons q r ih =>
      unfold putL
      split
      · exact ⟨0, by simp, rfl, rfl⟩
      · obtain ⟨k, a, b, c⟩ := ih fun x hx => hn x (List.mem_cons_of_mem _ hx)
        refine ⟨k + 1, by simpa using a, by simpa using b, ?_⟩
        rw [List.take_succ_cons, List.drop_succ_cons, List.cons_append, c]
  obtain ⟨k, a, b, c⟩ := key
  have e : fP (putL l p) p.s = k := by
    have hk : (putL l p)[k] = p := by
      rw [List.getElem?_eq_getElem a] at b
      exact Option.some.inj b
    have := find_at (put_ord h hn) a
    rw [hk] at this
    exact this
  rw [e]
  exact ⟨c, a⟩
/-- A proxy that is added, and dropped again. -/
theorem back_add {l : List Prx} (h : Right l) {o : NOp} (h0 : o.kind = 0) (he : (doR l o).2 = 0) (o' : NOp) (h1 : o'.kind = 1) (hs : o'.s = o.s) : doR (doR l o).1 o' = (l, 0) ∧ (doR l o).1.length = l.length + 1 := by
  have e : doR l o = (putL l ⟨o.s, true, o.n, []⟩, 0) ∧ ∀ q ∈ l, q.s ≠ o.s := by
    unfold doR addL at *
    rw [if_pos h0] at *
    split at he
    · exact absurd he (show ¬ (140 : Int) = 0 by decide)
    rename_i q1
    rw [if_neg q1]
    split at he
    · exact absurd he (show ¬ (141 : Int) = 0 by decide)
    rename_i q2
    rw [if_neg q2]
    split at he
    · exact absurd he (show ¬ (144 : Int) = 0 by decide)
    rename_i q3
    rw [if_neg q3]
    split at he
    · exact absurd he (show ¬ (143 : Int) = 0 by decide)
    rename_i q4
    rw [if_neg q4]
    exact ⟨rfl, fun q hq e => q2 (fnd_lt.2 ⟨q, hq, e⟩)⟩
  rw [e.1]
  obtain ⟨a, b⟩ := put_out (p := ⟨o.s, true, o.n, []⟩) h.ord e.2
  have b' : fP (putL l ⟨o.s, true, o.n, []⟩) o.s < (putL l ⟨o.s, true, o.n, []⟩).length := b
  refine ⟨?_, put_length _ _⟩
  unfold doR
  rw [if_neg (by omega), if_neg (by omega), hs]
  dsimp only
  rw [if_neg (Decidable.not_not.2 b'), if_pos h1]
  exact Prod.ext a rfl
end Nm
end Go.Proofs.YtmghkcjljnlocaaGreatDoor
