/-
  Mathematics of the heap beside the row in order: what set, remove and move come to. Conditions: as each states.
-/
import Derived.Test.YtpohfcjmjfhdoaaH
import Derived.Test.YtpohfcjmjfhdoaaD11
namespace Go.Proofs.Ytpohfcjmjfhdoaa

theorem cut_at {s : St} {k j : Nat} (hj : j < s.h.length - 1) : (s.cut k).at j = s.at j := by
  show (s.h.take (s.h.length - 1)).getD j (0, 0) = s.h.getD j (0, 0)
  rw [List.getD_eq_getElem?_getD, List.getD_eq_getElem?_getD, List.getElem?_take, if_pos hj]
theorem cut_len (s : St) (k : Nat) : (s.cut k).h.length = s.h.length - 1 := by simp [St.cut]
theorem Placed.inj {s : St} (h : Placed s) {i j : Nat} (hi : i < s.h.length) (hj : j < s.h.length) (e : (s.at i).2 = (s.at j).2) : i = j := by
  have h1 := h.at_ i hi
  rw [e, h.at_ j hj] at h1
  injection h1 with h1
  exact h1.symm
theorem cut_pl (s : St) (k : Nat) (i : Int) : (s.cut k).pl i = if i = (s.at k).2 then none else s.pl i := rfl
theorem cut_sz {s : St} (h : Placed s) {k : Nat} (hk : k < s.h.length) : (s.cut k).sz = s.h.length - 1 := by
  have h1 := h.at_ k hk
  have h2 := h.sz
  simp [St.cut, h1, h2]
theorem cut_hole {s : St} (h : Placed s) {k : Nat} (hk : k < s.h.length - 1) : Hole (s.cut k) k (s.at (s.h.length - 1)) := by
  have hkl : k < s.h.length := by omega
  refine ⟨by rw [cut_len]; exact hk, fun j hj hjk => ?_, fun i j hi hid => ?_, fun j hj hjk => ?_, ?_⟩
  · rw [cut_len] at hj
    rw [cut_at hj, cut_pl, if_neg (fun e => hjk (h.inj (by omega) hkl e))]
    exact h.at_ j (by omega)
  · rw [cut_pl] at hi
    split at hi
    · cases hi
    · rename_i hne
      obtain ⟨h1, h2⟩ := h.of i j hi
      have hjl : j < s.h.length - 1 := by
        rcases Nat.lt_or_ge j (s.h.length - 1) with h | h
        · exact h
        · obtain rfl : j = s.h.length - 1 := by omega
          exact absurd h2.symm hid
      rw [cut_len, cut_at hjl]
      exact ⟨hjl, fun e => hne (by rw [← h2, e]), h2⟩
  · rw [cut_len] at hj
    rw [cut_at hj]
    intro e
    have := h.inj (i := j) (j := s.h.length - 1) (by omega) (by omega) e
    omega
  · have e2 : (s.cut k).pl (s.at (s.h.length - 1)).2 = some (s.h.length - 1) := by
      rw [cut_pl, if_neg (fun e => by have := h.inj (i := s.h.length - 1) (j := k) (by omega) hkl e; omega)]
      exact h.at_ _ (by omega)
    rw [cut_len, cut_sz h hkl, e2]
    rfl
theorem cut_heap {s : St} (h : Heap s) (k : Nat) : Heap (s.cut k) := fun j hj hjl => by
  rw [cut_len] at hjl
  have := up_lt hj
  rw [cut_at hjl, cut_at (by omega)]
  exact h j hj (by omega)
theorem cut_placed {s : St} (h : Placed s) {k : Nat} (hk : k + 1 = s.h.length) : Placed (s.cut k) := by
  have hkl : k < s.h.length := by omega
  refine ⟨fun j hj => ?_, fun i j hi => ?_, by rw [cut_sz h hkl, cut_len]⟩
  · rw [cut_len] at hj
    rw [cut_at hj, cut_pl, if_neg (fun e => by have := h.inj (i := j) (j := k) (by omega) hkl e; omega)]
    exact h.at_ j (by omega)
  · rw [cut_pl] at hi
    split at hi
    · cases hi
    · rename_i hne
      obtain ⟨h1, h2⟩ := h.of i j hi
      have hjl : j < s.h.length - 1 := by
        rcases Nat.lt_or_ge j (s.h.length - 1) with h | h
        · exact h
        · obtain rfl : j = k := by omega
          exact absurd h2.symm hne
      rw [cut_len, cut_at hjl]
      exact ⟨hjl, h2⟩
theorem set_perm {h : List Due} {k : Nat} (hk : k < h.length) (d : Due) : (h.set k d).Perm (d :: h.eraseIdx k) := by
  rw [List.set_eq_take_append_cons_drop, if_pos hk, List.eraseIdx_eq_take_drop_succ]
  exact List.perm_middle
theorem at_get {s : St} {k : Nat} (hk : k < s.h.length) : s.at k = s.h[k] := by simp [St.at, hk]
/-- The one at k is gone; the last one stands there. -/
theorem take_set_perm {h : List Due} {k : Nat} (hk : k < h.length - 1) : ((h.take (h.length - 1)).set k (h.getD (h.length - 1) (0, 0))).Perm (h.eraseIdx k) := by
  have e0 : (h.take (h.length - 1)).length = h.length - 1 := by simp
  have p1 := set_perm (h := h.take (h.length - 1)) (k := k) (by rw [e0]; exact hk) (h.getD (h.length - 1) (0, 0))
  have e1 : h = h.take (h.length - 1) ++ [h.getD (h.length - 1) (0, 0)] := by
    conv => lhs; rw [← List.take_append_drop (h.length - 1) h]
    congr 1
    rw [List.drop_eq_getElem_cons (by omega), List.drop_eq_nil_of_le (by omega), List.getD_eq_getElem?_getD, List.getElem?_eq_getElem (by omega)]
    rfl
  refine p1.trans ?_
  have e2 : h.eraseIdx k = (h.take (h.length - 1)).eraseIdx k ++ [h.getD (h.length - 1) (0, 0)] := by
    conv => lhs; rw [e1]
    rw [List.eraseIdx_append_of_lt_length (by rw [e0]; exact hk)]
  rw [e2]
  exact (List.perm_append_singleton _ _).symm
theorem remove_ok {s : St} (h : Placed s) (hp : Heap s) {k : Nat} (hk : k < s.h.length) : Placed (removeS s k) ∧ Heap (removeS s k) ∧ (removeS s k).h.Perm (s.h.eraseIdx k) := by
  unfold removeS
  by_cases hc : k < s.h.length - 1
  · rw [if_pos hc]
    obtain ⟨h1, h2, h3⟩ := settle_ok (cut_hole h hc) (cut_heap hp k)
    exact ⟨h1, h2, h3.trans (take_set_perm hc)⟩
  · rw [if_neg hc]
    have hk1 : k + 1 = s.h.length := by omega
    refine ⟨cut_placed h hk1, cut_heap hp k, ?_⟩
    have e : s.h.eraseIdx k = s.h.take (s.h.length - 1) := by
      rw [show k = s.h.length - 1 by omega, List.eraseIdx_eq_take_drop_succ, List.drop_eq_nil_of_le (by omega), List.append_nil]
    rw [e]
    exact List.Perm.refl _
end Go.Proofs.Ytpohfcjmjfhdoaa
