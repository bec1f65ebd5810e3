/-
  Contract: what strings.SplitN answers at a blank and 7, against the document's own Split. Conditions: the text's length.
-/
import Derived.Test.YthlpdhhifjjofaaDoorM
import Derived.Test.YthlpdhhifjjofaaDoorW8
import Derived.Test.YthlpdhhifjjofaaDoorShelfS
namespace Go.Proofs.YthlpdhhifjjofaaDoor
open Go.RowKit

theorem index32 (l : List UInt8) : (Lib.index l [32] = -1 ∧ (32 : UInt8) ∉ l) ∨ ∃ i : Nat, Lib.index l [32] = i ∧ l = l.take i ++ 32 :: l.drop (i + 1) ∧ (32 : UInt8) ∉ l.take i ∧ i < l.length := by
  induction l with
  | nil => exact Or.inl ⟨rfl, by simp⟩
  | cons b l ih =>
    by_cases hb : b = 32
    · subst hb
      exact Or.inr ⟨0, by simp [Lib.index], by simp, by simp, by simp⟩
    · have hp : ([32] : List UInt8).isPrefixOf (b :: l) = false := by
        simp [List.isPrefixOf]
        exact fun h => hb h.symm
      rcases ih with ⟨h1, h2⟩ | ⟨i, h1, h2, h3, h4⟩
      · refine Or.inl ⟨?_, ?_⟩
        · simp [Lib.index, hp, h1]
        · intro h
          rcases List.mem_cons.1 h with h | h
          · exact hb h.symm
          · exact h2 h
      · refine Or.inr ⟨i + 1, ?_, ?_, ?_, ?_⟩
        · have hne : ((i : Int) == -1) = false := by simp
          simp [Lib.index, hp, h1]
        · rw [List.take_succ_cons, List.drop_succ_cons, List.cons_append, ← h2]
        · rw [List.take_succ_cons]
          intro h
          rcases List.mem_cons.1 h with h | h
          · exact hb h.symm
          · exact h3 h
        · simp; omega
theorem splitK32 (k : Nat) : ∀ l : List UInt8, Lib.splitK [32] 0 k l ≠ [] ∧ joinL (Lib.splitK [32] 0 k l) = l ∧ (Lib.splitK [32] 0 k l).length ≤ k + 1 ∧
    ((∀ t ∈ Lib.splitK [32] 0 k l, (32 : UInt8) ∉ t) ∨ ((Lib.splitK [32] 0 k l).length = k + 1 ∧ k + 1 ≤ l.length ∧ ∃ a z, Lib.splitK [32] 0 k l = a ++ [z] ∧ ∀ t ∈ a, (32 : UInt8) ∉ t)) := by
  induction k with
  | zero =>
    intro l
    unfold Lib.splitK
    refine ⟨by simp, by simp [joinL], by simp, ?_⟩
    by_cases h : (32 : UInt8) ∈ l
    · refine Or.inr ⟨rfl, ?_, [], l, rfl, by simp⟩
      exact List.length_pos_iff.2 (fun e => by rw [e] at h; cases h)
    · exact Or.inl fun t ht => by rw [List.mem_singleton.1 ht]; exact h
  | succ k ih =>
    intro l
    unfold Lib.splitK
    rcases index32 l with ⟨h1, h2⟩ | ⟨i, h1, h2, h3, h4⟩
    · rw [h1, if_pos (by decide)]
      exact ⟨by simp, by simp [joinL], by simp, Or.inl fun t ht => by rw [List.mem_singleton.1 ht]; exact h2⟩
    · have hne : ¬ ((i : Int) == -1) = true := by simp
      rw [h1, if_neg hne]
      have e1 : ((i : Int).toNat + 0) = i := by omega
      have e2 : (i : Int).toNat + ([32] : List UInt8).length = i + 1 := by simp
      rw [e1, e2]
      obtain ⟨r1, r2, r3, r4⟩ := ih (l.drop (i + 1))
      refine ⟨by simp, ?_, by simp; omega, ?_⟩
      · rw [joinL_cons r1, r2, ← h2]
      · rcases r4 with r4 | ⟨r4, r5, a, z, r6, r7⟩
        · refine Or.inl fun t ht => ?_
          rcases List.mem_cons.1 ht with rfl | ht
          · exact h3
          · exact r4 t ht
        · refine Or.inr ⟨by simp [r4], by rw [List.length_drop] at r5; omega, l.take i :: a, z, by rw [r6]; rfl, fun t ht => ?_⟩
          rcases List.mem_cons.1 ht with rfl | ht
          · exact h3
          · exact r7 t ht
theorem joinL_tail {a : List (List UInt8)} {z : List UInt8} {qs : List (List UInt8)} (hq : qs ≠ []) (h : joinL qs = z) : joinL (a ++ qs) = joinL (a ++ [z]) := by
  induction a with
  | nil => rw [List.nil_append, List.nil_append, h]; simp [joinL]
  | cons p r ih => rw [List.cons_append, List.cons_append, joinL_cons (by simp [hq]), joinL_cons (by simp), ih]
/-- What is cut at seven parts, and what is cut at all blanks. -/
def Rel (s : ByteArray) (ps : List ByteArray) : Prop := ps = splK s s.size ∨ (ps.length = 7 ∧ 7 ≤ (splK s s.size).length)
theorem split_rel (s : ByteArray) : Rel s (Lib.splitB ⟨#[32]⟩ 0 (min 7 (s.size + 1) - 1) s) ∧ Lib.splitB ⟨#[32]⟩ 0 (min 7 (s.size + 1) - 1) s ≠ [] ∧ (Lib.splitB ⟨#[32]⟩ 0 (min 7 (s.size + 1) - 1) s).length ≤ min 7 (s.size + 1) := by
  obtain ⟨K, hK⟩ : ∃ K, min 7 (s.size + 1) - 1 = K := ⟨_, rfl⟩
  rw [hK]
  have hd := Lib.splitB_data ⟨#[32]⟩ 0 K s
  obtain ⟨h1, h2, h3, h4⟩ := splitK32 K (pl s)
  have hd' : (Lib.splitB ⟨#[32]⟩ 0 K s).map pl = Lib.splitK [32] 0 K (pl s) := hd
  rw [← hd'] at h1 h2 h3 h4
  generalize Lib.splitB ⟨#[32]⟩ 0 K s = ps at *
  have hp : ps ≠ [] := fun e => h1 (by rw [e]; rfl)
  rw [List.length_map] at h3 h4
  have hl : (pl s).length = s.size := by simp [pl]
  refine ⟨?_, hp, by omega⟩
  rcases h4 with h4 | ⟨h4, h5, a, z, h6, h7⟩
  · exact Or.inl (splK_of hp (fun t ht => h4 _ (List.mem_map_of_mem ht)) h2.symm).symm
  · rw [hl] at h5
    refine Or.inr ⟨by omega, ?_⟩
    obtain ⟨A, Z, hAZ⟩ : ∃ A Z, ps = A ++ [Z] := ⟨ps.dropLast, ps.getLast hp, (List.dropLast_concat_getLast hp).symm⟩
    subst hAZ
    have h8 : A.map pl = a ∧ pl Z = z := by
      rw [List.map_append] at h6
      have := List.append_inj' h6 rfl
      exact ⟨this.1, by simpa using this.2⟩
    have h9 : splK s s.size = A ++ splK Z Z.size := by
      refine splK_of (by simp [splK_pos]) ?_ ?_
      · intro t ht
        rcases List.mem_append.1 ht with ht | ht
        · exact h7 _ (by rw [← h8.1]; exact List.mem_map_of_mem ht)
        · exact (splK_join Z Z.size (Nat.le_refl _)).2 t ht
      · rw [← h2, List.map_append, List.map_append]
        exact (joinL_tail (by simp [splK_pos]) (splK_all Z)).symm
    have h10 := List.length_pos_iff.2 (splK_pos Z Z.size)
    rw [h9, List.length_append]
    simp at h4
    omega
theorem parseP_seven {ps : List ByteArray} (h : 7 ≤ ps.length) : parseP ps = (noTox, 90) := by
  unfold parseP
  rw [if_pos (Or.inr (Or.inl ⟨by omega, by omega⟩))]
/-- A word of the library's own holds some number. -/
def Big (w : World) : Prop := ∃ m, w.cell? ⟨0, 0, none⟩ = some (.int .i64 m)
theorem big_on {w w' : World} (h : Big w) (hb : Below w.heap.size w w') : Big w' := by
  obtain ⟨m, hm⟩ := h
  exact ⟨m, (hb.cell (World.block_lt_of_cell? w _ hm)).trans hm⟩
/-- What SplitN hands back. -/
def OutN (s : ByteArray) (w : World) (e : Ending) (w' : World) : Prop := ∃ b d ps, e = .returned (.slice (some ⟨b, 0, none⟩) ps.length d) ∧ 0 < ps.length ∧ ps.length ≤ 7 ∧ ps.length ≤ d ∧ d ≤ 7 ∧ StrIn w' b 0 ps ∧ Below w.heap.size w w' ∧ Rel s ps ∧ ∀ t ∈ ps, t.size ≤ maxLen
theorem splitB_size (sep : ByteArray) (k : Nat) : ∀ s : ByteArray, ∀ t ∈ Lib.splitB sep 0 k s, t.size ≤ s.size := by
  induction k with
  | zero => intro s t ht; rw [Lib.splitB_zero] at ht; rw [List.mem_singleton.1 ht]; exact Nat.le_refl _
  | succ k ih =>
    intro s t ht
    unfold Lib.splitB at ht
    split at ht
    · rw [List.mem_singleton.1 ht]; exact Nat.le_refl _
    · rcases List.mem_cons.1 ht with rfl | ht
      · rw [ByteArray.size_extract]; omega
      · have := ih _ t ht
        rw [ByteArray.size_extract] at this
        omega
theorem splitn_any (s : ByteArray) (hs : s.size ≤ 1000000) (w : World) (hg : Big w) : Calls Tryd.prog 31 #[.string s, .string ⟨#[32]⟩, .int .i64 7] w (OutN s w) := by
  obtain ⟨m, hm⟩ := hg
  obtain ⟨h1, h2, h3⟩ := split_rel s
  have h4 := splitB_size ⟨#[32]⟩ (min 7 (s.size + 1) - 1) s
  refine (Tryd.strings_SplitN s ⟨#[32]⟩ 7 m w (by omega) hm (by decide) (by decide) (by decide)).mono ?_
  rintro e w' ⟨rfl, rfl⟩
  generalize Lib.splitB ⟨#[32]⟩ 0 (min 7 (s.size + 1) - 1) s = ps at *
  refine ⟨w.heap.size, min 7 (s.size + 1), ps, rfl, List.length_pos_iff.2 h2, by omega, by omega, by omega, fun j hj => ?_, (Below.refl _ _).alloc (Nat.le_refl _) _, h1, fun t ht => by have := h4 t ht; unfold maxLen; omega⟩
  have hc := heap_alloc_new w (.cells (Lib.cellsOf ps (min 7 (s.size + 1))) 9)
  have : (Lib.cellsOf ps (min 7 (s.size + 1)))[j]? = some (.string (ps.getD j ⟨#[]⟩)) := by
    unfold Lib.cellsOf
    rw [List.getElem?_toArray, List.getElem?_append_left (by simpa using hj), List.getElem?_map, List.getElem?_eq_getElem hj, List.getD_eq_getElem?_getD, List.getElem?_eq_getElem hj]
    rfl
  rw [Nat.zero_add]
  unfold World.cell?
  rw [hc]
  simpa using this
end Go.Proofs.YthlpdhhifjjofaaDoor
