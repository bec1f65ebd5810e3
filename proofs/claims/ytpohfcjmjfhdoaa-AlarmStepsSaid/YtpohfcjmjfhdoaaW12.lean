/-
  A row of alarms, cloned, and sorted by the library; contract: List. Conditions: as each states.
-/
import Derived.Test.YtpohfcjmjfhdoaaW11
import Derived.Test.YtpohfcjmjfhdoaaShelf
import Derived.Shelf.SlSortCmp.NoneTotal
namespace Go.Proofs.Ytpohfcjmjfhdoaa
open Go.RowKit Go.Sort Go.Maps

def encD (d : Due) : List Value := [.int .i64 d.1, .int .i64 d.2]
theorem flatK_flat (h : List Due) : flatK encD 2 h.toArray = (flat h).toArray := by
  apply ext_get!
  · simp [flat_length]
  · intro t ht
    have ht' : t < h.length * 2 := by simpa using ht
    rw [get_flatK _ _ _ _ (by simpa using ht')]
    have hf := flat_at h (t / 2) (by omega)
    have e1 : (h.toArray)[t / 2]! = h.getD (t / 2) (0, 0) := by
      rw [getElem!_pos _ _ (by simp; omega), List.getD_eq_getElem?_getD, List.getElem?_eq_getElem (by omega)]
      rfl
    have e2 : ((flat h).toArray)[t]! = (flat h)[t]'(by rw [flat_length]; exact ht') := by
      rw [getElem!_pos _ _ (by simp [flat_length]; exact ht')]
      rfl
    rw [e1, e2]
    rcases Nat.mod_two_eq_zero_or_one t with hm | hm
    · have e3 : (flat h)[t]? = some (.int .i64 (h.getD (t / 2) (0, 0)).1) := by rw [← hf.1]; congr 1; omega
      rw [List.getElem?_eq_getElem (by rw [flat_length]; exact ht')] at e3
      injection e3 with e3
      rw [e3, hm]
      rfl
    · have e3 : (flat h)[t]? = some (.int .i64 (h.getD (t / 2) (0, 0)).2) := by rw [← hf.2]; congr 1; omega
      rw [List.getElem?_eq_getElem (by rw [flat_length]; exact ht')] at e3
      injection e3 with e3
      rw [e3, hm]
      rfl
theorem holds_own {w : World} {base b n c : Nat} {h : List Due} (ho : w.ownsRow base 38 2 (.slice (some ⟨b, 0, none⟩) n c) n (flat h)) : HoldsK encD 2 w b 0 h.toArray := by
  unfold HoldsK Holds
  rw [flatK_flat]
  intro j hj
  have hl := ho.1
  have hj' : j < (flat h).length := by simpa using hj
  refine ⟨?_, by rw [Nat.zero_add]; exact ho.frozenAt j⟩
  rw [Nat.zero_add, ho.cellAt j (by omega), List.getElem?_eq_getElem hj', getElem!_pos (flat h).toArray j hj]
  rfl
/-- Behind the sort the same slice owns the sorted list. -/
theorem own_sorted {w : World} {base b n c : Nat} {h h' : List Due} (ho : w.ownsRow base 38 2 (.slice (some ⟨b, 0, none⟩) n c) n (flat h)) (hl : h'.length = h.length) (m : Nat) (os : Array Obj) :
    (sortWorldK encD 2 w b 0 m h'.toArray os).ownsRow base 38 2 (.slice (some ⟨b, 0, none⟩) n c) n (flat h') ∧ w.grownBy (sortWorldK encD 2 w b 0 m h'.toArray os) (some b) := by
  obtain ⟨hln, ⟨e, _⟩ | ⟨b', cap, cur, e, hb, hh, h1, h2, h3, h4⟩⟩ := ho
  · cases e
  · cases e
    have hlf : (flat h').length = n * 2 := by rw [flat_length] at hln ⊢; omega
    unfold sortWorldK putRowK
    rw [flatK_flat]
    refine ⟨⟨hlf, .inr ⟨b, c, putCells id 0 (flat h').toArray cur, rfl, hb, ?_, h1, h2, by simpa [putCells] using h3, ?_⟩⟩, ⟨rfl, rfl, rfl, by simp [grow, putRow, mapBlock, Sort.ahead], fun k hk hne => ?_⟩⟩
    · rw [heap_grow_old _ _ (by simpa [putRow, mapBlock, Sort.ahead] using blk_lt hh)]
      simp [putRow, mapBlock, Sort.ahead, Array.getElem?_modify, hh, onCells]
    · apply List.ext_getElem?
      intro j
      by_cases hj : j < n * 2
      · rw [List.getElem?_take, if_pos hj, Array.getElem?_toList]
        have hjc : j < cur.size := by have := Nat.mul_le_mul_right 2 h1; omega
        have hjf : j < (flat h').length := by omega
        simp only [putCells, Array.getElem?_mapIdx, Array.getElem?_eq_getElem hjc, Option.map_some]
        rw [if_pos (by simp; omega), List.getElem?_eq_getElem hjf]
        simp [hjf]
      · rw [List.getElem?_take, if_neg hj, List.getElem?_eq_none (by omega)]
    · rw [heap_grow_old _ _ (by simpa [putRow, mapBlock, Sort.ahead] using hk)]
      have : b ≠ k := fun e => hne (by rw [e])
      simp [putRow, mapBlock, Sort.ahead, Array.getElem?_modify, this]

/-- Sorted by what is ahead. -/
def sortL (h : List Due) : List Due := h.mergeSort fun x y => !(ltOf cmpD) y x
theorem lt_ahead (x y : Due) : ltOf cmpD x y = aheadB x y := cmp_ahead x y
theorem swoD : SWO (ltOf cmpD) where
  irrefl x := by rw [lt_ahead]; exact ahead_irrefl x
  trans x y z h1 h2 := by rw [lt_ahead] at *; exact ahead_trans h1 h2
  ntrans x y z h1 h2 := by rw [lt_ahead] at *; exact ahead_neg h1 h2
theorem total_ahead (x y : Due) (h : ltOf cmpD x y = false) (h' : ltOf cmpD y x = false) : x = y := by
  rw [lt_ahead] at h h'
  simp only [aheadB, decide_eq_false_iff_not] at h h'
  exact Prod.ext (by omega) (by omega)
theorem sort_len (h : List Due) : (sortL h).length = h.length := List.length_mergeSort _
theorem sort_is {s : St} {L : List Due} {last : Int} (h : Lk s L last) : sortL s.h = L := by
  have p : (sortL s.h).Perm s.h := List.mergeSort_perm _ _
  have q : (sortL s.h).Pairwise fun x y => (!(ltOf cmpD) y x) = true := List.pairwise_mergeSort (fun a b c h1 h2 => by
    simp only [lt_ahead, Bool.not_eq_true'] at h1 h2 ⊢
    exact ahead_neg h2 h1) (fun a b => by
    simp only [lt_ahead, Bool.or_eq_true, Bool.not_eq_true']
    cases hh : aheadB b a with
    | false => exact Or.inl rfl
    | true => exact Or.inr (ahead_asymm hh)) _
  have nd : ((sortL s.h).map (·.2)).Nodup := ((p.map _).nodup_iff).2 h.nodup_h
  refine srt_unique ?_ h.srt (p.trans h.perm)
  have nd' : (sortL s.h).Pairwise fun x y => x.2 ≠ y.2 := List.pairwise_map.1 nd
  exact (q.and nd').imp fun {x y} hxy => by
    have h1 := hxy.1
    rw [lt_ahead, Bool.not_eq_true'] at h1
    exact ahead_total (fun e => hxy.2 e.symm) h1
end Go.Proofs.Ytpohfcjmjfhdoaa
