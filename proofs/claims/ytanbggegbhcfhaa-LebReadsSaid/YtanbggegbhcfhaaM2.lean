/-
  Mathematics: numbers and texts one behind the other, and what is read of them. Conditions: as each states.
-/
import Derived.Test.YtanbggegbhcfhaaW8
namespace Go.Proofs.Ytanbggegbhcfhaa

def flatI (xs : List Int) : List Int := xs.flatMap numI
def flatS (ss : List ByteArray) : List Int := ss.flatMap fun s => strL (nums s)
theorem take_succ_getD {α : Type} (xs : List α) (k : Nat) (d : α) (h : k < xs.length) : xs.take (k + 1) = xs.take k ++ [xs.getD k d] := by
  rw [List.take_succ_eq_append_getElem h, List.getD_eq_getElem?_getD, List.getElem?_eq_getElem h]
  rfl
theorem drop_succ_getD {α : Type} (xs : List α) (k : Nat) (d : α) (h : k < xs.length) : xs.drop k = xs.getD k d :: xs.drop (k + 1) := by
  rw [List.drop_eq_getElem_cons h, List.getD_eq_getElem?_getD, List.getElem?_eq_getElem h]
  rfl
theorem flatI_succ (xs : List Int) (k : Nat) (h : k < xs.length) : flatI (xs.take (k + 1)) = flatI (xs.take k) ++ numI (xs.getD k 0) := by
  rw [take_succ_getD xs k 0 h, flatI, List.flatMap_append]
  simp [flatI]
theorem flatS_succ (ss : List ByteArray) (k : Nat) (h : k < ss.length) : flatS (ss.take (k + 1)) = flatS (ss.take k) ++ strL (nums (ss.getD k ByteArray.empty)) := by
  rw [take_succ_getD ss k ByteArray.empty h, flatS, List.flatMap_append]
  simp [flatS]
theorem flatI_drop (xs : List Int) (T : List Int) (k : Nat) (h : k < xs.length) : (flatI xs ++ T).drop (flatI (xs.take k)).length = numI (xs.getD k 0) ++ (flatI (xs.drop (k + 1)) ++ T) := by
  have e : flatI xs = flatI (xs.take k) ++ (numI (xs.getD k 0) ++ flatI (xs.drop (k + 1))) := by
    conv => lhs; rw [← List.take_append_drop k xs, drop_succ_getD xs k 0 h]
    simp [flatI, List.flatMap_append]
  rw [e, List.append_assoc, List.append_assoc, List.drop_left]
theorem flatS_drop (H : List Int) (ss : List ByteArray) (k : Nat) (h : k < ss.length) : (H ++ flatS ss).drop (H.length + (flatS (ss.take k)).length) = strL (nums (ss.getD k ByteArray.empty)) ++ flatS (ss.drop (k + 1)) := by
  have e : flatS ss = flatS (ss.take k) ++ (strL (nums (ss.getD k ByteArray.empty)) ++ flatS (ss.drop (k + 1))) := by
    conv => lhs; rw [← List.take_append_drop k ss, drop_succ_getD ss k ByteArray.empty h]
    simp [flatS, List.flatMap_append]
  rw [e, ← List.append_assoc, ← List.length_append, List.drop_left]
theorem allB_flatI (xs : List Int) : AllB (flatI xs) := fun x hx => by
  obtain ⟨n, _, h⟩ := List.mem_flatMap.mp hx
  exact allB_numI n x h
theorem allB_flatS (ss : List ByteArray) : AllB (flatS ss) := fun x hx => by
  obtain ⟨s, _, h⟩ := List.mem_flatMap.mp hx
  exact allB_str (nums_all s) x h
/-- A number that is read where it was put. -/
theorem found_int (B : List Int) (k : Nat) (n : Int) (T : List Int) (h0 : 0 ≤ n) (h1 : n ≤ 9223372036854775807) (hd : B.drop k = numI n ++ T) : foundI false B k n = (n.toNat, (numI n).length) := by
  obtain ⟨m, rfl⟩ := Int.eq_ofNat_of_zero_le h0
  show intL (B.drop k) m = _
  rw [hd, numI_nat]
  unfold intL
  rw [get_num m (by omega) T]
  simp
theorem found_text (B : List Int) (k : Nat) (s : ByteArray) (T : List Int) (h : s.size ≤ 100000000) (hd : B.drop k = strL (nums s) ++ T) : foundS false B k (s.size : Int) = (nums s, (strL (nums s)).length) := by
  show gsL (B.drop k) _ = _
  rw [hd]
  exact gs_str (nums s) T (by rw [nums_length]; omega) _ (by rw [nums_length]; omega)
theorem numI_pos (n : Int) (h : 0 ≤ n) : ((numI n).length == 0) = false := by
  obtain ⟨m, rfl⟩ := Int.eq_ofNat_of_zero_le h
  have := num_pos m
  rw [show (numI (m : Int)) = numL m from numI_nat m]
  simp only [beq_eq_false_iff_ne, ne_eq]
  omega
theorem strL_ne (xs : List Int) : ((strL xs).length == 0) = false := by
  have := strL_pos xs
  simp only [beq_eq_false_iff_ne, ne_eq]
  omega
end Go.Proofs.Ytanbggegbhcfhaa
