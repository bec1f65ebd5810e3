/-
  Contracts: what the document's own Name, right, numbers, Check answer. Conditions: as each states.
-/
import Derived.Test.YtmghkcjljnlocaaDoorXA
namespace Go.Proofs.YtmghkcjljnlocaaDoor.gx
open Go.RowKit

theorem name_bad {s : ByteArray} {k : Nat} (hk : k < s.size) (h : signB ((nums s).getD k 0) = false) : nameB s = false := by
  have hm : (nums s).getD k 0 ∈ nums s := by
    rw [List.getD_eq_getElem?_getD, List.getElem?_eq_getElem (by rw [nums_length]; exact hk)]
    exact List.getElem_mem _
  have : (nums s).all signB = false := by
    rw [List.all_eq_false]
    exact ⟨_, hm, by rw [h]; simp⟩
  unfold nameB
  rw [this, Bool.false_and]
theorem name_good {s : ByteArray} (h : ∀ k, k < s.size → signB ((nums s).getD k 0) = true) : nameB s = decide (0 < s.size ∧ s.size ≤ 16) := by
  have : (nums s).all signB = true := by
    rw [List.all_eq_true]
    intro x hx
    obtain ⟨k, hk, rfl⟩ := List.getElem_of_mem hx
    have := h k (by rw [← nums_length]; exact hk)
    rw [List.getD_eq_getElem?_getD, List.getElem?_eq_getElem hk] at this
    exact this
  unfold nameB
  rw [this, Bool.true_and]
/-- May a kind's numbers be? -/
def partsB (k a b : Int) : Bool :=
  (near a == a) && (near b == b) &&
    (if k = 1 then decide (b ≤ a) else if k = 2 then decide (1 ≤ b ∧ b ≤ 4096) else if k = 3 then decide (1 ≤ a ∧ a ≤ 4096) else if k = 4 ∨ k = 5 then decide (0 < a ∧ b = 0) else decide (b = 0))
def checkB (s : ByteArray) (k o a b : Int) : Int :=
  if nameB s = false then 90 else if k < 1 ∨ 7 < k then 91 else if o < 0 ∨ 100 < o ∨ partsB k a b = false then 92 else 0
/-- What numbers answers. -/
def Parts (k a b : Int) (w : World) (e : Ending) (w' : World) : Prop := e = .returned (.bool (partsB k a b)) ∧ Below w.heap.size w w'
/-- What Check answers. -/
def Chk (s : ByteArray) (k o a b : Int) (w : World) (e : Ending) (w' : World) : Prop := e = .returned (.int .i64 (checkB s k o a b)) ∧ Below w.heap.size w w'
end Go.Proofs.YtmghkcjljnlocaaDoor.gx
