/-
  What is written into the document's own cargo leaves the program's as it was. Conditions: as each states.
-/
import Derived.Test.YtmblgpejgdlakaaV
namespace Go.Proofs.Ytmblgpejgdlakaa
open Go.RowKit

theorem At.set_r {w0 w : World} {B g : Nat} {S : ByteArray} {A : List Int} {last : Int} {M : Nat} {gr : Nat} {x y z a b c : Value} (h : At w0 B g S A last M w) (hq : w.heap[gr]? = some (.cells #[x, y, z] 29 (0, 0))) (hw : w0.heap.size ≤ gr) :
    At w0 B g S A last M (set3 w gr a b c) ∧ (set3 w gr a b c).heap[gr]? = some (.cells #[a, b, c] 29 (0, 0)) := by
  obtain ⟨u, hA, h1, h2⟩ := h
  exact ⟨⟨u, ((hA.set_r hq 0 a).set_r (set_heap hq a) 1 b).set_r (set_heap (set_heap hq a) b) 2 c, set3_below h1 hw a b c, h2⟩, set3_heap hq a b c⟩
theorem Both.set_r {w0 w : World} {B g : Nat} {S : ByteArray} {A : List Int} {last : Int} {M : Nat} {B' g' : Nat} {S' : ByteArray} {A' : List Int} {last' : Int} {M' : Nat} {gr : Nat} {x y z a b c : Value} (h : Both w0 B g S A last M B' g' S' A' last' M' w) (hq : w.heap[gr]? = some (.cells #[x, y, z] 29 (0, 0))) (hw : w0.heap.size ≤ gr) :
    Both w0 B g S A last M B' g' S' A' last' M' (set3 w gr a b c) ∧ (set3 w gr a b c).heap[gr]? = some (.cells #[a, b, c] 29 (0, 0)) := by
  obtain ⟨u, u', hA, hA', h3, h4, h5, h6⟩ := h
  exact ⟨⟨u, u', ((hA.set_r hq 0 a).set_r (set_heap hq a) 1 b).set_r (set_heap (set_heap hq a) b) 2 c, ((hA'.set_r hq 0 a).set_r (set_heap hq a) 1 b).set_r (set_heap (set_heap hq a) b) 2 c, h3, set3_below h4 hw a b c, h5, h6⟩, set3_heap hq a b c⟩
end Go.Proofs.Ytmblgpejgdlakaa
