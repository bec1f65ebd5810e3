import Derived.Test.YtfdfgnmgpgkknaaGreatMG24
import Derived.Test.YtfdfgnmgpgkknaaGreatMG32
open Go.RowKit.Below renaming refl→zh
open Nat renaming le_refl→zg
namespace Go.Proofs.YtfdfgnmgpgkknaaGreat
open Go.RowKit
theorem j5 (w:World) (p:Option Addr) (n c:Nat) (s:St):∃W,w.alloc (.cells (rC none 0 0 qZ) 68)=W∧RIs W w.heap.size∧RAt (W.setRow w.heap.size (rC p n c s)) w.heap.size p n c s∧Below w.heap.size w (W.setRow w.heap.size (rC p n c s))∧w.heap.size<W.heap.size:=by
 have b1:Below w.heap.size w (w.alloc (.cells (rC none 0 0 qZ) 68)):=(zh _ _).alloc (zg _) _
 have q1:=ZP w none 0 0 qZ
 exact⟨_,rfl,q1.is,q1.row p n c s,below_setRow b1 (zg _) _,q1.lt⟩
end Go.Proofs.YtfdfgnmgpgkknaaGreat
