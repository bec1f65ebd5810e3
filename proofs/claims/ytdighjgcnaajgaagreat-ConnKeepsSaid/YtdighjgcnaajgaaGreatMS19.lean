import Derived.Test.YtdighjgcnaajgaaGreatMS9
import Derived.Lib.LaidTab
namespace Go.Proofs.YtdighjgcnaajgaaGreat.gx
open Go.RowKit
set_option maxHeartbeats 400000 in
theorem nearest_any (n:Int) (w:World):Calls Tryz.prog 153 #[.int .i64 n] w λ e w'=>e=.returned (.int .i64 (near n))∧w=w':=by
 go_enter Tryz.func153,Tryz.ntmps153
 go_wp2
 all_goals go_ret
 all_goals exact⟨ret_int (by unfold near;(repeat' split at*)<;>omega),rfl⟩
set_option maxHeartbeats 400000 in
theorem right_any (n:Int) (w:World):Calls Tryz.prog 118 #[.int .i64 n] w λ e w'=>e=.returned (.bool (n==near n))∧w=w':=by
 go_enter Tryz.func118,Tryz.ntmps118
 go_wp2_with (go_at_call 153;refine(nearest_any _ _).mono ?_;rintro e w' ⟨rfl,rfl⟩)
 go_ret
 exact⟨rfl,rfl⟩
theorem right_yes (n:Int) (w:World) (h0:0≤n) (h1:n≤1099511627776):Calls Tryz.prog 118 #[.int .i64 n] w λ e w'=>e=.returned (.bool true)∧w=w':=
 (right_any n w).mono λ _ _ ⟨he,hw⟩=>⟨by rw[he,near_of n h0 h1,beq_self_eq_true],hw⟩
theorem right_no (n:Int) (w:World) (h1:n<0∨1099511627776<n):Calls Tryz.prog 118 #[.int .i64 n] w λ e w'=>e=.returned (.bool false)∧w=w':=
 (right_any n w).mono λ _ _ ⟨he,hw⟩=>⟨by rw[he,ret_bool];have:=near_range n;simp;omega,hw⟩
theorem below_grow (w:World) (k:Nat) (os:Array Obj):Below w.heap.size w (Sort.grow (w.drewN k) os):=
 ⟨rfl,rfl,rfl,by simp[Sort.grow],λ i hi=>by
  show(w.heap++os)[i]?=w.heap[i]?
  rw[Array.getElem?_append_left hi]⟩
theorem below_drewN {B:Nat} {a w:World} (h:Below B a w) (n:Nat):Below B a (w.drewN n):=⟨h.os,h.tape,h.output,h.size,h.block⟩
end Go.Proofs.YtdighjgcnaajgaaGreat.gx
