import Derived.Test.YtdighjgcnaajgaaGreatMS7
namespace Go.Proofs.YtdighjgcnaajgaaGreat.gc
open Go.RowKit
def Few (m:Nat) (os:List Call) (w:World) (e:Ending) (w':World):Prop:=∃b,e=.returned (.bool b)∧(b=true→m≤200∧total os≤5000)∧Below w.heap.size w w'
theorem total_step (os:List Call) (k m:Nat) (hm:os.length=m) (hk:k<m) (L:Nat) (hL:(os.getD k noCall).2.2.2.size=L):total (os.take (k+1))=total (os.take k)+L:=by
 rw[total_take_succ os k (by omega),hL]
theorem wrap_total (x:Int) (L:Nat):IntKind.i64.wrap (IntKind.i64.wrap x+(L:Int))=IntKind.i64.wrap (x+(L:Int)):=by
 rw[IntKind.wrap_i64,IntKind.wrap_i64,IntKind.wrap_i64]
 omega
end Go.Proofs.YtdighjgcnaajgaaGreat.gc
