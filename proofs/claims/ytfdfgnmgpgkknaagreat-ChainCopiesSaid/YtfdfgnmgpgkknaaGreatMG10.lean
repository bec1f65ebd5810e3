import Derived.Test.YtfdfgnmgpgkknaaGreatMG6
import Derived.BigRegion
namespace Go.Proofs.YtfdfgnmgpgkknaaGreat.gc
open Go.RowKit
theorem XG {P:Program} {ops:Array Oper} {o:Oper} {a:Act} {w:World} {K:Act→World→Prop} {Q:Exit→Act→World→Prop} {E:Prop} (hg:o.guard=none) (d s:Operand) (t t':TypeId)
  (hop:o.op=.call {callee:=.builtin .append,args:=#[d,s],argTypes:=#[t,t']}) (x y:Value) (hd:a.eval d=x) (hs:a.eval s=y) {v':Value} {w':World} (hr:∀ty,(Builtin.append_ #[t,t'] ty #[x,y]).run P w=.ok v' w') (hK:K (a.put o.dst v') w'):
  if Region.wanted o (yielded ops a.tmps)=true then Oper.wp P o a w K Q else E:=by
 rw[if_pos (show Region.wanted o (yielded ops a.tmps)=true by simp[Region.wanted,hg])]
 unfold Oper.wp
 have h:=hr o.type
 simp[execOp,hop,resolve,invoke,builtin,hd,hs,h,Result.andThen]
 exact hK
def Lst (wr:World) (B:Nat) (T:TypeId) (q:Option Addr) (m d:Nat) (ps:List Pc):Prop:=wr.ownsRow B T 2 (.slice q m d) m (ZB ps)
theorem Lst.len {wr:World} {B:Nat} {T:TypeId} {q:Option Addr} {m d:Nat} {ps:List Pc} (h:Lst wr B T q m d ps):ps.length=m:=by
 obtain⟨_,_,e,hl,_⟩:=Es h
 exact hl
end Go.Proofs.YtfdfgnmgpgkknaaGreat.gc
