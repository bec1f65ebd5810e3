import Derived.Test.YtdighjgcnaajgaaGreatMS7
import Derived.Test.YtdighjgcnaajgaaGreatMS8
import Derived.BigRegion
namespace Go.Proofs.YtdighjgcnaajgaaGreat.gc
open Go.RowKit
theorem flatP_set (h:List Pc) (k:Nat) (d:Pc):flatP (h.set k d)=((flatP h).set (k*2) (.int .i64 d.1)).set (k*2+1) (.string d.2):=by
 induction h generalizing k with
 |nil=>simp[flatP]
 |cons e r ih=>
  have e1:∀(x:Pc) (y:List Pc),flatP (x::y)=.int .i64 x.1::.string x.2::flatP y:=λ _ _=>rfl
  cases k with
  |zero=>simp[e1]
  |succ k=>
   rw[List.set_cons_succ,e1,e1,ih,show(k+1)*2=k*2+1+1 by omega]
   simp
theorem step_append_eq {P:Program} {ops:Array Oper} {o:Oper} {a:Act} {w:World} {K:Act→World→Prop} {Q:Exit→Act→World→Prop} {E:Prop} (hg:o.guard=none) (d s:Operand) (t t':TypeId)
  (hop:o.op=.call {callee:=.builtin .append,args:=#[d,s],argTypes:=#[t,t']}) (x y:Value) (hd:a.eval d=x) (hs:a.eval s=y) {v':Value} {w':World} (hr:∀ty,(Builtin.append_ #[t,t'] ty #[x,y]).run P w=.ok v' w') (hK:K (a.put o.dst v') w'):
  if Region.wanted o (yielded ops a.tmps)=true then Oper.wp P o a w K Q else E:=by
 rw[if_pos (show Region.wanted o (yielded ops a.tmps)=true by simp[Region.wanted,hg])]
 unfold Oper.wp
 have h:=hr o.type
 simp[execOp,hop,resolve,invoke,builtin,hd,hs,h,Result.andThen]
 exact hK
theorem set_last {ps:List Pc} {d x:Pc} (h:ps.getLast?=some d) {m:Nat} (hm:ps.length=m+1):ps.dropLast++[x]=ps.set m x∧ps.getD m noPc=d:=by
 obtain⟨ys,rfl⟩:=List.getLast?_eq_some_iff.1 h
 have hl:ys.length=m:=by simpa using hm
 subst hl
 refine⟨by simp,?_⟩
 rw[List.getD_eq_getElem?_getD]
 simp
theorem byte_step (S:ByteArray) (A:List Int) (k:Nat) {t:Int} (ht:A.getD k 0=t):stepR (runsK S A k) t (S.extract k (k+1))=runsK S A (k+1):=by
 show _=stepR _ _ _
 rw[ht]
theorem mem_size {ps:List Pc} {d:Pc} (h:d∈ps):d.2.size≤(bytesOf' ps).length:=by
 obtain⟨a,b,rfl⟩:=List.append_of_mem h
 simp only[bytesOf',List.flatMap_append,List.flatMap_cons,List.length_append,nums_length]
 omega
theorem row_formP {w:World} {base T n d:Nat} {q:Option Addr} {ps:List Pc} (ho:w.ownsRow base T 2 (.slice q n d) n (flatP ps)) (hn:0<n):∃b,q=some ⟨b,0,none⟩∧base≤b∧b<w.heap.size∧n≤d:=by
 rcases ho.2 with⟨_,h0⟩|⟨b,cap,cur,e,h1,h2,h3,_⟩
 ·omega
 ·cases e
  exact⟨b,rfl,h1,blk_lt h2,h3⟩
theorem slice_byte (S:ByteArray) (k:Nat) (h:k+1≤S.size) (w:World):(Instr.slice 9 (.string S) (some (.int .i64 (k:Int))) (some (.int .i64 ((k:Int)+1))) none).run Tryz.prog w=.ok (.string (S.extract k (k+1))) w:=by
 rw[run_slice_string (P:=Tryz.prog) (w:=w) 9 S .i64 .i64 (k:Int) ((k:Int)+1) Tryz.underlying9 (by omega) (by omega) (by omega)]
 rfl
def Lst (wr:World) (B:Nat) (T:TypeId) (q:Option Addr) (m d:Nat) (ps:List Pc):Prop:=wr.ownsRow B T 2 (.slice q m d) m (flatP ps)
theorem Lst.len {wr:World} {B:Nat} {T:TypeId} {q:Option Addr} {m d:Nat} {ps:List Pc} (h:Lst wr B T q m d ps):ps.length=m:=by
 obtain⟨_,_,e,hl,_⟩:=own_pcs h
 exact hl
end Go.Proofs.YtdighjgcnaajgaaGreat.gc
