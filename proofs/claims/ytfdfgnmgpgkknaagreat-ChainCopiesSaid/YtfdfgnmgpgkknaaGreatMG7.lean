import Derived.Test.YtfdfgnmgpgkknaaGreatChecked
import Derived.WalkKit
import Derived.WalkMore
import Derived.Lib.Hide
import Derived.BigQuiet
import Derived.Deep.QuietTactic
import Derived.RegionTactic
import Derived.OwnWalk
import Derived.Lib.SliceRun
import Derived.IntWalk
import Derived.OneCell
import Derived.Laws.IdiomStrings
import Derived.Deep.Draws
import Derived.Lib.SmallJoins
set_option maxRecDepth 100000
set_option maxHeartbeats 8000000
open List renaming getD_eq_getElem?_getD→zi,getElem?_eq_getElem→zj
open Go.Proofs.Tryz renaming prog→zf
open Go.Lib renaming hid→zd
open Go.RowKit.Below renaming refl→zh
open Nat renaming le_refl→zg
open Go renaming heap_alloc_new→zo
open Go.Proofs.Tryz
namespace Go.Proofs.YtfdfgnmgpgkknaaGreat
namespace gx
open Go.RowKit
theorem qR {k:IntKind} {a b:Int} (h:a=b):Ending.returned (.int k a)=.returned (.int k b):=by rw[h]
theorem qp {a b:Bool} (h:a=b):Ending.returned (.bool a)=.returned (.bool b):=by rw[h]
def JI (xs:List Int):Prop:=∀x∈xs,0≤x∧x<256
theorem JI.append {xs ys:List Int} (h:JI xs) (k:JI ys):JI (xs++ys):=λ x hx=>by
 rcases List.mem_append.mp hx with hx|hx
 ·exact h x hx
 ·exact k x hx
theorem JI.drop {xs:List Int} (h:JI xs) (n:Nat):JI (xs.drop n):=λ x hx=>h x (List.mem_of_mem_drop hx)
theorem JI.take {xs:List Int} (h:JI xs) (n:Nat):JI (xs.take n):=λ x hx=>h x (List.mem_of_mem_take hx)
theorem Kx {xs:List Int} (h:JI xs) (k:Nat):0≤xs.getD k 0∧xs.getD k 0<256:=by
 rw[zi]
 rcases Nat.lt_or_ge k xs.length with hk|hk
 ·rw[zj hk]
  exact h _ (List.getElem_mem hk)
 ·rw[List.getElem?_eq_none hk]
  decide
def nums (s:ByteArray):List Int:=s.data.toList.map λ u=>(u.toNat:Int)
theorem nums_length (s:ByteArray):(nums s).length=s.size:=by simp[nums]
theorem Uo (s:ByteArray):JI (nums s):=by
 intro x hx
 obtain⟨u,_,rfl⟩:=List.mem_map.mp hx
 have:=u.toNat_lt
 omega
theorem QD (s:ByteArray) (k:Nat) (h:k<s.size):((s[k]'h).toNat:Int)=(nums s).getD k 0:=by
 rw[zi,nums,List.getElem?_map,zj (by simpa using h)]
 rfl
theorem Vk (s:ByteArray):strOfNums (nums s)=s:=by
 apply ByteArray.ext
 apply Array.ext'
 rw[strOfNums_data]
 unfold nums
 rw[List.map_map]
 conv=>rhs;rw[←List.map_id s.data.toList]
 apply List.map_congr_left
 intro u _
 simp
def qe (n:Int):Int:=if n<0 then 0 else if 1099511627776<n then 1099511627776 else n
theorem qw (n:Int):0≤qe n∧qe n≤1099511627776:=by unfold qe;split<;>(try split)<;>omega
theorem Xv (n:Int) (h0:0≤n) (h1:n≤1099511627776):qe n=n:=by unfold qe;split<;>(try split)<;>omega
theorem Zq (n:Int) (w:World):Calls zf 52 #[.int .i64 n] w λ e w'=>e=.returned (.int .i64 (qe n))∧w=w':=by
 go_enter func52,ntmps52
 go_wp2_with (go_in)
 all_goals go_ret
 all_goals exact⟨qR (by unfold qe;(repeat' split at*)<;>omega),rfl⟩
theorem seqB {w w1 w2:World} (h1:Below w.heap.size w w1) (h2:Below w1.heap.size w1 w2):Below w.heap.size w w2:=h1.trans (h2.mono h1.size)
theorem qa {w:World} {g i:Nat} {cs:Array Value} {t:TypeId} (h:w.heap[g]?=some (.cells cs t (0,0))):w.frozen? ⟨g,i,none⟩=false:=by simp[World.frozen?,h]
theorem qd {w:World} {g:Nat} {o:Obj} (h:w.heap[g]?=some o):g<w.heap.size:=(Array.getElem?_eq_some_iff.1 h).1
theorem Fy {a b:ByteArray} (h:¬a=b):(a.toList==b.toList)=false:=by
 rw[beq_eq_false_iff_ne]
 intro e
 apply h
 rw[Lib.toList_data,Lib.toList_data]at e
 exact ByteArray.ext (Array.ext' e)
def Jw (c:Int):Bool:=decide (97≤c∧c≤122)||decide (48≤c∧c≤57)||decide (c=95)||decide (c=45)
def JC (s:ByteArray):Bool:=(nums s).all Jw&&decide (0<s.size∧s.size≤16)
end gx
namespace gx
open Go.RowKit
theorem Q8 {s:ByteArray} {k:Nat} (hk:k<s.size) (h:Jw ((nums s).getD k 0)=false):JC s=false:=by
 have hm:(nums s).getD k 0∈nums s:=by
  rw[zi,zj (by rw[nums_length];exact hk)]
  exact List.getElem_mem _
 have:(nums s).all Jw=false:=by
  rw[List.all_eq_false]
  exact⟨_,hm,by rw[h];simp⟩
 unfold JC
 rw[this,Bool.false_and]
theorem Kb {s:ByteArray} (h:∀k,k<s.size→Jw ((nums s).getD k 0)=true):JC s=decide (0<s.size∧s.size≤16):=by
 have:(nums s).all Jw=true:=by
  rw[List.all_eq_true]
  intro x hx
  obtain⟨k,hk,rfl⟩:=List.getElem_of_mem hx
  have:=h k (by rw[←nums_length];exact hk)
  rw[zi,zj hk]at this
  exact this
 unfold JC
 rw[this,Bool.true_and]
theorem PE (s:ByteArray) (hs:s.size≤maxLen) (w:World):Calls zf 82 #[.string s] w λ e w'=>e=.returned (.bool (JC s))∧w=w':=by
 unfold maxLen at hs
 go_enter func82,ntmps82
 go_wp2_with fail
 go_loopw [3] (λ i wr=>∃(k:Nat),k≤s.size∧i=.int .i64 k∧Hid (∀j,j<k→Jw ((nums s).getD j 0)=true)∧wr=w) (λ i _=>s.size -(intOf i).toNat)
 case atStart=>exact⟨0,by omega,rfl,zd (λ j h=>by omega),rfl⟩
 case round=>
  obtain⟨k,hk,rfl,HN,rfl⟩:=hrel
  by_cases hlt:k<s.size
  ·have hc:=QD s k hlt
   have hrg:=Kx (Uo s) k
   cases hsg:Jw ((nums s).getD k 0)with
   |false=>
    have HB:=zd (Q8 hlt hsg)
    unfold Jw at hsg
    simp only[Bool.or_eq_false_iff,decide_eq_false_iff_not]at hsg
    generalize(nums s).getD k 0=c at*
    go_wp2_with fail
    all_goals first
     |(go_ret;exact⟨qp HB.out.symm,rfl⟩)
     |(exfalso;omega)
     |(exfalso;rename_i hh;simp at hh;omega)
   |true=>
    have HN1:=zd (show∀j,j<k+1→Jw ((nums s).getD j 0)=true fromλ j hj=>by
     rcases Nat.lt_or_eq_of_le (Nat.le_of_lt_succ hj)with h|h
     ·exact HN.out j h
     ·rw[h];exact hsg)
    unfold Jw at hsg
    simp only[Bool.or_eq_true,decide_eq_true_eq]at hsg
    generalize(nums s).getD k 0=c at*
    go_wp2_with fail
    all_goals first
     |(exfalso;omega)
     |(exfalso;rename_i hh;simp at hh;omega)
     |exact⟨⟨k+1,by omega,by go_num,HN1,trivial⟩,by simp[intOf];omega⟩
     |(exfalso;simp only[bne_iff_ne,ne_eq]at*;omega)
  ·obtain rfl:k=s.size:=by omega
   have HE:=zd (Kb HN.out)
   by_cases h0:0<s.size
   ·by_cases h1:s.size≤16
    ·have d0:decide ((0:Int)<(s.size:Int))=true:=by simp;omega
     have d1:decide ((s.size:Int)≤16)=true:=by simp;omega
     have HV:=zd (show JC s=true by rw[HE.out];exact decide_eq_true ⟨h0,h1⟩)
     go_wp2_with fail
     go_ret
     exact⟨qp HV.out.symm,rfl⟩
    ·have d0:decide ((0:Int)<(s.size:Int))=true:=by simp;omega
     have d1:decide ((s.size:Int)≤16)=false:=by simp;omega
     have HV:=zd (show JC s=false by rw[HE.out];exact decide_eq_false λ h=>h1 h.2)
     go_wp2_with fail
     go_ret
     exact⟨qp HV.out.symm,rfl⟩
   ·have d0:decide ((0:Int)<(s.size:Int))=false:=decide_eq_false (by omega)
    have HV:=zd (show JC s=false by rw[HE.out];exact decide_eq_false λ h=>h0 h.1)
    go_wp2_with fail
    go_ret
    exact⟨qp HV.out.symm,rfl⟩
theorem Xt (n:Int) (w:World):Calls zf 110 #[.int .i64 n] w λ e w'=>e=.returned (.bool (qe n==n))∧w=w':=by
 go_enter func110,ntmps110
 go_wp2_with fail
 refine(Zq _ _).mono ?_
 rintro e w' ⟨rfl,rfl⟩
 go_wp2_with fail
 go_ret
 exact⟨rfl,rfl⟩
def Zv (k a b:Int):Bool:=
 (qe a==a)&&(qe b==b)&&
  (if k=1 then decide (b≤a)else if k=2 then decide (1≤b∧b≤4096)else if k=3 then decide (1≤a∧a≤4096)else if k=4∨k=5 then decide (0<a∧b=0)else decide (b=0))
def Ye (s:ByteArray) (k o a b:Int):Int:=
 if JC s=false then 90 else if k<1∨7<k then 91 else if o<0∨100<o∨Zv k a b=false then 92 else 0
def FJ (k a b:Int) (w:World) (e:Ending) (w':World):Prop:=e=.returned (.bool (Zv k a b))∧Below w.heap.size w w'
theorem Si (s:ByteArray) (k:Int) (up:Bool) (o a b:Int) (w:World):Calls zf 83 #[.agg #[.string s,.int .i64 k,.bool up,.int .i64 o,.int .i64 a,.int .i64 b]] w (FJ k a b w):=by
 unfold FJ
 have HB:=zd (show Below w.heap.size w (w.alloc (.cells #[.string s,.int .i64 k,.bool up,.int .i64 o,.int .i64 a,.int .i64 b] 35))from(zh _ _).alloc (zg _) _)
 have HRT:=zd Xt
 obtain⟨A,hA⟩:∃A,(qe a==a)=A:=⟨_,rfl⟩
 obtain⟨B,hB⟩:∃B,(qe b==b)=B:=⟨_,rfl⟩
 have HA:=zd (λ W=>Xt a W)
 have HBB:=zd (λ W=>Xt b W)
 rw[hA]at HA
 rw[hB]at HBB
 have HP:=zd (show Zv k a b=(A&&B&&(if k=1 then decide (b≤a)else if k=2 then decide (1≤b∧b≤4096)else if k=3 then decide (1≤a∧a≤4096)else if k=4∨k=5 then decide (0<a∧b=0)else decide (b=0))) by unfold Zv;rw[hA,hB])
 clear hA hB HRT
 have HK:=zd (zo w (.cells #[.string s,.int .i64 k,.bool up,.int .i64 o,.int .i64 a,.int .i64 b] 35))
 cases A with
 |false=>
  have HV:=zd (show Zv k a b=false by rw[HP.out];simp)
  go_enter func83,ntmps83
  go_wp2_with fail
  refine(HA.out _).mono ?_
  rintro e w' ⟨rfl,rfl⟩
  go_wp2_with fail
  go_ret
  exact⟨qp HV.out.symm,HB.out⟩
 |true=>
  cases B with
  |false=>
   have HV:=zd (show Zv k a b=false by rw[HP.out];simp)
   go_enter func83,ntmps83
   go_wp2_with fail
   refine(HA.out _).mono ?_
   rintro e w' ⟨rfl,rfl⟩
   go_wp2_with fail
   refine(HBB.out _).mono ?_
   rintro e w' ⟨rfl,rfl⟩
   go_wp2_with fail
   go_ret
   exact⟨qp HV.out.symm,HB.out⟩
  |true=>
   go_enter func83,ntmps83
   go_wp2_with fail
   refine(HA.out _).mono ?_
   rintro e w' ⟨rfl,rfl⟩
   go_wp2_with fail
   refine(HBB.out _).mono ?_
   rintro e w' ⟨rfl,rfl⟩
   go_wp2_with fail
   all_goals go_ret
   all_goals refine⟨qp ?_,HB.out⟩
   all_goals rw[HP.out]
   all_goals simp_all
   all_goals first
    |rfl
    |omega
    |(intro h;omega)
def Chk (s:ByteArray) (k o a b:Int) (w:World) (e:Ending) (w':World):Prop:=e=.returned (.int .i64 (Ye s k o a b))∧Below w.heap.size w w'
end gx
end Go.Proofs.YtfdfgnmgpgkknaaGreat
