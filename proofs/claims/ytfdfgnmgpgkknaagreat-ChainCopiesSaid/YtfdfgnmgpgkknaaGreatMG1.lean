import Derived.Test.YtfdfgnmgpgkknaaGreatChecked
import Derived.WalkKit
import Derived.Lib.Hide
import Derived.BigQuiet
import Derived.Deep.QuietTactic
import Derived.RegionTactic
import Derived.WalkSmall
import Derived.WalkMore
import Derived.Deep.Draws
import Derived.Deep.RegionHeld
import Derived.Deep.RegionHeldLaw
import Derived.IntWalk
import Derived.OneCell
set_option maxRecDepth 100000
set_option maxHeartbeats 8000000
open Go.Proofs.Tryz renaming prog→zf
open Nat renaming le_refl→zg
open Go renaming bodyPost_ret→zk,heap_alloc_new→zo,cell_of_row→ze
open Go.RowKit.Below renaming refl→zh,heap_setCell→zn
open Go.Lib renaming hid→zd
open List renaming setIfInBounds_toArray→zm
open Go.Calls renaming mono→zr
open Go.Proofs.Tryz
namespace Go.Proofs.YtfdfgnmgpgkknaaGreat
namespace gb
open Go.RowKit
def qe (n:Int):Int:=if n<0 then 0 else if 1099511627776<n then 1099511627776 else n
theorem qw (n:Int):0≤qe n∧qe n≤1099511627776:=by unfold qe;split<;>(try split)<;>omega
theorem Xv (n:Int) (h0:0≤n) (h1:n≤1099511627776):qe n=n:=by unfold qe;split<;>(try split)<;>omega
theorem qR {k:IntKind} {a b:Int} (h:a=b):Ending.returned (.int k a)=.returned (.int k b):=by rw[h]
theorem qp {a b:Bool} (h:a=b):Ending.returned (.bool a)=.returned (.bool b):=by rw[h]
theorem Xk (w:World):Calls zf 84 #[] w λ e w'=>e=.returned (.int .i64 1099511627776)∧w=w':=by
 go_enter func84,ntmps84
 go_wp2
 go_ret
 exact⟨rfl,rfl⟩
theorem Zq (n:Int) (w:World):Calls zf 52 #[.int .i64 n] w λ e w'=>e=.returned (.int .i64 (qe n))∧w=w':=by
 go_enter func52,ntmps52
 go_wp2_with (go_at_call 84;refine(Xk _).mono ?_;rintro e w' ⟨rfl,rfl⟩)
 all_goals go_ret
 all_goals exact⟨qR (by unfold qe;(repeat' split at*)<;>omega),rfl⟩
theorem Jz (a b:Int) (w:World):Calls zf 112 #[.int .i64 a,.int .i64 b] w λ e w'=>e=.returned (.int .i64 (qe (qe a+qe b)))∧w=w':=by
 have ha:=qw a
 have hb:=qw b
 go_enter func112,ntmps112
 go_wp2_with (go_at_call 52;refine(Zq _ _).mono ?_;rintro e w' ⟨rfl,rfl⟩)
 go_ret
 exact⟨rfl,rfl⟩
theorem qO (x y:Int) (hx:0≤x∧x≤1099511627776) (hy:0≤y∧y≤1099511627776):0≤x*y∧x*y≤1208925819614629174706176:=
 ⟨Int.mul_nonneg hx.1 hy.1,by have:=Int.mul_le_mul hx.2 hy.2 hy.1 (by omega);omega⟩
theorem Yl (n:Int) (h:0≤n):qe n=if 1099511627776<n then 1099511627776 else n:=by unfold qe;rw[if_neg (by omega)]
theorem seqB {w w1 w2:World} (h1:Below w.heap.size w w1) (h2:Below w1.heap.size w1 w2):Below w.heap.size w w2:=h1.trans (h2.mono h1.size)
theorem qa {w:World} {g i:Nat} {cs:Array Value} {t:TypeId} (h:w.heap[g]?=some (.cells cs t (0,0))):w.frozen? ⟨g,i,none⟩=false:=by simp[World.frozen?,h]
theorem qd {w:World} {g:Nat} {o:Obj} (h:w.heap[g]?=some o):g<w.heap.size:=(Array.getElem?_eq_some_iff.1 h).1
theorem MH (w:World) (m:Nat):Below w.heap.size w (w.drewN m):=⟨rfl,rfl,rfl,zg _,λ _ _=>rfl⟩
end gb
namespace gb
open Go.RowKit
theorem KU (n:Int) (h0:0≤n) (h1:n≤1099511627776) (w:World):Calls zf 153 #[.int .i64 n] w λ e w'=>e=.returned (.agg #[.int .i64 (n%1048576),.int .i64 (n/1048576%1048576),.int .i64 (n/1099511627776),.int .i64 0])∧Below w.heap.size w w':=by
 go_enter func153,ntmps153
 go_wp2_with fail
 exact zk (v:=.agg #[.int .i64 (n%1048576),.int .i64 (n/1048576%1048576),.int .i64 (n/1099511627776),.int .i64 0]) (by simp[results,results153,go_sem]) rfl ⟨rfl,(zh _ _).alloc (zg _) _⟩
def qz (a0 a1 a2 b0 b1 b2:Int):Nat→Int
 |0=>0
 |1=>a0*b0
 |2=>a0*b0+a0*b1*1048576
 |3=>a0*b0+a0*b1*1048576+a0*b2*1099511627776
 |4=>a0*b0+a0*b1*1048576+a0*b2*1099511627776+a1*b0*1048576
 |5=>a0*b0+a0*b1*1048576+a0*b2*1099511627776+a1*b0*1048576+a1*b1*1099511627776
 |6=>a0*b0+a0*b1*1048576+a0*b2*1099511627776+a1*b0*1048576+a1*b1*1099511627776+a1*b2*1152921504606846976
 |7=>a0*b0+a0*b1*1048576+a0*b2*1099511627776+a1*b0*1048576+a1*b1*1099511627776+a1*b2*1152921504606846976+a2*b0*1099511627776
 |8=>a0*b0+a0*b1*1048576+a0*b2*1099511627776+a1*b0*1048576+a1*b1*1099511627776+a1*b2*1152921504606846976+a2*b0*1099511627776+a2*b1*1152921504606846976
 |_=>a0*b0+a0*b1*1048576+a0*b2*1099511627776+a1*b0*1048576+a1*b1*1099511627776+a1*b2*1152921504606846976+a2*b0*1099511627776+a2*b1*1152921504606846976+a2*b2*1208925819614629174706176
def Xz (o0 o1 o2 o3 o4 o5:Int):Int:=o0+o1*1048576+o2*1099511627776+o3*1152921504606846976+o4*1208925819614629174706176+o5*1267650600228229401496703205376
def Yw (w:World) (a0 a1 a2 b0 b1 b2 o0 o1 o2 o3 o4 o5:Int):World:=
 (((w.alloc (.cells #[.int .i64 a0,.int .i64 a1,.int .i64 a2,.int .i64 0] 186)).alloc (.cells #[.int .i64 b0,.int .i64 b1,.int .i64 b2,.int .i64 0] 186)).alloc (.cells #[.int .i64 0,.int .i64 0,.int .i64 0,.int .i64 0,.int .i64 0,.int .i64 0] 184)).alloc (.cells #[.int .i64 o0,.int .i64 o1,.int .i64 o2,.int .i64 o3,.int .i64 o4,.int .i64 o5] 184)
theorem VC (w:World) (m:Nat) (a:Addr) (v:Value):(w.drewN m).setCell a v=(w.setCell a v).drewN m:=rfl
theorem qD (w:World) (cs:Array Value) (t:TypeId) (n j:Nat) (v:Value) (m:Nat) (hn:n=w.heap.size):((w.alloc (.cells cs t)).drewN m).setCell ⟨n,j,none⟩ v=(w.alloc (.cells (cs.setIfInBounds j v) t)).drewN m:=by
 rw[VC,World.setCell_alloc_at _ _ _ _ _ hn]
def Qk (a0 a1 a2 b0 b1 b2:Int) (w:World) (e:Ending) (w':World):Prop:=
 ∃o0 o1 o2 o3 o4 o5:Int,e=.returned (.agg #[.int .i64 o0,.int .i64 o1,.int .i64 o2,.int .i64 o3,.int .i64 o4,.int .i64 o5])∧Xz o0 o1 o2 o3 o4 o5=qz a0 a1 a2 b0 b1 b2 9∧
  (o0<1048576∧o1<1048576∧o2<1048576∧o3<1048576∧o4<1048576)∧(0≤o0∧0≤o1∧0≤o2∧0≤o3∧0≤o4∧0≤o5)∧Below w.heap.size w w'
theorem VA (a0 a1 a2 b0 b1 b2:Int) (w:World)
  (p00:0≤a0*b0∧a0*b0≤1099511627776) (p01:0≤a0*b1∧a0*b1≤1099511627776) (p02:0≤a0*b2∧a0*b2≤1099511627776)
  (p10:0≤a1*b0∧a1*b0≤1099511627776) (p11:0≤a1*b1∧a1*b1≤1099511627776) (p12:0≤a1*b2∧a1*b2≤1099511627776)
  (p20:0≤a2*b0∧a2*b0≤1099511627776) (p21:0≤a2*b1∧a2*b1≤1099511627776) (p22:0≤a2*b2∧a2*b2≤1099511627776):
  Calls zf 152 #[.agg #[.int .i64 a0,.int .i64 a1,.int .i64 a2,.int .i64 0],.agg #[.int .i64 b0,.int .i64 b1,.int .i64 b2,.int .i64 0]] w (Qk a0 a1 a2 b0 b1 b2 w):=by
 go_enter func152,ntmps152
 go_wp2_with fail
 go_loopw [6] (λ i w'=>∃(n m:Nat) (z o0 o1 o2 o3 o4 o5:Int),n≤3∧z=n∧i=.int .i64 z∧w'=(Yw w a0 a1 a2 b0 b1 b2 o0 o1 o2 o3 o4 o5).drewN m∧
   (0≤o0∧o0≤z*4000000000000)∧(0≤o1∧o1≤z*4000000000000)∧(0≤o2∧o2≤z*4000000000000)∧(0≤o3∧o3≤z*4000000000000)∧(0≤o4∧o4≤z*4000000000000)∧(0≤o5∧o5≤z*4000000000000)∧Hid (Xz o0 o1 o2 o3 o4 o5=qz a0 a1 a2 b0 b1 b2 (3*n))) (λ i _=>3 -(intOf i).toNat)
 case atStart=>exact⟨0,0,0,0,0,0,0,0,0,by omega,rfl,rfl,rfl,by omega,by omega,by omega,by omega,by omega,by omega,rfl⟩
 case round=>
  obtain⟨n,m,z,o0,o1,o2,o3,o4,o5,hn,hz,rfl,rfl,r0,r1,r2,r3,r4,r5,HV⟩:=hrel
  have hn:n=0∨n=1∨n=2∨n=3:=by omega
  unfold Yw
  rcases hn with rfl|rfl|rfl|rfl
  ·obtain rfl:z=0:=hz
   go_wp2_with fail
   go_loopw [7] (λ k w'=>∃(q m:Nat) (y o0 o1 o2 o3 o4 o5:Int),q≤3∧y=q∧k=.int .i64 y∧w'=(Yw w a0 a1 a2 b0 b1 b2 o0 o1 o2 o3 o4 o5).drewN m∧
    (0≤o0∧o0≤0*4000000000000+y*1200000000000)∧(0≤o1∧o1≤0*4000000000000+y*1200000000000)∧(0≤o2∧o2≤0*4000000000000+y*1200000000000)∧(0≤o3∧o3≤0*4000000000000+y*1200000000000)∧(0≤o4∧o4≤0*4000000000000+y*1200000000000)∧(0≤o5∧o5≤0*4000000000000+y*1200000000000)∧Hid (Xz o0 o1 o2 o3 o4 o5=qz a0 a1 a2 b0 b1 b2 (3*0+q))) (λ k _=>3 -(intOf k).toNat)
   case atStart=>exact⟨0,_,0,_,_,_,_,_,_,by omega,rfl,rfl,rfl,by omega,by omega,by omega,by omega,by omega,by omega,HV.out⟩
   case round=>
    clear r0 r1 r2 r3 r4 r5 HV
    obtain⟨q,m,y,o0,o1,o2,o3,o4,o5,hq,hy,rfl,rfl,r0,r1,r2,r3,r4,r5,HV⟩:=hrel
    have hq:q=0∨q=1∨q=2∨q=3:=by omega
    unfold Yw
    rcases hq with rfl|rfl|rfl|rfl
    ·obtain rfl:y=0:=hy
     have HV':=zd (show Xz (o0+a0*b0) o1 o2 o3 o4 o5=qz a0 a1 a2 b0 b1 b2 (3*0+0+1) by have:=HV.out;simp only[Xz,qz]at*;omega)
     go_wp2_with fail
     go_region
     all_goals go_wp2_with fail
     all_goals go_roundw
     case rel=>exact⟨1,_,1,_,_,_,_,_,_,by omega,rfl,rfl,(qD _ _ _ _ _ _ _ (by simp)).trans rfl,by omega,by omega,by omega,by omega,by omega,by omega,HV'.out⟩
     case measure=>simp[intOf]
    ·obtain rfl:y=1:=hy
     have HV':=zd (show Xz o0 (o1+a0*b1) o2 o3 o4 o5=qz a0 a1 a2 b0 b1 b2 (3*0+1+1) by have:=HV.out;simp only[Xz,qz]at*;omega)
     go_wp2_with fail
     go_region
     all_goals go_wp2_with fail
     all_goals go_roundw
     case rel=>exact⟨2,_,2,_,_,_,_,_,_,by omega,rfl,rfl,(qD _ _ _ _ _ _ _ (by simp)).trans rfl,by omega,by omega,by omega,by omega,by omega,by omega,HV'.out⟩
     case measure=>simp[intOf]
    ·obtain rfl:y=2:=hy
     have HV':=zd (show Xz o0 o1 (o2+a0*b2) o3 o4 o5=qz a0 a1 a2 b0 b1 b2 (3*0+2+1) by have:=HV.out;simp only[Xz,qz]at*;omega)
     go_wp2_with fail
     go_region
     all_goals go_wp2_with fail
     all_goals go_roundw
     case rel=>exact⟨3,_,3,_,_,_,_,_,_,by omega,rfl,rfl,(qD _ _ _ _ _ _ _ (by simp)).trans rfl,by omega,by omega,by omega,by omega,by omega,by omega,HV'.out⟩
     case measure=>simp[intOf]
    ·obtain rfl:y=3:=hy
     go_wp2_with fail
     go_roundw
     case rel=>exact⟨1,_,1,_,_,_,_,_,_,by omega,rfl,rfl,rfl,by omega,by omega,by omega,by omega,by omega,by omega,HV.out⟩
     case measure=>simp[intOf]
  ·obtain rfl:z=1:=hz
   go_wp2_with fail
   go_loopw [7] (λ k w'=>∃(q m:Nat) (y o0 o1 o2 o3 o4 o5:Int),q≤3∧y=q∧k=.int .i64 y∧w'=(Yw w a0 a1 a2 b0 b1 b2 o0 o1 o2 o3 o4 o5).drewN m∧
    (0≤o0∧o0≤1*4000000000000+y*1200000000000)∧(0≤o1∧o1≤1*4000000000000+y*1200000000000)∧(0≤o2∧o2≤1*4000000000000+y*1200000000000)∧(0≤o3∧o3≤1*4000000000000+y*1200000000000)∧(0≤o4∧o4≤1*4000000000000+y*1200000000000)∧(0≤o5∧o5≤1*4000000000000+y*1200000000000)∧Hid (Xz o0 o1 o2 o3 o4 o5=qz a0 a1 a2 b0 b1 b2 (3*1+q))) (λ k _=>3 -(intOf k).toNat)
   case atStart=>exact⟨0,_,0,_,_,_,_,_,_,by omega,rfl,rfl,rfl,by omega,by omega,by omega,by omega,by omega,by omega,HV.out⟩
   case round=>
    clear r0 r1 r2 r3 r4 r5 HV
    obtain⟨q,m,y,o0,o1,o2,o3,o4,o5,hq,hy,rfl,rfl,r0,r1,r2,r3,r4,r5,HV⟩:=hrel
    have hq:q=0∨q=1∨q=2∨q=3:=by omega
    unfold Yw
    rcases hq with rfl|rfl|rfl|rfl
    ·obtain rfl:y=0:=hy
     have HV':=zd (show Xz o0 (o1+a1*b0) o2 o3 o4 o5=qz a0 a1 a2 b0 b1 b2 (3*1+0+1) by have:=HV.out;simp only[Xz,qz]at*;omega)
     go_wp2_with fail
     go_region
     all_goals go_wp2_with fail
     all_goals go_roundw
     case rel=>exact⟨1,_,1,_,_,_,_,_,_,by omega,rfl,rfl,(qD _ _ _ _ _ _ _ (by simp)).trans rfl,by omega,by omega,by omega,by omega,by omega,by omega,HV'.out⟩
     case measure=>simp[intOf]
    ·obtain rfl:y=1:=hy
     have HV':=zd (show Xz o0 o1 (o2+a1*b1) o3 o4 o5=qz a0 a1 a2 b0 b1 b2 (3*1+1+1) by have:=HV.out;simp only[Xz,qz]at*;omega)
     go_wp2_with fail
     go_region
     all_goals go_wp2_with fail
     all_goals go_roundw
     case rel=>exact⟨2,_,2,_,_,_,_,_,_,by omega,rfl,rfl,(qD _ _ _ _ _ _ _ (by simp)).trans rfl,by omega,by omega,by omega,by omega,by omega,by omega,HV'.out⟩
     case measure=>simp[intOf]
    ·obtain rfl:y=2:=hy
     have HV':=zd (show Xz o0 o1 o2 (o3+a1*b2) o4 o5=qz a0 a1 a2 b0 b1 b2 (3*1+2+1) by have:=HV.out;simp only[Xz,qz]at*;omega)
     go_wp2_with fail
     go_region
     all_goals go_wp2_with fail
     all_goals go_roundw
     case rel=>exact⟨3,_,3,_,_,_,_,_,_,by omega,rfl,rfl,(qD _ _ _ _ _ _ _ (by simp)).trans rfl,by omega,by omega,by omega,by omega,by omega,by omega,HV'.out⟩
     case measure=>simp[intOf]
    ·obtain rfl:y=3:=hy
     go_wp2_with fail
     go_roundw
     case rel=>exact⟨2,_,2,_,_,_,_,_,_,by omega,rfl,rfl,rfl,by omega,by omega,by omega,by omega,by omega,by omega,HV.out⟩
     case measure=>simp[intOf]
  ·obtain rfl:z=2:=hz
   go_wp2_with fail
   go_loopw [7] (λ k w'=>∃(q m:Nat) (y o0 o1 o2 o3 o4 o5:Int),q≤3∧y=q∧k=.int .i64 y∧w'=(Yw w a0 a1 a2 b0 b1 b2 o0 o1 o2 o3 o4 o5).drewN m∧
    (0≤o0∧o0≤2*4000000000000+y*1200000000000)∧(0≤o1∧o1≤2*4000000000000+y*1200000000000)∧(0≤o2∧o2≤2*4000000000000+y*1200000000000)∧(0≤o3∧o3≤2*4000000000000+y*1200000000000)∧(0≤o4∧o4≤2*4000000000000+y*1200000000000)∧(0≤o5∧o5≤2*4000000000000+y*1200000000000)∧Hid (Xz o0 o1 o2 o3 o4 o5=qz a0 a1 a2 b0 b1 b2 (3*2+q))) (λ k _=>3 -(intOf k).toNat)
   case atStart=>exact⟨0,_,0,_,_,_,_,_,_,by omega,rfl,rfl,rfl,by omega,by omega,by omega,by omega,by omega,by omega,HV.out⟩
   case round=>
    clear r0 r1 r2 r3 r4 r5 HV
    obtain⟨q,m,y,o0,o1,o2,o3,o4,o5,hq,hy,rfl,rfl,r0,r1,r2,r3,r4,r5,HV⟩:=hrel
    have hq:q=0∨q=1∨q=2∨q=3:=by omega
    unfold Yw
    rcases hq with rfl|rfl|rfl|rfl
    ·obtain rfl:y=0:=hy
     have HV':=zd (show Xz o0 o1 (o2+a2*b0) o3 o4 o5=qz a0 a1 a2 b0 b1 b2 (3*2+0+1) by have:=HV.out;simp only[Xz,qz]at*;omega)
     go_wp2_with fail
     go_region
     all_goals go_wp2_with fail
     all_goals go_roundw
     case rel=>exact⟨1,_,1,_,_,_,_,_,_,by omega,rfl,rfl,(qD _ _ _ _ _ _ _ (by simp)).trans rfl,by omega,by omega,by omega,by omega,by omega,by omega,HV'.out⟩
     case measure=>simp[intOf]
    ·obtain rfl:y=1:=hy
     have HV':=zd (show Xz o0 o1 o2 (o3+a2*b1) o4 o5=qz a0 a1 a2 b0 b1 b2 (3*2+1+1) by have:=HV.out;simp only[Xz,qz]at*;omega)
     go_wp2_with fail
     go_region
     all_goals go_wp2_with fail
     all_goals go_roundw
     case rel=>exact⟨2,_,2,_,_,_,_,_,_,by omega,rfl,rfl,(qD _ _ _ _ _ _ _ (by simp)).trans rfl,by omega,by omega,by omega,by omega,by omega,by omega,HV'.out⟩
     case measure=>simp[intOf]
    ·obtain rfl:y=2:=hy
     have HV':=zd (show Xz o0 o1 o2 o3 (o4+a2*b2) o5=qz a0 a1 a2 b0 b1 b2 (3*2+2+1) by have:=HV.out;simp only[Xz,qz]at*;omega)
     go_wp2_with fail
     go_region
     all_goals go_wp2_with fail
     all_goals go_roundw
     case rel=>exact⟨3,_,3,_,_,_,_,_,_,by omega,rfl,rfl,(qD _ _ _ _ _ _ _ (by simp)).trans rfl,by omega,by omega,by omega,by omega,by omega,by omega,HV'.out⟩
     case measure=>simp[intOf]
    ·obtain rfl:y=3:=hy
     go_wp2_with fail
     go_roundw
     case rel=>exact⟨3,_,3,_,_,_,_,_,_,by omega,rfl,rfl,rfl,by omega,by omega,by omega,by omega,by omega,by omega,HV.out⟩
     case measure=>simp[intOf]
  ·obtain rfl:z=3:=hz
   go_wp2_with fail
   go_loopw [8] (λ k w'=>∃(q m:Nat) (y o0 o1 o2 o3 o4 o5:Int),q≤5∧y=q∧k=.int .i64 y∧w'=(Yw w a0 a1 a2 b0 b1 b2 o0 o1 o2 o3 o4 o5).drewN m∧
    (0≤o0∧o0≤13000000000000+y*14000000)∧(0≤o1∧o1≤13000000000000+y*14000000)∧(0≤o2∧o2≤13000000000000+y*14000000)∧(0≤o3∧o3≤13000000000000+y*14000000)∧(0≤o4∧o4≤13000000000000+y*14000000)∧(0≤o5∧o5≤13000000000000+y*14000000)∧Hid (Xz o0 o1 o2 o3 o4 o5=qz a0 a1 a2 b0 b1 b2 9)∧Hid ((0<q→o0<1048576)∧(1<q→o1<1048576)∧(2<q→o2<1048576)∧(3<q→o3<1048576)∧(4<q→o4<1048576))) (λ k _=>5 -(intOf k).toNat)
   case atStart=>exact⟨0,_,0,_,_,_,_,_,_,by omega,rfl,rfl,rfl,by omega,by omega,by omega,by omega,by omega,by omega,HV.out,by refine⟨?_,?_,?_,?_,?_⟩<;>(intro h;omega)⟩
   case round=>
    clear r0 r1 r2 r3 r4 r5 HV
    obtain⟨q,m,y,o0,o1,o2,o3,o4,o5,hq,hy,rfl,rfl,r0,r1,r2,r3,r4,r5,HV,HC⟩:=hrel
    have hq:q=0∨q=1∨q=2∨q=3∨q=4∨q=5:=by omega
    unfold Yw
    rcases hq with rfl|rfl|rfl|rfl|rfl|rfl
    ·obtain rfl:y=0:=hy
     have HV':=zd (show Xz (o0%1048576) (o1+o0/1048576) o2 o3 o4 o5=qz a0 a1 a2 b0 b1 b2 9 by have:=HV.out;simp only[Xz]at*;omega)
     go_wp2_with fail
     go_region
     all_goals rw[qD _ _ _ _ _ _ _ (by simp)]
     all_goals simp only[zm,List.set]
     all_goals go_wp2_with fail
     all_goals go_roundw
     case rel=>exact⟨1,_,1,_,_,_,_,_,_,by omega,rfl,rfl,(qD _ _ _ _ _ _ _ (by simp)).trans rfl,by omega,by omega,by omega,by omega,by omega,by omega,HV'.out,by have:=HC.out;refine⟨?_,?_,?_,?_,?_⟩<;>(intro h;omega)⟩
     case measure=>simp[intOf]
    ·obtain rfl:y=1:=hy
     have HV':=zd (show Xz o0 (o1%1048576) (o2+o1/1048576) o3 o4 o5=qz a0 a1 a2 b0 b1 b2 9 by have:=HV.out;simp only[Xz]at*;omega)
     go_wp2_with fail
     go_region
     all_goals rw[qD _ _ _ _ _ _ _ (by simp)]
     all_goals simp only[zm,List.set]
     all_goals go_wp2_with fail
     all_goals go_roundw
     case rel=>exact⟨2,_,2,_,_,_,_,_,_,by omega,rfl,rfl,(qD _ _ _ _ _ _ _ (by simp)).trans rfl,by omega,by omega,by omega,by omega,by omega,by omega,HV'.out,by have:=HC.out;refine⟨?_,?_,?_,?_,?_⟩<;>(intro h;omega)⟩
     case measure=>simp[intOf]
    ·obtain rfl:y=2:=hy
     have HV':=zd (show Xz o0 o1 (o2%1048576) (o3+o2/1048576) o4 o5=qz a0 a1 a2 b0 b1 b2 9 by have:=HV.out;simp only[Xz]at*;omega)
     go_wp2_with fail
     go_region
     all_goals rw[qD _ _ _ _ _ _ _ (by simp)]
     all_goals simp only[zm,List.set]
     all_goals go_wp2_with fail
     all_goals go_roundw
     case rel=>exact⟨3,_,3,_,_,_,_,_,_,by omega,rfl,rfl,(qD _ _ _ _ _ _ _ (by simp)).trans rfl,by omega,by omega,by omega,by omega,by omega,by omega,HV'.out,by have:=HC.out;refine⟨?_,?_,?_,?_,?_⟩<;>(intro h;omega)⟩
     case measure=>simp[intOf]
    ·obtain rfl:y=3:=hy
     have HV':=zd (show Xz o0 o1 o2 (o3%1048576) (o4+o3/1048576) o5=qz a0 a1 a2 b0 b1 b2 9 by have:=HV.out;simp only[Xz]at*;omega)
     go_wp2_with fail
     go_region
     all_goals rw[qD _ _ _ _ _ _ _ (by simp)]
     all_goals simp only[zm,List.set]
     all_goals go_wp2_with fail
     all_goals go_roundw
     case rel=>exact⟨4,_,4,_,_,_,_,_,_,by omega,rfl,rfl,(qD _ _ _ _ _ _ _ (by simp)).trans rfl,by omega,by omega,by omega,by omega,by omega,by omega,HV'.out,by have:=HC.out;refine⟨?_,?_,?_,?_,?_⟩<;>(intro h;omega)⟩
     case measure=>simp[intOf]
    ·obtain rfl:y=4:=hy
     have HV':=zd (show Xz o0 o1 o2 o3 (o4%1048576) (o5+o4/1048576)=qz a0 a1 a2 b0 b1 b2 9 by have:=HV.out;simp only[Xz]at*;omega)
     go_wp2_with fail
     go_region
     all_goals rw[qD _ _ _ _ _ _ _ (by simp)]
     all_goals simp only[zm,List.set]
     all_goals go_wp2_with fail
     all_goals go_roundw
     case rel=>exact⟨5,_,5,_,_,_,_,_,_,by omega,rfl,rfl,(qD _ _ _ _ _ _ _ (by simp)).trans rfl,by omega,by omega,by omega,by omega,by omega,by omega,HV'.out,by have:=HC.out;refine⟨?_,?_,?_,?_,?_⟩<;>(intro h;omega)⟩
     case measure=>simp[intOf]
    ·obtain rfl:y=5:=hy
     have hc:=HC.out
     have hd:o0<1048576∧o1<1048576∧o2<1048576∧o3<1048576∧o4<1048576:=⟨hc.1 (by omega),hc.2.1 (by omega),hc.2.2.1 (by omega),hc.2.2.2.1 (by omega),hc.2.2.2.2 (by omega)⟩
     clear hc
     go_wp2_with fail
     simp only[VC]
     refine zk (v:=.agg #[.int .i64 o0,.int .i64 o1,.int .i64 o2,.int .i64 o3,.int .i64 o4,.int .i64 o5]) (by simp[results,results152,go_sem]) rfl ⟨o0,o1,o2,o3,o4,o5,rfl,HV.out,hd,⟨r0.1,r1.1,r2.1,r3.1,r4.1,r5.1⟩,?_⟩
     refine below_drewN ?_ m
     repeat (refine Below.setCell ?_ (by simp;omega) _)
     exact((((zh _ _).alloc (zg _) _).alloc (by simp) _).alloc (by simp;omega) _).alloc (by simp;omega) _
end gb
namespace gb
open Go.RowKit
def J3 (v c:Int):Int:=if v/c≤1099511627776 then v/c else 1099511627776
def pv (d0 d1 d2 d3 d4 d5:Int):Nat→Int
 |0=>(((((d5*1048576+d4)*1048576+d3)*1048576+d2)*1048576+d1)*1048576+d0)
 |1=>((((d5*1048576+d4)*1048576+d3)*1048576+d2)*1048576+d1)
 |2=>(((d5*1048576+d4)*1048576+d3)*1048576+d2)
 |3=>((d5*1048576+d4)*1048576+d3)
 |4=>(d5*1048576+d4)
 |5=>d5
 |_=>0
theorem Ab (d0 d1 d2 d3 d4 d5:Int) (h:0≤d0∧0≤d1∧0≤d2∧0≤d3∧0≤d4∧0≤d5) (n:Nat):0≤pv d0 d1 d2 d3 d4 d5 n∧pv d0 d1 d2 d3 d4 d5 n≤pv d0 d1 d2 d3 d4 d5 0:=by
 match n with
 |0|1|2|3|4|5=>simp only[pv];omega
 |n+6=>simp only[pv];omega
theorem Fi (p c q r:Int) (hc:1≤c) (h:p=q*c+r) (h0:0≤r) (h1:r<c):p/c=q:=by
 rw[h,Int.add_comm,Int.add_mul_ediv_right _ _ (by omega),Int.ediv_eq_zero_of_lt h0 h1];omega
theorem YD (p q r c d:Int) (h:p=q*c+r):p*1048576+d=(q*1048576+(r*1048576+d)/c)*c+(r*1048576+d)%c:=by
 have e:=Int.mul_ediv_add_emod (r*1048576+d) c
 rw[Int.add_mul,h,Int.add_mul]
 have e2:q*c*1048576=q*1048576*c:=by rw[Int.mul_assoc,Int.mul_comm c,Int.mul_assoc]
 rw[Int.mul_comm c]at e
 omega
theorem YN (v p c q r:Int) (hc:1≤c) (h:p=q*c+r) (h0:0≤r) (h1:r<c) (hv:p≤v) (hq:1099511627776<q):J3 v c=1099511627776:=by
 unfold J3
 rw[if_neg]
 have:=Fi p c q r hc h h0 h1
 have:=Int.ediv_le_ediv (show 0<c by omega) hv
 omega
theorem EZ (v c q r:Int) (hc:1≤c) (h:v=q*c+r) (h0:0≤r) (h1:r<c) (hq:q≤1099511627776):J3 v c=q:=by
 unfold J3
 rw[Fi v c q r hc h h0 h1,if_pos hq]
theorem Tv (d0 d1 d2 d3 d4 d5 c:Int) (hd:d0<1048576∧d1<1048576∧d2<1048576∧d3<1048576∧d4<1048576) (hd0:0≤d0∧0≤d1∧0≤d2∧0≤d3∧0≤d4∧0≤d5) (h5:d5<1048576) (hc:1≤c) (hc1:c≤1099511627776) (w:World):
  Calls zf 151 #[.agg #[.int .i64 d0,.int .i64 d1,.int .i64 d2,.int .i64 d3,.int .i64 d4,.int .i64 d5],.int .i64 c] w λ e w'=>e=.returned (.int .i64 (J3 (pv d0 d1 d2 d3 d4 d5 0) c))∧Below w.heap.size w w':=by
 have c0:(c==0)=false:=by simp;omega
 have HP:=zd (Ab d0 d1 d2 d3 d4 d5 hd0)
 go_enter func151,ntmps151
 go_wp2_with fail
 go_loop [5,6,7] (λ o r i=>∃(n:Nat) (y out rest:Int),n≤6∧y=(n:Int) -1∧i=.int .i64 y∧o=.int .i64 out∧r=.int .i64 rest∧0≤rest∧rest<c∧0≤out∧out≤1099511627776∧Hid (pv d0 d1 d2 d3 d4 d5 n=out*c+rest)) (λ _ _ i=>(intOf i+1).toNat)
 case atStart=>exact⟨6,5,0,0,by omega,by omega,rfl,rfl,rfl,by omega,by omega,by omega,by omega,by show(0:Int)=0*c+0;omega⟩
 case round=>
  obtain⟨n,y,out,rest,hn,hy,rfl,rfl,rfl,hr0,hr1,ho0,ho1,HV⟩:=hrel
  have hn:n=0∨n=1∨n=2∨n=3∨n=4∨n=5∨n=6:=by omega
  have q0:∀d,0≤d→0≤(rest*1048576+d)/c:=λ d h=>Int.ediv_nonneg (by omega) (by omega)
  have q1:∀d,d<1048576→(rest*1048576+d)/c<1048576:=λ d h=>Int.ediv_lt_of_lt_mul (by omega) (by omega)
  have m0:∀d,0≤(rest*1048576+d)%c:=λ d=>Int.emod_nonneg _ (by omega)
  have m1:∀d,(rest*1048576+d)%c<c:=λ d=>Int.emod_lt_of_pos _ (by omega)
  rcases hn with rfl|rfl|rfl|rfl|rfl|rfl|rfl
  ·obtain rfl:y= -1:=by omega
   clear hy
   have HE:=zd (EZ _ _ _ _ hc HV.out hr0 hr1 ho1)
   clear q0 q1 m0 m1 HV HP
   go_wp2_with fail
   go_ret
   exact⟨qR HE.out.symm,(zh _ _).alloc (zg _) _⟩
  ·obtain rfl:y=0:=by omega
   clear hy
   have a1:=q0 d0 (by omega)
   have a2:=q1 d0 (by omega)
   have a3:=m0 d0
   have a4:=m1 d0
   have HS:=zd (show pv d0 d1 d2 d3 d4 d5 0=(out*1048576+(rest*1048576+d0)/c)*c+(rest*1048576+d0)%c by
    rw[show pv d0 d1 d2 d3 d4 d5 0=pv d0 d1 d2 d3 d4 d5 1*1048576+d0 by simp only[pv]<;>omega];exact YD _ _ _ _ _ HV.out)
   clear q0 q1 m0 m1 HV
   by_cases top:1099511627776<out*1048576+(rest*1048576+d0)/c
   ·have HE:=zd (YN _ _ _ _ _ hc HS.out a3 a4 (HP.out 0).2 top)
    clear HS HP
    go_wp2_with (go_at_call 84;refine(Xk _).mono ?_;rintro e w' ⟨rfl,rfl⟩)
    go_ret
    exact⟨qR HE.out.symm,(zh _ _).alloc (zg _) _⟩
   ·clear HP
    go_wp2_with (go_at_call 84;refine(Xk _).mono ?_;rintro e w' ⟨rfl,rfl⟩)
    go_round
    case rel=>exact⟨0,-1,_,_,by omega,by omega,rfl,rfl,rfl,a3,a4,by omega,by omega,HS.out⟩
    case measure=>simp[intOf]
  ·obtain rfl:y=1:=by omega
   clear hy
   have a1:=q0 d1 (by omega)
   have a2:=q1 d1 (by omega)
   have a3:=m0 d1
   have a4:=m1 d1
   have HS:=zd (show pv d0 d1 d2 d3 d4 d5 1=(out*1048576+(rest*1048576+d1)/c)*c+(rest*1048576+d1)%c by
    rw[show pv d0 d1 d2 d3 d4 d5 1=pv d0 d1 d2 d3 d4 d5 2*1048576+d1 by simp only[pv]<;>omega];exact YD _ _ _ _ _ HV.out)
   clear q0 q1 m0 m1 HV
   by_cases top:1099511627776<out*1048576+(rest*1048576+d1)/c
   ·have HE:=zd (YN _ _ _ _ _ hc HS.out a3 a4 (HP.out 1).2 top)
    clear HS HP
    go_wp2_with (go_at_call 84;refine(Xk _).mono ?_;rintro e w' ⟨rfl,rfl⟩)
    go_ret
    exact⟨qR HE.out.symm,(zh _ _).alloc (zg _) _⟩
   ·clear HP
    go_wp2_with (go_at_call 84;refine(Xk _).mono ?_;rintro e w' ⟨rfl,rfl⟩)
    go_round
    case rel=>exact⟨1,0,_,_,by omega,by omega,rfl,rfl,rfl,a3,a4,by omega,by omega,HS.out⟩
    case measure=>simp[intOf]
  ·obtain rfl:y=2:=by omega
   clear hy
   have a1:=q0 d2 (by omega)
   have a2:=q1 d2 (by omega)
   have a3:=m0 d2
   have a4:=m1 d2
   have HS:=zd (show pv d0 d1 d2 d3 d4 d5 2=(out*1048576+(rest*1048576+d2)/c)*c+(rest*1048576+d2)%c by
    rw[show pv d0 d1 d2 d3 d4 d5 2=pv d0 d1 d2 d3 d4 d5 3*1048576+d2 by simp only[pv]<;>omega];exact YD _ _ _ _ _ HV.out)
   clear q0 q1 m0 m1 HV
   by_cases top:1099511627776<out*1048576+(rest*1048576+d2)/c
   ·have HE:=zd (YN _ _ _ _ _ hc HS.out a3 a4 (HP.out 2).2 top)
    clear HS HP
    go_wp2_with (go_at_call 84;refine(Xk _).mono ?_;rintro e w' ⟨rfl,rfl⟩)
    go_ret
    exact⟨qR HE.out.symm,(zh _ _).alloc (zg _) _⟩
   ·clear HP
    go_wp2_with (go_at_call 84;refine(Xk _).mono ?_;rintro e w' ⟨rfl,rfl⟩)
    go_round
    case rel=>exact⟨2,1,_,_,by omega,by omega,rfl,rfl,rfl,a3,a4,by omega,by omega,HS.out⟩
    case measure=>simp[intOf]
  ·obtain rfl:y=3:=by omega
   clear hy
   have a1:=q0 d3 (by omega)
   have a2:=q1 d3 (by omega)
   have a3:=m0 d3
   have a4:=m1 d3
   have HS:=zd (show pv d0 d1 d2 d3 d4 d5 3=(out*1048576+(rest*1048576+d3)/c)*c+(rest*1048576+d3)%c by
    rw[show pv d0 d1 d2 d3 d4 d5 3=pv d0 d1 d2 d3 d4 d5 4*1048576+d3 by simp only[pv]<;>omega];exact YD _ _ _ _ _ HV.out)
   clear q0 q1 m0 m1 HV
   by_cases top:1099511627776<out*1048576+(rest*1048576+d3)/c
   ·have HE:=zd (YN _ _ _ _ _ hc HS.out a3 a4 (HP.out 3).2 top)
    clear HS HP
    go_wp2_with (go_at_call 84;refine(Xk _).mono ?_;rintro e w' ⟨rfl,rfl⟩)
    go_ret
    exact⟨qR HE.out.symm,(zh _ _).alloc (zg _) _⟩
   ·clear HP
    go_wp2_with (go_at_call 84;refine(Xk _).mono ?_;rintro e w' ⟨rfl,rfl⟩)
    go_round
    case rel=>exact⟨3,2,_,_,by omega,by omega,rfl,rfl,rfl,a3,a4,by omega,by omega,HS.out⟩
    case measure=>simp[intOf]
  ·obtain rfl:y=4:=by omega
   clear hy
   have a1:=q0 d4 (by omega)
   have a2:=q1 d4 (by omega)
   have a3:=m0 d4
   have a4:=m1 d4
   have HS:=zd (show pv d0 d1 d2 d3 d4 d5 4=(out*1048576+(rest*1048576+d4)/c)*c+(rest*1048576+d4)%c by
    rw[show pv d0 d1 d2 d3 d4 d5 4=pv d0 d1 d2 d3 d4 d5 5*1048576+d4 by simp only[pv]<;>omega];exact YD _ _ _ _ _ HV.out)
   clear q0 q1 m0 m1 HV
   by_cases top:1099511627776<out*1048576+(rest*1048576+d4)/c
   ·have HE:=zd (YN _ _ _ _ _ hc HS.out a3 a4 (HP.out 4).2 top)
    clear HS HP
    go_wp2_with (go_at_call 84;refine(Xk _).mono ?_;rintro e w' ⟨rfl,rfl⟩)
    go_ret
    exact⟨qR HE.out.symm,(zh _ _).alloc (zg _) _⟩
   ·clear HP
    go_wp2_with (go_at_call 84;refine(Xk _).mono ?_;rintro e w' ⟨rfl,rfl⟩)
    go_round
    case rel=>exact⟨4,3,_,_,by omega,by omega,rfl,rfl,rfl,a3,a4,by omega,by omega,HS.out⟩
    case measure=>simp[intOf]
  ·obtain rfl:y=5:=by omega
   clear hy
   have a1:=q0 d5 (by omega)
   have a2:=q1 d5 (by omega)
   have a3:=m0 d5
   have a4:=m1 d5
   have HS:=zd (show pv d0 d1 d2 d3 d4 d5 5=(out*1048576+(rest*1048576+d5)/c)*c+(rest*1048576+d5)%c by
    rw[show pv d0 d1 d2 d3 d4 d5 5=pv d0 d1 d2 d3 d4 d5 6*1048576+d5 by simp only[pv]<;>omega];exact YD _ _ _ _ _ HV.out)
   clear q0 q1 m0 m1 HV
   by_cases top:1099511627776<out*1048576+(rest*1048576+d5)/c
   ·have HE:=zd (YN _ _ _ _ _ hc HS.out a3 a4 (HP.out 5).2 top)
    clear HS HP
    go_wp2_with (go_at_call 84;refine(Xk _).mono ?_;rintro e w' ⟨rfl,rfl⟩)
    go_ret
    exact⟨qR HE.out.symm,(zh _ _).alloc (zg _) _⟩
   ·clear HP
    go_wp2_with (go_at_call 84;refine(Xk _).mono ?_;rintro e w' ⟨rfl,rfl⟩)
    go_round
    case rel=>exact⟨5,4,_,_,by omega,by omega,rfl,rfl,rfl,a3,a4,by omega,by omega,HS.out⟩
    case measure=>simp[intOf]
theorem LZ (a0 a1 a2 b0 b1 b2:Int):qz a0 a1 a2 b0 b1 b2 9=(a0+a1*1048576+a2*1099511627776)*(b0+b1*1048576+b2*1099511627776):=by
 simp only[qz];grind
theorem Kq (n:Int):n%1048576+n/1048576%1048576*1048576+n/1099511627776*1099511627776=n:=by omega
theorem Ba (d0 d1 d2 d3 d4 d5:Int):pv d0 d1 d2 d3 d4 d5 0=Xz d0 d1 d2 d3 d4 d5:=by simp only[pv,Xz];omega
theorem Xr (x y:Int) (hx:0≤x∧x≤1048576) (hy:0≤y∧y≤1048576):0≤x*y∧x*y≤1099511627776:=
 ⟨Int.mul_nonneg hx.1 hy.1,by have:=Int.mul_le_mul hx.2 hy.2 hy.1 (by omega);omega⟩
def FI (v:Int) (w:World) (e:Ending) (w':World):Prop:=
 ∃o0 o1 o2 o3 o4 o5:Int,e=.returned (.agg #[.int .i64 o0,.int .i64 o1,.int .i64 o2,.int .i64 o3,.int .i64 o4,.int .i64 o5])∧pv o0 o1 o2 o3 o4 o5 0=v∧
  (o0<1048576∧o1<1048576∧o2<1048576∧o3<1048576∧o4<1048576)∧(0≤o0∧0≤o1∧0≤o2∧0≤o3∧0≤o4∧0≤o5)∧o5<1048576∧Below w.heap.size w w'
theorem OV (x y:Int) (hx:0≤x∧x≤1099511627776) (hy:0≤y∧y≤1099511627776) (w:World):
  Calls zf 152 #[.agg #[.int .i64 (x%1048576),.int .i64 (x/1048576%1048576),.int .i64 (x/1099511627776),.int .i64 0],.agg #[.int .i64 (y%1048576),.int .i64 (y/1048576%1048576),.int .i64 (y/1099511627776),.int .i64 0]] w (FI (x*y) w):=by
 have x0:0≤x%1048576∧x%1048576≤1048576:=by omega
 have x1:0≤x/1048576%1048576∧x/1048576%1048576≤1048576:=by omega
 have x2:0≤x/1099511627776∧x/1099511627776≤1048576:=by omega
 have y0:0≤y%1048576∧y%1048576≤1048576:=by omega
 have y1:0≤y/1048576%1048576∧y/1048576%1048576≤1048576:=by omega
 have y2:0≤y/1099511627776∧y/1099511627776≤1048576:=by omega
 refine(VA _ _ _ _ _ _ w (Xr _ _ x0 y0) (Xr _ _ x0 y1) (Xr _ _ x0 y2) (Xr _ _ x1 y0) (Xr _ _ x1 y1) (Xr _ _ x1 y2) (Xr _ _ x2 y0) (Xr _ _ x2 y1) (Xr _ _ x2 y2)).mono ?_
 rintro e w' ⟨o0,o1,o2,o3,o4,o5,he,hv,hd,hn,hb⟩
 rw[LZ,Kq x,Kq y]at hv
 have hp:=qO x y hx hy
 refine⟨o0,o1,o2,o3,o4,o5,he,by rw[Ba];exact hv,hd,hn,?_,hb⟩
 rw[←hv]at hp
 simp only[Xz]at hp
 omega
theorem Tu (v:Int) (h:0≤v):J3 v 1=qe v:=by
 unfold J3;rw[Int.ediv_one,Yl v h];split<;>split<;>omega
theorem OA (a b:Int) (w:World):Calls zf 144 #[.int .i64 a,.int .i64 b] w λ e w'=>e=.returned (.int .i64 (qe (qe a*qe b)))∧Below w.heap.size w w':=by
 have ha:=qw a
 have hb:=qw b
 have HT:=zd (Tu (qe a*qe b) (Int.mul_nonneg ha.1 hb.1))
 go_enter func144,ntmps144
 go_wp2_with fail
 refine(Zq _ _).mono ?_
 rintro e w' ⟨rfl,rfl⟩
 go_wp2_with fail
 refine(KU _ ha.1 ha.2 _).mono ?_
 rintro e w1 ⟨rfl,hb1⟩
 have HB1:=zd hb1
 clear hb1
 go_wp2_with fail
 refine(Zq _ _).mono ?_
 rintro e w' ⟨rfl,rfl⟩
 go_wp2_with fail
 refine(KU _ hb.1 hb.2 _).mono ?_
 rintro e w2 ⟨rfl,hb2⟩
 have HB2:=zd (HB1.out.trans (hb2.mono HB1.out.size))
 clear hb2 HB1
 go_wp2_with fail
 refine(OV _ _ ha hb _).mono ?_
 rintro e w3 ⟨o0,o1,o2,o3,o4,o5,rfl,hv,hd,hn,h5,hb3⟩
 have HB3:=zd (HB2.out.trans (hb3.mono HB2.out.size))
 have HV:=zd hv
 clear hb3 HB2 hv
 go_wp2_with fail
 refine(Tv _ _ _ _ _ _ 1 hd hn h5 (by omega) (by omega) _).mono ?_
 rintro e w4 ⟨rfl,hb4⟩
 have HB4:=zd (HB3.out.trans (hb4.mono HB3.out.size))
 clear hb4 HB3
 go_wp2_with fail
 go_ret
 exact⟨qR (by rw[HV.out,HT.out]),HB4.out⟩
end gb
namespace gb
open Go.RowKit
def isR (n:Int):Bool:=qe n==n
theorem QG (n:Int):isR n=true↔0≤n∧n≤1099511627776:=by
 unfold isR qe
 rw[beq_iff_eq]
 constructor
 ·intro h
  (repeat' split at h)<;>omega
 ·intro h
  rw[if_neg (by omega),if_neg (by omega)]
theorem Tc (n:Int) (w:World):Calls zf 85 #[.int .i64 n] w λ e w'=>e=.returned (.bool (isR n))∧w=w':=by
 go_enter func85,ntmps85
 go_wp2_with fail
 refine(Zq _ _).mono ?_
 rintro e w' ⟨rfl,rfl⟩
 go_wp2_with fail
 go_ret
 exact⟨rfl,rfl⟩
def qI (r u l t:Int):Bool:=isR r&&isR u&&isR l&&isR t&&decide (u≠0)&&decide (l≤u)
theorem qY (r u l t:Int):qI r u l t=true↔(0≤r∧r≤1099511627776)∧(0≤u∧u≤1099511627776)∧(0≤l∧l≤1099511627776)∧(0≤t∧t≤1099511627776)∧u≠0∧l≤u:=by
 unfold qI
 simp only[Bool.and_eq_true,QG,decide_eq_true_eq,and_assoc]
theorem Xt (r u l t:Int) (w:World):Calls zf 133 #[.agg #[.int .i64 r,.int .i64 u,.int .i64 l,.int .i64 t]] w λ e w'=>e=.returned (.bool (qI r u l t))∧Below w.heap.size w w':=by
 have HI:=zd Tc
 have HB:=zd (show Below w.heap.size w (w.alloc (.cells #[.int .i64 r,.int .i64 u,.int .i64 l,.int .i64 t] 63))from(zh _ _).alloc (zg _) _)
 have HF:=zd (show qI r u l t=(isR r&&isR u&&isR l&&isR t&&decide (u≠0)&&decide (l≤u))from rfl)
 cases e0:isR r with
 |false=>
  go_enter func133,ntmps133
  go_wp2_with fail
  refine(HI.out _ _).mono ?_
  rintro e w' ⟨rfl,rfl⟩
  go_wp2_with fail
  go_ret
  exact⟨qp (by rw[HF.out];simp[e0]),HB.out⟩
 |true=>
  cases e1:isR u with
  |false=>
   go_enter func133,ntmps133
   go_wp2_with fail
   refine(HI.out _ _).mono ?_
   rintro e w' ⟨rfl,rfl⟩
   go_wp2_with fail
   refine(HI.out _ _).mono ?_
   rintro e w' ⟨rfl,rfl⟩
   go_wp2_with fail
   go_ret
   exact⟨qp (by rw[HF.out];simp[e0,e1]),HB.out⟩
  |true=>
   cases e2:isR l with
   |false=>
    go_enter func133,ntmps133
    go_wp2_with fail
    refine(HI.out _ _).mono ?_
    rintro e w' ⟨rfl,rfl⟩
    go_wp2_with fail
    refine(HI.out _ _).mono ?_
    rintro e w' ⟨rfl,rfl⟩
    go_wp2_with fail
    refine(HI.out _ _).mono ?_
    rintro e w' ⟨rfl,rfl⟩
    go_wp2_with fail
    go_ret
    exact⟨qp (by rw[HF.out];simp[e0,e1,e2]),HB.out⟩
   |true=>
    cases e3:isR t with
    |false=>
     go_enter func133,ntmps133
     go_wp2_with fail
     refine(HI.out _ _).mono ?_
     rintro e w' ⟨rfl,rfl⟩
     go_wp2_with fail
     refine(HI.out _ _).mono ?_
     rintro e w' ⟨rfl,rfl⟩
     go_wp2_with fail
     refine(HI.out _ _).mono ?_
     rintro e w' ⟨rfl,rfl⟩
     go_wp2_with fail
     refine(HI.out _ _).mono ?_
     rintro e w' ⟨rfl,rfl⟩
     go_wp2_with fail
     go_ret
     exact⟨qp (by rw[HF.out];simp[e0,e1,e2,e3]),HB.out⟩
    |true=>
     by_cases e4:u=0
     ·subst e4
      go_enter func133,ntmps133
      go_wp2_with fail
      refine(HI.out _ _).mono ?_
      rintro e w' ⟨rfl,rfl⟩
      go_wp2_with fail
      refine(HI.out _ _).mono ?_
      rintro e w' ⟨rfl,rfl⟩
      go_wp2_with fail
      refine(HI.out _ _).mono ?_
      rintro e w' ⟨rfl,rfl⟩
      go_wp2_with fail
      refine(HI.out _ _).mono ?_
      rintro e w' ⟨rfl,rfl⟩
      go_wp2_with fail
      go_ret
      exact⟨qp (by rw[HF.out];simp[]),HB.out⟩
     ·by_cases e5:l≤u
      ·go_enter func133,ntmps133
       go_wp2_with fail
       refine(HI.out _ _).mono ?_
       rintro e w' ⟨rfl,rfl⟩
       go_wp2_with fail
       refine(HI.out _ _).mono ?_
       rintro e w' ⟨rfl,rfl⟩
       go_wp2_with fail
       refine(HI.out _ _).mono ?_
       rintro e w' ⟨rfl,rfl⟩
       go_wp2_with fail
       refine(HI.out _ _).mono ?_
       rintro e w' ⟨rfl,rfl⟩
       go_wp2_with fail
       go_ret
       exact⟨qp (by rw[HF.out];simp[e0,e1,e2,e3,e4,e5]),HB.out⟩
      ·go_enter func133,ntmps133
       go_wp2_with fail
       refine(HI.out _ _).mono ?_
       rintro e w' ⟨rfl,rfl⟩
       go_wp2_with fail
       refine(HI.out _ _).mono ?_
       rintro e w' ⟨rfl,rfl⟩
       go_wp2_with fail
       refine(HI.out _ _).mono ?_
       rintro e w' ⟨rfl,rfl⟩
       go_wp2_with fail
       refine(HI.out _ _).mono ?_
       rintro e w' ⟨rfl,rfl⟩
       go_wp2_with fail
       go_ret
       exact⟨qp (by rw[HF.out];simp[e0,e1,e2,e3,e4]),HB.out⟩
end gb
namespace gb
open Go.RowKit
theorem qo {w:World} {g i:Nat} {cs:Array Value} {T:TypeId} {fr:Nat×Nat} (hg:w.heap[g]?=some (.cells cs T fr)) (u:Value):(w.setCell ⟨g,i,none⟩ u).heap[g]?=some (.cells (cs.setIfInBounds i u) T fr):=by
 simp[World.setCell,Array.getElem?_modify,hg]
def Zs (w:World) (g:Nat) (a b c d:Value):World:=(((w.setCell ⟨g,0,none⟩ a).setCell ⟨g,1,none⟩ b).setCell ⟨g,2,none⟩ c).setCell ⟨g,3,none⟩ d
theorem qF {w:World} {g:Nat} {x y z t:Value} {T:TypeId} (h:w.heap[g]?=some (.cells #[x,y,z,t] T (0,0))) (a b c d:Value):(Zs w g a b c d).heap[g]?=some (.cells #[a,b,c,d] T (0,0)):=by
 unfold Zs
 rw[qo (qo (qo (qo h a) b) c)]
 rfl
theorem Jy {w:World} {g k:Nat} (a b c d:Value) (h:k≠g):(Zs w g a b c d).heap[k]?=w.heap[k]?:=by
 unfold Zs
 rw[zn _ _ _ _ h,zn _ _ _ _ h,zn _ _ _ _ h,zn _ _ _ _ h]
theorem qu {B:Nat} {w0 w:World} {g:Nat} (h:Below B w0 w) (hg:B≤g) (a b c d:Value):Below B w0 (Zs w g a b c d):=(((h.setCell (p:=⟨g,0,none⟩) hg a).setCell (p:=⟨g,1,none⟩) hg b).setCell (p:=⟨g,2,none⟩) hg c).setCell (p:=⟨g,3,none⟩) hg d
theorem Zk {w w1:World} {o0 o1:Obj} (hb:Below ((w.alloc o0).alloc o1).heap.size ((w.alloc o0).alloc o1) w1):
  w1.heap[w.heap.size]?=some o0∧w1.heap[w.heap.size+1]?=some o1∧w.heap.size+1<w1.heap.size:=by
 have hs:=hb.size
 have s0:(w.alloc o0).heap.size=w.heap.size+1:=by simp
 have s1:((w.alloc o0).alloc o1).heap.size=w.heap.size+1+1:=by simp
 rw[s1]at hs hb
 refine⟨?_,?_,by omega⟩
 ·rw[hb.block _ (by omega),Below.heap_alloc _ _ _ (by omega)]
  exact zo w o0
 ·rw[hb.block _ (by omega)]
  have:=zo (w.alloc o0) o1
  rw[s0]at this
  exact this
theorem Xw (w:World) (o o':Obj):Below w.heap.size w ((w.alloc o).alloc o'):=((zh _ _).alloc (zg _) _).alloc (by simp) _
def lvl (r u l t x:Int):Int:=if u<l+r*(x -t)then u else l+r*(x -t)
def ZJ (r u l t now:Int):Int:=if qI r u l t=true∧t<qe now then lvl r u l t (qe now)else l
def ZV (r u l t now:Int):Int:=if qI r u l t=true∧t<qe now then qe now else t
theorem Gr {r u l t x M N:Int} (h:qI r u l t=true) (hx:t<x) (hxt:x≤1099511627776) (hM:qe (qe r*qe (x -t))=M) (hN:qe (qe l+qe M)=N):(if u<N then u else N)=lvl r u l t x:=by
 obtain⟨h1,h2,h3,h4,h5,h6⟩:=(qY r u l t).1 h
 rw[Xv r h1.1 h1.2,Xv (x -t) (by omega) (by omega)]at hM
 have hp:0≤r*(x -t):=Int.mul_nonneg h1.1 (by omega)
 unfold lvl
 generalize r*(x -t)=P at*
 subst hM
 have e2:qe (qe P)=qe P:=Xv _ (qw P).1 (qw P).2
 rw[Xv l h3.1 h3.2,e2]at hN
 subst hN
 have hn:=qw P
 have e3:=Yl (l+qe P) (by omega)
 rw[e3]
 have e1:=Yl P hp
 by_cases hP:1099511627776<P
 ·rw[if_pos hP]at e1
  rw[e1]
  (repeat' split)<;>omega
 ·rw[if_neg hP]at e1
  rw[e1]
  (repeat' split)<;>omega
theorem UU (r u l t now : Int) (w : World) : Calls zf 134 #[.agg #[.int .i64 r, .int .i64 u, .int .i64 l, .int .i64 t], .int .i64 now] w λ e w' => e = .returned (.agg #[.int .i64 r, .int .i64 u, .int .i64 (ZJ r u l t now), .int .i64 (ZV r u l t now)]) ∧ Below w.heap.size w w' := by
 obtain ⟨x, hx⟩ : ∃ x, qe now = x := ⟨_, rfl⟩
 have hxr := qw now
 rw [hx] at hxr
 have HNE := zd (λ W => show Calls zf 52 #[.int .i64 now] W λ e w' => e = .returned (.int .i64 x) ∧ W = w' from by rw [← hx]; exact Zq now W)
 have HB0 := zd (Xw w (.cells #[.int .i64 r, .int .i64 u, .int .i64 l, .int .i64 t] 63) (.cells #[.int .i64 0, .int .i64 0, .int .i64 0, .int .i64 0] 63))
 obtain ⟨F, hF⟩ : ∃ F, qI r u l t = F := ⟨_, rfl⟩
 have HRG := zd (λ W => show Calls zf 133 #[.agg #[.int .i64 r, .int .i64 u, .int .i64 l, .int .i64 t]] W λ e w' => e = .returned (.bool F) ∧ Below W.heap.size W w' from by rw [← hF]; exact Xt r u l t W)
 have hL : ZJ r u l t now = if F = true ∧ t < x then lvl r u l t x else l := by unfold ZJ; rw [hx, hF]
 have hT : ZV r u l t now = if F = true ∧ t < x then x else t := by unfold ZV; rw [hx, hF]
 have HL := zd hL
 have HT := zd hT
 have HF := zd hF
 clear hx hL hT hF
 go_enter func134, ntmps134
 go_wp2_with fail
 refine (HNE.out _).mono ?_
 rintro e w1 ⟨rfl, rfl⟩
 clear HNE
 go_wp2_with fail
 refine (HRG.out _).mono ?_
 rintro e w3 ⟨rfl, hb⟩
 obtain ⟨hg0, hg1, hlt⟩ := Zk hb
 have HB3 := zd (seqB HB0.out hb)
 have x0 : w3.cell? ⟨w.heap.size, 0, none⟩ = some (.int .i64 r) := ze _ _ 0 _ _ _ hg0
 have x1 : w3.cell? ⟨w.heap.size, 1, none⟩ = some (.int .i64 u) := ze _ _ 1 _ _ _ hg0
 have x2 : w3.cell? ⟨w.heap.size, 2, none⟩ = some (.int .i64 l) := ze _ _ 2 _ _ _ hg0
 have x3 : w3.cell? ⟨w.heap.size, 3, none⟩ = some (.int .i64 t) := ze _ _ 3 _ _ _ hg0
 have y0 : w3.cell? ⟨w.heap.size + 1, 0, none⟩ = some (.int .i64 0) := ze _ _ 0 _ _ _ hg1
 have y1 : w3.cell? ⟨w.heap.size + 1, 1, none⟩ = some (.int .i64 0) := ze _ _ 1 _ _ _ hg1
 have y2 : w3.cell? ⟨w.heap.size + 1, 2, none⟩ = some (.int .i64 0) := ze _ _ 2 _ _ _ hg1
 have y3 : w3.cell? ⟨w.heap.size + 1, 3, none⟩ = some (.int .i64 0) := ze _ _ 3 _ _ _ hg1
 have f0 : w3.frozen? ⟨w.heap.size + 1, 0, none⟩ = false := qa hg1
 have f1 : w3.frozen? ⟨w.heap.size + 1, 1, none⟩ = false := qa hg1
 have f2 : w3.frozen? ⟨w.heap.size + 1, 2, none⟩ = false := qa hg1
 have f3 : w3.frozen? ⟨w.heap.size + 1, 3, none⟩ = false := qa hg1
 clear hb HRG HB0
 cases F with
 | false =>
   have hz := qF hg1 (.int .i64 r) (.int .i64 u) (.int .i64 l) (.int .i64 t)
   have HD := zd (qu (w := w3) (g := w.heap.size + 1) HB3.out (show w.heap.size ≤ w.heap.size + 1 by omega) (.int .i64 r) (.int .i64 u) (.int .i64 l) (.int .i64 t))
   go_wp2_with fail
   generalize hW : Zs w3 (w.heap.size + 1) (.int .i64 r) (.int .i64 u) (.int .i64 l) (.int .i64 t) = W at *
   unfold Zs at hW
   rw [hW]
   clear hW
   have z0 : W.cell? ⟨w.heap.size + 1, 0, none⟩ = some (.int .i64 r) := ze W _ 0 _ _ _ hz
   have z1 : W.cell? ⟨w.heap.size + 1, 1, none⟩ = some (.int .i64 u) := ze W _ 1 _ _ _ hz
   have z2 : W.cell? ⟨w.heap.size + 1, 2, none⟩ = some (.int .i64 l) := ze W _ 2 _ _ _ hz
   have z3 : W.cell? ⟨w.heap.size + 1, 3, none⟩ = some (.int .i64 t) := ze W _ 3 _ _ _ hz
   exact zk (v := .agg #[.int .i64 r, .int .i64 u, .int .i64 l, .int .i64 t]) (by simp [results, results134, go_sem, z0, z1, z2, z3]) rfl ⟨by rw [HL.out, HT.out]; simp, HD.out⟩
 | true =>
   by_cases hlt2 : x ≤ t
   · have hz := qF hg1 (.int .i64 r) (.int .i64 u) (.int .i64 l) (.int .i64 t)
     have HD := zd (qu (w := w3) (g := w.heap.size + 1) HB3.out (show w.heap.size ≤ w.heap.size + 1 by omega) (.int .i64 r) (.int .i64 u) (.int .i64 l) (.int .i64 t))
     go_wp2_with fail
     generalize hW : Zs w3 (w.heap.size + 1) (.int .i64 r) (.int .i64 u) (.int .i64 l) (.int .i64 t) = W at *
     unfold Zs at hW
     rw [hW]
     clear hW
     have z0 : W.cell? ⟨w.heap.size + 1, 0, none⟩ = some (.int .i64 r) := ze W _ 0 _ _ _ hz
     have z1 : W.cell? ⟨w.heap.size + 1, 1, none⟩ = some (.int .i64 u) := ze W _ 1 _ _ _ hz
     have z2 : W.cell? ⟨w.heap.size + 1, 2, none⟩ = some (.int .i64 l) := ze W _ 2 _ _ _ hz
     have z3 : W.cell? ⟨w.heap.size + 1, 3, none⟩ = some (.int .i64 t) := ze W _ 3 _ _ _ hz
     exact zk (v := .agg #[.int .i64 r, .int .i64 u, .int .i64 l, .int .i64 t]) (by simp [results, results134, go_sem, z0, z1, z2, z3]) rfl ⟨by rw [HL.out, HT.out, if_neg (by omega), if_neg (by omega)], HD.out⟩
   · obtain ⟨h1, h2, h3, h4, h5, h6⟩ := (qY r u l t).1 HF.out
     obtain ⟨d, hd⟩ : ∃ d, x - t = d := ⟨_, rfl⟩
     obtain ⟨M, hM⟩ : ∃ M, qe (qe r * qe d) = M := ⟨_, rfl⟩
     obtain ⟨N, hN⟩ : ∃ N, qe (qe l + qe M) = N := ⟨_, rfl⟩
     have HV := zd (Gr HF.out (show t < x by omega) (by omega) (by rw [hd]; exact hM) hN)
     have hw : IntKind.i64.wrap (x - t) = d := by rw [IntWalk.i64_in _ (by omega), hd]
     have HMU := zd (λ W => show Calls zf 144 #[.int .i64 r, .int .i64 d] W λ e w' => e = .returned (.int .i64 M) ∧ Below W.heap.size W w' from by rw [← hM]; exact OA r d W)
     have HAD := zd (λ W => show Calls zf 112 #[.int .i64 l, .int .i64 M] W λ e w' => e = .returned (.int .i64 N) ∧ W = w' from by rw [← hN]; exact Jz l M W)
     have HG0 := zd hg0
     have HG1 := zd hg1
     have HXT := zd (show t < x by omega)
     have HCK := zd (show ∀ W, Below w3.heap.size w3 W → (W.cell? ⟨w.heap.size, 0, none⟩ = some (.int .i64 r) ∧ W.cell? ⟨w.heap.size, 2, none⟩ = some (.int .i64 l) ∧ W.cell? ⟨w.heap.size, 3, none⟩ = some (.int .i64 t)) ∧ Below w3.heap.size w3 W from
       λ W hb => ⟨⟨ze _ _ 0 _ _ _ ((hb.block _ (qd HG0.out)).trans HG0.out), ze _ _ 2 _ _ _ ((hb.block _ (qd HG0.out)).trans HG0.out), ze _ _ 3 _ _ _ ((hb.block _ (qd HG0.out)).trans HG0.out)⟩, hb⟩)
     clear hd hM hN h1 h2 h3 h4 h5 h6 hg0 hg1
     go_wp2_with fail
     go_region_held (λ W => (W.cell? ⟨w.heap.size, 0, none⟩ = some (.int .i64 r) ∧ W.cell? ⟨w.heap.size, 2, none⟩ = some (.int .i64 l) ∧ W.cell? ⟨w.heap.size, 3, none⟩ = some (.int .i64 t)) ∧ Below w3.heap.size w3 W)
       ((refine HCK.out _ ?_
         go_split_ands
         first
           | with_reducible exact (zh _ _).drew
           | with_reducible assumption))
       (first
         | (go_at_call 144; go_split_ands; (with_reducible refine zr (HMU.out _) ?_); rintro e w5 ⟨rfl, hb⟩; (have hb5 := seqB (by assumption) hb); clear hb)
         | (go_at_call 112; go_split_ands; (with_reducible refine zr (HAD.out _) ?_); rintro e w6 ⟨rfl, rfl⟩))
     have HB5 := zd (seqB HB3.out hb5)
     have hg0 := (hb5.block _ (qd HG0.out)).trans HG0.out
     have hg1 := (hb5.block _ (qd HG1.out)).trans HG1.out
     have hlt5 : w.heap.size + 1 < w5.heap.size := qd hg1
     clear hb5 HCK HMU HAD
     go_split_ands
     clear hlt x0 x1 x2 x3 y0 y1 y2 y3 f0 f1 f2 f3
     have x0 : w5.cell? ⟨w.heap.size, 0, none⟩ = some (.int .i64 r) := ze _ _ 0 _ _ _ hg0
     have x1 : w5.cell? ⟨w.heap.size, 1, none⟩ = some (.int .i64 u) := ze _ _ 1 _ _ _ hg0
     have x2 : w5.cell? ⟨w.heap.size, 2, none⟩ = some (.int .i64 l) := ze _ _ 2 _ _ _ hg0
     have x3 : w5.cell? ⟨w.heap.size, 3, none⟩ = some (.int .i64 t) := ze _ _ 3 _ _ _ hg0
     have y0 : w5.cell? ⟨w.heap.size + 1, 0, none⟩ = some (.int .i64 0) := ze _ _ 0 _ _ _ hg1
     have y1 : w5.cell? ⟨w.heap.size + 1, 1, none⟩ = some (.int .i64 0) := ze _ _ 1 _ _ _ hg1
     have y2 : w5.cell? ⟨w.heap.size + 1, 2, none⟩ = some (.int .i64 0) := ze _ _ 2 _ _ _ hg1
     have y3 : w5.cell? ⟨w.heap.size + 1, 3, none⟩ = some (.int .i64 0) := ze _ _ 3 _ _ _ hg1
     have f0 : w5.frozen? ⟨w.heap.size + 1, 0, none⟩ = false := qa hg1
     have f1 : w5.frozen? ⟨w.heap.size + 1, 1, none⟩ = false := qa hg1
     have f2 : w5.frozen? ⟨w.heap.size + 1, 2, none⟩ = false := qa hg1
     have f3 : w5.frozen? ⟨w.heap.size + 1, 3, none⟩ = false := qa hg1
     by_cases hNu : u < N
     · have hV := HV.out
       rw [if_pos hNu] at hV
       have HV1 := zd hV
       clear hV
       have hz := qF hg1 (.int .i64 r) (.int .i64 u) (.int .i64 u) (.int .i64 x)
       have HD := zd (qu (w := w5) (g := w.heap.size + 1) HB5.out (show w.heap.size ≤ w.heap.size + 1 by omega) (.int .i64 r) (.int .i64 u) (.int .i64 u) (.int .i64 x))
       go_wp2_with fail
       generalize hW : Zs w5 (w.heap.size + 1) (.int .i64 r) (.int .i64 u) (.int .i64 u) (.int .i64 x) = W at *
       unfold Zs at hW
       rw [hW]
       clear hW
       have z0 : W.cell? ⟨w.heap.size + 1, 0, none⟩ = some (.int .i64 r) := ze W _ 0 _ _ _ hz
       have z1 : W.cell? ⟨w.heap.size + 1, 1, none⟩ = some (.int .i64 u) := ze W _ 1 _ _ _ hz
       have z2 : W.cell? ⟨w.heap.size + 1, 2, none⟩ = some (.int .i64 u) := ze W _ 2 _ _ _ hz
       have z3 : W.cell? ⟨w.heap.size + 1, 3, none⟩ = some (.int .i64 x) := ze W _ 3 _ _ _ hz
       exact zk (v := .agg #[.int .i64 r, .int .i64 u, .int .i64 u, .int .i64 x]) (by simp [results, results134, go_sem, z0, z1, z2, z3]) rfl ⟨by rw [HL.out, HT.out, if_pos (by simp [HXT.out]), if_pos (by simp [HXT.out]), ← HV1.out], HD.out⟩
     · have hV := HV.out
       rw [if_neg hNu] at hV
       have HV1 := zd hV
       clear hV
       have hz := qF hg1 (.int .i64 r) (.int .i64 u) (.int .i64 N) (.int .i64 x)
       have HD := zd (qu (w := w5) (g := w.heap.size + 1) HB5.out (show w.heap.size ≤ w.heap.size + 1 by omega) (.int .i64 r) (.int .i64 u) (.int .i64 N) (.int .i64 x))
       go_wp2_with fail
       generalize hW : Zs w5 (w.heap.size + 1) (.int .i64 r) (.int .i64 u) (.int .i64 N) (.int .i64 x) = W at *
       unfold Zs at hW
       rw [hW]
       clear hW
       have z0 : W.cell? ⟨w.heap.size + 1, 0, none⟩ = some (.int .i64 r) := ze W _ 0 _ _ _ hz
       have z1 : W.cell? ⟨w.heap.size + 1, 1, none⟩ = some (.int .i64 u) := ze W _ 1 _ _ _ hz
       have z2 : W.cell? ⟨w.heap.size + 1, 2, none⟩ = some (.int .i64 N) := ze W _ 2 _ _ _ hz
       have z3 : W.cell? ⟨w.heap.size + 1, 3, none⟩ = some (.int .i64 x) := ze W _ 3 _ _ _ hz
       exact zk (v := .agg #[.int .i64 r, .int .i64 u, .int .i64 N, .int .i64 x]) (by simp [results, results134, go_sem, z0, z1, z2, z3]) rfl ⟨by rw [HL.out, HT.out, if_pos (by simp [HXT.out]), if_pos (by simp [HXT.out]), ← HV1.out], HD.out⟩
end gb
end Go.Proofs.YtfdfgnmgpgkknaaGreat
