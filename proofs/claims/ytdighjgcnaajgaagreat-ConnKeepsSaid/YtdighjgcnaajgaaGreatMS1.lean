import Derived.Shelf.Bits.Mul64
import Derived.Test.YtdighjgcnaajgaaGreatProg
import Derived.Test.YtdighjgcnaajgaaGreatChecked
import Derived.WalkKit
import Derived.Lib.Hide
import Derived.BigQuiet
import Derived.Deep.QuietTactic
import Derived.RegionTactic
import Derived.WalkSmall
import Derived.WalkMore
import Derived.Deep.Draws
import Derived.Deep.RegionHeld
import Derived.Deep.RegionHeldLaw
import Derived.IntWalk
import Derived.OneCell
namespace Go.Proofs
open Go.Shelf
def Tryz.lays264_ren:Go.Shelf.Ren:=⟨λ|264=>182|n=>n,λ|53=>23|46=>193|n=>n,λ|n=>n⟩
theorem Tryz.lays264:Go.Proofs.Lays.n264 Tryz.prog Tryz.lays264_ren:={
 mixed:=by kernel_rfl
 f264:=Tryz.func182.trans (congrArg some (by kernel_rfl))
 t46:=Tryz.underlying193
 a46:=Tryz.isAgg193
 z46:=Tryz.sizeOf193
 v46:=Tryz.zeroValue193
 t53:=Tryz.underlying23
 a53:=Tryz.isAgg23
 z53:=Tryz.sizeOf23
 v53:=Tryz.zeroValue23}
open Go.RowKit Go.Lib in
theorem Tryz.bits_Mul64 (x y:Nat) (hx:x<18446744073709551616) (hy:y<18446744073709551616) (w:World):
  Calls Tryz.prog 182 #[.int .u64 x,.int .u64 y] w λ e w'=>e=.returned (.tuple #[.int .u64 ((x*y/18446744073709551616:Nat):Int),.int .u64 ((x*y%18446744073709551616:Nat):Int)])∧w'=w:=Any.bits_Mul64 Tryz.lays264 x y hx hy w
end Go.Proofs
namespace Go.Proofs.YtdighjgcnaajgaaGreat.gb
open Go.RowKit
def near (n:Int):Int:=if n<0 then 0 else if 1099511627776<n then 1099511627776 else n
theorem near_range (n:Int):0≤near n∧near n≤1099511627776:=by unfold near;split<;>(try split)<;>omega
theorem near_of (n:Int) (h0:0≤n) (h1:n≤1099511627776):near n=n:=by unfold near;split<;>(try split)<;>omega
theorem ret_int {k:IntKind} {a b:Int} (h:a=b):Ending.returned (.int k a)=.returned (.int k b):=by rw[h]
theorem ret_bool {a b:Bool} (h:a=b):Ending.returned (.bool a)=.returned (.bool b):=by rw[h]
set_option maxHeartbeats 400000 in
theorem rtop_any (w:World):Calls Tryz.prog 169 #[] w λ e w'=>e=.returned (.int .i64 1099511627776)∧w=w':=by
 go_enter Tryz.func169,Tryz.ntmps169
 go_wp2
 go_ret
 exact⟨rfl,rfl⟩
set_option maxHeartbeats 400000 in
theorem rnear_any (n:Int) (w:World):Calls Tryz.prog 139 #[.int .i64 n] w λ e w'=>e=.returned (.int .i64 (near n))∧w=w':=by
 go_enter Tryz.func139,Tryz.ntmps139
 go_wp2_with (go_at_call 169;refine(rtop_any _).mono ?_;rintro e w' ⟨rfl,rfl⟩)
 all_goals go_ret
 all_goals exact⟨ret_int (by unfold near;(repeat' split at*)<;>omega),rfl⟩
set_option maxHeartbeats 400000 in
theorem radd_any (a b:Int) (w:World):Calls Tryz.prog 198 #[.int .i64 a,.int .i64 b] w λ e w'=>e=.returned (.int .i64 (near (near a+near b)))∧w=w':=by
 have ha:=near_range a
 have hb:=near_range b
 go_enter Tryz.func198,Tryz.ntmps198
 go_wp2_with (go_at_call 139;refine(rnear_any _ _).mono ?_;rintro e w' ⟨rfl,rfl⟩)
 go_ret
 exact⟨rfl,rfl⟩
theorem prod_range (x y:Int) (hx:0≤x∧x≤1099511627776) (hy:0≤y∧y≤1099511627776):0≤x*y∧x*y≤1208925819614629174706176:=
 ⟨Int.mul_nonneg hx.1 hy.1,by have:=Int.mul_le_mul hx.2 hy.2 hy.1 (by omega);omega⟩
theorem near_nonneg (n:Int) (h:0≤n):near n=if 1099511627776<n then 1099511627776 else n:=by unfold near;rw[if_neg (by omega)]
theorem seqB {w w1 w2:World} (h1:Below w.heap.size w w1) (h2:Below w1.heap.size w1 w2):Below w.heap.size w w2:=h1.trans (h2.mono h1.size)
theorem frozen_at {w:World} {g i:Nat} {cs:Array Value} {t:TypeId} (h:w.heap[g]?=some (.cells cs t (0,0))):w.frozen? ⟨g,i,none⟩=false:=by simp[World.frozen?,h]
theorem blk_lt {w:World} {g:Nat} {o:Obj} (h:w.heap[g]?=some o):g<w.heap.size:=(Array.getElem?_eq_some_iff.1 h).1
theorem drewN_below (w:World) (m:Nat):Below w.heap.size w (w.drewN m):=⟨rfl,rfl,rfl,Nat.le_refl _,λ _ _=>rfl⟩
end Go.Proofs.YtdighjgcnaajgaaGreat.gb
namespace Go.Proofs.YtdighjgcnaajgaaGreat.gb
open Go.RowKit
set_option maxHeartbeats 800000 in
theorem of_any (n:Int) (h0:0≤n) (h1:n≤1099511627776) (w:World):Calls Tryz.prog 221 #[.int .i64 n] w λ e w'=>e=.returned (.agg #[.int .i64 (n%1048576),.int .i64 (n/1048576%1048576),.int .i64 (n/1099511627776),.int .i64 0])∧Below w.heap.size w w':=by
 go_enter Tryz.func221,Tryz.ntmps221
 go_wp2_with fail
 exact bodyPost_ret (v:=.agg #[.int .i64 (n%1048576),.int .i64 (n/1048576%1048576),.int .i64 (n/1099511627776),.int .i64 0]) (by simp[results,Tryz.results221,go_sem]) rfl ⟨rfl,(Below.refl _ _).alloc (Nat.le_refl _) _⟩
def sumTo (a0 a1 a2 b0 b1 b2:Int):Nat→Int
 |0=>0
 |1=>a0*b0
 |2=>a0*b0+a0*b1*1048576
 |3=>a0*b0+a0*b1*1048576+a0*b2*1099511627776
 |4=>a0*b0+a0*b1*1048576+a0*b2*1099511627776+a1*b0*1048576
 |5=>a0*b0+a0*b1*1048576+a0*b2*1099511627776+a1*b0*1048576+a1*b1*1099511627776
 |6=>a0*b0+a0*b1*1048576+a0*b2*1099511627776+a1*b0*1048576+a1*b1*1099511627776+a1*b2*1152921504606846976
 |7=>a0*b0+a0*b1*1048576+a0*b2*1099511627776+a1*b0*1048576+a1*b1*1099511627776+a1*b2*1152921504606846976+a2*b0*1099511627776
 |8=>a0*b0+a0*b1*1048576+a0*b2*1099511627776+a1*b0*1048576+a1*b1*1099511627776+a1*b2*1152921504606846976+a2*b0*1099511627776+a2*b1*1152921504606846976
 |_=>a0*b0+a0*b1*1048576+a0*b2*1099511627776+a1*b0*1048576+a1*b1*1099511627776+a1*b2*1152921504606846976+a2*b0*1099511627776+a2*b1*1152921504606846976+a2*b2*1208925819614629174706176
def val6 (o0 o1 o2 o3 o4 o5:Int):Int:=o0+o1*1048576+o2*1099511627776+o3*1152921504606846976+o4*1208925819614629174706176+o5*1267650600228229401496703205376
def wTimes (w:World) (a0 a1 a2 b0 b1 b2 o0 o1 o2 o3 o4 o5:Int):World:=
 (((w.alloc (.cells #[.int .i64 a0,.int .i64 a1,.int .i64 a2,.int .i64 0] 275)).alloc (.cells #[.int .i64 b0,.int .i64 b1,.int .i64 b2,.int .i64 0] 275)).alloc (.cells #[.int .i64 0,.int .i64 0,.int .i64 0,.int .i64 0,.int .i64 0,.int .i64 0] 273)).alloc (.cells #[.int .i64 o0,.int .i64 o1,.int .i64 o2,.int .i64 o3,.int .i64 o4,.int .i64 o5] 273)
theorem set_drewN (w:World) (m:Nat) (a:Addr) (v:Value):(w.drewN m).setCell a v=(w.setCell a v).drewN m:=rfl
theorem set_out (w:World) (cs:Array Value) (t:TypeId) (n j:Nat) (v:Value) (m:Nat) (hn:n=w.heap.size):((w.alloc (.cells cs t)).drewN m).setCell ⟨n,j,none⟩ v=(w.alloc (.cells (cs.setIfInBounds j v) t)).drewN m:=by
 rw[set_drewN,World.setCell_alloc_at _ _ _ _ _ hn]
def TimesPost (a0 a1 a2 b0 b1 b2:Int) (w:World) (e:Ending) (w':World):Prop:=
 ∃o0 o1 o2 o3 o4 o5:Int,e=.returned (.agg #[.int .i64 o0,.int .i64 o1,.int .i64 o2,.int .i64 o3,.int .i64 o4,.int .i64 o5])∧val6 o0 o1 o2 o3 o4 o5=sumTo a0 a1 a2 b0 b1 b2 9∧
  (o0<1048576∧o1<1048576∧o2<1048576∧o3<1048576∧o4<1048576)∧(0≤o0∧0≤o1∧0≤o2∧0≤o3∧0≤o4∧0≤o5)∧Below w.heap.size w w'
set_option maxHeartbeats 4000000 in
theorem times_any (a0 a1 a2 b0 b1 b2:Int) (w:World)
  (p00:0≤a0*b0∧a0*b0≤1099511627776) (p01:0≤a0*b1∧a0*b1≤1099511627776) (p02:0≤a0*b2∧a0*b2≤1099511627776)
  (p10:0≤a1*b0∧a1*b0≤1099511627776) (p11:0≤a1*b1∧a1*b1≤1099511627776) (p12:0≤a1*b2∧a1*b2≤1099511627776)
  (p20:0≤a2*b0∧a2*b0≤1099511627776) (p21:0≤a2*b1∧a2*b1≤1099511627776) (p22:0≤a2*b2∧a2*b2≤1099511627776):
  Calls Tryz.prog 220 #[.agg #[.int .i64 a0,.int .i64 a1,.int .i64 a2,.int .i64 0],.agg #[.int .i64 b0,.int .i64 b1,.int .i64 b2,.int .i64 0]] w (TimesPost a0 a1 a2 b0 b1 b2 w):=by
 go_enter Tryz.func220,Tryz.ntmps220
 go_wp2_with fail
 go_loopw [6] (λ i w'=>∃(n m:Nat) (z o0 o1 o2 o3 o4 o5:Int),n≤3∧z=n∧i=.int .i64 z∧w'=(wTimes w a0 a1 a2 b0 b1 b2 o0 o1 o2 o3 o4 o5).drewN m∧
   (0≤o0∧o0≤z*4000000000000)∧(0≤o1∧o1≤z*4000000000000)∧(0≤o2∧o2≤z*4000000000000)∧(0≤o3∧o3≤z*4000000000000)∧(0≤o4∧o4≤z*4000000000000)∧(0≤o5∧o5≤z*4000000000000)∧Hid (val6 o0 o1 o2 o3 o4 o5=sumTo a0 a1 a2 b0 b1 b2 (3*n))) (λ i _=>3 -(intOf i).toNat)
 case atStart=>exact⟨0,0,0,0,0,0,0,0,0,by omega,rfl,rfl,rfl,by omega,by omega,by omega,by omega,by omega,by omega,rfl⟩
 case round=>
  obtain⟨n,m,z,o0,o1,o2,o3,o4,o5,hn,hz,rfl,rfl,r0,r1,r2,r3,r4,r5,HV⟩:=hrel
  have hn:n=0∨n=1∨n=2∨n=3:=by omega
  unfold wTimes
  rcases hn with rfl|rfl|rfl|rfl
  ·obtain rfl:z=0:=hz
   go_wp2_with fail
   go_loopw [7] (λ k w'=>∃(q m:Nat) (y o0 o1 o2 o3 o4 o5:Int),q≤3∧y=q∧k=.int .i64 y∧w'=(wTimes w a0 a1 a2 b0 b1 b2 o0 o1 o2 o3 o4 o5).drewN m∧
    (0≤o0∧o0≤0*4000000000000+y*1200000000000)∧(0≤o1∧o1≤0*4000000000000+y*1200000000000)∧(0≤o2∧o2≤0*4000000000000+y*1200000000000)∧(0≤o3∧o3≤0*4000000000000+y*1200000000000)∧(0≤o4∧o4≤0*4000000000000+y*1200000000000)∧(0≤o5∧o5≤0*4000000000000+y*1200000000000)∧Hid (val6 o0 o1 o2 o3 o4 o5=sumTo a0 a1 a2 b0 b1 b2 (3*0+q))) (λ k _=>3 -(intOf k).toNat)
   case atStart=>exact⟨0,_,0,_,_,_,_,_,_,by omega,rfl,rfl,rfl,by omega,by omega,by omega,by omega,by omega,by omega,HV.out⟩
   case round=>
    clear r0 r1 r2 r3 r4 r5 HV
    obtain⟨q,m,y,o0,o1,o2,o3,o4,o5,hq,hy,rfl,rfl,r0,r1,r2,r3,r4,r5,HV⟩:=hrel
    have hq:q=0∨q=1∨q=2∨q=3:=by omega
    unfold wTimes
    rcases hq with rfl|rfl|rfl|rfl
    ·obtain rfl:y=0:=hy
     have HV':=Lib.hid (show val6 (o0+a0*b0) o1 o2 o3 o4 o5=sumTo a0 a1 a2 b0 b1 b2 (3*0+0+1) by have:=HV.out;simp only[val6,sumTo]at*;omega)
     go_wp2_with fail
     go_region
     all_goals go_wp2_with fail
     all_goals go_roundw
     case rel=>exact⟨1,_,1,_,_,_,_,_,_,by omega,rfl,rfl,(set_out _ _ _ _ _ _ _ (by simp)).trans rfl,by omega,by omega,by omega,by omega,by omega,by omega,HV'.out⟩
     case measure=>simp[intOf]
    ·obtain rfl:y=1:=hy
     have HV':=Lib.hid (show val6 o0 (o1+a0*b1) o2 o3 o4 o5=sumTo a0 a1 a2 b0 b1 b2 (3*0+1+1) by have:=HV.out;simp only[val6,sumTo]at*;omega)
     go_wp2_with fail
     go_region
     all_goals go_wp2_with fail
     all_goals go_roundw
     case rel=>exact⟨2,_,2,_,_,_,_,_,_,by omega,rfl,rfl,(set_out _ _ _ _ _ _ _ (by simp)).trans rfl,by omega,by omega,by omega,by omega,by omega,by omega,HV'.out⟩
     case measure=>simp[intOf]
    ·obtain rfl:y=2:=hy
     have HV':=Lib.hid (show val6 o0 o1 (o2+a0*b2) o3 o4 o5=sumTo a0 a1 a2 b0 b1 b2 (3*0+2+1) by have:=HV.out;simp only[val6,sumTo]at*;omega)
     go_wp2_with fail
     go_region
     all_goals go_wp2_with fail
     all_goals go_roundw
     case rel=>exact⟨3,_,3,_,_,_,_,_,_,by omega,rfl,rfl,(set_out _ _ _ _ _ _ _ (by simp)).trans rfl,by omega,by omega,by omega,by omega,by omega,by omega,HV'.out⟩
     case measure=>simp[intOf]
    ·obtain rfl:y=3:=hy
     go_wp2_with fail
     go_roundw
     case rel=>exact⟨1,_,1,_,_,_,_,_,_,by omega,rfl,rfl,rfl,by omega,by omega,by omega,by omega,by omega,by omega,HV.out⟩
     case measure=>simp[intOf]
  ·obtain rfl:z=1:=hz
   go_wp2_with fail
   go_loopw [7] (λ k w'=>∃(q m:Nat) (y o0 o1 o2 o3 o4 o5:Int),q≤3∧y=q∧k=.int .i64 y∧w'=(wTimes w a0 a1 a2 b0 b1 b2 o0 o1 o2 o3 o4 o5).drewN m∧
    (0≤o0∧o0≤1*4000000000000+y*1200000000000)∧(0≤o1∧o1≤1*4000000000000+y*1200000000000)∧(0≤o2∧o2≤1*4000000000000+y*1200000000000)∧(0≤o3∧o3≤1*4000000000000+y*1200000000000)∧(0≤o4∧o4≤1*4000000000000+y*1200000000000)∧(0≤o5∧o5≤1*4000000000000+y*1200000000000)∧Hid (val6 o0 o1 o2 o3 o4 o5=sumTo a0 a1 a2 b0 b1 b2 (3*1+q))) (λ k _=>3 -(intOf k).toNat)
   case atStart=>exact⟨0,_,0,_,_,_,_,_,_,by omega,rfl,rfl,rfl,by omega,by omega,by omega,by omega,by omega,by omega,HV.out⟩
   case round=>
    clear r0 r1 r2 r3 r4 r5 HV
    obtain⟨q,m,y,o0,o1,o2,o3,o4,o5,hq,hy,rfl,rfl,r0,r1,r2,r3,r4,r5,HV⟩:=hrel
    have hq:q=0∨q=1∨q=2∨q=3:=by omega
    unfold wTimes
    rcases hq with rfl|rfl|rfl|rfl
    ·obtain rfl:y=0:=hy
     have HV':=Lib.hid (show val6 o0 (o1+a1*b0) o2 o3 o4 o5=sumTo a0 a1 a2 b0 b1 b2 (3*1+0+1) by have:=HV.out;simp only[val6,sumTo]at*;omega)
     go_wp2_with fail
     go_region
     all_goals go_wp2_with fail
     all_goals go_roundw
     case rel=>exact⟨1,_,1,_,_,_,_,_,_,by omega,rfl,rfl,(set_out _ _ _ _ _ _ _ (by simp)).trans rfl,by omega,by omega,by omega,by omega,by omega,by omega,HV'.out⟩
     case measure=>simp[intOf]
    ·obtain rfl:y=1:=hy
     have HV':=Lib.hid (show val6 o0 o1 (o2+a1*b1) o3 o4 o5=sumTo a0 a1 a2 b0 b1 b2 (3*1+1+1) by have:=HV.out;simp only[val6,sumTo]at*;omega)
     go_wp2_with fail
     go_region
     all_goals go_wp2_with fail
     all_goals go_roundw
     case rel=>exact⟨2,_,2,_,_,_,_,_,_,by omega,rfl,rfl,(set_out _ _ _ _ _ _ _ (by simp)).trans rfl,by omega,by omega,by omega,by omega,by omega,by omega,HV'.out⟩
     case measure=>simp[intOf]
    ·obtain rfl:y=2:=hy
     have HV':=Lib.hid (show val6 o0 o1 o2 (o3+a1*b2) o4 o5=sumTo a0 a1 a2 b0 b1 b2 (3*1+2+1) by have:=HV.out;simp only[val6,sumTo]at*;omega)
     go_wp2_with fail
     go_region
     all_goals go_wp2_with fail
     all_goals go_roundw
     case rel=>exact⟨3,_,3,_,_,_,_,_,_,by omega,rfl,rfl,(set_out _ _ _ _ _ _ _ (by simp)).trans rfl,by omega,by omega,by omega,by omega,by omega,by omega,HV'.out⟩
     case measure=>simp[intOf]
    ·obtain rfl:y=3:=hy
     go_wp2_with fail
     go_roundw
     case rel=>exact⟨2,_,2,_,_,_,_,_,_,by omega,rfl,rfl,rfl,by omega,by omega,by omega,by omega,by omega,by omega,HV.out⟩
     case measure=>simp[intOf]
  ·obtain rfl:z=2:=hz
   go_wp2_with fail
   go_loopw [7] (λ k w'=>∃(q m:Nat) (y o0 o1 o2 o3 o4 o5:Int),q≤3∧y=q∧k=.int .i64 y∧w'=(wTimes w a0 a1 a2 b0 b1 b2 o0 o1 o2 o3 o4 o5).drewN m∧
    (0≤o0∧o0≤2*4000000000000+y*1200000000000)∧(0≤o1∧o1≤2*4000000000000+y*1200000000000)∧(0≤o2∧o2≤2*4000000000000+y*1200000000000)∧(0≤o3∧o3≤2*4000000000000+y*1200000000000)∧(0≤o4∧o4≤2*4000000000000+y*1200000000000)∧(0≤o5∧o5≤2*4000000000000+y*1200000000000)∧Hid (val6 o0 o1 o2 o3 o4 o5=sumTo a0 a1 a2 b0 b1 b2 (3*2+q))) (λ k _=>3 -(intOf k).toNat)
   case atStart=>exact⟨0,_,0,_,_,_,_,_,_,by omega,rfl,rfl,rfl,by omega,by omega,by omega,by omega,by omega,by omega,HV.out⟩
   case round=>
    clear r0 r1 r2 r3 r4 r5 HV
    obtain⟨q,m,y,o0,o1,o2,o3,o4,o5,hq,hy,rfl,rfl,r0,r1,r2,r3,r4,r5,HV⟩:=hrel
    have hq:q=0∨q=1∨q=2∨q=3:=by omega
    unfold wTimes
    rcases hq with rfl|rfl|rfl|rfl
    ·obtain rfl:y=0:=hy
     have HV':=Lib.hid (show val6 o0 o1 (o2+a2*b0) o3 o4 o5=sumTo a0 a1 a2 b0 b1 b2 (3*2+0+1) by have:=HV.out;simp only[val6,sumTo]at*;omega)
     go_wp2_with fail
     go_region
     all_goals go_wp2_with fail
     all_goals go_roundw
     case rel=>exact⟨1,_,1,_,_,_,_,_,_,by omega,rfl,rfl,(set_out _ _ _ _ _ _ _ (by simp)).trans rfl,by omega,by omega,by omega,by omega,by omega,by omega,HV'.out⟩
     case measure=>simp[intOf]
    ·obtain rfl:y=1:=hy
     have HV':=Lib.hid (show val6 o0 o1 o2 (o3+a2*b1) o4 o5=sumTo a0 a1 a2 b0 b1 b2 (3*2+1+1) by have:=HV.out;simp only[val6,sumTo]at*;omega)
     go_wp2_with fail
     go_region
     all_goals go_wp2_with fail
     all_goals go_roundw
     case rel=>exact⟨2,_,2,_,_,_,_,_,_,by omega,rfl,rfl,(set_out _ _ _ _ _ _ _ (by simp)).trans rfl,by omega,by omega,by omega,by omega,by omega,by omega,HV'.out⟩
     case measure=>simp[intOf]
    ·obtain rfl:y=2:=hy
     have HV':=Lib.hid (show val6 o0 o1 o2 o3 (o4+a2*b2) o5=sumTo a0 a1 a2 b0 b1 b2 (3*2+2+1) by have:=HV.out;simp only[val6,sumTo]at*;omega)
     go_wp2_with fail
     go_region
     all_goals go_wp2_with fail
     all_goals go_roundw
     case rel=>exact⟨3,_,3,_,_,_,_,_,_,by omega,rfl,rfl,(set_out _ _ _ _ _ _ _ (by simp)).trans rfl,by omega,by omega,by omega,by omega,by omega,by omega,HV'.out⟩
     case measure=>simp[intOf]
    ·obtain rfl:y=3:=hy
     go_wp2_with fail
     go_roundw
     case rel=>exact⟨3,_,3,_,_,_,_,_,_,by omega,rfl,rfl,rfl,by omega,by omega,by omega,by omega,by omega,by omega,HV.out⟩
     case measure=>simp[intOf]
  ·obtain rfl:z=3:=hz
   go_wp2_with fail
   go_loopw [8] (λ k w'=>∃(q m:Nat) (y o0 o1 o2 o3 o4 o5:Int),q≤5∧y=q∧k=.int .i64 y∧w'=(wTimes w a0 a1 a2 b0 b1 b2 o0 o1 o2 o3 o4 o5).drewN m∧
    (0≤o0∧o0≤13000000000000+y*14000000)∧(0≤o1∧o1≤13000000000000+y*14000000)∧(0≤o2∧o2≤13000000000000+y*14000000)∧(0≤o3∧o3≤13000000000000+y*14000000)∧(0≤o4∧o4≤13000000000000+y*14000000)∧(0≤o5∧o5≤13000000000000+y*14000000)∧Hid (val6 o0 o1 o2 o3 o4 o5=sumTo a0 a1 a2 b0 b1 b2 9)∧Hid ((0<q→o0<1048576)∧(1<q→o1<1048576)∧(2<q→o2<1048576)∧(3<q→o3<1048576)∧(4<q→o4<1048576))) (λ k _=>5 -(intOf k).toNat)
   case atStart=>exact⟨0,_,0,_,_,_,_,_,_,by omega,rfl,rfl,rfl,by omega,by omega,by omega,by omega,by omega,by omega,HV.out,by refine⟨?_,?_,?_,?_,?_⟩<;>(intro h;omega)⟩
   case round=>
    clear r0 r1 r2 r3 r4 r5 HV
    obtain⟨q,m,y,o0,o1,o2,o3,o4,o5,hq,hy,rfl,rfl,r0,r1,r2,r3,r4,r5,HV,HC⟩:=hrel
    have hq:q=0∨q=1∨q=2∨q=3∨q=4∨q=5:=by omega
    unfold wTimes
    rcases hq with rfl|rfl|rfl|rfl|rfl|rfl
    ·obtain rfl:y=0:=hy
     have HV':=Lib.hid (show val6 (o0%1048576) (o1+o0/1048576) o2 o3 o4 o5=sumTo a0 a1 a2 b0 b1 b2 9 by have:=HV.out;simp only[val6]at*;omega)
     go_wp2_with fail
     go_region
     all_goals rw[set_out _ _ _ _ _ _ _ (by simp)]
     all_goals simp only[List.setIfInBounds_toArray,List.set]
     all_goals go_wp2_with fail
     all_goals go_roundw
     case rel=>exact⟨1,_,1,_,_,_,_,_,_,by omega,rfl,rfl,(set_out _ _ _ _ _ _ _ (by simp)).trans rfl,by omega,by omega,by omega,by omega,by omega,by omega,HV'.out,by have:=HC.out;refine⟨?_,?_,?_,?_,?_⟩<;>(intro h;omega)⟩
     case measure=>simp[intOf]
    ·obtain rfl:y=1:=hy
     have HV':=Lib.hid (show val6 o0 (o1%1048576) (o2+o1/1048576) o3 o4 o5=sumTo a0 a1 a2 b0 b1 b2 9 by have:=HV.out;simp only[val6]at*;omega)
     go_wp2_with fail
     go_region
     all_goals rw[set_out _ _ _ _ _ _ _ (by simp)]
     all_goals simp only[List.setIfInBounds_toArray,List.set]
     all_goals go_wp2_with fail
     all_goals go_roundw
     case rel=>exact⟨2,_,2,_,_,_,_,_,_,by omega,rfl,rfl,(set_out _ _ _ _ _ _ _ (by simp)).trans rfl,by omega,by omega,by omega,by omega,by omega,by omega,HV'.out,by have:=HC.out;refine⟨?_,?_,?_,?_,?_⟩<;>(intro h;omega)⟩
     case measure=>simp[intOf]
    ·obtain rfl:y=2:=hy
     have HV':=Lib.hid (show val6 o0 o1 (o2%1048576) (o3+o2/1048576) o4 o5=sumTo a0 a1 a2 b0 b1 b2 9 by have:=HV.out;simp only[val6]at*;omega)
     go_wp2_with fail
     go_region
     all_goals rw[set_out _ _ _ _ _ _ _ (by simp)]
     all_goals simp only[List.setIfInBounds_toArray,List.set]
     all_goals go_wp2_with fail
     all_goals go_roundw
     case rel=>exact⟨3,_,3,_,_,_,_,_,_,by omega,rfl,rfl,(set_out _ _ _ _ _ _ _ (by simp)).trans rfl,by omega,by omega,by omega,by omega,by omega,by omega,HV'.out,by have:=HC.out;refine⟨?_,?_,?_,?_,?_⟩<;>(intro h;omega)⟩
     case measure=>simp[intOf]
    ·obtain rfl:y=3:=hy
     have HV':=Lib.hid (show val6 o0 o1 o2 (o3%1048576) (o4+o3/1048576) o5=sumTo a0 a1 a2 b0 b1 b2 9 by have:=HV.out;simp only[val6]at*;omega)
     go_wp2_with fail
     go_region
     all_goals rw[set_out _ _ _ _ _ _ _ (by simp)]
     all_goals simp only[List.setIfInBounds_toArray,List.set]
     all_goals go_wp2_with fail
     all_goals go_roundw
     case rel=>exact⟨4,_,4,_,_,_,_,_,_,by omega,rfl,rfl,(set_out _ _ _ _ _ _ _ (by simp)).trans rfl,by omega,by omega,by omega,by omega,by omega,by omega,HV'.out,by have:=HC.out;refine⟨?_,?_,?_,?_,?_⟩<;>(intro h;omega)⟩
     case measure=>simp[intOf]
    ·obtain rfl:y=4:=hy
     have HV':=Lib.hid (show val6 o0 o1 o2 o3 (o4%1048576) (o5+o4/1048576)=sumTo a0 a1 a2 b0 b1 b2 9 by have:=HV.out;simp only[val6]at*;omega)
     go_wp2_with fail
     go_region
     all_goals rw[set_out _ _ _ _ _ _ _ (by simp)]
     all_goals simp only[List.setIfInBounds_toArray,List.set]
     all_goals go_wp2_with fail
     all_goals go_roundw
     case rel=>exact⟨5,_,5,_,_,_,_,_,_,by omega,rfl,rfl,(set_out _ _ _ _ _ _ _ (by simp)).trans rfl,by omega,by omega,by omega,by omega,by omega,by omega,HV'.out,by have:=HC.out;refine⟨?_,?_,?_,?_,?_⟩<;>(intro h;omega)⟩
     case measure=>simp[intOf]
    ·obtain rfl:y=5:=hy
     have hc:=HC.out
     have hd:o0<1048576∧o1<1048576∧o2<1048576∧o3<1048576∧o4<1048576:=⟨hc.1 (by omega),hc.2.1 (by omega),hc.2.2.1 (by omega),hc.2.2.2.1 (by omega),hc.2.2.2.2 (by omega)⟩
     clear hc
     go_wp2_with fail
     simp only[set_drewN]
     refine bodyPost_ret (v:=.agg #[.int .i64 o0,.int .i64 o1,.int .i64 o2,.int .i64 o3,.int .i64 o4,.int .i64 o5]) (by simp[results,Tryz.results220,go_sem]) rfl ⟨o0,o1,o2,o3,o4,o5,rfl,HV.out,hd,⟨r0.1,r1.1,r2.1,r3.1,r4.1,r5.1⟩,?_⟩
     refine below_drewN ?_ m
     repeat (refine Below.setCell ?_ (by simp;omega) _)
     exact((((Below.refl _ _).alloc (Nat.le_refl _) _).alloc (by simp) _).alloc (by simp;omega) _).alloc (by simp;omega) _
end Go.Proofs.YtdighjgcnaajgaaGreat.gb
namespace Go.Proofs.YtdighjgcnaajgaaGreat.gb
open Go.RowKit
def throughF (v c:Int):Int:=if v/c≤1099511627776 then v/c else 1099511627776
def pv (d0 d1 d2 d3 d4 d5:Int):Nat→Int
 |0=>(((((d5*1048576+d4)*1048576+d3)*1048576+d2)*1048576+d1)*1048576+d0)
 |1=>((((d5*1048576+d4)*1048576+d3)*1048576+d2)*1048576+d1)
 |2=>(((d5*1048576+d4)*1048576+d3)*1048576+d2)
 |3=>((d5*1048576+d4)*1048576+d3)
 |4=>(d5*1048576+d4)
 |5=>d5
 |_=>0
theorem pv_le (d0 d1 d2 d3 d4 d5:Int) (h:0≤d0∧0≤d1∧0≤d2∧0≤d3∧0≤d4∧0≤d5) (n:Nat):0≤pv d0 d1 d2 d3 d4 d5 n∧pv d0 d1 d2 d3 d4 d5 n≤pv d0 d1 d2 d3 d4 d5 0:=by
 match n with
 |0|1|2|3|4|5=>simp only[pv];omega
 |n+6=>simp only[pv];omega
theorem div_of (p c q r:Int) (hc:1≤c) (h:p=q*c+r) (h0:0≤r) (h1:r<c):p/c=q:=by
 rw[h,Int.add_comm,Int.add_mul_ediv_right _ _ (by omega),Int.ediv_eq_zero_of_lt h0 h1];omega
theorem step_div (p q r c d:Int) (h:p=q*c+r):p*1048576+d=(q*1048576+(r*1048576+d)/c)*c+(r*1048576+d)%c:=by
 have e:=Int.mul_ediv_add_emod (r*1048576+d) c
 rw[Int.add_mul,h,Int.add_mul]
 have e2:q*c*1048576=q*1048576*c:=by rw[Int.mul_assoc,Int.mul_comm c,Int.mul_assoc]
 rw[Int.mul_comm c]at e
 omega
theorem over_top (v p c q r:Int) (hc:1≤c) (h:p=q*c+r) (h0:0≤r) (h1:r<c) (hv:p≤v) (hq:1099511627776<q):throughF v c=1099511627776:=by
 unfold throughF
 rw[if_neg]
 have:=div_of p c q r hc h h0 h1
 have:=Int.ediv_le_ediv (show 0<c by omega) hv
 omega
theorem end_top (v c q r:Int) (hc:1≤c) (h:v=q*c+r) (h0:0≤r) (h1:r<c) (hq:q≤1099511627776):throughF v c=q:=by
 unfold throughF
 rw[div_of v c q r hc h h0 h1,if_pos hq]
set_option maxRecDepth 100000 in
set_option maxHeartbeats 4000000 in
theorem through_any (d0 d1 d2 d3 d4 d5 c:Int) (hd:d0<1048576∧d1<1048576∧d2<1048576∧d3<1048576∧d4<1048576) (hd0:0≤d0∧0≤d1∧0≤d2∧0≤d3∧0≤d4∧0≤d5) (h5:d5<1048576) (hc:1≤c) (hc1:c≤1099511627776) (w:World):
  Calls Tryz.prog 219 #[.agg #[.int .i64 d0,.int .i64 d1,.int .i64 d2,.int .i64 d3,.int .i64 d4,.int .i64 d5],.int .i64 c] w λ e w'=>e=.returned (.int .i64 (throughF (pv d0 d1 d2 d3 d4 d5 0) c))∧Below w.heap.size w w':=by
 have c0:(c==0)=false:=by simp;omega
 have HP:=Lib.hid (pv_le d0 d1 d2 d3 d4 d5 hd0)
 go_enter Tryz.func219,Tryz.ntmps219
 go_wp2_with fail
 go_loop [5,6,7] (λ o r i=>∃(n:Nat) (y out rest:Int),n≤6∧y=(n:Int) -1∧i=.int .i64 y∧o=.int .i64 out∧r=.int .i64 rest∧0≤rest∧rest<c∧0≤out∧out≤1099511627776∧Hid (pv d0 d1 d2 d3 d4 d5 n=out*c+rest)) (λ _ _ i=>(intOf i+1).toNat)
 case atStart=>exact⟨6,5,0,0,by omega,by omega,rfl,rfl,rfl,by omega,by omega,by omega,by omega,by show(0:Int)=0*c+0;omega⟩
 case round=>
  obtain⟨n,y,out,rest,hn,hy,rfl,rfl,rfl,hr0,hr1,ho0,ho1,HV⟩:=hrel
  have hn:n=0∨n=1∨n=2∨n=3∨n=4∨n=5∨n=6:=by omega
  have q0:∀d,0≤d→0≤(rest*1048576+d)/c:=λ d h=>Int.ediv_nonneg (by omega) (by omega)
  have q1:∀d,d<1048576→(rest*1048576+d)/c<1048576:=λ d h=>Int.ediv_lt_of_lt_mul (by omega) (by omega)
  have m0:∀d,0≤(rest*1048576+d)%c:=λ d=>Int.emod_nonneg _ (by omega)
  have m1:∀d,(rest*1048576+d)%c<c:=λ d=>Int.emod_lt_of_pos _ (by omega)
  rcases hn with rfl|rfl|rfl|rfl|rfl|rfl|rfl
  ·obtain rfl:y= -1:=by omega
   clear hy
   have HE:=Lib.hid (end_top _ _ _ _ hc HV.out hr0 hr1 ho1)
   clear q0 q1 m0 m1 HV HP
   go_wp2_with fail
   go_ret
   exact⟨ret_int HE.out.symm,(Below.refl _ _).alloc (Nat.le_refl _) _⟩
  ·obtain rfl:y=0:=by omega
   clear hy
   have a1:=q0 d0 (by omega)
   have a2:=q1 d0 (by omega)
   have a3:=m0 d0
   have a4:=m1 d0
   have HS:=Lib.hid (show pv d0 d1 d2 d3 d4 d5 0=(out*1048576+(rest*1048576+d0)/c)*c+(rest*1048576+d0)%c by
    rw[show pv d0 d1 d2 d3 d4 d5 0=pv d0 d1 d2 d3 d4 d5 1*1048576+d0 by simp only[pv]<;>omega];exact step_div _ _ _ _ _ HV.out)
   clear q0 q1 m0 m1 HV
   by_cases top:1099511627776<out*1048576+(rest*1048576+d0)/c
   ·have HE:=Lib.hid (over_top _ _ _ _ _ hc HS.out a3 a4 (HP.out 0).2 top)
    clear HS HP
    go_wp2_with (go_at_call 169;refine(rtop_any _).mono ?_;rintro e w' ⟨rfl,rfl⟩)
    go_ret
    exact⟨ret_int HE.out.symm,(Below.refl _ _).alloc (Nat.le_refl _) _⟩
   ·clear HP
    go_wp2_with (go_at_call 169;refine(rtop_any _).mono ?_;rintro e w' ⟨rfl,rfl⟩)
    go_round
    case rel=>exact⟨0,-1,_,_,by omega,by omega,rfl,rfl,rfl,a3,a4,by omega,by omega,HS.out⟩
    case measure=>simp[intOf]
  ·obtain rfl:y=1:=by omega
   clear hy
   have a1:=q0 d1 (by omega)
   have a2:=q1 d1 (by omega)
   have a3:=m0 d1
   have a4:=m1 d1
   have HS:=Lib.hid (show pv d0 d1 d2 d3 d4 d5 1=(out*1048576+(rest*1048576+d1)/c)*c+(rest*1048576+d1)%c by
    rw[show pv d0 d1 d2 d3 d4 d5 1=pv d0 d1 d2 d3 d4 d5 2*1048576+d1 by simp only[pv]<;>omega];exact step_div _ _ _ _ _ HV.out)
   clear q0 q1 m0 m1 HV
   by_cases top:1099511627776<out*1048576+(rest*1048576+d1)/c
   ·have HE:=Lib.hid (over_top _ _ _ _ _ hc HS.out a3 a4 (HP.out 1).2 top)
    clear HS HP
    go_wp2_with (go_at_call 169;refine(rtop_any _).mono ?_;rintro e w' ⟨rfl,rfl⟩)
    go_ret
    exact⟨ret_int HE.out.symm,(Below.refl _ _).alloc (Nat.le_refl _) _⟩
   ·clear HP
    go_wp2_with (go_at_call 169;refine(rtop_any _).mono ?_;rintro e w' ⟨rfl,rfl⟩)
    go_round
    case rel=>exact⟨1,0,_,_,by omega,by omega,rfl,rfl,rfl,a3,a4,by omega,by omega,HS.out⟩
    case measure=>simp[intOf]
  ·obtain rfl:y=2:=by omega
   clear hy
   have a1:=q0 d2 (by omega)
   have a2:=q1 d2 (by omega)
   have a3:=m0 d2
   have a4:=m1 d2
   have HS:=Lib.hid (show pv d0 d1 d2 d3 d4 d5 2=(out*1048576+(rest*1048576+d2)/c)*c+(rest*1048576+d2)%c by
    rw[show pv d0 d1 d2 d3 d4 d5 2=pv d0 d1 d2 d3 d4 d5 3*1048576+d2 by simp only[pv]<;>omega];exact step_div _ _ _ _ _ HV.out)
   clear q0 q1 m0 m1 HV
   by_cases top:1099511627776<out*1048576+(rest*1048576+d2)/c
   ·have HE:=Lib.hid (over_top _ _ _ _ _ hc HS.out a3 a4 (HP.out 2).2 top)
    clear HS HP
    go_wp2_with (go_at_call 169;refine(rtop_any _).mono ?_;rintro e w' ⟨rfl,rfl⟩)
    go_ret
    exact⟨ret_int HE.out.symm,(Below.refl _ _).alloc (Nat.le_refl _) _⟩
   ·clear HP
    go_wp2_with (go_at_call 169;refine(rtop_any _).mono ?_;rintro e w' ⟨rfl,rfl⟩)
    go_round
    case rel=>exact⟨2,1,_,_,by omega,by omega,rfl,rfl,rfl,a3,a4,by omega,by omega,HS.out⟩
    case measure=>simp[intOf]
  ·obtain rfl:y=3:=by omega
   clear hy
   have a1:=q0 d3 (by omega)
   have a2:=q1 d3 (by omega)
   have a3:=m0 d3
   have a4:=m1 d3
   have HS:=Lib.hid (show pv d0 d1 d2 d3 d4 d5 3=(out*1048576+(rest*1048576+d3)/c)*c+(rest*1048576+d3)%c by
    rw[show pv d0 d1 d2 d3 d4 d5 3=pv d0 d1 d2 d3 d4 d5 4*1048576+d3 by simp only[pv]<;>omega];exact step_div _ _ _ _ _ HV.out)
   clear q0 q1 m0 m1 HV
   by_cases top:1099511627776<out*1048576+(rest*1048576+d3)/c
   ·have HE:=Lib.hid (over_top _ _ _ _ _ hc HS.out a3 a4 (HP.out 3).2 top)
    clear HS HP
    go_wp2_with (go_at_call 169;refine(rtop_any _).mono ?_;rintro e w' ⟨rfl,rfl⟩)
    go_ret
    exact⟨ret_int HE.out.symm,(Below.refl _ _).alloc (Nat.le_refl _) _⟩
   ·clear HP
    go_wp2_with (go_at_call 169;refine(rtop_any _).mono ?_;rintro e w' ⟨rfl,rfl⟩)
    go_round
    case rel=>exact⟨3,2,_,_,by omega,by omega,rfl,rfl,rfl,a3,a4,by omega,by omega,HS.out⟩
    case measure=>simp[intOf]
  ·obtain rfl:y=4:=by omega
   clear hy
   have a1:=q0 d4 (by omega)
   have a2:=q1 d4 (by omega)
   have a3:=m0 d4
   have a4:=m1 d4
   have HS:=Lib.hid (show pv d0 d1 d2 d3 d4 d5 4=(out*1048576+(rest*1048576+d4)/c)*c+(rest*1048576+d4)%c by
    rw[show pv d0 d1 d2 d3 d4 d5 4=pv d0 d1 d2 d3 d4 d5 5*1048576+d4 by simp only[pv]<;>omega];exact step_div _ _ _ _ _ HV.out)
   clear q0 q1 m0 m1 HV
   by_cases top:1099511627776<out*1048576+(rest*1048576+d4)/c
   ·have HE:=Lib.hid (over_top _ _ _ _ _ hc HS.out a3 a4 (HP.out 4).2 top)
    clear HS HP
    go_wp2_with (go_at_call 169;refine(rtop_any _).mono ?_;rintro e w' ⟨rfl,rfl⟩)
    go_ret
    exact⟨ret_int HE.out.symm,(Below.refl _ _).alloc (Nat.le_refl _) _⟩
   ·clear HP
    go_wp2_with (go_at_call 169;refine(rtop_any _).mono ?_;rintro e w' ⟨rfl,rfl⟩)
    go_round
    case rel=>exact⟨4,3,_,_,by omega,by omega,rfl,rfl,rfl,a3,a4,by omega,by omega,HS.out⟩
    case measure=>simp[intOf]
  ·obtain rfl:y=5:=by omega
   clear hy
   have a1:=q0 d5 (by omega)
   have a2:=q1 d5 (by omega)
   have a3:=m0 d5
   have a4:=m1 d5
   have HS:=Lib.hid (show pv d0 d1 d2 d3 d4 d5 5=(out*1048576+(rest*1048576+d5)/c)*c+(rest*1048576+d5)%c by
    rw[show pv d0 d1 d2 d3 d4 d5 5=pv d0 d1 d2 d3 d4 d5 6*1048576+d5 by simp only[pv]<;>omega];exact step_div _ _ _ _ _ HV.out)
   clear q0 q1 m0 m1 HV
   by_cases top:1099511627776<out*1048576+(rest*1048576+d5)/c
   ·have HE:=Lib.hid (over_top _ _ _ _ _ hc HS.out a3 a4 (HP.out 5).2 top)
    clear HS HP
    go_wp2_with (go_at_call 169;refine(rtop_any _).mono ?_;rintro e w' ⟨rfl,rfl⟩)
    go_ret
    exact⟨ret_int HE.out.symm,(Below.refl _ _).alloc (Nat.le_refl _) _⟩
   ·clear HP
    go_wp2_with (go_at_call 169;refine(rtop_any _).mono ?_;rintro e w' ⟨rfl,rfl⟩)
    go_round
    case rel=>exact⟨5,4,_,_,by omega,by omega,rfl,rfl,rfl,a3,a4,by omega,by omega,HS.out⟩
    case measure=>simp[intOf]
theorem sum_prod (a0 a1 a2 b0 b1 b2:Int):sumTo a0 a1 a2 b0 b1 b2 9=(a0+a1*1048576+a2*1099511627776)*(b0+b1*1048576+b2*1099511627776):=by
 simp only[sumTo];grind
theorem digits_of (n:Int):n%1048576+n/1048576%1048576*1048576+n/1099511627776*1099511627776=n:=by omega
theorem pv_val (d0 d1 d2 d3 d4 d5:Int):pv d0 d1 d2 d3 d4 d5 0=val6 d0 d1 d2 d3 d4 d5:=by simp only[pv,val6];omega
theorem small_prod (x y:Int) (hx:0≤x∧x≤1048576) (hy:0≤y∧y≤1048576):0≤x*y∧x*y≤1099511627776:=
 ⟨Int.mul_nonneg hx.1 hy.1,by have:=Int.mul_le_mul hx.2 hy.2 hy.1 (by omega);omega⟩
def ProdPost (v:Int) (w:World) (e:Ending) (w':World):Prop:=
 ∃o0 o1 o2 o3 o4 o5:Int,e=.returned (.agg #[.int .i64 o0,.int .i64 o1,.int .i64 o2,.int .i64 o3,.int .i64 o4,.int .i64 o5])∧pv o0 o1 o2 o3 o4 o5 0=v∧
  (o0<1048576∧o1<1048576∧o2<1048576∧o3<1048576∧o4<1048576)∧(0≤o0∧0≤o1∧0≤o2∧0≤o3∧0≤o4∧0≤o5)∧o5<1048576∧Below w.heap.size w w'
theorem prod_any (x y:Int) (hx:0≤x∧x≤1099511627776) (hy:0≤y∧y≤1099511627776) (w:World):
  Calls Tryz.prog 220 #[.agg #[.int .i64 (x%1048576),.int .i64 (x/1048576%1048576),.int .i64 (x/1099511627776),.int .i64 0],.agg #[.int .i64 (y%1048576),.int .i64 (y/1048576%1048576),.int .i64 (y/1099511627776),.int .i64 0]] w (ProdPost (x*y) w):=by
 have x0:0≤x%1048576∧x%1048576≤1048576:=by omega
 have x1:0≤x/1048576%1048576∧x/1048576%1048576≤1048576:=by omega
 have x2:0≤x/1099511627776∧x/1099511627776≤1048576:=by omega
 have y0:0≤y%1048576∧y%1048576≤1048576:=by omega
 have y1:0≤y/1048576%1048576∧y/1048576%1048576≤1048576:=by omega
 have y2:0≤y/1099511627776∧y/1099511627776≤1048576:=by omega
 refine(times_any _ _ _ _ _ _ w (small_prod _ _ x0 y0) (small_prod _ _ x0 y1) (small_prod _ _ x0 y2) (small_prod _ _ x1 y0) (small_prod _ _ x1 y1) (small_prod _ _ x1 y2) (small_prod _ _ x2 y0) (small_prod _ _ x2 y1) (small_prod _ _ x2 y2)).mono ?_
 rintro e w' ⟨o0,o1,o2,o3,o4,o5,he,hv,hd,hn,hb⟩
 rw[sum_prod,digits_of x,digits_of y]at hv
 have hp:=prod_range x y hx hy
 refine⟨o0,o1,o2,o3,o4,o5,he,by rw[pv_val];exact hv,hd,hn,?_,hb⟩
 rw[←hv]at hp
 simp only[val6]at hp
 omega
theorem through_one (v:Int) (h:0≤v):throughF v 1=near v:=by
 unfold throughF;rw[Int.ediv_one,near_nonneg v h];split<;>split<;>omega
set_option maxHeartbeats 800000 in
theorem rmul_any (a b:Int) (w:World):Calls Tryz.prog 217 #[.int .i64 a,.int .i64 b] w λ e w'=>e=.returned (.int .i64 (near (near a*near b)))∧Below w.heap.size w w':=by
 have ha:=near_range a
 have hb:=near_range b
 have HT:=Lib.hid (through_one (near a*near b) (Int.mul_nonneg ha.1 hb.1))
 go_enter Tryz.func217,Tryz.ntmps217
 go_wp2_with fail
 refine(rnear_any _ _).mono ?_
 rintro e w' ⟨rfl,rfl⟩
 go_wp2_with fail
 refine(of_any _ ha.1 ha.2 _).mono ?_
 rintro e w1 ⟨rfl,hb1⟩
 have HB1:=Lib.hid hb1
 clear hb1
 go_wp2_with fail
 refine(rnear_any _ _).mono ?_
 rintro e w' ⟨rfl,rfl⟩
 go_wp2_with fail
 refine(of_any _ hb.1 hb.2 _).mono ?_
 rintro e w2 ⟨rfl,hb2⟩
 have HB2:=Lib.hid (HB1.out.trans (hb2.mono HB1.out.size))
 clear hb2 HB1
 go_wp2_with fail
 refine(prod_any _ _ ha hb _).mono ?_
 rintro e w3 ⟨o0,o1,o2,o3,o4,o5,rfl,hv,hd,hn,h5,hb3⟩
 have HB3:=Lib.hid (HB2.out.trans (hb3.mono HB2.out.size))
 have HV:=Lib.hid hv
 clear hb3 HB2 hv
 go_wp2_with fail
 refine(through_any _ _ _ _ _ _ 1 hd hn h5 (by omega) (by omega) _).mono ?_
 rintro e w4 ⟨rfl,hb4⟩
 have HB4:=Lib.hid (HB3.out.trans (hb4.mono HB3.out.size))
 clear hb4 HB3
 go_wp2_with fail
 go_ret
 exact⟨ret_int (by rw[HV.out,HT.out]),HB4.out⟩
end Go.Proofs.YtdighjgcnaajgaaGreat.gb
