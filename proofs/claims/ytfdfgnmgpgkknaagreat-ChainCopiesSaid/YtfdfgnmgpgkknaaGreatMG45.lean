import Derived.Test.YtfdfgnmgpgkknaaGreatMG41
import Derived.Test.YtfdfgnmgpgkknaaGreatMG42
import Derived.Test.YtfdfgnmgpgkknaaGreatMG44
set_option maxRecDepth 100000
set_option maxHeartbeats 8000000
open Go renaming heap_alloc_new→zo,bodyPost_ret→zk
open Go.RowKit.Below renaming refl→zh
open Nat renaming le_refl→zg
open Go.Proofs.Tryz renaming prog→zf
open Go.Lib renaming hid→zd
open Go.Proofs.Tryz
namespace Go.Proofs.YtfdfgnmgpgkknaaGreat
open Go.RowKit
attribute [local go_sem ↓] ZY ZD Xy Z3 Vi YA Xx Z2 Z4 YB
attribute [local go_sem] ZF Zu Z5 ZQ YF J7 okC okN okS Yk
def Jl (k:Ch) (x:Ans) (w:World) (e:Ending) (w':World):Prop:=∃n p c l,e=.returned (.tuple #[.agg (kC p n c k),.agg (ql x)])∧DAt w' p n c k l∧Below w.heap.size w w'
def opC (o:COp):Array Value:=#[.int .i64 o.kind,.int .i64 o.now,.int .i64 o.n,.string o.s,.string o.t.s,.int .i64 o.t.k,.bool o.t.up,.int .i64 o.t.o,.int .i64 o.t.a,.int .i64 o.t.b,.int .u64 o.seed]
def QM:Obj:=.cells #[.int .i64 0,.string ⟨#[]⟩,.int .i64 0] 40
theorem GW (w:World) (o:Obj):IsO ((w.alloc o).alloc QM) (w.heap.size+1):=by
 have h:IsO ((w.alloc o).alloc QM) (w.alloc o).heap.size:=⟨_,zo (w.alloc o) _,rfl⟩
 rwa[show(w.alloc o).heap.size=w.heap.size+1 by simp]at h
theorem Ao (w:World) (p:Option Addr) (n c:Nat) (k:Ch) (o:COp):∃W,(((w.alloc (.cells (kC p n c k) 31)).alloc (.cells (opC o) 38)).alloc Ji).alloc QM=W∧BAt 31 W w.heap.size (kC p n c k)∧BAt 38 W (w.heap.size+1) (opC o)∧
  IsC W (w.heap.size+1+1)∧IsO W (w.heap.size+1+1+1)∧Below w.heap.size w W∧w.heap.size+3<W.heap.size:=by
 obtain⟨h0,h1,h2⟩:=K9 w (.cells (kC p n c k) 31) (.cells (opC o) 38) Ji
 obtain⟨W3,hW3⟩:∃W3,((w.alloc (.cells (kC p n c k) 31)).alloc (.cells (opC o) 38)).alloc Ji=W3:=⟨_,rfl⟩
 have hs3:W3.heap.size=w.heap.size+3:=by rw[←hW3];simp
 have hb3:Below w.heap.size w W3:=by
  rw[←hW3]
  exact(((zh _ _).alloc (zg _) _).alloc (by simp) _).alloc (by simp;omega) _
 rw[hW3]at h0 h1 h2⊢
 have hb4:Below W3.heap.size W3 (W3.alloc QM):=(zh _ _).alloc (zg _) _
 have h3:IsO (W3.alloc QM) W3.heap.size:=⟨_,zo W3 _,rfl⟩
 rw[hs3]at h3
 have c2:IsC W3 (w.heap.size+2):=⟨_,h2,rfl⟩
 exact⟨_,rfl,BAt.on h0 hb4,BAt.on h1 hb4,c2.on hb4,h3,gb.seqB hb3 hb4,h3.lt⟩
theorem Je (w:World) (p:Option Addr) (n c:Nat) (k:Ch) (kd now N:Int) (s ts:ByteArray) (tk:Int) (tu:Bool) (tt ta tb seed:Int):∃W,(((w.alloc (.cells (kC p n c k) 31)).alloc (.cells #[.int .i64 kd,.int .i64 now,.int .i64 N,.string s,.string ts,.int .i64 tk,.bool tu,.int .i64 tt,.int .i64 ta,.int .i64 tb,.int .u64 seed] 38)).alloc (.cells #[.slice none 0 0,.int .i64 0,.int .i64 0,.bool false,.int .i64 0] 31)).alloc (.cells #[.int .i64 0,.string ⟨#[]⟩,.int .i64 0] 40)=W∧BAt 31 W w.heap.size (kC p n c k)∧BAt 38 W (w.heap.size+1) (opC ⟨kd,now,N,s,⟨ts,tk,tu,tt,ta,tb⟩,seed⟩)∧
  IsC W (w.heap.size+1+1)∧IsO W (w.heap.size+1+1+1)∧Below w.heap.size w W∧w.heap.size+3<W.heap.size:=Ao w p n c k ⟨kd,now,N,s,⟨ts,tk,tu,tt,ta,tb⟩,seed⟩
theorem Ua {w X:World} {g n c:Nat} {p:Option Addr} {k:Ch} {l:List Pc} (hc:IsC X (g+1+1)) (ho:IsO X (g+1+1+1)) (hd:DAt X p n c k l) (hb:Below g w X) (a:Int) (s:ByteArray) (e:Int):
  IsO (X.setRow (g+1+1) (kC p n c k)) (g+1+1+1)∧BAt 31 ((X.setRow (g+1+1) (kC p n c k)).setRow (g+1+1+1) #[.int .i64 a,.string s,.int .i64 e]) (g+1+1) (kC p n c k)∧
  BAt 40 ((X.setRow (g+1+1) (kC p n c k)).setRow (g+1+1+1) #[.int .i64 a,.string s,.int .i64 e]) (g+1+1+1) (ql ⟨a,s,e⟩)∧DAt ((X.setRow (g+1+1) (kC p n c k)).setRow (g+1+1+1) #[.int .i64 a,.string s,.int .i64 e]) p n c k l∧
  Below g w ((X.setRow (g+1+1) (kC p n c k)).setRow (g+1+1+1) #[.int .i64 a,.string s,.int .i64 e]):=by
 obtain⟨h1,h2,h3⟩:=XZ hc ho (by decide) hb (by omega) (by omega) (kC p n c k) (ql ⟨a,s,e⟩)
 exact⟨ho.apart hc (by decide) _,h1,h2,(hd.setRow hc (by decide) (by decide) _).setRow (ho.apart hc (by decide) _) (by decide) (by decide) _,h3⟩
section
variable {w:World} {p:Option Addr} {n c:Nat} {k:Ch} {l:List Pc} {M:Nat}
theorem GO (h:DAt w p n c k l) (hF:Kok k M) (kd now N:Int) (s ts:ByteArray) (tk:Int) (tu:Bool) (tt ta tb seed:Int) (hkd:∀j:Int,0≤j→j≤7→kd≠j):
  Calls zf 9 #[.agg (kC p n c k),.agg #[.int .i64 kd,.int .i64 now,.int .i64 N,.string s,.string ts,.int .i64 tk,.bool tu,.int .i64 tt,.int .i64 ta,.int .i64 tb,.int .u64 seed]] w (Jl (k) (qT) w):=by
 have hkn:=h.ZT
 have hn10:=hF.fine.len
 rw[hkn]at hn10
 obtain⟨W,hW,hk0,hk1,hk2,hk3,hb0,hlt⟩:=Je w p n c k kd now N s ts tk tu tt ta tb seed
 have i0:=hk0.is (K:=5) rfl
 have c0:=hk0.cells
 have x0:W.cell? ⟨w.heap.size,0,none⟩=some (.slice p n c):=hk0.cell 0
 have x3:W.cell? ⟨w.heap.size,3,none⟩=some (.bool k.shut):=hk0.cell 3
 have x4:W.cell? ⟨w.heap.size,4,none⟩=some (.int .i64 k.state):=hk0.cell 4
 have y0:W.cell? ⟨w.heap.size+1,0,none⟩=some (.int .i64 kd):=hk1.cell 0
 have y1:W.cell? ⟨w.heap.size+1,1,none⟩=some (.int .i64 now):=hk1.cell 1
 have y2:W.cell? ⟨w.heap.size+1,2,none⟩=some (.int .i64 N):=hk1.cell 2
 have y3:W.cell? ⟨w.heap.size+1,3,none⟩=some (.string s):=hk1.cell 3
 have y4:W.cell? ⟨w.heap.size+1,4,none⟩=some (.string ts):=hk1.cell 4
 have y5:W.cell? ⟨w.heap.size+1,5,none⟩=some (.int .i64 tk):=hk1.cell 5
 have y6:W.cell? ⟨w.heap.size+1,6,none⟩=some (.bool tu):=hk1.cell 6
 have y7:W.cell? ⟨w.heap.size+1,7,none⟩=some (.int .i64 tt):=hk1.cell 7
 have y8:W.cell? ⟨w.heap.size+1,8,none⟩=some (.int .i64 ta):=hk1.cell 8
 have y9:W.cell? ⟨w.heap.size+1,9,none⟩=some (.int .i64 tb):=hk1.cell 9
 have y10:W.cell? ⟨w.heap.size+1,10,none⟩=some (.int .u64 seed):=hk1.cell 10
 have hw2:IntKind.i64.wrap ((n:Int) -2)=(n:Int) -2:=qs (by omega) (by omega)
 have HK0:=zd hk0
 have HR:=zd hk2
 have HO:=zd hk3
 have HB:=zd hb0
 have HD:=zd (h.on hb0)
 have HF:=zd hF
 have HKN:=zd hkn
 have e0:(kd==0)=false:=by simpa using hkd 0 (by decide) (by decide)
 have e1:(kd==1)=false:=by simpa using hkd 1 (by decide) (by decide)
 have e2:(kd==2)=false:=by simpa using hkd 2 (by decide) (by decide)
 have e3:(kd==3)=false:=by simpa using hkd 3 (by decide) (by decide)
 have e4:(kd==4)=false:=by simpa using hkd 4 (by decide) (by decide)
 have e5:(kd==5)=false:=by simpa using hkd 5 (by decide) (by decide)
 have e6:(kd==6)=false:=by simpa using hkd 6 (by decide) (by decide)
 have e7:(kd==7)=false:=by simpa using hkd 7 (by decide) (by decide)
 clear hkd
 clear h hF hk0 hk1 hk2 hk3 hb0 hkn hlt
 go_enter func9,ntmps9
 go_upto_region 1 with fail
 go_cut[6]from 15 (λ v wx=>v=.bool (decide (0≤N∧N<(n:Int) -2))∧wx=W)
 case first=>
  by_cases q1:0≤N
  ·have d1:decide (0≤N)=true:=decide_eq_true q1
   have d1':decide (N≥0)=true:=d1
   by_cases q2:N<(n:Int) -2
   ·have d2:decide (N<(n:Int) -2)=true:=decide_eq_true q2
    go_wp2_with fail
    go_meet
    exact⟨congrArg Value.bool (decide_eq_true (p:=0≤N∧N<(n:Int) -2) ⟨q1,q2⟩).symm,rfl⟩
   ·have d2:decide (N<(n:Int) -2)=false:=decide_eq_false q2
    go_wp2_with fail
    go_meet
    exact⟨congrArg Value.bool (decide_eq_false (p:=0≤N∧N<(n:Int) -2) (by omega)).symm,rfl⟩
  ·have d1:decide (0≤N)=false:=decide_eq_false q1
   have d1':decide (N≥0)=false:=d1
   go_wp2_with fail
   go_meet
   exact⟨congrArg Value.bool (decide_eq_false (p:=0≤N∧N<(n:Int) -2) (by omega)).symm,rfl⟩
 case rest=>
 obtain⟨rfl,hwc⟩:=hcut
 rw[hwc]
 clear hwc hW hw2
 obtain⟨r1,hz,hzo,hzd,hzb⟩:=Ua HR.out HO.out HD.out HB.out 0 ⟨#[]⟩ 0
 have HZ:=zd hz
 have HZO:=zd hzo
 have HZD:=zd hzd
 have HZB:=zd hzb
 have iR:=HR.out
 clear hz hzo hzd hzb
 go_wp2_with fail
 exact zk (v:=.tuple #[.agg (kC p n c k),.agg (ql ⟨0,⟨#[]⟩,0⟩)]) (by simp[results,results9,asAddr,qt HZ.out,ZG HZO.out]) rfl ⟨n,p,c,l,rfl,HZD.out,HZB.out⟩
theorem ER (h:DAt w p n c k l) (hF:Kok k M) (kd now N:Int) (s ts:ByteArray) (tk:Int) (tu:Bool) (tt ta tb seed:Int) (hkd:kd=0) (hc:k.shut=true∨k.state≠0):
  Calls zf 9 #[.agg (kC p n c k),.agg #[.int .i64 kd,.int .i64 now,.int .i64 N,.string s,.string ts,.int .i64 tk,.bool tu,.int .i64 tt,.int .i64 ta,.int .i64 tb,.int .u64 seed]] w (Jl (k) (qT) w):=by
 have hkn:=h.ZT
 have hn10:=hF.fine.len
 rw[hkn]at hn10
 obtain⟨W,hW,hk0,hk1,hk2,hk3,hb0,hlt⟩:=Je w p n c k kd now N s ts tk tu tt ta tb seed
 have i0:=hk0.is (K:=5) rfl
 have c0:=hk0.cells
 have x0:W.cell? ⟨w.heap.size,0,none⟩=some (.slice p n c):=hk0.cell 0
 have x3:W.cell? ⟨w.heap.size,3,none⟩=some (.bool k.shut):=hk0.cell 3
 have x4:W.cell? ⟨w.heap.size,4,none⟩=some (.int .i64 k.state):=hk0.cell 4
 have y0:W.cell? ⟨w.heap.size+1,0,none⟩=some (.int .i64 kd):=hk1.cell 0
 have y1:W.cell? ⟨w.heap.size+1,1,none⟩=some (.int .i64 now):=hk1.cell 1
 have y2:W.cell? ⟨w.heap.size+1,2,none⟩=some (.int .i64 N):=hk1.cell 2
 have y3:W.cell? ⟨w.heap.size+1,3,none⟩=some (.string s):=hk1.cell 3
 have y4:W.cell? ⟨w.heap.size+1,4,none⟩=some (.string ts):=hk1.cell 4
 have y5:W.cell? ⟨w.heap.size+1,5,none⟩=some (.int .i64 tk):=hk1.cell 5
 have y6:W.cell? ⟨w.heap.size+1,6,none⟩=some (.bool tu):=hk1.cell 6
 have y7:W.cell? ⟨w.heap.size+1,7,none⟩=some (.int .i64 tt):=hk1.cell 7
 have y8:W.cell? ⟨w.heap.size+1,8,none⟩=some (.int .i64 ta):=hk1.cell 8
 have y9:W.cell? ⟨w.heap.size+1,9,none⟩=some (.int .i64 tb):=hk1.cell 9
 have y10:W.cell? ⟨w.heap.size+1,10,none⟩=some (.int .u64 seed):=hk1.cell 10
 have hw2:IntKind.i64.wrap ((n:Int) -2)=(n:Int) -2:=qs (by omega) (by omega)
 have HK0:=zd hk0
 have HR:=zd hk2
 have HO:=zd hk3
 have HB:=zd hb0
 have HD:=zd (h.on hb0)
 have HF:=zd hF
 have HKN:=zd hkn
 have e0:(kd==0)=true:=by rw[hkd];rfl
 have e1:(kd==1)=false:=by rw[hkd];rfl
 have e2:(kd==2)=false:=by rw[hkd];rfl
 have e3:(kd==3)=false:=by rw[hkd];rfl
 have e4:(kd==4)=false:=by rw[hkd];rfl
 have e5:(kd==5)=false:=by rw[hkd];rfl
 have e6:(kd==6)=false:=by rw[hkd];rfl
 have e7:(kd==7)=false:=by rw[hkd];rfl
 have g0:decide (kd=0)=true:=by rw[hkd];rfl
 have g1:decide (kd=1)=false:=by rw[hkd];rfl
 have g2:decide (kd=2)=false:=by rw[hkd];rfl
 have g3:decide (kd=3)=false:=by rw[hkd];rfl
 have g4:decide (kd=4)=false:=by rw[hkd];rfl
 have g5:decide (kd=5)=false:=by rw[hkd];rfl
 have g6:decide (kd=6)=false:=by rw[hkd];rfl
 have g7:decide (kd=7)=false:=by rw[hkd];rfl
 clear hkd
 have hcc:k.shut=true∨(k.shut=false∧(k.state !=0)=true):=by
  cases hs:k.shut
  ·rw[hs]at hc
   exact Or.inr ⟨rfl,by simpa using hc.resolve_left (by decide)⟩
  ·exact Or.inl rfl
 have HCC:=zd hcc
 clear hc hcc
 clear h hF hk0 hk1 hk2 hk3 hb0 hkn hlt
 go_enter func9,ntmps9
 go_upto_region 1 with fail
 go_cut[6]from 15 (λ v wx=>v=.bool (decide (0≤N∧N<(n:Int) -2))∧wx=W)
 case first=>
  by_cases q1:0≤N
  ·have d1:decide (0≤N)=true:=decide_eq_true q1
   have d1':decide (N≥0)=true:=d1
   by_cases q2:N<(n:Int) -2
   ·have d2:decide (N<(n:Int) -2)=true:=decide_eq_true q2
    go_wp2_with fail
    go_meet
    exact⟨congrArg Value.bool (decide_eq_true (p:=0≤N∧N<(n:Int) -2) ⟨q1,q2⟩).symm,rfl⟩
   ·have d2:decide (N<(n:Int) -2)=false:=decide_eq_false q2
    go_wp2_with fail
    go_meet
    exact⟨congrArg Value.bool (decide_eq_false (p:=0≤N∧N<(n:Int) -2) (by omega)).symm,rfl⟩
  ·have d1:decide (0≤N)=false:=decide_eq_false q1
   have d1':decide (N≥0)=false:=d1
   go_wp2_with fail
   go_meet
   exact⟨congrArg Value.bool (decide_eq_false (p:=0≤N∧N<(n:Int) -2) (by omega)).symm,rfl⟩
 case rest=>
 obtain⟨rfl,hwc⟩:=hcut
 rw[hwc]
 clear hwc hW hw2
 rcases HCC.out with q|⟨q,q2⟩
 ·rw[q]at x3
  obtain⟨r1,hz,hzo,hzd,hzb⟩:=Ua HR.out HO.out HD.out HB.out 0 ⟨#[]⟩ 0
  have HZ:=zd hz
  have HZO:=zd hzo
  have HZD:=zd hzd
  have HZB:=zd hzb
  have iR:=HR.out
  clear hz hzo hzd hzb
  go_wp2_with fail
  exact zk (v:=.tuple #[.agg (kC p n c k),.agg (ql ⟨0,⟨#[]⟩,0⟩)]) (by simp[results,results9,asAddr,qt HZ.out,ZG HZO.out]) rfl ⟨n,p,c,l,rfl,HZD.out,HZB.out⟩
 ·rw[q]at x3
  obtain⟨r1,hz,hzo,hzd,hzb⟩:=Ua HR.out HO.out HD.out HB.out 0 ⟨#[]⟩ 0
  have HZ:=zd hz
  have HZO:=zd hzo
  have HZD:=zd hzd
  have HZB:=zd hzb
  have iR:=HR.out
  clear hz hzo hzd hzb
  go_wp2_with fail
  exact zk (v:=.tuple #[.agg (kC p n c k),.agg (ql ⟨0,⟨#[]⟩,0⟩)]) (by simp[results,results9,asAddr,qt HZ.out,ZG HZO.out]) rfl ⟨n,p,c,l,rfl,HZD.out,HZB.out⟩
theorem GS (h:DAt w p n c k l) (hF:Kok k M) (kd now N:Int) (s ts:ByteArray) (tk:Int) (tu:Bool) (tt ta tb seed:Int) (hkd:kd=0) (hc:k.shut=false) (hc2:k.state=0) (hs:s.size≤100000):
  Calls zf 9 #[.agg (kC p n c k),.agg #[.int .i64 kd,.int .i64 now,.int .i64 N,.string s,.string ts,.int .i64 tk,.bool tu,.int .i64 tt,.int .i64 ta,.int .i64 tb,.int .u64 seed]] w (Jl (k.onC 0 (Ch.JV now s)) (⟨(k.ql 0 (Ch.JV now s)).n,⟨#[]⟩,0⟩) w):=by
 have hkn:=h.ZT
 have hn10:=hF.fine.len
 rw[hkn]at hn10
 obtain⟨W,hW,hk0,hk1,hk2,hk3,hb0,hlt⟩:=Je w p n c k kd now N s ts tk tu tt ta tb seed
 have i0:=hk0.is (K:=5) rfl
 have c0:=hk0.cells
 have x0:W.cell? ⟨w.heap.size,0,none⟩=some (.slice p n c):=hk0.cell 0
 have x3:W.cell? ⟨w.heap.size,3,none⟩=some (.bool k.shut):=hk0.cell 3
 have x4:W.cell? ⟨w.heap.size,4,none⟩=some (.int .i64 k.state):=hk0.cell 4
 have y0:W.cell? ⟨w.heap.size+1,0,none⟩=some (.int .i64 kd):=hk1.cell 0
 have y1:W.cell? ⟨w.heap.size+1,1,none⟩=some (.int .i64 now):=hk1.cell 1
 have y2:W.cell? ⟨w.heap.size+1,2,none⟩=some (.int .i64 N):=hk1.cell 2
 have y3:W.cell? ⟨w.heap.size+1,3,none⟩=some (.string s):=hk1.cell 3
 have y4:W.cell? ⟨w.heap.size+1,4,none⟩=some (.string ts):=hk1.cell 4
 have y5:W.cell? ⟨w.heap.size+1,5,none⟩=some (.int .i64 tk):=hk1.cell 5
 have y6:W.cell? ⟨w.heap.size+1,6,none⟩=some (.bool tu):=hk1.cell 6
 have y7:W.cell? ⟨w.heap.size+1,7,none⟩=some (.int .i64 tt):=hk1.cell 7
 have y8:W.cell? ⟨w.heap.size+1,8,none⟩=some (.int .i64 ta):=hk1.cell 8
 have y9:W.cell? ⟨w.heap.size+1,9,none⟩=some (.int .i64 tb):=hk1.cell 9
 have y10:W.cell? ⟨w.heap.size+1,10,none⟩=some (.int .u64 seed):=hk1.cell 10
 have hw2:IntKind.i64.wrap ((n:Int) -2)=(n:Int) -2:=qs (by omega) (by omega)
 have HK0:=zd hk0
 have HR:=zd hk2
 have HO:=zd hk3
 have HB:=zd hb0
 have HD:=zd (h.on hb0)
 have HF:=zd hF
 have HKN:=zd hkn
 have e0:(kd==0)=true:=by rw[hkd];rfl
 have e1:(kd==1)=false:=by rw[hkd];rfl
 have e2:(kd==2)=false:=by rw[hkd];rfl
 have e3:(kd==3)=false:=by rw[hkd];rfl
 have e4:(kd==4)=false:=by rw[hkd];rfl
 have e5:(kd==5)=false:=by rw[hkd];rfl
 have e6:(kd==6)=false:=by rw[hkd];rfl
 have e7:(kd==7)=false:=by rw[hkd];rfl
 have g0:decide (kd=0)=true:=by rw[hkd];rfl
 have g1:decide (kd=1)=false:=by rw[hkd];rfl
 have g2:decide (kd=2)=false:=by rw[hkd];rfl
 have g3:decide (kd=3)=false:=by rw[hkd];rfl
 have g4:decide (kd=4)=false:=by rw[hkd];rfl
 have g5:decide (kd=5)=false:=by rw[hkd];rfl
 have g6:decide (kd=6)=false:=by rw[hkd];rfl
 have g7:decide (kd=7)=false:=by rw[hkd];rfl
 clear hkd
 have hst:(k.state !=0)=false:=by simp[hc2]
 rw[hc]at x3
 have HDP:=zd (show Calls zf 22 #[.agg (kC p n c k),.int .i64 0,.agg #[.int .i64 0,.int .i64 now,.int .i64 0,.string s,.string ⟨#[]⟩,.int .i64 0,.bool false,.int .i64 0,.int .i64 0,.int .i64 0]] W (JS (k.onC 0 (Ch.JV now s)) (k.ql 0 (Ch.JV now s)) n W)from Lh (h.on hb0) hF.fine hF.top 0 (by omega) now s hs)
 obtain⟨k1,hk1e⟩:∃k1,k.onC 0 (Ch.JV now s)=k1:=⟨_,rfl⟩
 obtain⟨a1,ha1e⟩:∃a1,k.ql 0 (Ch.JV now s)=a1:=⟨_,rfl⟩
 rw[hk1e,ha1e]at HDP⊢
 clear hc hc2 hk1e ha1e
 clear h hF hk0 hk1 hk2 hk3 hb0 hkn hlt
 go_enter func9,ntmps9
 go_upto_region 1 with fail
 go_cut[6]from 15 (λ v wx=>v=.bool (decide (0≤N∧N<(n:Int) -2))∧wx=W)
 case first=>
  by_cases q1:0≤N
  ·have d1:decide (0≤N)=true:=decide_eq_true q1
   have d1':decide (N≥0)=true:=d1
   by_cases q2:N<(n:Int) -2
   ·have d2:decide (N<(n:Int) -2)=true:=decide_eq_true q2
    go_wp2_with fail
    go_meet
    exact⟨congrArg Value.bool (decide_eq_true (p:=0≤N∧N<(n:Int) -2) ⟨q1,q2⟩).symm,rfl⟩
   ·have d2:decide (N<(n:Int) -2)=false:=decide_eq_false q2
    go_wp2_with fail
    go_meet
    exact⟨congrArg Value.bool (decide_eq_false (p:=0≤N∧N<(n:Int) -2) (by omega)).symm,rfl⟩
  ·have d1:decide (0≤N)=false:=decide_eq_false q1
   have d1':decide (N≥0)=false:=d1
   go_wp2_with fail
   go_meet
   exact⟨congrArg Value.bool (decide_eq_false (p:=0≤N∧N<(n:Int) -2) (by omega)).symm,rfl⟩
 case rest=>
 obtain⟨rfl,hwc⟩:=hcut
 rw[hwc]
 clear hwc hW hw2
 go_wp2_with fail
 refine HDP.out.mono ?_
 rintro e w1 ⟨p1,c1,l1,rfl,hd1,hb1⟩
 obtain⟨W2,hW2,i2,j2,z2,y2,hb2,hs2⟩:=jd w1 p1 n c1 k1 a1
 have hW2:(w1.alloc (.cells #[.slice none 0 0,.int .i64 0,.int .i64 0,.bool false,.int .i64 0] 31)).alloc (.cells #[.int .i64 0,.string ⟨#[]⟩,.int .i64 0] 73)=W2:=hW2
 have hb12:=gb.seqB hb1 hb2
 have HD3:=zd (hd1.on hb2)
 have HR3:=zd (HR.out.on hb12)
 have HO3:=zd (HO.out.on hb12)
 have HB3:=zd (gb.seqB HB.out hb12)
 have hlo:=HO3.out.lt
 have HZ2:=zd z2
 have HY2:=zd y2
 have hlo1:=(HO.out.on hb1).lt
 clear HDP hb1 hb2 hb12 hd1 z2 y2
 go_upto_region 7 with fail
 generalize(W2.setRow w1.heap.size (kC p1 n c1 k1)).setRow (w1.heap.size+1) (ql a1)=w3 at*
 clear hW2 i2 j2 hs2
 have u0:IsC w3.drew w1.heap.size:=HZ2.out.is rfl
 have u1:qE w3.drew w1.heap.size=kC p1 n c1 k1:=HZ2.out.cells
 have u2:w3.drew.cell? ⟨w1.heap.size+1,0,none⟩=some (.int .i64 a1.n):=HY2.out.cell 0
 have u3:(w3.drew.setRow (w.heap.size+1+1) (kC p1 n c1 k1)).cell? ⟨w1.heap.size+1,0,none⟩=some (.int .i64 a1.n):=(BAt.other (w:=w3.drew) HY2.out (by omega) _).cell 0
 have HRd:=zd (show IsC w3.drew (w.heap.size+1+1)from HR3.out)
 have HOd:=zd (show IsO w3.drew (w.heap.size+1+1+1)from HO3.out)
 have HDd:=zd (HD3.out.on (zh _ _).drew)
 have HBd:=zd (HB3.out.drew)
 obtain⟨r1,hz,hzo,hzd,hzb⟩:=Ua HRd.out HOd.out HDd.out HBd.out a1.n ⟨#[]⟩ 0
 have HZ:=zd hz
 have HZO:=zd hzo
 have HZD:=zd hzd
 have HZB:=zd hzb
 have iR:=HRd.out
 clear hz hzo hzd hzb
 go_region
 all_goals (
  go_wp2_with fail
  exact zk (v:=.tuple #[.agg (kC p1 n c1 k1),.agg (ql ⟨a1.n,⟨#[]⟩,0⟩)]) (by simp[results,results9,asAddr,qt HZ.out,ZG HZO.out]) rfl ⟨n,p1,c1,l1,rfl,HZD.out,HZB.out⟩)
theorem EP (h:DAt w p n c k l) (hF:Kok k M) (kd now N:Int) (s ts:ByteArray) (tk:Int) (tu:Bool) (tt ta tb seed:Int) (hkd:kd=1) (hc:k.state≠0):
  Calls zf 9 #[.agg (kC p n c k),.agg #[.int .i64 kd,.int .i64 now,.int .i64 N,.string s,.string ts,.int .i64 tk,.bool tu,.int .i64 tt,.int .i64 ta,.int .i64 tb,.int .u64 seed]] w (Jl (k) (qT) w):=by
 have hkn:=h.ZT
 have hn10:=hF.fine.len
 rw[hkn]at hn10
 obtain⟨W,hW,hk0,hk1,hk2,hk3,hb0,hlt⟩:=Je w p n c k kd now N s ts tk tu tt ta tb seed
 have i0:=hk0.is (K:=5) rfl
 have c0:=hk0.cells
 have x0:W.cell? ⟨w.heap.size,0,none⟩=some (.slice p n c):=hk0.cell 0
 have x3:W.cell? ⟨w.heap.size,3,none⟩=some (.bool k.shut):=hk0.cell 3
 have x4:W.cell? ⟨w.heap.size,4,none⟩=some (.int .i64 k.state):=hk0.cell 4
 have y0:W.cell? ⟨w.heap.size+1,0,none⟩=some (.int .i64 kd):=hk1.cell 0
 have y1:W.cell? ⟨w.heap.size+1,1,none⟩=some (.int .i64 now):=hk1.cell 1
 have y2:W.cell? ⟨w.heap.size+1,2,none⟩=some (.int .i64 N):=hk1.cell 2
 have y3:W.cell? ⟨w.heap.size+1,3,none⟩=some (.string s):=hk1.cell 3
 have y4:W.cell? ⟨w.heap.size+1,4,none⟩=some (.string ts):=hk1.cell 4
 have y5:W.cell? ⟨w.heap.size+1,5,none⟩=some (.int .i64 tk):=hk1.cell 5
 have y6:W.cell? ⟨w.heap.size+1,6,none⟩=some (.bool tu):=hk1.cell 6
 have y7:W.cell? ⟨w.heap.size+1,7,none⟩=some (.int .i64 tt):=hk1.cell 7
 have y8:W.cell? ⟨w.heap.size+1,8,none⟩=some (.int .i64 ta):=hk1.cell 8
 have y9:W.cell? ⟨w.heap.size+1,9,none⟩=some (.int .i64 tb):=hk1.cell 9
 have y10:W.cell? ⟨w.heap.size+1,10,none⟩=some (.int .u64 seed):=hk1.cell 10
 have hw2:IntKind.i64.wrap ((n:Int) -2)=(n:Int) -2:=qs (by omega) (by omega)
 have HK0:=zd hk0
 have HR:=zd hk2
 have HO:=zd hk3
 have HB:=zd hb0
 have HD:=zd (h.on hb0)
 have HF:=zd hF
 have HKN:=zd hkn
 have e0:(kd==0)=false:=by rw[hkd];rfl
 have e1:(kd==1)=true:=by rw[hkd];rfl
 have e2:(kd==2)=false:=by rw[hkd];rfl
 have e3:(kd==3)=false:=by rw[hkd];rfl
 have e4:(kd==4)=false:=by rw[hkd];rfl
 have e5:(kd==5)=false:=by rw[hkd];rfl
 have e6:(kd==6)=false:=by rw[hkd];rfl
 have e7:(kd==7)=false:=by rw[hkd];rfl
 have g0:decide (kd=0)=false:=by rw[hkd];rfl
 have g1:decide (kd=1)=true:=by rw[hkd];rfl
 have g2:decide (kd=2)=false:=by rw[hkd];rfl
 have g3:decide (kd=3)=false:=by rw[hkd];rfl
 have g4:decide (kd=4)=false:=by rw[hkd];rfl
 have g5:decide (kd=5)=false:=by rw[hkd];rfl
 have g6:decide (kd=6)=false:=by rw[hkd];rfl
 have g7:decide (kd=7)=false:=by rw[hkd];rfl
 clear hkd
 have hst:(k.state==0)=false:=by simpa using hc
 clear hc
 clear h hF hk0 hk1 hk2 hk3 hb0 hkn hlt
 go_enter func9,ntmps9
 go_upto_region 1 with fail
 go_cut[6]from 15 (λ v wx=>v=.bool (decide (0≤N∧N<(n:Int) -2))∧wx=W)
 case first=>
  by_cases q1:0≤N
  ·have d1:decide (0≤N)=true:=decide_eq_true q1
   have d1':decide (N≥0)=true:=d1
   by_cases q2:N<(n:Int) -2
   ·have d2:decide (N<(n:Int) -2)=true:=decide_eq_true q2
    go_wp2_with fail
    go_meet
    exact⟨congrArg Value.bool (decide_eq_true (p:=0≤N∧N<(n:Int) -2) ⟨q1,q2⟩).symm,rfl⟩
   ·have d2:decide (N<(n:Int) -2)=false:=decide_eq_false q2
    go_wp2_with fail
    go_meet
    exact⟨congrArg Value.bool (decide_eq_false (p:=0≤N∧N<(n:Int) -2) (by omega)).symm,rfl⟩
  ·have d1:decide (0≤N)=false:=decide_eq_false q1
   have d1':decide (N≥0)=false:=d1
   go_wp2_with fail
   go_meet
   exact⟨congrArg Value.bool (decide_eq_false (p:=0≤N∧N<(n:Int) -2) (by omega)).symm,rfl⟩
 case rest=>
 obtain⟨rfl,hwc⟩:=hcut
 rw[hwc]
 clear hwc hW hw2
 obtain⟨r1,hz,hzo,hzd,hzb⟩:=Ua HR.out HO.out HD.out HB.out 0 ⟨#[]⟩ 0
 have HZ:=zd hz
 have HZO:=zd hzo
 have HZD:=zd hzd
 have HZB:=zd hzb
 have iR:=HR.out
 clear hz hzo hzd hzb
 go_wp2_with fail
 exact zk (v:=.tuple #[.agg (kC p n c k),.agg (ql ⟨0,⟨#[]⟩,0⟩)]) (by simp[results,results9,asAddr,qt HZ.out,ZG HZO.out]) rfl ⟨n,p,c,l,rfl,HZD.out,HZB.out⟩
theorem GR (h:DAt w p n c k l) (hF:Kok k M) (kd now N:Int) (s ts:ByteArray) (tk:Int) (tu:Bool) (tt ta tb seed:Int) (hkd:kd=1) (hc:k.state=0):
  Calls zf 9 #[.agg (kC p n c k),.agg #[.int .i64 kd,.int .i64 now,.int .i64 N,.string s,.string ts,.int .i64 tk,.bool tu,.int .i64 tt,.int .i64 ta,.int .i64 tb,.int .u64 seed]] w (Jl ({k.onC 0 (Ch.qA now)with shut:=true}) (qT) w):=by
 have hkn:=h.ZT
 have hn10:=hF.fine.len
 rw[hkn]at hn10
 obtain⟨W,hW,hk0,hk1,hk2,hk3,hb0,hlt⟩:=Je w p n c k kd now N s ts tk tu tt ta tb seed
 have i0:=hk0.is (K:=5) rfl
 have c0:=hk0.cells
 have x0:W.cell? ⟨w.heap.size,0,none⟩=some (.slice p n c):=hk0.cell 0
 have x3:W.cell? ⟨w.heap.size,3,none⟩=some (.bool k.shut):=hk0.cell 3
 have x4:W.cell? ⟨w.heap.size,4,none⟩=some (.int .i64 k.state):=hk0.cell 4
 have y0:W.cell? ⟨w.heap.size+1,0,none⟩=some (.int .i64 kd):=hk1.cell 0
 have y1:W.cell? ⟨w.heap.size+1,1,none⟩=some (.int .i64 now):=hk1.cell 1
 have y2:W.cell? ⟨w.heap.size+1,2,none⟩=some (.int .i64 N):=hk1.cell 2
 have y3:W.cell? ⟨w.heap.size+1,3,none⟩=some (.string s):=hk1.cell 3
 have y4:W.cell? ⟨w.heap.size+1,4,none⟩=some (.string ts):=hk1.cell 4
 have y5:W.cell? ⟨w.heap.size+1,5,none⟩=some (.int .i64 tk):=hk1.cell 5
 have y6:W.cell? ⟨w.heap.size+1,6,none⟩=some (.bool tu):=hk1.cell 6
 have y7:W.cell? ⟨w.heap.size+1,7,none⟩=some (.int .i64 tt):=hk1.cell 7
 have y8:W.cell? ⟨w.heap.size+1,8,none⟩=some (.int .i64 ta):=hk1.cell 8
 have y9:W.cell? ⟨w.heap.size+1,9,none⟩=some (.int .i64 tb):=hk1.cell 9
 have y10:W.cell? ⟨w.heap.size+1,10,none⟩=some (.int .u64 seed):=hk1.cell 10
 have hw2:IntKind.i64.wrap ((n:Int) -2)=(n:Int) -2:=qs (by omega) (by omega)
 have HK0:=zd hk0
 have HR:=zd hk2
 have HO:=zd hk3
 have HB:=zd hb0
 have HD:=zd (h.on hb0)
 have HF:=zd hF
 have HKN:=zd hkn
 have e0:(kd==0)=false:=by rw[hkd];rfl
 have e1:(kd==1)=true:=by rw[hkd];rfl
 have e2:(kd==2)=false:=by rw[hkd];rfl
 have e3:(kd==3)=false:=by rw[hkd];rfl
 have e4:(kd==4)=false:=by rw[hkd];rfl
 have e5:(kd==5)=false:=by rw[hkd];rfl
 have e6:(kd==6)=false:=by rw[hkd];rfl
 have e7:(kd==7)=false:=by rw[hkd];rfl
 have g0:decide (kd=0)=false:=by rw[hkd];rfl
 have g1:decide (kd=1)=true:=by rw[hkd];rfl
 have g2:decide (kd=2)=false:=by rw[hkd];rfl
 have g3:decide (kd=3)=false:=by rw[hkd];rfl
 have g4:decide (kd=4)=false:=by rw[hkd];rfl
 have g5:decide (kd=5)=false:=by rw[hkd];rfl
 have g6:decide (kd=6)=false:=by rw[hkd];rfl
 have g7:decide (kd=7)=false:=by rw[hkd];rfl
 clear hkd
 have hst:(k.state==0)=true:=by simp[hc]
 have HDP:=zd (show Calls zf 22 #[.agg (kC p n c k),.int .i64 0,.agg #[.int .i64 3,.int .i64 now,.int .i64 0,.string ⟨#[]⟩,.string ⟨#[]⟩,.int .i64 0,.bool false,.int .i64 0,.int .i64 0,.int .i64 0]] W (JS (k.onC 0 (Ch.qA now)) (k.ql 0 (Ch.qA now)) n W)from JD (h.on hb0) hF.fine hF.top 0 (by omega) now)
 generalize k.ql 0 (Ch.qA now)=a1 at HDP
 obtain⟨k1,hk1e⟩:∃k1,k.onC 0 (Ch.qA now)=k1:=⟨_,rfl⟩
 obtain⟨k2,hk2e⟩:∃k2,({k1 with shut:=true}:Ch)=k2:=⟨_,rfl⟩
 rw[hk1e]at HDP⊢
 rw[hk2e]
 have HK2:=zd hk2e
 clear hc hk1e hk2e
 clear h hF hk0 hk1 hk2 hk3 hb0 hkn hlt
 go_enter func9,ntmps9
 go_upto_region 1 with fail
 go_cut[6]from 15 (λ v wx=>v=.bool (decide (0≤N∧N<(n:Int) -2))∧wx=W)
 case first=>
  by_cases q1:0≤N
  ·have d1:decide (0≤N)=true:=decide_eq_true q1
   have d1':decide (N≥0)=true:=d1
   by_cases q2:N<(n:Int) -2
   ·have d2:decide (N<(n:Int) -2)=true:=decide_eq_true q2
    go_wp2_with fail
    go_meet
    exact⟨congrArg Value.bool (decide_eq_true (p:=0≤N∧N<(n:Int) -2) ⟨q1,q2⟩).symm,rfl⟩
   ·have d2:decide (N<(n:Int) -2)=false:=decide_eq_false q2
    go_wp2_with fail
    go_meet
    exact⟨congrArg Value.bool (decide_eq_false (p:=0≤N∧N<(n:Int) -2) (by omega)).symm,rfl⟩
  ·have d1:decide (0≤N)=false:=decide_eq_false q1
   have d1':decide (N≥0)=false:=d1
   go_wp2_with fail
   go_meet
   exact⟨congrArg Value.bool (decide_eq_false (p:=0≤N∧N<(n:Int) -2) (by omega)).symm,rfl⟩
 case rest=>
 obtain⟨rfl,hwc⟩:=hcut
 rw[hwc]
 clear hwc hW hw2
 go_wp2_with fail
 refine HDP.out.mono ?_
 rintro e w1 ⟨p1,c1,l1,rfl,hd1,hb1⟩
 have q1:IsC w1 w.heap.size:=(HK0.out.on hb1).is rfl
 have HD3:=zd (hd1.setRow q1 (by decide) (by decide) (kC p1 n c1 k1))
 have HA3:=zd (q1.row (kC p1 n c1 k1))
 have HR3:=zd ((HR.out.on hb1).other (show w.heap.size+1+1≠w.heap.size by omega) (kC p1 n c1 k1))
 have HO3:=zd ((HO.out.on hb1).other (show w.heap.size+1+1+1≠w.heap.size by omega) (kC p1 n c1 k1))
 have HB3:=zd (below_setRow (gb.seqB HB.out hb1) (zg _) (kC p1 n c1 k1))
 clear HDP hb1 hd1
 go_upto_region 11 with fail
 generalize w1.setRow w.heap.size (kC p1 n c1 k1)=w3 at*
 clear q1
 have f3:=HA3.out.frz 3
 have v3:=HA3.out.cell 3
 have HA4:=zd (show XD (w3.setCell ⟨w.heap.size,3,none⟩ (.bool true)) w.heap.size p1 n c1 k2 by
  have:=BAt.set HA3.out 3 (.bool true)
  rw[NI,HK2.out]at this
  exact this)
 have HD4:=zd (show DAt (w3.setCell ⟨w.heap.size,3,none⟩ (.bool true)) p1 n c1 k2 l1 from(HD3.out.setCell (BAt.is (K:=5) HA3.out rfl) (by decide) (by decide) 3 _).as (by rw[←HK2.out]))
 have HR4:=zd (HR3.out.far (show w.heap.size+1+1≠w.heap.size by omega) 3 (.bool true))
 have HO4:=zd (HO3.out.far (show w.heap.size+1+1+1≠w.heap.size by omega) 3 (.bool true))
 have HB4:=zd (HB3.out.setCell (p:=⟨w.heap.size,3,none⟩) (zg _) (.bool true))
 go_upto_region 33 with fail
 generalize w3.setCell ⟨w.heap.size,3,none⟩ (.bool true)=w4 at*
 clear f3 v3 i0 c0 x0 x3 x4 y0 y1 y2 y3 y4 y5 y6 y7 y8 y9 y10
 have i4:=HA4.out.is (K:=5) rfl
 have c4:=HA4.out.cells
 obtain⟨r1,hz,hzo,hzd,hzb⟩:=Ua HR4.out HO4.out HD4.out HB4.out 0 ⟨#[]⟩ 0
 have HZ:=zd hz
 have HZO:=zd hzo
 have HZD:=zd hzd
 have HZB:=zd hzb
 have iR:=HR4.out
 clear hz hzo hzd hzb
 go_wp2_with fail
 exact zk (v:=.tuple #[.agg (kC p1 n c1 k2),.agg (ql ⟨0,⟨#[]⟩,0⟩)]) (by simp[results,results9,asAddr,qt HZ.out,ZG HZO.out]) rfl ⟨n,p1,c1,l1,rfl,HZD.out,HZB.out⟩
theorem An (h:DAt w p n c k l) (hF:Kok k M) (kd now N:Int) (s ts:ByteArray) (tk:Int) (tu:Bool) (tt ta tb seed:Int) (hkd:kd=2):
  Calls zf 9 #[.agg (kC p n c k),.agg #[.int .i64 kd,.int .i64 now,.int .i64 N,.string s,.string ts,.int .i64 tk,.bool tu,.int .i64 tt,.int .i64 ta,.int .i64 tb,.int .u64 seed]] w (Jl (k.qX) (qT) w):=by
 have hkn:=h.ZT
 have hn10:=hF.fine.len
 rw[hkn]at hn10
 obtain⟨W,hW,hk0,hk1,hk2,hk3,hb0,hlt⟩:=Je w p n c k kd now N s ts tk tu tt ta tb seed
 have i0:=hk0.is (K:=5) rfl
 have c0:=hk0.cells
 have x0:W.cell? ⟨w.heap.size,0,none⟩=some (.slice p n c):=hk0.cell 0
 have x3:W.cell? ⟨w.heap.size,3,none⟩=some (.bool k.shut):=hk0.cell 3
 have x4:W.cell? ⟨w.heap.size,4,none⟩=some (.int .i64 k.state):=hk0.cell 4
 have y0:W.cell? ⟨w.heap.size+1,0,none⟩=some (.int .i64 kd):=hk1.cell 0
 have y1:W.cell? ⟨w.heap.size+1,1,none⟩=some (.int .i64 now):=hk1.cell 1
 have y2:W.cell? ⟨w.heap.size+1,2,none⟩=some (.int .i64 N):=hk1.cell 2
 have y3:W.cell? ⟨w.heap.size+1,3,none⟩=some (.string s):=hk1.cell 3
 have y4:W.cell? ⟨w.heap.size+1,4,none⟩=some (.string ts):=hk1.cell 4
 have y5:W.cell? ⟨w.heap.size+1,5,none⟩=some (.int .i64 tk):=hk1.cell 5
 have y6:W.cell? ⟨w.heap.size+1,6,none⟩=some (.bool tu):=hk1.cell 6
 have y7:W.cell? ⟨w.heap.size+1,7,none⟩=some (.int .i64 tt):=hk1.cell 7
 have y8:W.cell? ⟨w.heap.size+1,8,none⟩=some (.int .i64 ta):=hk1.cell 8
 have y9:W.cell? ⟨w.heap.size+1,9,none⟩=some (.int .i64 tb):=hk1.cell 9
 have y10:W.cell? ⟨w.heap.size+1,10,none⟩=some (.int .u64 seed):=hk1.cell 10
 have hw2:IntKind.i64.wrap ((n:Int) -2)=(n:Int) -2:=qs (by omega) (by omega)
 have HK0:=zd hk0
 have HR:=zd hk2
 have HO:=zd hk3
 have HB:=zd hb0
 have HD:=zd (h.on hb0)
 have HF:=zd hF
 have HKN:=zd hkn
 have e0:(kd==0)=false:=by rw[hkd];rfl
 have e1:(kd==1)=false:=by rw[hkd];rfl
 have e2:(kd==2)=true:=by rw[hkd];rfl
 have e3:(kd==3)=false:=by rw[hkd];rfl
 have e4:(kd==4)=false:=by rw[hkd];rfl
 have e5:(kd==5)=false:=by rw[hkd];rfl
 have e6:(kd==6)=false:=by rw[hkd];rfl
 have e7:(kd==7)=false:=by rw[hkd];rfl
 have g0:decide (kd=0)=false:=by rw[hkd];rfl
 have g1:decide (kd=1)=false:=by rw[hkd];rfl
 have g2:decide (kd=2)=true:=by rw[hkd];rfl
 have g3:decide (kd=3)=false:=by rw[hkd];rfl
 have g4:decide (kd=4)=false:=by rw[hkd];rfl
 have g5:decide (kd=5)=false:=by rw[hkd];rfl
 have g6:decide (kd=6)=false:=by rw[hkd];rfl
 have g7:decide (kd=7)=false:=by rw[hkd];rfl
 clear hkd
 have HDP:=zd (ji (h.on hb0) hF)
 generalize k.qX=k1 at HDP⊢
 clear h hF hk0 hk1 hk2 hk3 hb0 hkn hlt
 go_enter func9,ntmps9
 go_upto_region 1 with fail
 go_cut[6]from 15 (λ v wx=>v=.bool (decide (0≤N∧N<(n:Int) -2))∧wx=W)
 case first=>
  by_cases q1:0≤N
  ·have d1:decide (0≤N)=true:=decide_eq_true q1
   have d1':decide (N≥0)=true:=d1
   by_cases q2:N<(n:Int) -2
   ·have d2:decide (N<(n:Int) -2)=true:=decide_eq_true q2
    go_wp2_with fail
    go_meet
    exact⟨congrArg Value.bool (decide_eq_true (p:=0≤N∧N<(n:Int) -2) ⟨q1,q2⟩).symm,rfl⟩
   ·have d2:decide (N<(n:Int) -2)=false:=decide_eq_false q2
    go_wp2_with fail
    go_meet
    exact⟨congrArg Value.bool (decide_eq_false (p:=0≤N∧N<(n:Int) -2) (by omega)).symm,rfl⟩
  ·have d1:decide (0≤N)=false:=decide_eq_false q1
   have d1':decide (N≥0)=false:=d1
   go_wp2_with fail
   go_meet
   exact⟨congrArg Value.bool (decide_eq_false (p:=0≤N∧N<(n:Int) -2) (by omega)).symm,rfl⟩
 case rest=>
 obtain⟨rfl,hwc⟩:=hcut
 rw[hwc]
 clear hwc hW hw2
 go_wp2_with fail
 refine HDP.out.mono ?_
 rintro e w1 ⟨p1,c1,l1,rfl,hd1,hb1⟩
 have HD3:=zd hd1
 have HR3:=zd (HR.out.on hb1)
 have HO3:=zd (HO.out.on hb1)
 have HB3:=zd (gb.seqB HB.out hb1)
 clear HDP hb1 hd1 i0 c0 x0 x3 x4 y0 y1 y2 y3 y4 y5 y6 y7 y8 y9 y10
 obtain⟨r1,hz,hzo,hzd,hzb⟩:=Ua HR3.out HO3.out HD3.out HB3.out 0 ⟨#[]⟩ 0
 have HZ:=zd hz
 have HZO:=zd hzo
 have HZD:=zd hzd
 have HZB:=zd hzb
 have iR:=HR3.out
 clear hz hzo hzd hzb
 go_wp2_with fail
 exact zk (v:=.tuple #[.agg (kC p1 n c1 k1),.agg (ql ⟨0,⟨#[]⟩,0⟩)]) (by simp[results,results9,asAddr,qt HZ.out,ZG HZO.out]) rfl ⟨n,p1,c1,l1,rfl,HZD.out,HZB.out⟩
theorem Am (h:DAt w p n c k l) (hF:Kok k M) (kd now N:Int) (s ts:ByteArray) (tk:Int) (tu:Bool) (tt ta tb seed:Int) (hkd:kd=3):
  Calls zf 9 #[.agg (kC p n c k),.agg #[.int .i64 kd,.int .i64 now,.int .i64 N,.string s,.string ts,.int .i64 tk,.bool tu,.int .i64 tt,.int .i64 ta,.int .i64 tb,.int .u64 seed]] w (Jl (k.ZA now) (⟨(k.ZA now).state,⟨#[]⟩,0⟩) w):=by
 have hkn:=h.ZT
 have hn10:=hF.fine.len
 rw[hkn]at hn10
 obtain⟨W,hW,hk0,hk1,hk2,hk3,hb0,hlt⟩:=Je w p n c k kd now N s ts tk tu tt ta tb seed
 have i0:=hk0.is (K:=5) rfl
 have c0:=hk0.cells
 have x0:W.cell? ⟨w.heap.size,0,none⟩=some (.slice p n c):=hk0.cell 0
 have x3:W.cell? ⟨w.heap.size,3,none⟩=some (.bool k.shut):=hk0.cell 3
 have x4:W.cell? ⟨w.heap.size,4,none⟩=some (.int .i64 k.state):=hk0.cell 4
 have y0:W.cell? ⟨w.heap.size+1,0,none⟩=some (.int .i64 kd):=hk1.cell 0
 have y1:W.cell? ⟨w.heap.size+1,1,none⟩=some (.int .i64 now):=hk1.cell 1
 have y2:W.cell? ⟨w.heap.size+1,2,none⟩=some (.int .i64 N):=hk1.cell 2
 have y3:W.cell? ⟨w.heap.size+1,3,none⟩=some (.string s):=hk1.cell 3
 have y4:W.cell? ⟨w.heap.size+1,4,none⟩=some (.string ts):=hk1.cell 4
 have y5:W.cell? ⟨w.heap.size+1,5,none⟩=some (.int .i64 tk):=hk1.cell 5
 have y6:W.cell? ⟨w.heap.size+1,6,none⟩=some (.bool tu):=hk1.cell 6
 have y7:W.cell? ⟨w.heap.size+1,7,none⟩=some (.int .i64 tt):=hk1.cell 7
 have y8:W.cell? ⟨w.heap.size+1,8,none⟩=some (.int .i64 ta):=hk1.cell 8
 have y9:W.cell? ⟨w.heap.size+1,9,none⟩=some (.int .i64 tb):=hk1.cell 9
 have y10:W.cell? ⟨w.heap.size+1,10,none⟩=some (.int .u64 seed):=hk1.cell 10
 have hw2:IntKind.i64.wrap ((n:Int) -2)=(n:Int) -2:=qs (by omega) (by omega)
 have HK0:=zd hk0
 have HR:=zd hk2
 have HO:=zd hk3
 have HB:=zd hb0
 have HD:=zd (h.on hb0)
 have HF:=zd hF
 have HKN:=zd hkn
 have e0:(kd==0)=false:=by rw[hkd];rfl
 have e1:(kd==1)=false:=by rw[hkd];rfl
 have e2:(kd==2)=false:=by rw[hkd];rfl
 have e3:(kd==3)=true:=by rw[hkd];rfl
 have e4:(kd==4)=false:=by rw[hkd];rfl
 have e5:(kd==5)=false:=by rw[hkd];rfl
 have e6:(kd==6)=false:=by rw[hkd];rfl
 have e7:(kd==7)=false:=by rw[hkd];rfl
 have g0:decide (kd=0)=false:=by rw[hkd];rfl
 have g1:decide (kd=1)=false:=by rw[hkd];rfl
 have g2:decide (kd=2)=false:=by rw[hkd];rfl
 have g3:decide (kd=3)=true:=by rw[hkd];rfl
 have g4:decide (kd=4)=false:=by rw[hkd];rfl
 have g5:decide (kd=5)=false:=by rw[hkd];rfl
 have g6:decide (kd=6)=false:=by rw[hkd];rfl
 have g7:decide (kd=7)=false:=by rw[hkd];rfl
 clear hkd
 have HDP:=zd (Lb (h.on hb0) hF now)
 generalize k.ZA now=k1 at HDP⊢
 clear h hF hk0 hk1 hk2 hk3 hb0 hkn hlt
 go_enter func9,ntmps9
 go_upto_region 1 with fail
 go_cut[6]from 15 (λ v wx=>v=.bool (decide (0≤N∧N<(n:Int) -2))∧wx=W)
 case first=>
  by_cases q1:0≤N
  ·have d1:decide (0≤N)=true:=decide_eq_true q1
   have d1':decide (N≥0)=true:=d1
   by_cases q2:N<(n:Int) -2
   ·have d2:decide (N<(n:Int) -2)=true:=decide_eq_true q2
    go_wp2_with fail
    go_meet
    exact⟨congrArg Value.bool (decide_eq_true (p:=0≤N∧N<(n:Int) -2) ⟨q1,q2⟩).symm,rfl⟩
   ·have d2:decide (N<(n:Int) -2)=false:=decide_eq_false q2
    go_wp2_with fail
    go_meet
    exact⟨congrArg Value.bool (decide_eq_false (p:=0≤N∧N<(n:Int) -2) (by omega)).symm,rfl⟩
  ·have d1:decide (0≤N)=false:=decide_eq_false q1
   have d1':decide (N≥0)=false:=d1
   go_wp2_with fail
   go_meet
   exact⟨congrArg Value.bool (decide_eq_false (p:=0≤N∧N<(n:Int) -2) (by omega)).symm,rfl⟩
 case rest=>
 obtain⟨rfl,hwc⟩:=hcut
 rw[hwc]
 clear hwc hW hw2
 go_wp2_with fail
 refine HDP.out.mono ?_
 rintro e w1 ⟨p1,c1,l1,rfl,hd1,hb1⟩
 have q1:IsC w1 w.heap.size:=(HK0.out.on hb1).is rfl
 have HD3:=zd (hd1.setRow q1 (by decide) (by decide) (kC p1 n c1 k1))
 have HA3:=zd (q1.row (kC p1 n c1 k1))
 have HR3:=zd ((HR.out.on hb1).other (show w.heap.size+1+1≠w.heap.size by omega) (kC p1 n c1 k1))
 have HO3:=zd ((HO.out.on hb1).other (show w.heap.size+1+1+1≠w.heap.size by omega) (kC p1 n c1 k1))
 have HB3:=zd (below_setRow (gb.seqB HB.out hb1) (zg _) (kC p1 n c1 k1))
 clear HDP hb1 hd1
 go_upto_region 16 with fail
 generalize w1.setRow w.heap.size (kC p1 n c1 k1)=w3 at*
 clear q1 i0 c0 x0 x3 x4 y0 y1 y2 y3 y4 y5 y6 y7 y8 y9 y10
 have u0:IsC w3.drew w.heap.size:=BAt.is (K:=5) HA3.out rfl
 have u1:qE w3.drew w.heap.size=kC p1 n c1 k1:=BAt.cells HA3.out
 have u2:w3.drew.cell? ⟨w.heap.size,4,none⟩=some (.int .i64 k1.state):=BAt.cell HA3.out 4
 have u3:(w3.drew.setRow (w.heap.size+1+1) (kC p1 n c1 k1)).cell? ⟨w.heap.size,4,none⟩=some (.int .i64 k1.state):=(BAt.other (w:=w3.drew) HA3.out (show w.heap.size≠w.heap.size+1+1 by omega) _).cell 4
 have HRd:=zd (show IsC w3.drew (w.heap.size+1+1)from HR3.out)
 have HOd:=zd (show IsO w3.drew (w.heap.size+1+1+1)from HO3.out)
 have HDd:=zd (HD3.out.on (zh _ _).drew)
 have HBd:=zd (HB3.out.drew)
 obtain⟨r1,hz,hzo,hzd,hzb⟩:=Ua HRd.out HOd.out HDd.out HBd.out k1.state ⟨#[]⟩ 0
 have HZ:=zd hz
 have HZO:=zd hzo
 have HZD:=zd hzd
 have HZB:=zd hzb
 have iR:=HRd.out
 clear hz hzo hzd hzb
 go_region
 all_goals (
  go_wp2_with fail
  exact zk (v:=.tuple #[.agg (kC p1 n c1 k1),.agg (ql ⟨k1.state,⟨#[]⟩,0⟩)]) (by simp[results,results9,asAddr,qt HZ.out,ZG HZO.out]) rfl ⟨n,p1,c1,l1,rfl,HZD.out,HZB.out⟩)
theorem EO (h:DAt w p n c k l) (hF:Kok k M) (kd now N:Int) (s ts:ByteArray) (tk:Int) (tu:Bool) (tt ta tb seed:Int) (hkd:kd=4) (hc:k.state=2):
  Calls zf 9 #[.agg (kC p n c k),.agg #[.int .i64 kd,.int .i64 now,.int .i64 N,.string s,.string ts,.int .i64 tk,.bool tu,.int .i64 tt,.int .i64 ta,.int .i64 tb,.int .u64 seed]] w (Jl (k) (qT) w):=by
 have hkn:=h.ZT
 have hn10:=hF.fine.len
 rw[hkn]at hn10
 obtain⟨W,hW,hk0,hk1,hk2,hk3,hb0,hlt⟩:=Je w p n c k kd now N s ts tk tu tt ta tb seed
 have i0:=hk0.is (K:=5) rfl
 have c0:=hk0.cells
 have x0:W.cell? ⟨w.heap.size,0,none⟩=some (.slice p n c):=hk0.cell 0
 have x3:W.cell? ⟨w.heap.size,3,none⟩=some (.bool k.shut):=hk0.cell 3
 have x4:W.cell? ⟨w.heap.size,4,none⟩=some (.int .i64 k.state):=hk0.cell 4
 have y0:W.cell? ⟨w.heap.size+1,0,none⟩=some (.int .i64 kd):=hk1.cell 0
 have y1:W.cell? ⟨w.heap.size+1,1,none⟩=some (.int .i64 now):=hk1.cell 1
 have y2:W.cell? ⟨w.heap.size+1,2,none⟩=some (.int .i64 N):=hk1.cell 2
 have y3:W.cell? ⟨w.heap.size+1,3,none⟩=some (.string s):=hk1.cell 3
 have y4:W.cell? ⟨w.heap.size+1,4,none⟩=some (.string ts):=hk1.cell 4
 have y5:W.cell? ⟨w.heap.size+1,5,none⟩=some (.int .i64 tk):=hk1.cell 5
 have y6:W.cell? ⟨w.heap.size+1,6,none⟩=some (.bool tu):=hk1.cell 6
 have y7:W.cell? ⟨w.heap.size+1,7,none⟩=some (.int .i64 tt):=hk1.cell 7
 have y8:W.cell? ⟨w.heap.size+1,8,none⟩=some (.int .i64 ta):=hk1.cell 8
 have y9:W.cell? ⟨w.heap.size+1,9,none⟩=some (.int .i64 tb):=hk1.cell 9
 have y10:W.cell? ⟨w.heap.size+1,10,none⟩=some (.int .u64 seed):=hk1.cell 10
 have hw2:IntKind.i64.wrap ((n:Int) -2)=(n:Int) -2:=qs (by omega) (by omega)
 have HK0:=zd hk0
 have HR:=zd hk2
 have HO:=zd hk3
 have HB:=zd hb0
 have HD:=zd (h.on hb0)
 have HF:=zd hF
 have HKN:=zd hkn
 have e0:(kd==0)=false:=by rw[hkd];rfl
 have e1:(kd==1)=false:=by rw[hkd];rfl
 have e2:(kd==2)=false:=by rw[hkd];rfl
 have e3:(kd==3)=false:=by rw[hkd];rfl
 have e4:(kd==4)=true:=by rw[hkd];rfl
 have e5:(kd==5)=false:=by rw[hkd];rfl
 have e6:(kd==6)=false:=by rw[hkd];rfl
 have e7:(kd==7)=false:=by rw[hkd];rfl
 have g0:decide (kd=0)=false:=by rw[hkd];rfl
 have g1:decide (kd=1)=false:=by rw[hkd];rfl
 have g2:decide (kd=2)=false:=by rw[hkd];rfl
 have g3:decide (kd=3)=false:=by rw[hkd];rfl
 have g4:decide (kd=4)=true:=by rw[hkd];rfl
 have g5:decide (kd=5)=false:=by rw[hkd];rfl
 have g6:decide (kd=6)=false:=by rw[hkd];rfl
 have g7:decide (kd=7)=false:=by rw[hkd];rfl
 clear hkd
 have hst:(k.state==2)=true:=by simp[hc]
 clear hc
 clear h hF hk0 hk1 hk2 hk3 hb0 hkn hlt
 go_enter func9,ntmps9
 go_upto_region 1 with fail
 go_cut[6]from 15 (λ v wx=>v=.bool (decide (0≤N∧N<(n:Int) -2))∧wx=W)
 case first=>
  by_cases q1:0≤N
  ·have d1:decide (0≤N)=true:=decide_eq_true q1
   have d1':decide (N≥0)=true:=d1
   by_cases q2:N<(n:Int) -2
   ·have d2:decide (N<(n:Int) -2)=true:=decide_eq_true q2
    go_wp2_with fail
    go_meet
    exact⟨congrArg Value.bool (decide_eq_true (p:=0≤N∧N<(n:Int) -2) ⟨q1,q2⟩).symm,rfl⟩
   ·have d2:decide (N<(n:Int) -2)=false:=decide_eq_false q2
    go_wp2_with fail
    go_meet
    exact⟨congrArg Value.bool (decide_eq_false (p:=0≤N∧N<(n:Int) -2) (by omega)).symm,rfl⟩
  ·have d1:decide (0≤N)=false:=decide_eq_false q1
   have d1':decide (N≥0)=false:=d1
   go_wp2_with fail
   go_meet
   exact⟨congrArg Value.bool (decide_eq_false (p:=0≤N∧N<(n:Int) -2) (by omega)).symm,rfl⟩
 case rest=>
 obtain⟨rfl,hwc⟩:=hcut
 rw[hwc]
 clear hwc hW hw2
 obtain⟨r1,hz,hzo,hzd,hzb⟩:=Ua HR.out HO.out HD.out HB.out 0 ⟨#[]⟩ 0
 have HZ:=zd hz
 have HZO:=zd hzo
 have HZD:=zd hzd
 have HZB:=zd hzb
 have iR:=HR.out
 clear hz hzo hzd hzb
 go_wp2_with fail
 exact zk (v:=.tuple #[.agg (kC p n c k),.agg (ql ⟨0,⟨#[]⟩,0⟩)]) (by simp[results,results9,asAddr,qt HZ.out,ZG HZO.out]) rfl ⟨n,p,c,l,rfl,HZD.out,HZB.out⟩
theorem GQ (h:DAt w p n c k l) (hF:Kok k M) (kd now N:Int) (s ts:ByteArray) (tk:Int) (tu:Bool) (tt ta tb seed:Int) (hkd:kd=4) (hc:k.state≠2):
  Calls zf 9 #[.agg (kC p n c k),.agg #[.int .i64 kd,.int .i64 now,.int .i64 N,.string s,.string ts,.int .i64 tk,.bool tu,.int .i64 tt,.int .i64 ta,.int .i64 tb,.int .u64 seed]] w (Jl (k.onC (n -1) (Ch.qH now N)) (⟨0,(k.ql (n -1) (Ch.qH now N)).s,0⟩) w):=by
 have hkn:=h.ZT
 have hn10:=hF.fine.len
 rw[hkn]at hn10
 obtain⟨W,hW,hk0,hk1,hk2,hk3,hb0,hlt⟩:=Je w p n c k kd now N s ts tk tu tt ta tb seed
 have i0:=hk0.is (K:=5) rfl
 have c0:=hk0.cells
 have x0:W.cell? ⟨w.heap.size,0,none⟩=some (.slice p n c):=hk0.cell 0
 have x3:W.cell? ⟨w.heap.size,3,none⟩=some (.bool k.shut):=hk0.cell 3
 have x4:W.cell? ⟨w.heap.size,4,none⟩=some (.int .i64 k.state):=hk0.cell 4
 have y0:W.cell? ⟨w.heap.size+1,0,none⟩=some (.int .i64 kd):=hk1.cell 0
 have y1:W.cell? ⟨w.heap.size+1,1,none⟩=some (.int .i64 now):=hk1.cell 1
 have y2:W.cell? ⟨w.heap.size+1,2,none⟩=some (.int .i64 N):=hk1.cell 2
 have y3:W.cell? ⟨w.heap.size+1,3,none⟩=some (.string s):=hk1.cell 3
 have y4:W.cell? ⟨w.heap.size+1,4,none⟩=some (.string ts):=hk1.cell 4
 have y5:W.cell? ⟨w.heap.size+1,5,none⟩=some (.int .i64 tk):=hk1.cell 5
 have y6:W.cell? ⟨w.heap.size+1,6,none⟩=some (.bool tu):=hk1.cell 6
 have y7:W.cell? ⟨w.heap.size+1,7,none⟩=some (.int .i64 tt):=hk1.cell 7
 have y8:W.cell? ⟨w.heap.size+1,8,none⟩=some (.int .i64 ta):=hk1.cell 8
 have y9:W.cell? ⟨w.heap.size+1,9,none⟩=some (.int .i64 tb):=hk1.cell 9
 have y10:W.cell? ⟨w.heap.size+1,10,none⟩=some (.int .u64 seed):=hk1.cell 10
 have hw2:IntKind.i64.wrap ((n:Int) -2)=(n:Int) -2:=qs (by omega) (by omega)
 have HK0:=zd hk0
 have HR:=zd hk2
 have HO:=zd hk3
 have HB:=zd hb0
 have HD:=zd (h.on hb0)
 have HF:=zd hF
 have HKN:=zd hkn
 have e0:(kd==0)=false:=by rw[hkd];rfl
 have e1:(kd==1)=false:=by rw[hkd];rfl
 have e2:(kd==2)=false:=by rw[hkd];rfl
 have e3:(kd==3)=false:=by rw[hkd];rfl
 have e4:(kd==4)=true:=by rw[hkd];rfl
 have e5:(kd==5)=false:=by rw[hkd];rfl
 have e6:(kd==6)=false:=by rw[hkd];rfl
 have e7:(kd==7)=false:=by rw[hkd];rfl
 have g0:decide (kd=0)=false:=by rw[hkd];rfl
 have g1:decide (kd=1)=false:=by rw[hkd];rfl
 have g2:decide (kd=2)=false:=by rw[hkd];rfl
 have g3:decide (kd=3)=false:=by rw[hkd];rfl
 have g4:decide (kd=4)=true:=by rw[hkd];rfl
 have g5:decide (kd=5)=false:=by rw[hkd];rfl
 have g6:decide (kd=6)=false:=by rw[hkd];rfl
 have g7:decide (kd=7)=false:=by rw[hkd];rfl
 clear hkd
 have hst:(k.state==2)=false:=by simpa using hc
 have hdp:=jg (h.on hb0) hF.fine hF.top (n -1) (by omega) now N
 rw[show((n -1:Nat):Int)=(n:Int) -1 from by omega]at hdp
 have HDP:=zd hdp
 have hw3:IntKind.i64.wrap ((n:Int) -1)=(n:Int) -1:=qs (by omega) (by omega)
 obtain⟨k1,hk1e⟩:∃k1,k.onC (n -1) (Ch.qH now N)=k1:=⟨_,rfl⟩
 obtain⟨a1,ha1e⟩:∃a1,k.ql (n -1) (Ch.qH now N)=a1:=⟨_,rfl⟩
 rw[hk1e,ha1e]at HDP⊢
 clear hc hk1e ha1e hdp
 clear h hF hk0 hk1 hk2 hk3 hb0 hkn hlt
 go_enter func9,ntmps9
 go_upto_region 1 with fail
 go_cut[6]from 15 (λ v wx=>v=.bool (decide (0≤N∧N<(n:Int) -2))∧wx=W)
 case first=>
  by_cases q1:0≤N
  ·have d1:decide (0≤N)=true:=decide_eq_true q1
   have d1':decide (N≥0)=true:=d1
   by_cases q2:N<(n:Int) -2
   ·have d2:decide (N<(n:Int) -2)=true:=decide_eq_true q2
    go_wp2_with fail
    go_meet
    exact⟨congrArg Value.bool (decide_eq_true (p:=0≤N∧N<(n:Int) -2) ⟨q1,q2⟩).symm,rfl⟩
   ·have d2:decide (N<(n:Int) -2)=false:=decide_eq_false q2
    go_wp2_with fail
    go_meet
    exact⟨congrArg Value.bool (decide_eq_false (p:=0≤N∧N<(n:Int) -2) (by omega)).symm,rfl⟩
  ·have d1:decide (0≤N)=false:=decide_eq_false q1
   have d1':decide (N≥0)=false:=d1
   go_wp2_with fail
   go_meet
   exact⟨congrArg Value.bool (decide_eq_false (p:=0≤N∧N<(n:Int) -2) (by omega)).symm,rfl⟩
 case rest=>
 obtain⟨rfl,hwc⟩:=hcut
 rw[hwc]
 clear hwc hW hw2
 go_wp2_with fail
 refine HDP.out.mono ?_
 rintro e w1 ⟨p1,c1,l1,rfl,hd1,hb1⟩
 obtain⟨W2,hW2,i2,j2,z2,y2,hb2,hs2⟩:=jd w1 p1 n c1 k1 a1
 have hW2:(w1.alloc (.cells #[.slice none 0 0,.int .i64 0,.int .i64 0,.bool false,.int .i64 0] 31)).alloc (.cells #[.int .i64 0,.string ⟨#[]⟩,.int .i64 0] 73)=W2:=hW2
 have hb12:=gb.seqB hb1 hb2
 have HD3:=zd (hd1.on hb2)
 have HR3:=zd (HR.out.on hb12)
 have HO3:=zd (HO.out.on hb12)
 have HB3:=zd (gb.seqB HB.out hb12)
 have hlo:=HO3.out.lt
 have HZ2:=zd z2
 have HY2:=zd y2
 have hlo1:=(HO.out.on hb1).lt
 clear HDP hb1 hb2 hb12 hd1 z2 y2
 go_upto_region 21 with fail
 generalize(W2.setRow w1.heap.size (kC p1 n c1 k1)).setRow (w1.heap.size+1) (ql a1)=w3 at*
 clear hW2 i2 j2 hs2
 have u0:IsC w3.drew w1.heap.size:=HZ2.out.is rfl
 have u1:qE w3.drew w1.heap.size=kC p1 n c1 k1:=HZ2.out.cells
 have u2:w3.drew.cell? ⟨w1.heap.size+1,1,none⟩=some (.string a1.s):=HY2.out.cell 1
 have u3:(w3.drew.setRow (w.heap.size+1+1) (kC p1 n c1 k1)).cell? ⟨w1.heap.size+1,1,none⟩=some (.string a1.s):=(BAt.other (w:=w3.drew) HY2.out (by omega) _).cell 1
 have HRd:=zd (show IsC w3.drew (w.heap.size+1+1)from HR3.out)
 have HOd:=zd (show IsO w3.drew (w.heap.size+1+1+1)from HO3.out)
 have HDd:=zd (HD3.out.on (zh _ _).drew)
 have HBd:=zd (HB3.out.drew)
 obtain⟨r1,hz,hzo,hzd,hzb⟩:=Ua HRd.out HOd.out HDd.out HBd.out 0 a1.s 0
 have HZ:=zd hz
 have HZO:=zd hzo
 have HZD:=zd hzd
 have HZB:=zd hzb
 have iR:=HRd.out
 clear hz hzo hzd hzb
 go_region
 all_goals (
  go_wp2_with fail
  exact zk (v:=.tuple #[.agg (kC p1 n c1 k1),.agg (ql ⟨0,a1.s,0⟩)]) (by simp[results,results9,asAddr,qt HZ.out,ZG HZO.out]) rfl ⟨n,p1,c1,l1,rfl,HZD.out,HZB.out⟩)
theorem GP (h:DAt w p n c k l) (hF:Kok k M) (kd now N:Int) (s ts:ByteArray) (tk:Int) (tu:Bool) (tt ta tb seed:Int) (hkd:kd=5) (K:Ch) (E:Int) (n1:Nat) (hi:∀W,DAt W p n c k l→Calls zf 25 #[.agg (kC p n c k),.int .i64 N,.agg #[.string ts,.int .i64 tk,.bool tu,.int .i64 tt,.int .i64 ta,.int .i64 tb],.int .u64 seed,.int .i64 now] W (jC K E n1 W)):
  Calls zf 9 #[.agg (kC p n c k),.agg #[.int .i64 kd,.int .i64 now,.int .i64 N,.string s,.string ts,.int .i64 tk,.bool tu,.int .i64 tt,.int .i64 ta,.int .i64 tb,.int .u64 seed]] w (Jl (K) (⟨0,⟨#[]⟩,E⟩) w):=by
 have hkn:=h.ZT
 have hn10:=hF.fine.len
 rw[hkn]at hn10
 obtain⟨W,hW,hk0,hk1,hk2,hk3,hb0,hlt⟩:=Je w p n c k kd now N s ts tk tu tt ta tb seed
 have i0:=hk0.is (K:=5) rfl
 have c0:=hk0.cells
 have x0:W.cell? ⟨w.heap.size,0,none⟩=some (.slice p n c):=hk0.cell 0
 have x3:W.cell? ⟨w.heap.size,3,none⟩=some (.bool k.shut):=hk0.cell 3
 have x4:W.cell? ⟨w.heap.size,4,none⟩=some (.int .i64 k.state):=hk0.cell 4
 have y0:W.cell? ⟨w.heap.size+1,0,none⟩=some (.int .i64 kd):=hk1.cell 0
 have y1:W.cell? ⟨w.heap.size+1,1,none⟩=some (.int .i64 now):=hk1.cell 1
 have y2:W.cell? ⟨w.heap.size+1,2,none⟩=some (.int .i64 N):=hk1.cell 2
 have y3:W.cell? ⟨w.heap.size+1,3,none⟩=some (.string s):=hk1.cell 3
 have y4:W.cell? ⟨w.heap.size+1,4,none⟩=some (.string ts):=hk1.cell 4
 have y5:W.cell? ⟨w.heap.size+1,5,none⟩=some (.int .i64 tk):=hk1.cell 5
 have y6:W.cell? ⟨w.heap.size+1,6,none⟩=some (.bool tu):=hk1.cell 6
 have y7:W.cell? ⟨w.heap.size+1,7,none⟩=some (.int .i64 tt):=hk1.cell 7
 have y8:W.cell? ⟨w.heap.size+1,8,none⟩=some (.int .i64 ta):=hk1.cell 8
 have y9:W.cell? ⟨w.heap.size+1,9,none⟩=some (.int .i64 tb):=hk1.cell 9
 have y10:W.cell? ⟨w.heap.size+1,10,none⟩=some (.int .u64 seed):=hk1.cell 10
 have hw2:IntKind.i64.wrap ((n:Int) -2)=(n:Int) -2:=qs (by omega) (by omega)
 have HK0:=zd hk0
 have HR:=zd hk2
 have HO:=zd hk3
 have HB:=zd hb0
 have HD:=zd (h.on hb0)
 have HF:=zd hF
 have HKN:=zd hkn
 have e0:(kd==0)=false:=by rw[hkd];rfl
 have e1:(kd==1)=false:=by rw[hkd];rfl
 have e2:(kd==2)=false:=by rw[hkd];rfl
 have e3:(kd==3)=false:=by rw[hkd];rfl
 have e4:(kd==4)=false:=by rw[hkd];rfl
 have e5:(kd==5)=true:=by rw[hkd];rfl
 have e6:(kd==6)=false:=by rw[hkd];rfl
 have e7:(kd==7)=false:=by rw[hkd];rfl
 have g0:decide (kd=0)=false:=by rw[hkd];rfl
 have g1:decide (kd=1)=false:=by rw[hkd];rfl
 have g2:decide (kd=2)=false:=by rw[hkd];rfl
 have g3:decide (kd=3)=false:=by rw[hkd];rfl
 have g4:decide (kd=4)=false:=by rw[hkd];rfl
 have g5:decide (kd=5)=true:=by rw[hkd];rfl
 have g6:decide (kd=6)=false:=by rw[hkd];rfl
 have g7:decide (kd=7)=false:=by rw[hkd];rfl
 clear hkd
 have HDP:=zd (hi W (h.on hb0))
 clear hi
 clear h hF hk0 hk1 hk2 hk3 hb0 hkn hlt
 go_enter func9,ntmps9
 go_upto_region 1 with fail
 go_cut[6]from 15 (λ v wx=>v=.bool (decide (0≤N∧N<(n:Int) -2))∧wx=W)
 case first=>
  by_cases q1:0≤N
  ·have d1:decide (0≤N)=true:=decide_eq_true q1
   have d1':decide (N≥0)=true:=d1
   by_cases q2:N<(n:Int) -2
   ·have d2:decide (N<(n:Int) -2)=true:=decide_eq_true q2
    go_wp2_with fail
    go_meet
    exact⟨congrArg Value.bool (decide_eq_true (p:=0≤N∧N<(n:Int) -2) ⟨q1,q2⟩).symm,rfl⟩
   ·have d2:decide (N<(n:Int) -2)=false:=decide_eq_false q2
    go_wp2_with fail
    go_meet
    exact⟨congrArg Value.bool (decide_eq_false (p:=0≤N∧N<(n:Int) -2) (by omega)).symm,rfl⟩
  ·have d1:decide (0≤N)=false:=decide_eq_false q1
   have d1':decide (N≥0)=false:=d1
   go_wp2_with fail
   go_meet
   exact⟨congrArg Value.bool (decide_eq_false (p:=0≤N∧N<(n:Int) -2) (by omega)).symm,rfl⟩
 case rest=>
 obtain⟨rfl,hwc⟩:=hcut
 rw[hwc]
 clear hwc hW hw2
 go_wp2_with fail
 refine HDP.out.mono ?_
 rintro e w1 ⟨p1,c1,l1,rfl,hd1,hb1⟩
 obtain⟨W2,hW2,i2,z2,hb2⟩:=jG w1 p1 n1 c1 K
 have hW2:w1.alloc (.cells #[.slice none 0 0,.int .i64 0,.int .i64 0,.bool false,.int .i64 0] 31)=W2:=hW2
 have hb12:=gb.seqB hb1 hb2
 have HD3:=zd (hd1.on hb2)
 have HR3:=zd (HR.out.on hb12)
 have HO3:=zd (HO.out.on hb12)
 have HB3:=zd (gb.seqB HB.out hb12)
 have HZ2:=zd z2
 clear HDP hb1 hb2 hb12 hd1 z2 i0 c0 x0 x3 x4 y0 y1 y2 y3 y4 y5 y6 y7 y8 y9 y10
 go_upto_region 24 with fail
 generalize W2.setRow w1.heap.size (kC p1 n1 c1 K)=w3 at*
 clear hW2 i2
 have u0:IsC w3 w1.heap.size:=HZ2.out.is rfl
 have u1:=HZ2.out.cells
 obtain⟨r1,hz,hzo,hzd,hzb⟩:=Ua HR3.out HO3.out HD3.out HB3.out 0 ⟨#[]⟩ E
 have HZ:=zd hz
 have HZO:=zd hzo
 have HZD:=zd hzd
 have HZB:=zd hzb
 have iR:=HR3.out
 clear hz hzo hzd hzb
 go_wp2_with fail
 exact zk (v:=.tuple #[.agg (kC p1 n1 c1 K),.agg (ql ⟨0,⟨#[]⟩,E⟩)]) (by simp[results,results9,asAddr,qt HZ.out,ZG HZO.out]) rfl ⟨n1,p1,c1,l1,rfl,HZD.out,HZB.out⟩
theorem EN (h:DAt w p n c k l) (hF:Kok k M) (kd now N:Int) (s ts:ByteArray) (tk:Int) (tu:Bool) (tt ta tb seed:Int) (hkd:kd=6) (hc:¬(0≤N∧N<(n:Int) -2)):
  Calls zf 9 #[.agg (kC p n c k),.agg #[.int .i64 kd,.int .i64 now,.int .i64 N,.string s,.string ts,.int .i64 tk,.bool tu,.int .i64 tt,.int .i64 ta,.int .i64 tb,.int .u64 seed]] w (Jl (k) (⟨0,⟨#[]⟩,110⟩) w):=by
 have hkn:=h.ZT
 have hn10:=hF.fine.len
 rw[hkn]at hn10
 obtain⟨W,hW,hk0,hk1,hk2,hk3,hb0,hlt⟩:=Je w p n c k kd now N s ts tk tu tt ta tb seed
 have i0:=hk0.is (K:=5) rfl
 have c0:=hk0.cells
 have x0:W.cell? ⟨w.heap.size,0,none⟩=some (.slice p n c):=hk0.cell 0
 have x3:W.cell? ⟨w.heap.size,3,none⟩=some (.bool k.shut):=hk0.cell 3
 have x4:W.cell? ⟨w.heap.size,4,none⟩=some (.int .i64 k.state):=hk0.cell 4
 have y0:W.cell? ⟨w.heap.size+1,0,none⟩=some (.int .i64 kd):=hk1.cell 0
 have y1:W.cell? ⟨w.heap.size+1,1,none⟩=some (.int .i64 now):=hk1.cell 1
 have y2:W.cell? ⟨w.heap.size+1,2,none⟩=some (.int .i64 N):=hk1.cell 2
 have y3:W.cell? ⟨w.heap.size+1,3,none⟩=some (.string s):=hk1.cell 3
 have y4:W.cell? ⟨w.heap.size+1,4,none⟩=some (.string ts):=hk1.cell 4
 have y5:W.cell? ⟨w.heap.size+1,5,none⟩=some (.int .i64 tk):=hk1.cell 5
 have y6:W.cell? ⟨w.heap.size+1,6,none⟩=some (.bool tu):=hk1.cell 6
 have y7:W.cell? ⟨w.heap.size+1,7,none⟩=some (.int .i64 tt):=hk1.cell 7
 have y8:W.cell? ⟨w.heap.size+1,8,none⟩=some (.int .i64 ta):=hk1.cell 8
 have y9:W.cell? ⟨w.heap.size+1,9,none⟩=some (.int .i64 tb):=hk1.cell 9
 have y10:W.cell? ⟨w.heap.size+1,10,none⟩=some (.int .u64 seed):=hk1.cell 10
 have hw2:IntKind.i64.wrap ((n:Int) -2)=(n:Int) -2:=qs (by omega) (by omega)
 have HK0:=zd hk0
 have HR:=zd hk2
 have HO:=zd hk3
 have HB:=zd hb0
 have HD:=zd (h.on hb0)
 have HF:=zd hF
 have HKN:=zd hkn
 have e0:(kd==0)=false:=by rw[hkd];rfl
 have e1:(kd==1)=false:=by rw[hkd];rfl
 have e2:(kd==2)=false:=by rw[hkd];rfl
 have e3:(kd==3)=false:=by rw[hkd];rfl
 have e4:(kd==4)=false:=by rw[hkd];rfl
 have e5:(kd==5)=false:=by rw[hkd];rfl
 have e6:(kd==6)=true:=by rw[hkd];rfl
 have e7:(kd==7)=false:=by rw[hkd];rfl
 have g0:decide (kd=0)=false:=by rw[hkd];rfl
 have g1:decide (kd=1)=false:=by rw[hkd];rfl
 have g2:decide (kd=2)=false:=by rw[hkd];rfl
 have g3:decide (kd=3)=false:=by rw[hkd];rfl
 have g4:decide (kd=4)=false:=by rw[hkd];rfl
 have g5:decide (kd=5)=false:=by rw[hkd];rfl
 have g6:decide (kd=6)=true:=by rw[hkd];rfl
 have g7:decide (kd=7)=false:=by rw[hkd];rfl
 clear hkd
 have HC:=zd hc
 clear hc
 clear h hF hk0 hk1 hk2 hk3 hb0 hkn hlt
 go_enter func9,ntmps9
 go_upto_region 1 with fail
 go_cut[6]from 15 (λ v wx=>v=.bool (decide (0≤N∧N<(n:Int) -2))∧wx=W)
 case first=>
  by_cases q1:0≤N
  ·have d1:decide (0≤N)=true:=decide_eq_true q1
   have d1':decide (N≥0)=true:=d1
   by_cases q2:N<(n:Int) -2
   ·have d2:decide (N<(n:Int) -2)=true:=decide_eq_true q2
    go_wp2_with fail
    go_meet
    exact⟨congrArg Value.bool (decide_eq_true (p:=0≤N∧N<(n:Int) -2) ⟨q1,q2⟩).symm,rfl⟩
   ·have d2:decide (N<(n:Int) -2)=false:=decide_eq_false q2
    go_wp2_with fail
    go_meet
    exact⟨congrArg Value.bool (decide_eq_false (p:=0≤N∧N<(n:Int) -2) (by omega)).symm,rfl⟩
  ·have d1:decide (0≤N)=false:=decide_eq_false q1
   have d1':decide (N≥0)=false:=d1
   go_wp2_with fail
   go_meet
   exact⟨congrArg Value.bool (decide_eq_false (p:=0≤N∧N<(n:Int) -2) (by omega)).symm,rfl⟩
 case rest=>
 obtain⟨rfl,hwc⟩:=hcut
 rw[hwc]
 clear hwc hW hw2
 rw[decide_eq_false HC.out]
 obtain⟨r1,hz,hzo,hzd,hzb⟩:=Ua HR.out HO.out HD.out HB.out 0 ⟨#[]⟩ 110
 have HZ:=zd hz
 have HZO:=zd hzo
 have HZD:=zd hzd
 have HZB:=zd hzb
 have iR:=HR.out
 clear hz hzo hzd hzb
 go_wp2_with fail
 exact zk (v:=.tuple #[.agg (kC p n c k),.agg (ql ⟨0,⟨#[]⟩,110⟩)]) (by simp[results,results9,asAddr,qt HZ.out,ZG HZO.out]) rfl ⟨n,p,c,l,rfl,HZD.out,HZB.out⟩
theorem EM (h:DAt w p n c k l) (hF:Kok k M) (kd now N:Int) (s ts:ByteArray) (tk:Int) (tu:Bool) (tt ta tb seed:Int) (hkd:kd=7) (hc:¬(0≤N∧N<(n:Int) -2)):
  Calls zf 9 #[.agg (kC p n c k),.agg #[.int .i64 kd,.int .i64 now,.int .i64 N,.string s,.string ts,.int .i64 tk,.bool tu,.int .i64 tt,.int .i64 ta,.int .i64 tb,.int .u64 seed]] w (Jl (k) (⟨0,⟨#[]⟩,110⟩) w):=by
 have hkn:=h.ZT
 have hn10:=hF.fine.len
 rw[hkn]at hn10
 obtain⟨W,hW,hk0,hk1,hk2,hk3,hb0,hlt⟩:=Je w p n c k kd now N s ts tk tu tt ta tb seed
 have i0:=hk0.is (K:=5) rfl
 have c0:=hk0.cells
 have x0:W.cell? ⟨w.heap.size,0,none⟩=some (.slice p n c):=hk0.cell 0
 have x3:W.cell? ⟨w.heap.size,3,none⟩=some (.bool k.shut):=hk0.cell 3
 have x4:W.cell? ⟨w.heap.size,4,none⟩=some (.int .i64 k.state):=hk0.cell 4
 have y0:W.cell? ⟨w.heap.size+1,0,none⟩=some (.int .i64 kd):=hk1.cell 0
 have y1:W.cell? ⟨w.heap.size+1,1,none⟩=some (.int .i64 now):=hk1.cell 1
 have y2:W.cell? ⟨w.heap.size+1,2,none⟩=some (.int .i64 N):=hk1.cell 2
 have y3:W.cell? ⟨w.heap.size+1,3,none⟩=some (.string s):=hk1.cell 3
 have y4:W.cell? ⟨w.heap.size+1,4,none⟩=some (.string ts):=hk1.cell 4
 have y5:W.cell? ⟨w.heap.size+1,5,none⟩=some (.int .i64 tk):=hk1.cell 5
 have y6:W.cell? ⟨w.heap.size+1,6,none⟩=some (.bool tu):=hk1.cell 6
 have y7:W.cell? ⟨w.heap.size+1,7,none⟩=some (.int .i64 tt):=hk1.cell 7
 have y8:W.cell? ⟨w.heap.size+1,8,none⟩=some (.int .i64 ta):=hk1.cell 8
 have y9:W.cell? ⟨w.heap.size+1,9,none⟩=some (.int .i64 tb):=hk1.cell 9
 have y10:W.cell? ⟨w.heap.size+1,10,none⟩=some (.int .u64 seed):=hk1.cell 10
 have hw2:IntKind.i64.wrap ((n:Int) -2)=(n:Int) -2:=qs (by omega) (by omega)
 have HK0:=zd hk0
 have HR:=zd hk2
 have HO:=zd hk3
 have HB:=zd hb0
 have HD:=zd (h.on hb0)
 have HF:=zd hF
 have HKN:=zd hkn
 have e0:(kd==0)=false:=by rw[hkd];rfl
 have e1:(kd==1)=false:=by rw[hkd];rfl
 have e2:(kd==2)=false:=by rw[hkd];rfl
 have e3:(kd==3)=false:=by rw[hkd];rfl
 have e4:(kd==4)=false:=by rw[hkd];rfl
 have e5:(kd==5)=false:=by rw[hkd];rfl
 have e6:(kd==6)=false:=by rw[hkd];rfl
 have e7:(kd==7)=true:=by rw[hkd];rfl
 have g0:decide (kd=0)=false:=by rw[hkd];rfl
 have g1:decide (kd=1)=false:=by rw[hkd];rfl
 have g2:decide (kd=2)=false:=by rw[hkd];rfl
 have g3:decide (kd=3)=false:=by rw[hkd];rfl
 have g4:decide (kd=4)=false:=by rw[hkd];rfl
 have g5:decide (kd=5)=false:=by rw[hkd];rfl
 have g6:decide (kd=6)=false:=by rw[hkd];rfl
 have g7:decide (kd=7)=true:=by rw[hkd];rfl
 clear hkd
 have HC:=zd hc
 clear hc
 clear h hF hk0 hk1 hk2 hk3 hb0 hkn hlt
 go_enter func9,ntmps9
 go_upto_region 1 with fail
 go_cut[6]from 15 (λ v wx=>v=.bool (decide (0≤N∧N<(n:Int) -2))∧wx=W)
 case first=>
  by_cases q1:0≤N
  ·have d1:decide (0≤N)=true:=decide_eq_true q1
   have d1':decide (N≥0)=true:=d1
   by_cases q2:N<(n:Int) -2
   ·have d2:decide (N<(n:Int) -2)=true:=decide_eq_true q2
    go_wp2_with fail
    go_meet
    exact⟨congrArg Value.bool (decide_eq_true (p:=0≤N∧N<(n:Int) -2) ⟨q1,q2⟩).symm,rfl⟩
   ·have d2:decide (N<(n:Int) -2)=false:=decide_eq_false q2
    go_wp2_with fail
    go_meet
    exact⟨congrArg Value.bool (decide_eq_false (p:=0≤N∧N<(n:Int) -2) (by omega)).symm,rfl⟩
  ·have d1:decide (0≤N)=false:=decide_eq_false q1
   have d1':decide (N≥0)=false:=d1
   go_wp2_with fail
   go_meet
   exact⟨congrArg Value.bool (decide_eq_false (p:=0≤N∧N<(n:Int) -2) (by omega)).symm,rfl⟩
 case rest=>
 obtain⟨rfl,hwc⟩:=hcut
 rw[hwc]
 clear hwc hW hw2
 rw[decide_eq_false HC.out]
 obtain⟨r1,hz,hzo,hzd,hzb⟩:=Ua HR.out HO.out HD.out HB.out 0 ⟨#[]⟩ 110
 have HZ:=zd hz
 have HZO:=zd hzo
 have HZD:=zd hzd
 have HZB:=zd hzb
 have iR:=HR.out
 clear hz hzo hzd hzb
 go_wp2_with fail
 exact zk (v:=.tuple #[.agg (kC p n c k),.agg (ql ⟨0,⟨#[]⟩,110⟩)]) (by simp[results,results9,asAddr,qt HZ.out,ZG HZO.out]) rfl ⟨n,p,c,l,rfl,HZD.out,HZB.out⟩
theorem Ak (h:DAt w p n c k l) (hF:Kok k M) (kd now N:Int) (s ts:ByteArray) (tk:Int) (tu:Bool) (tt ta tb seed:Int) (hkd:kd=6) (m i:Nat) (hm:n=m+1) (hN:N=(i:Int)) (hi:i+2≤m):
  Calls zf 9 #[.agg (kC p n c k),.agg #[.int .i64 kd,.int .i64 now,.int .i64 N,.string s,.string ts,.int .i64 tk,.bool tu,.int .i64 tt,.int .i64 ta,.int .i64 tb,.int .u64 seed]] w (Jl (k.ZW i now) (qT) w):=by
 have hkn:=h.ZT
 have hn10:=hF.fine.len
 rw[hkn]at hn10
 obtain⟨W,hW,hk0,hk1,hk2,hk3,hb0,hlt⟩:=Je w p n c k kd now N s ts tk tu tt ta tb seed
 have i0:=hk0.is (K:=5) rfl
 have c0:=hk0.cells
 have x0:W.cell? ⟨w.heap.size,0,none⟩=some (.slice p n c):=hk0.cell 0
 have x3:W.cell? ⟨w.heap.size,3,none⟩=some (.bool k.shut):=hk0.cell 3
 have x4:W.cell? ⟨w.heap.size,4,none⟩=some (.int .i64 k.state):=hk0.cell 4
 have y0:W.cell? ⟨w.heap.size+1,0,none⟩=some (.int .i64 kd):=hk1.cell 0
 have y1:W.cell? ⟨w.heap.size+1,1,none⟩=some (.int .i64 now):=hk1.cell 1
 have y2:W.cell? ⟨w.heap.size+1,2,none⟩=some (.int .i64 N):=hk1.cell 2
 have y3:W.cell? ⟨w.heap.size+1,3,none⟩=some (.string s):=hk1.cell 3
 have y4:W.cell? ⟨w.heap.size+1,4,none⟩=some (.string ts):=hk1.cell 4
 have y5:W.cell? ⟨w.heap.size+1,5,none⟩=some (.int .i64 tk):=hk1.cell 5
 have y6:W.cell? ⟨w.heap.size+1,6,none⟩=some (.bool tu):=hk1.cell 6
 have y7:W.cell? ⟨w.heap.size+1,7,none⟩=some (.int .i64 tt):=hk1.cell 7
 have y8:W.cell? ⟨w.heap.size+1,8,none⟩=some (.int .i64 ta):=hk1.cell 8
 have y9:W.cell? ⟨w.heap.size+1,9,none⟩=some (.int .i64 tb):=hk1.cell 9
 have y10:W.cell? ⟨w.heap.size+1,10,none⟩=some (.int .u64 seed):=hk1.cell 10
 have hw2:IntKind.i64.wrap ((n:Int) -2)=(n:Int) -2:=qs (by omega) (by omega)
 have HK0:=zd hk0
 have HR:=zd hk2
 have HO:=zd hk3
 have HB:=zd hb0
 have HD:=zd (h.on hb0)
 have HF:=zd hF
 have HKN:=zd hkn
 have e0:(kd==0)=false:=by rw[hkd];rfl
 have e1:(kd==1)=false:=by rw[hkd];rfl
 have e2:(kd==2)=false:=by rw[hkd];rfl
 have e3:(kd==3)=false:=by rw[hkd];rfl
 have e4:(kd==4)=false:=by rw[hkd];rfl
 have e5:(kd==5)=false:=by rw[hkd];rfl
 have e6:(kd==6)=true:=by rw[hkd];rfl
 have e7:(kd==7)=false:=by rw[hkd];rfl
 have g0:decide (kd=0)=false:=by rw[hkd];rfl
 have g1:decide (kd=1)=false:=by rw[hkd];rfl
 have g2:decide (kd=2)=false:=by rw[hkd];rfl
 have g3:decide (kd=3)=false:=by rw[hkd];rfl
 have g4:decide (kd=4)=false:=by rw[hkd];rfl
 have g5:decide (kd=5)=false:=by rw[hkd];rfl
 have g6:decide (kd=6)=true:=by rw[hkd];rfl
 have g7:decide (kd=7)=false:=by rw[hkd];rfl
 clear hkd
 have HDP:=zd (show Calls zf 26 #[.agg (kC p n c k),.int .i64 N,.int .i64 now] W (Nl (k.ZW i now) m W)from by
  subst hm
  subst hN
  exact GJ (h.on hb0) hF i hi now)
 have HC:=zd (show 0≤N∧N<(n:Int) -2 from by omega)
 generalize k.ZW i now=k1 at HDP⊢
 clear hm hN hi
 clear h hF hk0 hk1 hk2 hk3 hb0 hkn hlt
 go_enter func9,ntmps9
 go_upto_region 1 with fail
 go_cut[6]from 15 (λ v wx=>v=.bool (decide (0≤N∧N<(n:Int) -2))∧wx=W)
 case first=>
  by_cases q1:0≤N
  ·have d1:decide (0≤N)=true:=decide_eq_true q1
   have d1':decide (N≥0)=true:=d1
   by_cases q2:N<(n:Int) -2
   ·have d2:decide (N<(n:Int) -2)=true:=decide_eq_true q2
    go_wp2_with fail
    go_meet
    exact⟨congrArg Value.bool (decide_eq_true (p:=0≤N∧N<(n:Int) -2) ⟨q1,q2⟩).symm,rfl⟩
   ·have d2:decide (N<(n:Int) -2)=false:=decide_eq_false q2
    go_wp2_with fail
    go_meet
    exact⟨congrArg Value.bool (decide_eq_false (p:=0≤N∧N<(n:Int) -2) (by omega)).symm,rfl⟩
  ·have d1:decide (0≤N)=false:=decide_eq_false q1
   have d1':decide (N≥0)=false:=d1
   go_wp2_with fail
   go_meet
   exact⟨congrArg Value.bool (decide_eq_false (p:=0≤N∧N<(n:Int) -2) (by omega)).symm,rfl⟩
 case rest=>
 obtain⟨rfl,hwc⟩:=hcut
 rw[hwc]
 clear hwc hW hw2
 rw[decide_eq_true HC.out]
 go_wp2_with fail
 refine HDP.out.mono ?_
 rintro e w1 ⟨p1,c1,l1,rfl,hd1,hb1⟩
 have HD3:=zd hd1
 have HR3:=zd (HR.out.on hb1)
 have HO3:=zd (HO.out.on hb1)
 have HB3:=zd (gb.seqB HB.out hb1)
 clear HDP hb1 hd1 i0 c0 x0 x3 x4 y0 y1 y2 y3 y4 y5 y6 y7 y8 y9 y10
 obtain⟨r1,hz,hzo,hzd,hzb⟩:=Ua HR3.out HO3.out HD3.out HB3.out 0 ⟨#[]⟩ 0
 have HZ:=zd hz
 have HZO:=zd hzo
 have HZD:=zd hzd
 have HZB:=zd hzb
 have iR:=HR3.out
 clear hz hzo hzd hzb
 go_wp2_with fail
 exact zk (v:=.tuple #[.agg (kC p1 m c1 k1),.agg (ql ⟨0,⟨#[]⟩,0⟩)]) (by simp[results,results9,asAddr,qt HZ.out,ZG HZO.out]) rfl ⟨m,p1,c1,l1,rfl,HZD.out,HZB.out⟩
theorem Aj (h:DAt w p n c k l) (hF:Kok k M) (kd now N:Int) (s ts:ByteArray) (tk:Int) (tu:Bool) (tt ta tb seed:Int) (hkd:kd=7) (i:Nat) (hN:N=(i:Int)) (hi:i+2<n) (hts:ts.size≤maxLen):
  Calls zf 9 #[.agg (kC p n c k),.agg #[.int .i64 kd,.int .i64 now,.int .i64 N,.string s,.string ts,.int .i64 tk,.bool tu,.int .i64 tt,.int .i64 ta,.int .i64 tb,.int .u64 seed]] w (Jl (k.onC (i+1) (Ch.Ve now ⟨ts,tk,tu,tt,ta,tb⟩)) (⟨0,⟨#[]⟩,(k.ql (i+1) (Ch.Ve now ⟨ts,tk,tu,tt,ta,tb⟩)).e⟩) w):=by
 have hkn:=h.ZT
 have hn10:=hF.fine.len
 rw[hkn]at hn10
 obtain⟨W,hW,hk0,hk1,hk2,hk3,hb0,hlt⟩:=Je w p n c k kd now N s ts tk tu tt ta tb seed
 have i0:=hk0.is (K:=5) rfl
 have c0:=hk0.cells
 have x0:W.cell? ⟨w.heap.size,0,none⟩=some (.slice p n c):=hk0.cell 0
 have x3:W.cell? ⟨w.heap.size,3,none⟩=some (.bool k.shut):=hk0.cell 3
 have x4:W.cell? ⟨w.heap.size,4,none⟩=some (.int .i64 k.state):=hk0.cell 4
 have y0:W.cell? ⟨w.heap.size+1,0,none⟩=some (.int .i64 kd):=hk1.cell 0
 have y1:W.cell? ⟨w.heap.size+1,1,none⟩=some (.int .i64 now):=hk1.cell 1
 have y2:W.cell? ⟨w.heap.size+1,2,none⟩=some (.int .i64 N):=hk1.cell 2
 have y3:W.cell? ⟨w.heap.size+1,3,none⟩=some (.string s):=hk1.cell 3
 have y4:W.cell? ⟨w.heap.size+1,4,none⟩=some (.string ts):=hk1.cell 4
 have y5:W.cell? ⟨w.heap.size+1,5,none⟩=some (.int .i64 tk):=hk1.cell 5
 have y6:W.cell? ⟨w.heap.size+1,6,none⟩=some (.bool tu):=hk1.cell 6
 have y7:W.cell? ⟨w.heap.size+1,7,none⟩=some (.int .i64 tt):=hk1.cell 7
 have y8:W.cell? ⟨w.heap.size+1,8,none⟩=some (.int .i64 ta):=hk1.cell 8
 have y9:W.cell? ⟨w.heap.size+1,9,none⟩=some (.int .i64 tb):=hk1.cell 9
 have y10:W.cell? ⟨w.heap.size+1,10,none⟩=some (.int .u64 seed):=hk1.cell 10
 have hw2:IntKind.i64.wrap ((n:Int) -2)=(n:Int) -2:=qs (by omega) (by omega)
 have HK0:=zd hk0
 have HR:=zd hk2
 have HO:=zd hk3
 have HB:=zd hb0
 have HD:=zd (h.on hb0)
 have HF:=zd hF
 have HKN:=zd hkn
 have e0:(kd==0)=false:=by rw[hkd];rfl
 have e1:(kd==1)=false:=by rw[hkd];rfl
 have e2:(kd==2)=false:=by rw[hkd];rfl
 have e3:(kd==3)=false:=by rw[hkd];rfl
 have e4:(kd==4)=false:=by rw[hkd];rfl
 have e5:(kd==5)=false:=by rw[hkd];rfl
 have e6:(kd==6)=false:=by rw[hkd];rfl
 have e7:(kd==7)=true:=by rw[hkd];rfl
 have g0:decide (kd=0)=false:=by rw[hkd];rfl
 have g1:decide (kd=1)=false:=by rw[hkd];rfl
 have g2:decide (kd=2)=false:=by rw[hkd];rfl
 have g3:decide (kd=3)=false:=by rw[hkd];rfl
 have g4:decide (kd=4)=false:=by rw[hkd];rfl
 have g5:decide (kd=5)=false:=by rw[hkd];rfl
 have g6:decide (kd=6)=false:=by rw[hkd];rfl
 have g7:decide (kd=7)=true:=by rw[hkd];rfl
 clear hkd
 have hdp:=Lf (h.on hb0) hF.fine hF.top (i+1) (by omega) now ts tk tu tt ta tb hts
 rw[show((i+1:Nat):Int)=N+1 from by omega]at hdp
 have HDP:=zd hdp
 have hw3:IntKind.i64.wrap (N+1)=N+1:=qs (by omega) (by omega)
 have HC:=zd (show 0≤N∧N<(n:Int) -2 from by omega)
 obtain⟨k1,hk1e⟩:∃k1,k.onC (i+1) (Ch.Ve now ⟨ts,tk,tu,tt,ta,tb⟩)=k1:=⟨_,rfl⟩
 obtain⟨a1,ha1e⟩:∃a1,k.ql (i+1) (Ch.Ve now ⟨ts,tk,tu,tt,ta,tb⟩)=a1:=⟨_,rfl⟩
 rw[hk1e,ha1e]at HDP⊢
 clear hk1e ha1e hdp hN hi
 clear h hF hk0 hk1 hk2 hk3 hb0 hkn hlt
 go_enter func9,ntmps9
 go_upto_region 1 with fail
 go_cut[6]from 15 (λ v wx=>v=.bool (decide (0≤N∧N<(n:Int) -2))∧wx=W)
 case first=>
  by_cases q1:0≤N
  ·have d1:decide (0≤N)=true:=decide_eq_true q1
   have d1':decide (N≥0)=true:=d1
   by_cases q2:N<(n:Int) -2
   ·have d2:decide (N<(n:Int) -2)=true:=decide_eq_true q2
    go_wp2_with fail
    go_meet
    exact⟨congrArg Value.bool (decide_eq_true (p:=0≤N∧N<(n:Int) -2) ⟨q1,q2⟩).symm,rfl⟩
   ·have d2:decide (N<(n:Int) -2)=false:=decide_eq_false q2
    go_wp2_with fail
    go_meet
    exact⟨congrArg Value.bool (decide_eq_false (p:=0≤N∧N<(n:Int) -2) (by omega)).symm,rfl⟩
  ·have d1:decide (0≤N)=false:=decide_eq_false q1
   have d1':decide (N≥0)=false:=d1
   go_wp2_with fail
   go_meet
   exact⟨congrArg Value.bool (decide_eq_false (p:=0≤N∧N<(n:Int) -2) (by omega)).symm,rfl⟩
 case rest=>
 obtain⟨rfl,hwc⟩:=hcut
 rw[hwc]
 clear hwc hW hw2
 rw[decide_eq_true HC.out]
 go_wp2_with fail
 refine HDP.out.mono ?_
 rintro e w1 ⟨p1,c1,l1,rfl,hd1,hb1⟩
 obtain⟨W2,hW2,i2,j2,z2,y2,hb2,hs2⟩:=jd w1 p1 n c1 k1 a1
 have hW2:(w1.alloc (.cells #[.slice none 0 0,.int .i64 0,.int .i64 0,.bool false,.int .i64 0] 31)).alloc (.cells #[.int .i64 0,.string ⟨#[]⟩,.int .i64 0] 73)=W2:=hW2
 have hb12:=gb.seqB hb1 hb2
 have HD3:=zd (hd1.on hb2)
 have HR3:=zd (HR.out.on hb12)
 have HO3:=zd (HO.out.on hb12)
 have HB3:=zd (gb.seqB HB.out hb12)
 have hlo:=HO3.out.lt
 have HZ2:=zd z2
 have HY2:=zd y2
 have hlo1:=(HO.out.on hb1).lt
 clear HDP hb1 hb2 hb12 hd1 z2 y2
 go_upto_region 32 with fail
 generalize(W2.setRow w1.heap.size (kC p1 n c1 k1)).setRow (w1.heap.size+1) (ql a1)=w3 at*
 clear hW2 i2 j2 hs2
 have u0:IsC w3.drew w1.heap.size:=HZ2.out.is rfl
 have u1:qE w3.drew w1.heap.size=kC p1 n c1 k1:=HZ2.out.cells
 have u2:w3.drew.cell? ⟨w1.heap.size+1,2,none⟩=some (.int .i64 a1.e):=HY2.out.cell 2
 have u3:(w3.drew.setRow (w.heap.size+1+1) (kC p1 n c1 k1)).cell? ⟨w1.heap.size+1,2,none⟩=some (.int .i64 a1.e):=(BAt.other (w:=w3.drew) HY2.out (by omega) _).cell 2
 have HRd:=zd (show IsC w3.drew (w.heap.size+1+1)from HR3.out)
 have HOd:=zd (show IsO w3.drew (w.heap.size+1+1+1)from HO3.out)
 have HDd:=zd (HD3.out.on (zh _ _).drew)
 have HBd:=zd (HB3.out.drew)
 obtain⟨r1,hz,hzo,hzd,hzb⟩:=Ua HRd.out HOd.out HDd.out HBd.out 0 ⟨#[]⟩ a1.e
 have HZ:=zd hz
 have HZO:=zd hzo
 have HZD:=zd hzd
 have HZB:=zd hzb
 have iR:=HRd.out
 clear hz hzo hzd hzb
 go_region
 all_goals (
  go_wp2_with fail
  exact zk (v:=.tuple #[.agg (kC p1 n c1 k1),.agg (ql ⟨0,⟨#[]⟩,a1.e⟩)]) (by simp[results,results9,asAddr,qt HZ.out,ZG HZO.out]) rfl ⟨n,p1,c1,l1,rfl,HZD.out,HZB.out⟩)
end
end Go.Proofs.YtfdfgnmgpgkknaaGreat
