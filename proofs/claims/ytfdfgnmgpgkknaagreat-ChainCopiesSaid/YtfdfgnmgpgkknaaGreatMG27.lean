import Derived.Test.YtfdfgnmgpgkknaaGreatMG26
import Derived.Test.YtfdfgnmgpgkknaaGreatMG22
set_option maxRecDepth 100000
set_option maxHeartbeats 8000000
open Go.RowKit.Below renaming heap_setCell→zn,refl→zh
open Go.Proofs.Tryz renaming prog→zf
open Go.Lib renaming hid→zd
open Nat renaming le_refl→zg,le_succ→zv
open Go renaming heap_alloc_new→zo,cell_of_row→ze,bodyPost_ret→zk
open Go.Calls renaming mono→zr
open Go.Proofs.Tryz
namespace Go.Proofs.YtfdfgnmgpgkknaaGreat
section
open Go.RowKit
attribute [local go_sem ↓] Zr Ze
attribute [local go_sem] Zf qN X7
variable {w w':World} {q n c:Nat} {p:Option Addr} {s s':St}
def YM (w:World) (q:Nat) (k:Bkt):World:=(((w.setCell ⟨q,7,none⟩ (.int .i64 k.r)).setCell ⟨q,8,none⟩ (.int .i64 k.u)).setCell ⟨q,9,none⟩ (.int .i64 k.l)).setCell ⟨q,10,none⟩ (.int .i64 k.t)
theorem RAt.YM (h:RAt w q p n c s) (k:Bkt):RAt (YM w q k) q p n c {s with bk:=k}:=
 (((h.set (i:=7) (s':={s with bk:=⟨k.r,s.bk.u,s.bk.l,s.bk.t⟩}) (p':=p) (n':=n) (c':=c) rfl).set (i:=8) (s':={s with bk:=⟨k.r,k.u,s.bk.l,s.bk.t⟩}) (p':=p) (n':=n) (c':=c) rfl).set (i:=9) (s':={s with bk:=⟨k.r,k.u,k.l,s.bk.t⟩}) (p':=p) (n':=n) (c':=c) rfl).set (i:=10) rfl
theorem YL {i:Nat} (hi:i≠q) (k:Bkt):(YM w q k).heap[i]?=w.heap[i]?:=by
 unfold Go.Proofs.YtfdfgnmgpgkknaaGreat.YM
 rw[zn _ _ _ _ hi,zn _ _ _ _ hi,zn _ _ _ _ hi,zn _ _ _ _ hi]
theorem V4 {B:Nat} {w0:World} (h:Below B w0 w) (hg:B≤q) (k:Bkt):Below B w0 (YM w q k):=(((h.setCell (p:=⟨q,7,none⟩) hg _).setCell (p:=⟨q,8,none⟩) hg _).setCell (p:=⟨q,9,none⟩) hg _).setCell (p:=⟨q,10,none⟩) hg _
theorem F9 (p:Option Addr) (n c:Nat) (s:St) (N:Int) (w:World) (hk:s.tx.k=2) (hr:gb.qI s.bk.r s.bk.u s.bk.l s.bk.t=true) {L T K V:Int} (hL:gb.ZJ s.bk.r s.bk.u s.bk.l s.bk.t s.clock=L) (hT:gb.ZV s.bk.r s.bk.u s.bk.l s.bk.t s.clock=T) (hK:gb.JP L N=K) (hV:L -K=V):Calls zf 89 #[.agg (rC p n c s),.int .i64 N] w λ e w'=>e=.returned (.tuple #[.agg (rC p n c {s with bk:=⟨s.bk.r,s.bk.u,V,T⟩}),.int .i64 K])∧Below w.heap.size w w':=by
 have HTK:=zd (λ W=>gb.Pt hr s.clock N hL hT hK hV W)
 obtain⟨W0,hW0,hq,hr2,hb⟩:=XO p n c s w
 have HB:=zd hb
 have HQ:=zd hq
 have HR:=zd hr2
 have hlt:=hr2.lt
 have x1:W0.cell? ⟨w.heap.size,1,none⟩=some (.int .i64 s.tx.k):=hq.cell 1
 have x7:W0.cell? ⟨w.heap.size,7,none⟩=some (.int .i64 s.bk.r):=hq.cell 7
 have x8:W0.cell? ⟨w.heap.size,8,none⟩=some (.int .i64 s.bk.u):=hq.cell 8
 have x9:W0.cell? ⟨w.heap.size,9,none⟩=some (.int .i64 s.bk.l):=hq.cell 9
 have x10:W0.cell? ⟨w.heap.size,10,none⟩=some (.int .i64 s.bk.t):=hq.cell 10
 have x16:W0.cell? ⟨w.heap.size,16,none⟩=some (.int .i64 s.clock):=hq.cell 16
 rw[hk]at x1
 clear hk hr hL hT hK hV
 clear hq hr2 hb
 go_enter func89,ntmps89
 go_wp2_with fail
 clear hW0 x1 x7 x8 x9 x10 x16 hlt
 refine(HTK.out _).mono ?_
 rintro e w1 ⟨rfl,hb1⟩
 have hal:Below w1.heap.size w1 (w1.alloc (.cells #[.int .i64 0,.int .i64 0,.int .i64 0,.int .i64 0] 63)):=(zh _ _).alloc (zg _) _
 have hbl:=zo w1 (.cells #[.int .i64 0,.int .i64 0,.int .i64 0,.int .i64 0] 63)
 obtain⟨W2,hW2⟩:∃W2,w1.alloc (.cells #[.int .i64 0,.int .i64 0,.int .i64 0,.int .i64 0] 63)=W2:=⟨_,rfl⟩
 rw[hW2]at hal hbl
 have hst:=gb.qu (w:=W2) hal (zg _) (.int .i64 s.bk.r) (.int .i64 s.bk.u) (.int .i64 V) (.int .i64 T)
 have hs4:=gb.qF hbl (.int .i64 s.bk.r) (.int .i64 s.bk.u) (.int .i64 V) (.int .i64 T)
 have z0:W2.cell? ⟨w1.heap.size,0,none⟩=some (.int .i64 0):=ze _ _ 0 _ _ _ hbl
 have z1:W2.cell? ⟨w1.heap.size,1,none⟩=some (.int .i64 0):=ze _ _ 1 _ _ _ hbl
 have z2:W2.cell? ⟨w1.heap.size,2,none⟩=some (.int .i64 0):=ze _ _ 2 _ _ _ hbl
 have z3:W2.cell? ⟨w1.heap.size,3,none⟩=some (.int .i64 0):=ze _ _ 3 _ _ _ hbl
 have g0:W2.frozen? ⟨w1.heap.size,0,none⟩=false:=gb.qa hbl
 have g1:W2.frozen? ⟨w1.heap.size,1,none⟩=false:=gb.qa hbl
 have g2:W2.frozen? ⟨w1.heap.size,2,none⟩=false:=gb.qa hbl
 have g3:W2.frozen? ⟨w1.heap.size,3,none⟩=false:=gb.qa hbl
 have hlt2:=gb.qd hbl
 have HQ3:=zd (HQ.out.on (gb.seqB hb1 hst))
 have HR3:=zd (HR.out.on (gb.seqB hb1 hst))
 have HB3:=zd (gb.seqB HB.out (gb.seqB hb1 hst))
 have HC3:=zd hs4
 clear hb1 hal hbl hst hs4 HTK
 go_upto_region 4 with fail
 generalize hW3:gb.Zs W2 w1.heap.size (.int .i64 s.bk.r) (.int .i64 s.bk.u) (.int .i64 V) (.int .i64 T)=w3 at*
 unfold gb.Zs at hW3
 rw[hW3]
 clear hW3 z0 z1 z2 z3 g0 g1 g2 g3 hlt2 hW2
 generalize w1.heap.size=g at*
 have y0:w3.cell? ⟨g,0,none⟩=some (.int .i64 s.bk.r):=ze _ _ 0 _ _ _ HC3.out
 have y1:w3.cell? ⟨g,1,none⟩=some (.int .i64 s.bk.u):=ze _ _ 1 _ _ _ HC3.out
 have y2:w3.cell? ⟨g,2,none⟩=some (.int .i64 V):=ze _ _ 2 _ _ _ HC3.out
 have y3:w3.cell? ⟨g,3,none⟩=some (.int .i64 T):=ze _ _ 3 _ _ _ HC3.out
 have u7:w3.cell? ⟨w.heap.size,7,none⟩=some (.int .i64 s.bk.r):=HQ3.out.cell 7
 have u8:w3.cell? ⟨w.heap.size,8,none⟩=some (.int .i64 s.bk.u):=HQ3.out.cell 8
 have u9:w3.cell? ⟨w.heap.size,9,none⟩=some (.int .i64 s.bk.l):=HQ3.out.cell 9
 have u10:w3.cell? ⟨w.heap.size,10,none⟩=some (.int .i64 s.bk.t):=HQ3.out.cell 10
 have v7:=HQ3.out.frz 7
 have v8:=HQ3.out.frz 8
 have v9:=HQ3.out.frz 9
 have v10:=HQ3.out.frz 10
 have HQ4:=zd (HQ3.out.YM ⟨s.bk.r,s.bk.u,V,T⟩)
 have HR4:=zd (show RAt (YM w3 w.heap.size ⟨s.bk.r,s.bk.u,V,T⟩) (w.heap.size+1) none 0 0 qZ from(YL (Nat.succ_ne_self _) _).trans HR3.out)
 have HB4:=zd (V4 HB3.out (zg _) ⟨s.bk.r,s.bk.u,V,T⟩)
 go_upto_region 5 with fail
 generalize hW4:YM w3 w.heap.size ⟨s.bk.r,s.bk.u,V,T⟩=w4 at*
 unfold Go.Proofs.YtfdfgnmgpgkknaaGreat.YM at hW4
 dsimp only at hW4
 rw[hW4]
 clear hW4 y0 y1 y2 y3 u7 u8 u9 u10 v7 v8 v9 v10 HQ3 HR3 HB3 HC3
 have i1:=HQ4.out.is
 have k1:=HQ4.out.cells
 have i2:=HR4.out.is
 have hlt:=HR4.out.lt
 go_wp2_with fail
 have hz:=HR4.out.row p n c {s with bk:=⟨s.bk.r,s.bk.u,V,T⟩}
 have hb:=below_setRow HB4.out (zv w.heap.size) (rC p n c {s with bk:=⟨s.bk.r,s.bk.u,V,T⟩})
 have HZ:=zd hz
 have HE:=zd hb
 clear hz hb
 generalize w4.setRow (w.heap.size+1) (rC p n c {s with bk:=⟨s.bk.r,s.bk.u,V,T⟩})=wz at*
 exact zk (v:=.tuple #[.agg (rC p n c {s with bk:=⟨s.bk.r,s.bk.u,V,T⟩}),.int .i64 K]) (by simp[results,results89,asAddr,qf HZ.out]) rfl ⟨rfl,HE.out⟩
theorem Oo (p:Option Addr) (n c:Nat) (s:St) (N:Int) (w:World) (hk:s.tx.k=3) (h0:N≠0) (hp:¬s.clock<s.pause) (ha:1≤s.tx.a∧s.tx.a≤4096) {D P V:Int} (hD:gd.XT s.d=D) (hP:XC s.clock s.tx.b=P) (hV:gd.X6 s.d s.tx.a=V) (hn:V+1<N):Calls zf 89 #[.agg (rC p n c s),.int .i64 N] w λ e w'=>e=.returned (.tuple #[.agg (rC p n c {s with d:=D,pause:=P}),.int .i64 (V+1)])∧Below w.heap.size w w':=by
 have hv:=gd.Xo s.d s.tx.a ha.1
 rw[hV]at hv
 have hw:IntKind.i64.wrap (V+1)=V+1:=by rw[IntKind.wrap_i64];omega
 have HBL:=zd (λ W=>show Calls zf 114 #[.int .u64 s.d,.int .i64 s.tx.a] W λ e w'=>e=.returned (.tuple #[.int .i64 V,.int .u64 D])∧Below W.heap.size W w' from by rw[←hD,←hV];exact gd.V2 s.d s.tx.a ha.1 (by omega) W)
 have HAD:=zd (λ W=>show Calls zf 112 #[.int .i64 s.clock,.int .i64 s.tx.b] W λ e w'=>e=.returned (.int .i64 P)∧W=w' from by rw[←hP];exact gb.Jz s.clock s.tx.b W)
 have d0:(N==0)=false:=by simpa using h0
 have d1:decide (N=0)=false:=by simpa using h0
 have d2:decide (s.clock<s.pause)=false:=by simpa using hp
 have d3:decide (V+1<N)=true:=by simpa using hn
 obtain⟨W0,hW0,hq,hr,hb⟩:=XO p n c s w
 have HB:=zd hb
 have HQ:=zd hq
 have HR:=zd hr
 have hlt:=hr.lt
 have x1:W0.cell? ⟨w.heap.size,1,none⟩=some (.int .i64 s.tx.k):=hq.cell 1
 have x16:W0.cell? ⟨w.heap.size,16,none⟩=some (.int .i64 s.clock):=hq.cell 16
 have x17:W0.cell? ⟨w.heap.size,17,none⟩=some (.int .i64 s.pause):=hq.cell 17
 have x6:W0.cell? ⟨w.heap.size,6,none⟩=some (.int .u64 s.d):=hq.cell 6
 have x4:W0.cell? ⟨w.heap.size,4,none⟩=some (.int .i64 s.tx.a):=hq.cell 4
 rw[hk]at x1
 clear hk h0 hp ha hD hP hV hn hv
 clear hq hr hb
 go_enter func89,ntmps89
 go_wp2_with fail
 clear hW0 hlt x1 x16 x17 x6 x4 d0 d1 d2
 refine(HBL.out _).mono ?_
 rintro e w1 ⟨rfl,hb1⟩
 have HQ1:=zd (HQ.out.on hb1)
 have HR1:=zd (HR.out.on hb1)
 have HB1:=zd (gb.seqB HB.out hb1)
 have x6:w1.cell? ⟨w.heap.size,6,none⟩=some (.int .u64 s.d):=HQ1.out.cell 6
 have f6:w1.frozen? ⟨w.heap.size,6,none⟩=false:=HQ1.out.frz 6
 clear hb1 HQ HR HB HBL
 have HQ2:=zd (HQ1.out.set (i:=6) (v:=.int .u64 D) (s':={s with d:=D}) (p':=p) (n':=n) (c':=c) rfl)
 have HR2:=zd (HR1.out.far (g:=w.heap.size) (i:=6) (.int .u64 D) (Nat.succ_ne_self _))
 have HB2:=zd (HB1.out.setCell (p:=⟨w.heap.size,6,none⟩) (zg _) (.int .u64 D))
 go_upto_region 11 with fail
 generalize w1.setCell ⟨w.heap.size,6,none⟩ (.int .u64 D)=w2 at*
 clear x6 f6 HQ1 HR1 HB1
 have x16:w2.cell? ⟨w.heap.size,16,none⟩=some (.int .i64 s.clock):=HQ2.out.cell 16
 have x5:w2.cell? ⟨w.heap.size,5,none⟩=some (.int .i64 s.tx.b):=HQ2.out.cell 5
 go_wp2_with fail
 refine(HAD.out _).mono ?_
 rintro e w3 ⟨rfl,rfl⟩
 have x17:w2.cell? ⟨w.heap.size,17,none⟩=some (.int .i64 s.pause):=HQ2.out.cell 17
 have f17:w2.frozen? ⟨w.heap.size,17,none⟩=false:=HQ2.out.frz 17
 have HQ3:=zd (HQ2.out.set (i:=17) (v:=.int .i64 P) (s':={s with d:=D,pause:=P}) (p':=p) (n':=n) (c':=c) rfl)
 have HR3:=zd (HR2.out.far (g:=w.heap.size) (i:=17) (.int .i64 P) (Nat.succ_ne_self _))
 have HB3:=zd (HB2.out.setCell (p:=⟨w.heap.size,17,none⟩) (zg _) (.int .i64 P))
 go_upto_region 12 with fail
 generalize w2.setCell ⟨w.heap.size,17,none⟩ (.int .i64 P)=w4 at*
 clear x16 x5 x17 f17 HQ2 HR2 HB2 HAD
 have i1:=HQ3.out.is
 have k1:=HQ3.out.cells
 have i2:=HR3.out.is
 have hlt:=HR3.out.lt
 go_wp2_with fail
 have hz:=HR3.out.row p n c {s with d:=D,pause:=P}
 have hb:=below_setRow HB3.out (zv w.heap.size) (rC p n c {s with d:=D,pause:=P})
 have HZ:=zd hz
 have HE:=zd hb
 clear hz hb
 generalize w4.setRow (w.heap.size+1) (rC p n c {s with d:=D,pause:=P})=wz at*
 exact zk (v:=.tuple #[.agg (rC p n c {s with d:=D,pause:=P}),.int .i64 (V+1)]) (by simp[results,results89,asAddr,qf HZ.out]) rfl ⟨rfl,HE.out⟩
theorem On (p:Option Addr) (n c:Nat) (s:St) (N:Int) (w:World) (hk:s.tx.k=3) (h0:N≠0) (hp:¬s.clock<s.pause) (ha:1≤s.tx.a∧s.tx.a≤4096) {D P V:Int} (hD:gd.XT s.d=D) (hP:XC s.clock s.tx.b=P) (hV:gd.X6 s.d s.tx.a=V) (hn:¬V+1<N):Calls zf 89 #[.agg (rC p n c s),.int .i64 N] w λ e w'=>e=.returned (.tuple #[.agg (rC p n c {s with d:=D,pause:=P}),.int .i64 N])∧Below w.heap.size w w':=by
 have hv:=gd.Xo s.d s.tx.a ha.1
 rw[hV]at hv
 have hw:IntKind.i64.wrap (V+1)=V+1:=by rw[IntKind.wrap_i64];omega
 have HBL:=zd (λ W=>show Calls zf 114 #[.int .u64 s.d,.int .i64 s.tx.a] W λ e w'=>e=.returned (.tuple #[.int .i64 V,.int .u64 D])∧Below W.heap.size W w' from by rw[←hD,←hV];exact gd.V2 s.d s.tx.a ha.1 (by omega) W)
 have HAD:=zd (λ W=>show Calls zf 112 #[.int .i64 s.clock,.int .i64 s.tx.b] W λ e w'=>e=.returned (.int .i64 P)∧W=w' from by rw[←hP];exact gb.Jz s.clock s.tx.b W)
 have d0:(N==0)=false:=by simpa using h0
 have d1:decide (N=0)=false:=by simpa using h0
 have d2:decide (s.clock<s.pause)=false:=by simpa using hp
 have d3:decide (V+1<N)=false:=by simpa using hn
 obtain⟨W0,hW0,hq,hr,hb⟩:=XO p n c s w
 have HB:=zd hb
 have HQ:=zd hq
 have HR:=zd hr
 have hlt:=hr.lt
 have x1:W0.cell? ⟨w.heap.size,1,none⟩=some (.int .i64 s.tx.k):=hq.cell 1
 have x16:W0.cell? ⟨w.heap.size,16,none⟩=some (.int .i64 s.clock):=hq.cell 16
 have x17:W0.cell? ⟨w.heap.size,17,none⟩=some (.int .i64 s.pause):=hq.cell 17
 have x6:W0.cell? ⟨w.heap.size,6,none⟩=some (.int .u64 s.d):=hq.cell 6
 have x4:W0.cell? ⟨w.heap.size,4,none⟩=some (.int .i64 s.tx.a):=hq.cell 4
 rw[hk]at x1
 clear hk h0 hp ha hD hP hV hn hv
 clear hq hr hb
 go_enter func89,ntmps89
 go_wp2_with fail
 clear hW0 hlt x1 x16 x17 x6 x4 d0 d1 d2
 refine(HBL.out _).mono ?_
 rintro e w1 ⟨rfl,hb1⟩
 have HQ1:=zd (HQ.out.on hb1)
 have HR1:=zd (HR.out.on hb1)
 have HB1:=zd (gb.seqB HB.out hb1)
 have x6:w1.cell? ⟨w.heap.size,6,none⟩=some (.int .u64 s.d):=HQ1.out.cell 6
 have f6:w1.frozen? ⟨w.heap.size,6,none⟩=false:=HQ1.out.frz 6
 clear hb1 HQ HR HB HBL
 have HQ2:=zd (HQ1.out.set (i:=6) (v:=.int .u64 D) (s':={s with d:=D}) (p':=p) (n':=n) (c':=c) rfl)
 have HR2:=zd (HR1.out.far (g:=w.heap.size) (i:=6) (.int .u64 D) (Nat.succ_ne_self _))
 have HB2:=zd (HB1.out.setCell (p:=⟨w.heap.size,6,none⟩) (zg _) (.int .u64 D))
 go_upto_region 11 with fail
 generalize w1.setCell ⟨w.heap.size,6,none⟩ (.int .u64 D)=w2 at*
 clear x6 f6 HQ1 HR1 HB1
 have x16:w2.cell? ⟨w.heap.size,16,none⟩=some (.int .i64 s.clock):=HQ2.out.cell 16
 have x5:w2.cell? ⟨w.heap.size,5,none⟩=some (.int .i64 s.tx.b):=HQ2.out.cell 5
 go_wp2_with fail
 refine(HAD.out _).mono ?_
 rintro e w3 ⟨rfl,rfl⟩
 have x17:w2.cell? ⟨w.heap.size,17,none⟩=some (.int .i64 s.pause):=HQ2.out.cell 17
 have f17:w2.frozen? ⟨w.heap.size,17,none⟩=false:=HQ2.out.frz 17
 have HQ3:=zd (HQ2.out.set (i:=17) (v:=.int .i64 P) (s':={s with d:=D,pause:=P}) (p':=p) (n':=n) (c':=c) rfl)
 have HR3:=zd (HR2.out.far (g:=w.heap.size) (i:=17) (.int .i64 P) (Nat.succ_ne_self _))
 have HB3:=zd (HB2.out.setCell (p:=⟨w.heap.size,17,none⟩) (zg _) (.int .i64 P))
 go_upto_region 12 with fail
 generalize w2.setCell ⟨w.heap.size,17,none⟩ (.int .i64 P)=w4 at*
 clear x16 x5 x17 f17 HQ2 HR2 HB2 HAD
 have i1:=HQ3.out.is
 have k1:=HQ3.out.cells
 have i2:=HR3.out.is
 have hlt:=HR3.out.lt
 go_wp2_with fail
 have hz:=HR3.out.row p n c {s with d:=D,pause:=P}
 have hb:=below_setRow HB3.out (zv w.heap.size) (rC p n c {s with d:=D,pause:=P})
 have HZ:=zd hz
 have HE:=zd hb
 clear hz hb
 generalize w4.setRow (w.heap.size+1) (rC p n c {s with d:=D,pause:=P})=wz at*
 exact zk (v:=.tuple #[.agg (rC p n c {s with d:=D,pause:=P}),.int .i64 N]) (by simp[results,results89,asAddr,qf HZ.out]) rfl ⟨rfl,HE.out⟩
theorem YH (p:Option Addr) (n c:Nat) (s:St) (N:Int) (w:World) {M:Nat} (ho:Ok s M):Calls zf 89 #[.agg (rC p n c s),.int .i64 N] w λ e w'=>e=.returned (.tuple #[.agg (rC p n c (qC s N).1),.int .i64 (qC s N).2])∧Below w.heap.size w w':=by
 have hab:=ho.ab
 have hps:=ho.passed
 have htp:=ho.top
 unfold qC
 by_cases h2:s.tx.k=2
 ·rw[if_pos h2]
  exact F9 p n c s N w h2 (ho.bk h2) rfl rfl rfl rfl
 ·rw[if_neg h2]
  by_cases h3:s.tx.k=3
  ·rw[if_pos h3]
   by_cases h0:N=0∨s.clock<s.pause
   ·rw[if_pos h0]
    exact Om p n c s N w h3 h0
   ·rw[if_neg h0]
    by_cases hn:gd.X6 s.d s.tx.a+1<N
    ·rw[if_pos hn]
     exact Oo p n c s N w h3 (λ h=>h0 (Or.inl h)) (λ h=>h0 (Or.inr h)) (hab.2.2.2.2 h3) rfl rfl rfl hn
    ·rw[if_neg hn]
     exact On p n c s N w h3 (λ h=>h0 (Or.inl h)) (λ h=>h0 (Or.inr h)) (hab.2.2.2.2 h3) rfl rfl rfl hn
  ·rw[if_neg h3]
   by_cases h4:s.tx.k=4
   ·rw[if_pos h4]
    exact F8 p n c s N w h4
   ·rw[if_neg h4]
    have hw:IntKind.i64.wrap (s.tx.a -s.passed)=s.tx.a -s.passed:=by rw[IntKind.wrap_i64];omega
    by_cases h6:s.tx.k=6∧s.tx.a -s.passed<N
    ·rw[if_pos h6]
     exact Ol p n c s N w h6.1 hw h6.2
    ·rw[if_neg h6]
     by_cases h7:s.tx.k=6
     ·exact Oj p n c s N w h7 hw (λ h=>h6 ⟨h7,h⟩)
     ·exact F7 p n c s N w h2 h3 h4 h7
end
section
open Go.RowKit
attribute [local go_sem ↓] Zr Ze
attribute [local go_sem] Zf qN X7
variable {w w':World} {q n c:Nat} {p:Option Addr} {s s':St}
def oC (o:Op):Array Value:=#[.int .i64 o.kind,.int .i64 o.now,.int .i64 o.n,.string o.s,.string o.t.s,.int .i64 o.t.k,.bool o.t.up,.int .i64 o.t.o,.int .i64 o.t.a,.int .i64 o.t.b]
def ql (x:Ans):Array Value:=#[.int .i64 x.n,.string x.s,.int .i64 x.e]
def AAt (w:World) (q:Nat) (x:Ans):Prop:=w.heap[q]?=some (.cells (ql x) 73 (0,0))
theorem qW {x:Ans} (h:AAt w q x):(loadVar 73 ⟨q,0,none⟩).run zf w=.ok (.agg #[.int .i64 x.n,.string x.s,.int .i64 x.e]) w:=by
 have:=run_loadVar_mid (P:=zf) w q 0 73 (ql x).toList _ (λ j v hv=>by
  have hc:w.cell? ⟨q,j,none⟩=(ql x)[j]?:=by
   unfold AAt at h
   simp[World.cell?,h]
  rw[Nat.zero_add,hc,←Array.getElem?_toList]
  exact hv) underlying73 rfl (by kernel_rfl)
 exact this
structure Four (w W:World) (o:Op) (p:Option Addr) (n c:Nat) (s:St):Prop where
 q:RAt W w.heap.size p n c s
 o:W.heap[w.heap.size+1]?=some (.cells (oC o) 77 (0,0))
 r:RAt W (w.heap.size+2) none 0 0 qZ
 a:AAt W (w.heap.size+3) qT
 b:Below w.heap.size w W
 row:gc.qQ W p n c s.A
theorem Four.lt {w W:World} {o:Op} (h:Four w W o p n c s):w.heap.size+3<W.heap.size:=(Array.getElem?_eq_some_iff.1 h.a).1
theorem S0 (o:Op) (hrow:gc.qQ w p n c s.A):∃W0,(((w.alloc (.cells (rC p n c s) 68)).alloc (.cells (oC o) 77)).alloc (.cells (rC none 0 0 qZ) 68)).alloc (.cells (ql qT) 73)=W0∧Four w W0 o p n c s:=by
 have b1:Below w.heap.size w (w.alloc (.cells (rC p n c s) 68)):=(zh _ _).alloc (zg _) _
 obtain⟨W1,h1⟩:∃W1,w.alloc (.cells (rC p n c s) 68)=W1:=⟨_,rfl⟩
 have s1:W1.heap.size=w.heap.size+1:=by rw[←h1];simp
 have q1:RAt W1 w.heap.size p n c s:=by rw[←h1];exact ZP w p n c s
 rw[h1]at b1
 have b2:Below W1.heap.size W1 (W1.alloc (.cells (oC o) 77)):=(zh _ _).alloc (zg _) _
 have o2:=zo W1 (.cells (oC o) 77)
 obtain⟨W2,h2⟩:∃W2,W1.alloc (.cells (oC o) 77)=W2:=⟨_,rfl⟩
 have s2:W2.heap.size=w.heap.size+2:=by rw[←h2];simp[s1]
 rw[h2]at b2 o2
 rw[s1]at o2
 have b3:Below W2.heap.size W2 (W2.alloc (.cells (rC none 0 0 qZ) 68)):=(zh _ _).alloc (zg _) _
 have r3:=ZP W2 none 0 0 qZ
 obtain⟨W3,h3⟩:∃W3,W2.alloc (.cells (rC none 0 0 qZ) 68)=W3:=⟨_,rfl⟩
 have s3:W3.heap.size=w.heap.size+3:=by rw[←h3];simp[s2]
 rw[h3]at b3 r3
 rw[s2]at r3
 have b4:Below W3.heap.size W3 (W3.alloc (.cells (ql qT) 73)):=(zh _ _).alloc (zg _) _
 have a4:=zo W3 (.cells (ql qT) 73)
 rw[s3]at a4
 rw[h1,h2,h3]
 have b34:=gb.seqB b3 b4
 have b234:=gb.seqB b2 b34
 refine⟨_,rfl,q1.on b234,(b34.block _ (gb.qd o2)).trans o2,r3.on b4,a4,gb.seqB b1 b234,gc.Zc hrow (gb.seqB b1 b234)⟩
theorem Zm (o:Op) (hrow:gc.qQ w p n c s.A):∃W0,(((w.alloc (.cells (rC p n c s) 68)).alloc (.cells #[.int .i64 o.kind,.int .i64 o.now,.int .i64 o.n,.string o.s,.string o.t.s,.int .i64 o.t.k,.bool o.t.up,.int .i64 o.t.o,.int .i64 o.t.a,.int .i64 o.t.b] 77)).alloc (.cells #[.string ⟨#[]⟩,.int .i64 0,.bool false,.int .i64 0,.int .i64 0,.int .i64 0,.int .u64 0,.int .i64 0,.int .i64 0,.int .i64 0,.int .i64 0,.string ⟨#[]⟩,.slice none 0 0,.int .i64 0,.int .i64 0,.int .i64 0,.int .i64 0,.int .i64 0,.int .i64 0,.bool false,.int .i64 0,.int .i64 0] 68)).alloc (.cells #[.int .i64 0,.string ⟨#[]⟩,.int .i64 0] 73)=W0∧Four w W0 o p n c s:=S0 o hrow
theorem Four.on {w W W':World} {o:Op} (h:Four w W o p n c s) (hb:Below W.heap.size W W'):Four w W' o p n c s:=
 ⟨h.q.on hb,(hb.block _ (gb.qd h.o)).trans h.o,h.r.on hb,(hb.block _ (gb.qd h.a)).trans h.a,gb.seqB h.b hb,gc.Zc h.row hb⟩
theorem Four.XX {w W:World} {o:Op} (h:Four w W o p n c s) (s':St) (hA:s'.A=s.A):Four w (W.setRow w.heap.size (rC p n c s')) o p n c s':=by
 refine⟨h.q.row p n c s',(setRow_other W _ _ _ (show w.heap.size+1≠w.heap.size by omega)).trans h.o,h.r.S7 _ (by omega),(setRow_other W _ _ _ (show w.heap.size+3≠w.heap.size by omega)).trans h.a,below_setRow h.b (zg _) _,?_⟩
 rw[hA]
 exact YJ h.row h.q _
theorem Four.oc {w W:World} {o:Op} (h:Four w W o p n c s) (i:Nat):W.cell? ⟨w.heap.size+1,i,none⟩=(oC o)[i]?:=by
 have:=h.o
 simp[World.cell?,this]
def ZC (W:World) (r a:Nat) (cs:Array Value) (x:Ans):World:=(((W.setRow r cs).setCell ⟨a,0,none⟩ (.int .i64 x.n)).setCell ⟨a,1,none⟩ (.string x.s)).setCell ⟨a,2,none⟩ (.int .i64 x.e)
def Brg (s:St) (x:Ans) (w:World) (e:Ending) (w':World):Prop:=∃p n c,e=.returned (.tuple #[.agg (rC p n c s),.agg #[.int .i64 x.n,.string x.s,.int .i64 x.e]])∧gc.qQ w' p n c s.A∧Below w.heap.size w w'
theorem AAt.Jd {x:Ans} (h:AAt w q x) {b:Nat} {cs:Array Value} {fr:Nat×Nat} (hb:w.heap[b]?=some (.cells cs 3 fr)):b≠q:=λ e=>by
 rw[e]at hb
 unfold AAt at h
 rw[h]at hb
 injection hb with hb
 injection hb with _ hb
 simp at hb
theorem Four.fin {w W:World} {o:Op} (h:Four w W o p n c s) {p':Option Addr} {n' c':Nat} {s':St} (hrow:gc.qQ W p' n' c' s'.A) (x:Ans):
  ((W.setRow (w.heap.size+2) (rC p' n' c' s')).cell? ⟨w.heap.size+3,0,none⟩=some (.int .i64 0)∧(W.setRow (w.heap.size+2) (rC p' n' c' s')).cell? ⟨w.heap.size+3,1,none⟩=some (.string ⟨#[]⟩)∧(W.setRow (w.heap.size+2) (rC p' n' c' s')).cell? ⟨w.heap.size+3,2,none⟩=some (.int .i64 0))∧
  ((W.setRow (w.heap.size+2) (rC p' n' c' s')).frozen? ⟨w.heap.size+3,0,none⟩=false∧(W.setRow (w.heap.size+2) (rC p' n' c' s')).frozen? ⟨w.heap.size+3,1,none⟩=false∧(W.setRow (w.heap.size+2) (rC p' n' c' s')).frozen? ⟨w.heap.size+3,2,none⟩=false)∧
  RAt (ZC W (w.heap.size+2) (w.heap.size+3) (rC p' n' c' s') x) (w.heap.size+2) p' n' c' s'∧AAt (ZC W (w.heap.size+2) (w.heap.size+3) (rC p' n' c' s') x) (w.heap.size+3) x∧
  gc.qQ (ZC W (w.heap.size+2) (w.heap.size+3) (rC p' n' c' s') x) p' n' c' s'.A∧Below w.heap.size w (ZC W (w.heap.size+2) (w.heap.size+3) (rC p' n' c' s') x):=by
 have ha:(W.setRow (w.heap.size+2) (rC p' n' c' s')).heap[w.heap.size+3]?=some (.cells (ql qT) 73 (0,0)):=(setRow_other W _ _ _ (show w.heap.size+3≠w.heap.size+2 by omega)).trans h.a
 have hr:=h.r.row p' n' c' s'
 have hw:=YJ hrow h.r (rC p' n' c' s')
 have hb:=below_setRow h.b (show w.heap.size≤w.heap.size+2 by omega) (rC p' n' c' s')
 refine⟨⟨ze _ _ 0 _ _ _ ha,ze _ _ 1 _ _ _ ha,ze _ _ 2 _ _ _ ha⟩,⟨gb.qa ha,gb.qa ha,gb.qa ha⟩,?_,?_,?_,?_⟩
 ·unfold ZC
  exact((hr.far _ (by omega)).far _ (by omega)).far _ (by omega)
 ·unfold ZC AAt
  exact gb.qo (i:=2) (gb.qo (i:=1) (gb.qo (i:=0) ha (.int .i64 x.n)) (.string x.s)) (.int .i64 x.e)
 ·unfold ZC
  have hA0:AAt (W.setRow (w.heap.size+2) (rC p' n' c' s')) (w.heap.size+3) qT:=ha
  refine ZR hw λ b cs fr hbb=>?_
  have hne:b≠w.heap.size+3:=hA0.Jd hbb
  rw[zn _ _ _ _ hne,zn _ _ _ _ hne,zn _ _ _ _ hne]
 ·unfold ZC
  exact((hb.setCell (p:=⟨w.heap.size+3,0,none⟩) (show w.heap.size≤w.heap.size+3 by omega) _).setCell (p:=⟨w.heap.size+3,1,none⟩) (show w.heap.size≤w.heap.size+3 by omega) _).setCell (p:=⟨w.heap.size+3,2,none⟩) (show w.heap.size≤w.heap.size+3 by omega) _
end
section
open Go.RowKit
attribute [local go_sem ↓] Zr Ze
attribute [local go_sem] Zf qN X7
variable {w w':World} {q n c:Nat} {p:Option Addr} {s s':St}
theorem jW (p:Option Addr) (n c:Nat) (s:St) (o:Op) (w:World) (hrow:gc.qQ w p n c s.A) (hst:(qc s o.now).st≠0):Calls zf 86 #[.agg (rC p n c s),.agg #[.int .i64 o.kind,.int .i64 o.now,.int .i64 o.n,.string o.s,.string o.t.s,.int .i64 o.t.k,.bool o.t.up,.int .i64 o.t.o,.int .i64 o.t.a,.int .i64 o.t.b]] w (Brg (qc s o.now) ⟨0,⟨#[]⟩,0⟩ w):=by
 have HLK:=zd (λ W=>Z6 p n c s o.now W)
 have e1:((qc s o.now).st !=0)=true:=by simpa using hst
 have e2:decide ((qc s o.now).st=0)=false:=by simpa using hst
 obtain⟨W0,hW0,h4⟩:=Zm (s:=s) o hrow
 have H0:=zd h4
 have i0:=h4.q.is
 have k0:=h4.q.cells
 have hlt:=h4.lt
 clear h4 hrow hst
 have y1:W0.cell? ⟨w.heap.size+1,1,none⟩=some (.int .i64 o.now):=H0.out.oc 1
 go_enter func86,ntmps86
 go_wp2_with fail
 clear hW0
 refine(HLK.out _).mono ?_
 rintro e w1 ⟨rfl,hb1⟩
 have H1:=zd (H0.out.on hb1)
 have i1:=H1.out.q.is
 have H2:=zd (H1.out.XX (qc s o.now) rfl)
 clear hb1 H0 HLK y1 i0 k0 hlt
 go_upto_region 2 with fail
 generalize w1.setRow w.heap.size (rC p n c (qc s o.now))=w2 at*
 clear i1 H1
 have x21:w2.cell? ⟨w.heap.size,21,none⟩=some (.int .i64 (qc s o.now).st):=H2.out.q.cell 21
 go_upto_region 3 with fail
 clear x21 e1 e2
 obtain⟨⟨t0,t1,t2⟩,⟨g0,g1,g2⟩,hz,hza,hzr,hzb⟩:=H2.out.fin (p':=p) (n':=n) (c':=c) (s':=(qc s o.now)) H2.out.row ⟨0,⟨#[]⟩,0⟩
 have HZ:=zd hz
 have HZA:=zd hza
 have HZR:=zd hzr
 have HZB:=zd hzb
 have i1z:=H2.out.q.is
 have k1z:=H2.out.q.cells
 have i2z:=H2.out.r.is
 have hltz:=H2.out.lt
 clear hz hza hzr hzb
 go_wp2_with fail
 generalize hWf:ZC w2 (w.heap.size+2) (w.heap.size+3) (rC p n c (qc s o.now)) ⟨0,⟨#[]⟩,0⟩=wz at*
 unfold ZC at hWf
 dsimp only at hWf
 try rw[hWf]
 exact zk (v:=.tuple #[.agg (rC p n c (qc s o.now)),.agg #[.int .i64 0,.string ⟨#[]⟩,.int .i64 0]]) (by simp[results,results86,asAddr,qf HZ.out,qW HZA.out]) rfl ⟨p,n,c,rfl,HZR.out,HZB.out⟩
theorem KM (p:Option Addr) (n c:Nat) (s:St) (o:Op) (w:World) (hrow:gc.qQ w p n c s.A) (hst:(qc s o.now).st=0) (hk:o.kind=1) (hf:∀W,gc.qQ W p n c s.A→Calls zf 111 #[.agg (rC p n c (qc s o.now)),.string o.s] W (Frc (qG (qc s o.now) o.s) W)):Calls zf 86 #[.agg (rC p n c s),.agg #[.int .i64 o.kind,.int .i64 o.now,.int .i64 o.n,.string o.s,.string o.t.s,.int .i64 o.t.k,.bool o.t.up,.int .i64 o.t.o,.int .i64 o.t.a,.int .i64 o.t.b]] w (Brg (qG (qc s o.now) o.s) ⟨0,⟨#[]⟩,0⟩ w):=by
 have HLK:=zd (λ W=>Z6 p n c s o.now W)
 have HST:=zd hst
 have d1:(o.kind==1)=true:=by simpa using hk
 have d2:decide (o.kind=1)=true:=by simpa using hk
 have HF:=zd hf
 obtain⟨W0,hW0,h4⟩:=Zm (s:=s) o hrow
 have H0:=zd h4
 have i0:=h4.q.is
 have k0:=h4.q.cells
 have hlt:=h4.lt
 clear h4 hrow hst hk hf
 have y1:W0.cell? ⟨w.heap.size+1,1,none⟩=some (.int .i64 o.now):=H0.out.oc 1
 go_enter func86,ntmps86
 go_wp2_with fail
 clear hW0
 refine(HLK.out _).mono ?_
 rintro e w1 ⟨rfl,hb1⟩
 have H1:=zd (H0.out.on hb1)
 have i1:=H1.out.q.is
 have H2:=zd (H1.out.XX (qc s o.now) rfl)
 clear hb1 H0 HLK y1 i0 k0 hlt
 go_upto_region 2 with fail
 generalize w1.setRow w.heap.size (rC p n c (qc s o.now))=w2 at*
 clear i1 H1
 have x21:w2.cell? ⟨w.heap.size,21,none⟩=some (.int .i64 (qc s o.now).st):=H2.out.q.cell 21
 rw[HST.out]at x21
 have y0:w2.cell? ⟨w.heap.size+1,0,none⟩=some (.int .i64 o.kind):=H2.out.oc 0
 have y3:w2.cell? ⟨w.heap.size+1,3,none⟩=some (.string o.s):=H2.out.oc 3
 have i1:=H2.out.q.is
 have k1:=H2.out.q.cells
 go_wp2_with fail
 clear x21 y0 y3 i1 k1 d1 d2
 refine(HF.out _ H2.out.row).mono ?_
 rintro e w3 ⟨p1,n1,c1,rfl,hrow3,hb3⟩
 have H3:=zd (H2.out.on hb3)
 have HRW3:=zd hrow3
 clear hb3 hrow3 H2 HF
 obtain⟨⟨t0,t1,t2⟩,⟨g0,g1,g2⟩,hz,hza,hzr,hzb⟩:=H3.out.fin (p':=p1) (n':=n1) (c':=c1) (s':=(qG (qc s o.now) o.s)) HRW3.out ⟨0,⟨#[]⟩,0⟩
 have HZ:=zd hz
 have HZA:=zd hza
 have HZR:=zd hzr
 have HZB:=zd hzb
 have i1z:=H3.out.q.is
 have k1z:=H3.out.q.cells
 have i2z:=H3.out.r.is
 have hltz:=H3.out.lt
 clear hz hza hzr hzb
 go_wp2_with fail
 generalize hWf:ZC w3 (w.heap.size+2) (w.heap.size+3) (rC p1 n1 c1 (qG (qc s o.now) o.s)) ⟨0,⟨#[]⟩,0⟩=wz at*
 unfold ZC at hWf
 dsimp only at hWf
 try rw[hWf]
 exact zk (v:=.tuple #[.agg (rC p1 n1 c1 (qG (qc s o.now) o.s)),.agg #[.int .i64 0,.string ⟨#[]⟩,.int .i64 0]]) (by simp[results,results86,asAddr,qf HZ.out,qW HZA.out]) rfl ⟨p1,n1,c1,rfl,HZR.out,HZB.out⟩
theorem jE (p:Option Addr) (n c:Nat) (s:St) (o:Op) (w:World) (hrow:gc.qQ w p n c s.A) (hst:(qc s o.now).st=0) (hk:¬o.kind=1) (hc:(qc s o.now).closed=true):Calls zf 86 #[.agg (rC p n c s),.agg #[.int .i64 o.kind,.int .i64 o.now,.int .i64 o.n,.string o.s,.string o.t.s,.int .i64 o.t.k,.bool o.t.up,.int .i64 o.t.o,.int .i64 o.t.a,.int .i64 o.t.b]] w (Brg (qc s o.now) ⟨0,⟨#[]⟩,0⟩ w):=by
 have HLK:=zd (λ W=>Z6 p n c s o.now W)
 have HST:=zd hst
 have d1:(o.kind==1)=false:=by simpa using hk
 have d2:decide (o.kind=1)=false:=by simpa using hk
 have HCL:=zd hc
 obtain⟨W0,hW0,h4⟩:=Zm (s:=s) o hrow
 have H0:=zd h4
 have i0:=h4.q.is
 have k0:=h4.q.cells
 have hlt:=h4.lt
 clear h4 hrow hst hk hc
 have y1:W0.cell? ⟨w.heap.size+1,1,none⟩=some (.int .i64 o.now):=H0.out.oc 1
 go_enter func86,ntmps86
 go_wp2_with fail
 clear hW0
 refine(HLK.out _).mono ?_
 rintro e w1 ⟨rfl,hb1⟩
 have H1:=zd (H0.out.on hb1)
 have i1:=H1.out.q.is
 have H2:=zd (H1.out.XX (qc s o.now) rfl)
 clear hb1 H0 HLK y1 i0 k0 hlt
 go_upto_region 2 with fail
 generalize w1.setRow w.heap.size (rC p n c (qc s o.now))=w2 at*
 clear i1 H1
 have x21:w2.cell? ⟨w.heap.size,21,none⟩=some (.int .i64 (qc s o.now).st):=H2.out.q.cell 21
 rw[HST.out]at x21
 have y0:w2.cell? ⟨w.heap.size+1,0,none⟩=some (.int .i64 o.kind):=H2.out.oc 0
 have x19:w2.cell? ⟨w.heap.size,19,none⟩=some (.bool (qc s o.now).closed):=H2.out.q.cell 19
 rw[HCL.out]at x19
 go_upto_region 7 with fail
 clear x21 y0 x19 d1 d2
 obtain⟨⟨t0,t1,t2⟩,⟨g0,g1,g2⟩,hz,hza,hzr,hzb⟩:=H2.out.fin (p':=p) (n':=n) (c':=c) (s':=(qc s o.now)) H2.out.row ⟨0,⟨#[]⟩,0⟩
 have HZ:=zd hz
 have HZA:=zd hza
 have HZR:=zd hzr
 have HZB:=zd hzb
 have i1z:=H2.out.q.is
 have k1z:=H2.out.q.cells
 have i2z:=H2.out.r.is
 have hltz:=H2.out.lt
 clear hz hza hzr hzb
 go_wp2_with fail
 generalize hWf:ZC w2 (w.heap.size+2) (w.heap.size+3) (rC p n c (qc s o.now)) ⟨0,⟨#[]⟩,0⟩=wz at*
 unfold ZC at hWf
 dsimp only at hWf
 try rw[hWf]
 exact zk (v:=.tuple #[.agg (rC p n c (qc s o.now)),.agg #[.int .i64 0,.string ⟨#[]⟩,.int .i64 0]]) (by simp[results,results86,asAddr,qf HZ.out,qW HZA.out]) rfl ⟨p,n,c,rfl,HZR.out,HZB.out⟩
end
section
open Go.RowKit
attribute [local go_sem ↓] Zr Ze
attribute [local go_sem] Zf qN X7
variable {w w':World} {q n c:Nat} {p:Option Addr} {s s':St}
theorem PW (p:Option Addr) (n c:Nat) (s:St) (o:Op) (w:World) (hrow:gc.qQ w p n c s.A) (hst:(qc s o.now).st=0) (hk:¬o.kind=1) (hc:(qc s o.now).closed=false) (hrm:0≤s.room∧s.room≤4096) {G:Int} (hG:Zt (qc s o.now)=G) {K:Nat} (hK:G=(K:Int)) (hgt:G<(o.s.size:Int)) (hf:∀W,gc.qQ W p n c s.A→Calls zf 111 #[.agg (rC p n c (qc s o.now)),.string (o.s.extract 0 K)] W (Frc (qG (qc s o.now) (o.s.extract 0 K)) W)):Calls zf 86 #[.agg (rC p n c s),.agg #[.int .i64 o.kind,.int .i64 o.now,.int .i64 o.n,.string o.s,.string o.t.s,.int .i64 o.t.k,.bool o.t.up,.int .i64 o.t.o,.int .i64 o.t.a,.int .i64 o.t.b]] w (Brg (qG (qc s o.now) (o.s.extract 0 K)) ⟨(K:Nat),⟨#[]⟩,0⟩ w):=by
 have HLK:=zd (λ W=>Z6 p n c s o.now W)
 have HST:=zd hst
 have d1:(o.kind==1)=false:=by simpa using hk
 have d2:decide (o.kind=1)=false:=by simpa using hk
 have HFR:=zd (λ W=>show Calls zf 58 #[.agg (rC p n c (qc s o.now))] W λ e w'=>e=.returned (.int .i64 G)∧Below W.heap.size W w' from by rw[←hG];exact UT p n c (qc s o.now) W hrm)
 have HCL:=zd hc
 have HF:=zd hf
 have hd:decide (G<(o.s.size:Int))=true:=by simpa using hgt
 have HKK:=zd hK
 have hkn:K≤o.s.size:=by omega
 obtain⟨W0,hW0,h4⟩:=Zm (s:=s) o hrow
 have H0:=zd h4
 have i0:=h4.q.is
 have k0:=h4.q.cells
 have hlt:=h4.lt
 clear h4 hrow hst hk hc hf hrm hG hK hgt
 have y1:W0.cell? ⟨w.heap.size+1,1,none⟩=some (.int .i64 o.now):=H0.out.oc 1
 go_enter func86,ntmps86
 go_wp2_with fail
 clear hW0
 refine(HLK.out _).mono ?_
 rintro e w1 ⟨rfl,hb1⟩
 have H1:=zd (H0.out.on hb1)
 have i1:=H1.out.q.is
 have H2:=zd (H1.out.XX (qc s o.now) rfl)
 clear hb1 H0 HLK y1 i0 k0 hlt
 go_upto_region 2 with fail
 generalize w1.setRow w.heap.size (rC p n c (qc s o.now))=w2 at*
 clear i1 H1
 have x21:w2.cell? ⟨w.heap.size,21,none⟩=some (.int .i64 (qc s o.now).st):=H2.out.q.cell 21
 rw[HST.out]at x21
 have y0:w2.cell? ⟨w.heap.size+1,0,none⟩=some (.int .i64 o.kind):=H2.out.oc 0
 have y3:w2.cell? ⟨w.heap.size+1,3,none⟩=some (.string o.s):=H2.out.oc 3
 have x19:w2.cell? ⟨w.heap.size,19,none⟩=some (.bool (qc s o.now).closed):=H2.out.q.cell 19
 rw[HCL.out]at x19
 have i1:=H2.out.q.is
 have k1:=H2.out.q.cells
 go_wp2_with fail
 refine(HFR.out _).mono ?_
 rintro e w3 ⟨rfl,hb3⟩
 have H3:=zd (H2.out.on hb3)
 clear hb3 H2 x21 y0 y3 x19 i1 k1 d1 d2
 have i1:=H3.out.q.is
 have k1:=H3.out.q.cells
 have y3:w3.cell? ⟨w.heap.size+1,3,none⟩=some (.string o.s):=H3.out.oc 3
 go_wp2_with fail
 refine(HFR.out _).mono ?_
 rintro e w4 ⟨rfl,hb4⟩
 have H4:=zd (H3.out.on hb4)
 rw[HKK.out]
 clear hb4 H3 y3 i1 k1 hd
 have i1:=H4.out.q.is
 have k1:=H4.out.q.cells
 have i2:=H4.out.q.drew.is
 have k2:=H4.out.q.drew.cells
 have y3:w4.cell? ⟨w.heap.size+1,3,none⟩=some (.string o.s):=H4.out.oc 3
 have HF2:=zd (HF.out w4.drew (gc.Zc H4.out.row (zh _ w4).drew))
 go_wp2_with fail
 go_region_law
  (first
   |(go_simp;go_at_call 111;(with_reducible refine zr HF2.out ?_);rintro e w5 ⟨p1,n1,c1,rfl,hrow5,hb5⟩;(have h5:=(H4.out.on (zh _ w4).drew).on hb5);(have i5:=h5.r.is);(have hlt5:=h5.lt);(obtain⟨⟨t0,t1,t2⟩,⟨g0,g1,g2⟩,hz,hza,hzr,hzb⟩:=h5.fin hrow5 ⟨(K:Nat),⟨#[]⟩,0⟩)))
 all_goals (
  have HZ:=zd hz
  have HZA:=zd hza
  have HZR:=zd hzr
  have HZB:=zd hzb
  clear hz hza hzr hzb h5 i5 hlt5 hb5 hrow5
  go_wp2_with fail
  generalize hWf:ZC w5 (w.heap.size+2) (w.heap.size+3) (rC p1 n1 c1 (qG (qc s o.now) (o.s.extract 0 K))) ⟨(K:Nat),⟨#[]⟩,0⟩=wz at*
  unfold ZC at hWf
  dsimp only at hWf
  try rw[hWf]
  exact zk (v:=.tuple #[.agg (rC p1 n1 c1 (qG (qc s o.now) (o.s.extract 0 K))),.agg #[.int .i64 (K:Nat),.string ⟨#[]⟩,.int .i64 0]]) (by simp[results,results86,asAddr,qf HZ.out,qW HZA.out]) rfl ⟨p1,n1,c1,rfl,HZR.out,HZB.out⟩)
theorem PV (p:Option Addr) (n c:Nat) (s:St) (o:Op) (w:World) (hrow:gc.qQ w p n c s.A) (hst:(qc s o.now).st=0) (hk:¬o.kind=1) (hc:(qc s o.now).closed=false) (hrm:0≤s.room∧s.room≤4096) {G:Int} (hG:Zt (qc s o.now)=G) {K:Nat} (hK:G=(K:Int)) (hgt:¬G<(o.s.size:Int)) (hf:∀W,gc.qQ W p n c s.A→Calls zf 111 #[.agg (rC p n c (qc s o.now)),.string o.s] W (Frc (qG (qc s o.now) o.s) W)):Calls zf 86 #[.agg (rC p n c s),.agg #[.int .i64 o.kind,.int .i64 o.now,.int .i64 o.n,.string o.s,.string o.t.s,.int .i64 o.t.k,.bool o.t.up,.int .i64 o.t.o,.int .i64 o.t.a,.int .i64 o.t.b]] w (Brg (qG (qc s o.now) o.s) ⟨(o.s.size:Nat),⟨#[]⟩,0⟩ w):=by
 have HLK:=zd (λ W=>Z6 p n c s o.now W)
 have HST:=zd hst
 have d1:(o.kind==1)=false:=by simpa using hk
 have d2:decide (o.kind=1)=false:=by simpa using hk
 have HFR:=zd (λ W=>show Calls zf 58 #[.agg (rC p n c (qc s o.now))] W λ e w'=>e=.returned (.int .i64 G)∧Below W.heap.size W w' from by rw[←hG];exact UT p n c (qc s o.now) W hrm)
 have HCL:=zd hc
 have HF:=zd hf
 have hd:decide (G<(o.s.size:Int))=false:=by simpa using hgt
 have HKK:=zd hK
 obtain⟨W0,hW0,h4⟩:=Zm (s:=s) o hrow
 have H0:=zd h4
 have i0:=h4.q.is
 have k0:=h4.q.cells
 have hlt:=h4.lt
 clear h4 hrow hst hk hc hf hrm hG hK hgt
 have y1:W0.cell? ⟨w.heap.size+1,1,none⟩=some (.int .i64 o.now):=H0.out.oc 1
 go_enter func86,ntmps86
 go_wp2_with fail
 clear hW0
 refine(HLK.out _).mono ?_
 rintro e w1 ⟨rfl,hb1⟩
 have H1:=zd (H0.out.on hb1)
 have i1:=H1.out.q.is
 have H2:=zd (H1.out.XX (qc s o.now) rfl)
 clear hb1 H0 HLK y1 i0 k0 hlt
 go_upto_region 2 with fail
 generalize w1.setRow w.heap.size (rC p n c (qc s o.now))=w2 at*
 clear i1 H1
 have x21:w2.cell? ⟨w.heap.size,21,none⟩=some (.int .i64 (qc s o.now).st):=H2.out.q.cell 21
 rw[HST.out]at x21
 have y0:w2.cell? ⟨w.heap.size+1,0,none⟩=some (.int .i64 o.kind):=H2.out.oc 0
 have y3:w2.cell? ⟨w.heap.size+1,3,none⟩=some (.string o.s):=H2.out.oc 3
 have x19:w2.cell? ⟨w.heap.size,19,none⟩=some (.bool (qc s o.now).closed):=H2.out.q.cell 19
 rw[HCL.out]at x19
 have i1:=H2.out.q.is
 have k1:=H2.out.q.cells
 go_wp2_with fail
 refine(HFR.out _).mono ?_
 rintro e w3 ⟨rfl,hb3⟩
 have H3:=zd (H2.out.on hb3)
 clear hb3 H2 x21 y0 y3 x19 i1 k1 d1 d2
 have i1:=H3.out.q.is
 have k1:=H3.out.q.cells
 have y3:w3.cell? ⟨w.heap.size+1,3,none⟩=some (.string o.s):=H3.out.oc 3
 have H4:=H3
 clear H3 y3 i1 k1
 generalize w3=w4 at*
 have i1:=H4.out.q.is
 have k1:=H4.out.q.cells
 have i2:=H4.out.q.drew.is
 have k2:=H4.out.q.drew.cells
 have y3:w4.cell? ⟨w.heap.size+1,3,none⟩=some (.string o.s):=H4.out.oc 3
 have HF2:=zd (HF.out w4.drew (gc.Zc H4.out.row (zh _ w4).drew))
 go_wp2_with fail
 go_region_law
  (first
   |(go_simp;go_at_call 111;(with_reducible refine zr HF2.out ?_);rintro e w5 ⟨p1,n1,c1,rfl,hrow5,hb5⟩;(have h5:=(H4.out.on (zh _ w4).drew).on hb5);(have i5:=h5.r.is);(have hlt5:=h5.lt);(obtain⟨⟨t0,t1,t2⟩,⟨g0,g1,g2⟩,hz,hza,hzr,hzb⟩:=h5.fin hrow5 ⟨(o.s.size:Nat),⟨#[]⟩,0⟩)))
 all_goals (
  have HZ:=zd hz
  have HZA:=zd hza
  have HZR:=zd hzr
  have HZB:=zd hzb
  clear hz hza hzr hzb h5 i5 hlt5 hb5 hrow5
  go_wp2_with fail
  generalize hWf:ZC w5 (w.heap.size+2) (w.heap.size+3) (rC p1 n1 c1 (qG (qc s o.now) o.s)) ⟨(o.s.size:Nat),⟨#[]⟩,0⟩=wz at*
  unfold ZC at hWf
  dsimp only at hWf
  try rw[hWf]
  exact zk (v:=.tuple #[.agg (rC p1 n1 c1 (qG (qc s o.now) o.s)),.agg #[.int .i64 (o.s.size:Nat),.string ⟨#[]⟩,.int .i64 0]]) (by simp[results,results86,asAddr,qf HZ.out,qW HZA.out]) rfl ⟨p1,n1,c1,rfl,HZR.out,HZB.out⟩)
theorem Q0 (p:Option Addr) (n c:Nat) (s:St) (o:Op) (w:World) (hrow:gc.qQ w p n c s.A) {M:Nat} (ho:Ok s M) (hn:n≤100000) (hos:o.s.size≤100000) (hS:s.S.size≤100000) (hk:o.kind=0∨o.kind=1):Calls zf 86 #[.agg (rC p n c s),.agg #[.int .i64 o.kind,.int .i64 o.now,.int .i64 o.n,.string o.s,.string o.t.s,.int .i64 o.t.k,.bool o.t.up,.int .i64 o.t.o,.int .i64 o.t.a,.int .i64 o.t.b]] w (Brg (doS s o).1 (doS s o).2 w):=by
 have hab:=(ho.look o.now).ab
 have hfo:∀(b:ByteArray),b.size≤100000→∀W,gc.qQ W p n c s.A→Calls zf 111 #[.agg (rC p n c (qc s o.now)),.string b] W (Frc (qG (qc s o.now) b) W):=λ b hb W hr=>Sn p n c (qc s o.now) W hr ⟨hab.1,hab.2.1⟩ hn hb hS
 have hpos:=jm (qc s o.now)
 unfold doS
 rcases hk with hk|hk
 ·rw[if_pos hk]
  unfold qU
  dsimp only
  by_cases hst:(qc s o.now).st=0
  ·cases hc:(qc s o.now).closed with
   |true=>
    rw[if_pos (Or.inr rfl)]
    exact jE p n c s o w hrow hst (by omega) hc
   |false=>
    rw[if_neg (by simpa using hst)]
    by_cases hg:Zt (qc s o.now)<(o.s.size:Int)
    ·rw[if_pos hg]
     have hK:Zt (qc s o.now)=((Zt (qc s o.now)).toNat:Int):=by omega
     have he:(o.s.extract 0 (Zt (qc s o.now)).toNat).size≤100000:=by rw[ByteArray.size_extract];omega
     have:=PW p n c s o w hrow hst (by omega) hc (by have:=ho.room;omega) rfl hK hg (hfo _ he)
     rw[←hK]at this
     exact this
    ·rw[if_neg hg]
     have he:((o.s.size:Int)).toNat=o.s.size:=rfl
     rw[he,extract_all]
     exact PV p n c s o w hrow hst (by omega) hc (by have:=ho.room;omega) rfl (K:=(Zt (qc s o.now)).toNat) (by omega) hg (hfo _ hos)
  ·rw[if_pos (Or.inl hst)]
   exact jW p n c s o w hrow hst
 ·rw[if_neg (by omega),if_pos hk]
  unfold Zy
  dsimp only
  by_cases hst:(qc s o.now).st=0
  ·rw[if_neg (by simpa using hst)]
   exact KM p n c s o w hrow hst hk (hfo _ hos)
  ·rw[if_pos hst]
   exact jW p n c s o w hrow hst
end
end Go.Proofs.YtfdfgnmgpgkknaaGreat
