import Derived.Test.YtfdfgnmgpgkknaaGreatMG27
import Derived.Test.YtfdfgnmgpgkknaaGreatMG2
import Derived.Test.YtfdfgnmgpgkknaaGreatMG28
set_option maxRecDepth 100000
set_option maxHeartbeats 8000000
open Go.RowKit.Below renaming heap_setCell→zn,refl→zh
open Nat renaming le_refl→zg
open Go.Proofs.Tryz renaming prog→zf
open Go.Lib renaming hid→zd
open Go renaming bodyPost_ret→zk,heap_alloc_new→zo,cell_of_row→ze
open Go.Proofs.Tryz
namespace Go.Proofs.YtfdfgnmgpgkknaaGreat
section
open Go.RowKit
attribute [local go_sem ↓] Zr Ze
attribute [local go_sem] Zf qN X7
variable {w w':World} {q n c:Nat} {p:Option Addr} {s s':St}
def Xl (w:World) (q:Nat) (t:Tox):World:=((((((w).setCell ⟨q,0,none⟩ (.string t.s)).setCell ⟨q,1,none⟩ (.int .i64 t.k)).setCell ⟨q,2,none⟩ (.bool t.up)).setCell ⟨q,3,none⟩ (.int .i64 t.o)).setCell ⟨q,4,none⟩ (.int .i64 t.a)).setCell ⟨q,5,none⟩ (.int .i64 t.b)
theorem RAt.Xl (h:RAt w q p n c s) (t:Tox):RAt (Xl w q t) q p n c {s with tx:=t}:=(((((h.set (i:=0) (s':={s with tx:=⟨t.s,s.tx.k,s.tx.up,s.tx.o,s.tx.a,s.tx.b⟩}) (p':=p) (n':=n) (c':=c) rfl).set (i:=1) (s':={s with tx:=⟨t.s,t.k,s.tx.up,s.tx.o,s.tx.a,s.tx.b⟩}) (p':=p) (n':=n) (c':=c) rfl).set (i:=2) (s':={s with tx:=⟨t.s,t.k,t.up,s.tx.o,s.tx.a,s.tx.b⟩}) (p':=p) (n':=n) (c':=c) rfl).set (i:=3) (s':={s with tx:=⟨t.s,t.k,t.up,t.o,s.tx.a,s.tx.b⟩}) (p':=p) (n':=n) (c':=c) rfl).set (i:=4) (s':={s with tx:=⟨t.s,t.k,t.up,t.o,t.a,s.tx.b⟩}) (p':=p) (n':=n) (c':=c) rfl).set (i:=5) (s':={s with tx:=t}) (p':=p) (n':=n) (c':=c) rfl
theorem Uj {i:Nat} (hi:i≠q) (t:Tox):(Xl w q t).heap[i]?=w.heap[i]?:=by
 unfold Go.Proofs.YtfdfgnmgpgkknaaGreat.Xl
 rw[zn _ _ _ _ hi,zn _ _ _ _ hi,zn _ _ _ _ hi,zn _ _ _ _ hi,zn _ _ _ _ hi,zn _ _ _ _ hi]
theorem Ss {B:Nat} {w0:World} (h:Below B w0 w) (hg:B≤q) (t:Tox):Below B w0 (Xl w q t):=((((((h.setCell (p:=⟨q,0,none⟩) hg _).setCell (p:=⟨q,1,none⟩) hg _).setCell (p:=⟨q,2,none⟩) hg _).setCell (p:=⟨q,3,none⟩) hg _).setCell (p:=⟨q,4,none⟩) hg _).setCell (p:=⟨q,5,none⟩) hg _)
theorem Four.Xl {w W:World} {o:Op} (h:Four w W o p n c s) (t:Tox):Four w (Xl W w.heap.size t) o p n c {s with tx:=t}:=
 ⟨h.q.Xl t,(Uj (show w.heap.size+1≠w.heap.size by omega) t).trans h.o,(Uj (show w.heap.size+2≠w.heap.size by omega) t).trans h.r,(Uj (show w.heap.size+3≠w.heap.size by omega) t).trans h.a,Ss h.b (zg _) t,ZR h.row λ _ _ _ hb=>Uj (h.q.Jd hb) t⟩
theorem Four.YM {w W:World} {o:Op} (h:Four w W o p n c s) (k:Bkt):Four w (YM W w.heap.size k) o p n c {s with bk:=k}:=
 ⟨h.q.YM k,(YL (show w.heap.size+1≠w.heap.size by omega) k).trans h.o,(YL (show w.heap.size+2≠w.heap.size by omega) k).trans h.r,(YL (show w.heap.size+3≠w.heap.size by omega) k).trans h.a,V4 h.b (zg _) k,ZR h.row λ _ _ _ hb=>YL (h.q.Jd hb) k⟩
theorem Qm (h:RAt w q p n c s):w.cell? ⟨q,0,none⟩=some (.string s.tx.s)∧w.cell? ⟨q,1,none⟩=some (.int .i64 s.tx.k)∧w.cell? ⟨q,2,none⟩=some (.bool s.tx.up)∧w.cell? ⟨q,3,none⟩=some (.int .i64 s.tx.o)∧w.cell? ⟨q,4,none⟩=some (.int .i64 s.tx.a)∧w.cell? ⟨q,5,none⟩=some (.int .i64 s.tx.b):=⟨h.cell 0,h.cell 1,h.cell 2,h.cell 3,h.cell 4,h.cell 5⟩
theorem jK (h:RAt w q p n c s):w.frozen? ⟨q,0,none⟩=false∧w.frozen? ⟨q,1,none⟩=false∧w.frozen? ⟨q,2,none⟩=false∧w.frozen? ⟨q,3,none⟩=false∧w.frozen? ⟨q,4,none⟩=false∧w.frozen? ⟨q,5,none⟩=false:=⟨h.frz 0,h.frz 1,h.frz 2,h.frz 3,h.frz 4,h.frz 5⟩
theorem F6 (p:Option Addr) (n c:Nat) (s:St) (o:Op) (w:World) (hrow:gc.qQ w p n c s.A) (hk:o.t.k≠s.tx.k):Calls zf 91 #[.agg (rC p n c s),.agg #[.int .i64 o.kind,.int .i64 o.now,.int .i64 o.n,.string o.s,.string o.t.s,.int .i64 o.t.k,.bool o.t.up,.int .i64 o.t.o,.int .i64 o.t.a,.int .i64 o.t.b]] w (Brg s ⟨0,⟨#[]⟩,91⟩ w):=by
 have e1:(o.t.k !=s.tx.k)=true:=by simpa using hk
 have e2:decide (o.t.k=s.tx.k)=false:=by simpa using hk
 obtain⟨W0,hW0,h4⟩:=Zm (s:=s) o hrow
 have H0:=zd h4
 have i0:=h4.q.is
 have k0:=h4.q.cells
 have hlt:=h4.lt
 clear h4 hrow hk
 have y5:W0.cell? ⟨w.heap.size+1,5,none⟩=some (.int .i64 o.t.k):=H0.out.oc 5
 have x1:W0.cell? ⟨w.heap.size,1,none⟩=some (.int .i64 s.tx.k):=H0.out.q.cell 1
 go_enter func91,ntmps91
 go_upto_region 2 with fail
 clear hW0 i0 k0 hlt y5 x1 e1 e2
 obtain⟨⟨t0,t1,t2⟩,⟨g0,g1,g2⟩,hz,hza,hzr,hzb⟩:=H0.out.fin (p':=p) (n':=n) (c':=c) (s':=s) H0.out.row ⟨0,⟨#[]⟩,91⟩
 have HZ:=zd hz
 have HZA:=zd hza
 have HZR:=zd hzr
 have HZB:=zd hzb
 have i1z:=H0.out.q.is
 have k1z:=H0.out.q.cells
 have i2z:=H0.out.r.is
 have hltz:=H0.out.lt
 clear hz hza hzr hzb
 go_wp2_with fail
 generalize hWf:ZC W0 (w.heap.size+2) (w.heap.size+3) (rC p n c s) ⟨0,⟨#[]⟩,91⟩=wz at*
 unfold ZC at hWf
 dsimp only at hWf
 try rw[hWf]
 exact zk (v:=.tuple #[.agg (rC p n c s),.agg #[.int .i64 0,.string ⟨#[]⟩,.int .i64 91]]) (by simp[results,results91,asAddr,qf HZ.out,qW HZA.out]) rfl ⟨p,n,c,rfl,HZR.out,HZB.out⟩
theorem D4 (p:Option Addr) (n c:Nat) (s:St) (o:Op) (w:World) (hrow:gc.qQ w p n c s.A) (hk:o.t.k=s.tx.k) (h0:o.t.k=0):Calls zf 91 #[.agg (rC p n c s),.agg #[.int .i64 o.kind,.int .i64 o.now,.int .i64 o.n,.string o.s,.string o.t.s,.int .i64 o.t.k,.bool o.t.up,.int .i64 o.t.o,.int .i64 o.t.a,.int .i64 o.t.b]] w (Brg s ⟨0,⟨#[]⟩,0⟩ w):=by
 have e1:(o.t.k==0)=true:=by simpa using h0
 have e2:decide (o.t.k=0)=true:=by simpa using h0
 obtain⟨W0,hW0,h4⟩:=Zm (s:=s) o hrow
 have H0:=zd h4
 have i0:=h4.q.is
 have k0:=h4.q.cells
 have hlt:=h4.lt
 clear h4 hrow h0
 have y5:W0.cell? ⟨w.heap.size+1,5,none⟩=some (.int .i64 o.t.k):=H0.out.oc 5
 have x1:W0.cell? ⟨w.heap.size,1,none⟩=some (.int .i64 s.tx.k):=H0.out.q.cell 1
 rw[←hk]at x1
 clear hk
 go_enter func91,ntmps91
 go_upto_region 4 with fail
 clear hW0 i0 k0 hlt y5 x1 e1 e2
 obtain⟨⟨t0,t1,t2⟩,⟨g0,g1,g2⟩,hz,hza,hzr,hzb⟩:=H0.out.fin (p':=p) (n':=n) (c':=c) (s':=s) H0.out.row ⟨0,⟨#[]⟩,0⟩
 have HZ:=zd hz
 have HZA:=zd hza
 have HZR:=zd hzr
 have HZB:=zd hzb
 have i1z:=H0.out.q.is
 have k1z:=H0.out.q.cells
 have i2z:=H0.out.r.is
 have hltz:=H0.out.lt
 clear hz hza hzr hzb
 go_wp2_with fail
 generalize hWf:ZC W0 (w.heap.size+2) (w.heap.size+3) (rC p n c s) ⟨0,⟨#[]⟩,0⟩=wz at*
 unfold ZC at hWf
 dsimp only at hWf
 try rw[hWf]
 exact zk (v:=.tuple #[.agg (rC p n c s),.agg #[.int .i64 0,.string ⟨#[]⟩,.int .i64 0]]) (by simp[results,results91,asAddr,qf HZ.out,qW HZA.out]) rfl ⟨p,n,c,rfl,HZR.out,HZB.out⟩
theorem D3 (p:Option Addr) (n c:Nat) (s:St) (o:Op) (w:World) (hrow:gc.qQ w p n c s.A) (ht:o.t.s.size≤maxLen) (hk:o.t.k=s.tx.k) (h0:o.t.k≠0) {E:Int} (hE:o.t.chk=E) (hE0:E≠0):Calls zf 91 #[.agg (rC p n c s),.agg #[.int .i64 o.kind,.int .i64 o.now,.int .i64 o.n,.string o.s,.string o.t.s,.int .i64 o.t.k,.bool o.t.up,.int .i64 o.t.o,.int .i64 o.t.a,.int .i64 o.t.b]] w (Brg s ⟨0,⟨#[]⟩,E⟩ w):=by
 have e1:(o.t.k==0)=false:=by simpa using h0
 have e2:decide (o.t.k=0)=false:=by simpa using h0
 have HCK:=zd (λ W=>show Calls zf 51 #[.agg #[.string o.t.s,.int .i64 o.t.k,.bool o.t.up,.int .i64 o.t.o,.int .i64 o.t.a,.int .i64 o.t.b]] W λ e w'=>e=.returned (.int .i64 E)∧Below W.heap.size W w' from by rw[←hE];exact gx.Y2 o.t.s ht o.t.k o.t.up o.t.o o.t.a o.t.b W)
 have e3:(E !=0)=true:=by simpa using hE0
 have e4:decide (E=0)=false:=by simpa using hE0
 obtain⟨W0,hW0,h4⟩:=Zm (s:=s) o hrow
 have H0:=zd h4
 have i0:=h4.q.is
 have k0:=h4.q.cells
 have hlt:=h4.lt
 clear h4 hrow h0 hE hE0 ht
 have y4:W0.cell? ⟨w.heap.size+1,4,none⟩=some (.string o.t.s):=H0.out.oc 4
 have y5:W0.cell? ⟨w.heap.size+1,5,none⟩=some (.int .i64 o.t.k):=H0.out.oc 5
 have y6:W0.cell? ⟨w.heap.size+1,6,none⟩=some (.bool o.t.up):=H0.out.oc 6
 have y7:W0.cell? ⟨w.heap.size+1,7,none⟩=some (.int .i64 o.t.o):=H0.out.oc 7
 have y8:W0.cell? ⟨w.heap.size+1,8,none⟩=some (.int .i64 o.t.a):=H0.out.oc 8
 have y9:W0.cell? ⟨w.heap.size+1,9,none⟩=some (.int .i64 o.t.b):=H0.out.oc 9
 have x1:W0.cell? ⟨w.heap.size,1,none⟩=some (.int .i64 s.tx.k):=H0.out.q.cell 1
 rw[←hk]at x1
 clear hk
 go_enter func91,ntmps91
 go_wp2_with fail
 clear hW0 i0 k0 hlt x1 y4 y5 y6 y7 y8 y9 e1 e2
 refine(HCK.out _).mono ?_
 rintro e w1 ⟨rfl,hb1⟩
 have H1:=zd (H0.out.on hb1)
 clear hb1 H0 HCK
 go_upto_region 7 with fail
 clear e3 e4
 obtain⟨⟨t0,t1,t2⟩,⟨g0,g1,g2⟩,hz,hza,hzr,hzb⟩:=H1.out.fin (p':=p) (n':=n) (c':=c) (s':=s) H1.out.row ⟨0,⟨#[]⟩,E⟩
 have HZ:=zd hz
 have HZA:=zd hza
 have HZR:=zd hzr
 have HZB:=zd hzb
 have i1z:=H1.out.q.is
 have k1z:=H1.out.q.cells
 have i2z:=H1.out.r.is
 have hltz:=H1.out.lt
 clear hz hza hzr hzb
 go_wp2_with fail
 generalize hWf:ZC w1 (w.heap.size+2) (w.heap.size+3) (rC p n c s) ⟨0,⟨#[]⟩,E⟩=wz at*
 unfold ZC at hWf
 dsimp only at hWf
 try rw[hWf]
 exact zk (v:=.tuple #[.agg (rC p n c s),.agg #[.int .i64 0,.string ⟨#[]⟩,.int .i64 E]]) (by simp[results,results91,asAddr,qf HZ.out,qW HZA.out]) rfl ⟨p,n,c,rfl,HZR.out,HZB.out⟩
theorem F4 (p:Option Addr) (n c:Nat) (s:St) (o:Op) (w:World) (hrow:gc.qQ w p n c s.A) (ht:o.t.s.size≤maxLen) (hk:o.t.k=s.tx.k) (h0:o.t.k≠0) (hE:o.t.chk=0) (h2:o.t.k≠2):Calls zf 91 #[.agg (rC p n c s),.agg #[.int .i64 o.kind,.int .i64 o.now,.int .i64 o.n,.string o.s,.string o.t.s,.int .i64 o.t.k,.bool o.t.up,.int .i64 o.t.o,.int .i64 o.t.a,.int .i64 o.t.b]] w (Brg {qc s o.now with tx:=o.t} ⟨0,⟨#[]⟩,0⟩ w):=by
 have HLK:=zd (λ W=>Z6 p n c s o.now W)
 have e1:(o.t.k==0)=false:=by simpa using h0
 have e2:decide (o.t.k=0)=false:=by simpa using h0
 have HCK:=zd (λ W=>show Calls zf 51 #[.agg #[.string o.t.s,.int .i64 o.t.k,.bool o.t.up,.int .i64 o.t.o,.int .i64 o.t.a,.int .i64 o.t.b]] W λ e w'=>e=.returned (.int .i64 0)∧Below W.heap.size W w' from by rw[←hE];exact gx.Y2 o.t.s ht o.t.k o.t.up o.t.o o.t.a o.t.b W)
 have e3:(o.t.k==2)=false:=by simpa using h2
 have e4:decide (o.t.k=2)=false:=by simpa using h2
 obtain⟨W0,hW0,h4⟩:=Zm (s:=s) o hrow
 have H0:=zd h4
 have i0:=h4.q.is
 have k0:=h4.q.cells
 have hlt:=h4.lt
 clear h4 hrow h0 hE ht h2
 have y1:W0.cell? ⟨w.heap.size+1,1,none⟩=some (.int .i64 o.now):=H0.out.oc 1
 have y4:W0.cell? ⟨w.heap.size+1,4,none⟩=some (.string o.t.s):=H0.out.oc 4
 have y5:W0.cell? ⟨w.heap.size+1,5,none⟩=some (.int .i64 o.t.k):=H0.out.oc 5
 have y6:W0.cell? ⟨w.heap.size+1,6,none⟩=some (.bool o.t.up):=H0.out.oc 6
 have y7:W0.cell? ⟨w.heap.size+1,7,none⟩=some (.int .i64 o.t.o):=H0.out.oc 7
 have y8:W0.cell? ⟨w.heap.size+1,8,none⟩=some (.int .i64 o.t.a):=H0.out.oc 8
 have y9:W0.cell? ⟨w.heap.size+1,9,none⟩=some (.int .i64 o.t.b):=H0.out.oc 9
 have x1:W0.cell? ⟨w.heap.size,1,none⟩=some (.int .i64 s.tx.k):=H0.out.q.cell 1
 rw[←hk]at x1
 clear hk
 have HE3:=zd (And.intro e3 e4)
 clear e3 e4
 go_enter func91,ntmps91
 go_wp2_with fail
 clear hW0 i0 k0 hlt x1 y1 y4 y5 y6 y7 y8 y9 e1 e2
 refine(HCK.out _).mono ?_
 rintro e w5 ⟨rfl,hb5⟩
 have H5:=zd (H0.out.on hb5)
 clear hb5 H0 HCK
 have i0:=H5.out.q.is
 have k0:=H5.out.q.cells
 have y1:w5.cell? ⟨w.heap.size+1,1,none⟩=some (.int .i64 o.now):=H5.out.oc 1
 go_wp2_with fail
 refine(HLK.out _).mono ?_
 rintro e w1 ⟨rfl,hb1⟩
 have H1:=zd (H5.out.on hb1)
 have i1:=H1.out.q.is
 have H2:=zd (H1.out.XX (qc s o.now) rfl)
 clear hb1 H5 HLK y1 i0 k0
 go_upto_region 9 with fail
 generalize w1.setRow w.heap.size (rC p n c (qc s o.now))=w2 at*
 clear i1 H1
 have y4:w2.cell? ⟨w.heap.size+1,4,none⟩=some (.string o.t.s):=H2.out.oc 4
 have y5:w2.cell? ⟨w.heap.size+1,5,none⟩=some (.int .i64 o.t.k):=H2.out.oc 5
 have y6:w2.cell? ⟨w.heap.size+1,6,none⟩=some (.bool o.t.up):=H2.out.oc 6
 have y7:w2.cell? ⟨w.heap.size+1,7,none⟩=some (.int .i64 o.t.o):=H2.out.oc 7
 have y8:w2.cell? ⟨w.heap.size+1,8,none⟩=some (.int .i64 o.t.a):=H2.out.oc 8
 have y9:w2.cell? ⟨w.heap.size+1,9,none⟩=some (.int .i64 o.t.b):=H2.out.oc 9
 obtain⟨x0,x1,x2,x3,x4,x5⟩:=Qm H2.out.q
 obtain⟨f0,f1,f2,f3,f4,f5⟩:=jK H2.out.q
 have H3:=zd (H2.out.Xl o.t)
 go_upto_region 10 with fail
 generalize hW3:Xl w2 w.heap.size o.t=w3 at*
 unfold Go.Proofs.YtfdfgnmgpgkknaaGreat.Xl at hW3
 rw[hW3]
 clear hW3 x0 x1 x2 x3 x4 x5 f0 f1 f2 f3 f4 f5 y4 y5 y6 y7 y8 y9 H2
 have x1:w3.cell? ⟨w.heap.size,1,none⟩=some (.int .i64 o.t.k):=H3.out.q.cell 1
 obtain⟨e3,e4⟩:=HE3.out
 go_upto_region 13 with fail
 clear x1 e3 e4
 obtain⟨⟨t0,t1,t2⟩,⟨g0,g1,g2⟩,hz,hza,hzr,hzb⟩:=H3.out.fin (p':=p) (n':=n) (c':=c) (s':={qc s o.now with tx:=o.t}) H3.out.row ⟨0,⟨#[]⟩,0⟩
 have HZ:=zd hz
 have HZA:=zd hza
 have HZR:=zd hzr
 have HZB:=zd hzb
 have i1z:=H3.out.q.is
 have k1z:=H3.out.q.cells
 have i2z:=H3.out.r.is
 have hltz:=H3.out.lt
 clear hz hza hzr hzb
 go_wp2_with fail
 generalize hWf:ZC w3 (w.heap.size+2) (w.heap.size+3) (rC p n c {qc s o.now with tx:=o.t}) ⟨0,⟨#[]⟩,0⟩=wz at*
 unfold ZC at hWf
 dsimp only at hWf
 try rw[hWf]
 exact zk (v:=.tuple #[.agg (rC p n c {qc s o.now with tx:=o.t}),.agg #[.int .i64 0,.string ⟨#[]⟩,.int .i64 0]]) (by simp[results,results91,asAddr,qf HZ.out,qW HZA.out]) rfl ⟨p,n,c,rfl,HZR.out,HZB.out⟩
end
section
open Go.RowKit
attribute [local go_sem ↓] Zr Ze
attribute [local go_sem] Zf qN X7
variable {w w':World} {q n c:Nat} {p:Option Addr} {s s':St}
theorem F5 (p:Option Addr) (n c:Nat) (s:St) (o:Op) (w:World) (hrow:gc.qQ w p n c s.A) (ht:o.t.s.size≤maxLen) (hk:o.t.k=s.tx.k) (h0:o.t.k≠0) (hE:o.t.chk=0) (h2:o.t.k=2) (hr:gb.qI s.bk.r s.bk.u s.bk.l s.bk.t=true) (hrn:gb.qI o.t.a o.t.b o.t.b (qc s o.now).clock=true) {V T:Int} (hV:(if o.t.b<gb.ZJ s.bk.r s.bk.u s.bk.l s.bk.t (qc s o.now).clock then o.t.b else gb.ZJ s.bk.r s.bk.u s.bk.l s.bk.t (qc s o.now).clock)=V) (hT:gb.ZV s.bk.r s.bk.u s.bk.l s.bk.t (qc s o.now).clock=T):Calls zf 91 #[.agg (rC p n c s),.agg #[.int .i64 o.kind,.int .i64 o.now,.int .i64 o.n,.string o.s,.string o.t.s,.int .i64 o.t.k,.bool o.t.up,.int .i64 o.t.o,.int .i64 o.t.a,.int .i64 o.t.b]] w (Brg {qc s o.now with tx:=o.t,bk:=⟨o.t.a,o.t.b,V,T⟩} ⟨0,⟨#[]⟩,0⟩ w):=by
 have HLK:=zd (λ W=>Z6 p n c s o.now W)
 have e1:(o.t.k==0)=false:=by simpa using h0
 have e2:decide (o.t.k=0)=false:=by simpa using h0
 have HCK:=zd (λ W=>show Calls zf 51 #[.agg #[.string o.t.s,.int .i64 o.t.k,.bool o.t.up,.int .i64 o.t.o,.int .i64 o.t.a,.int .i64 o.t.b]] W λ e w'=>e=.returned (.int .i64 0)∧Below W.heap.size W w' from by rw[←hE];exact gx.Y2 o.t.s ht o.t.k o.t.up o.t.o o.t.a o.t.b W)
 have e3:(o.t.k==2)=true:=by simpa using h2
 have e4:decide (o.t.k=2)=true:=by simpa using h2
 have HCH:=zd (λ W=>show Calls zf 115 #[.agg #[.int .i64 s.bk.r,.int .i64 s.bk.u,.int .i64 s.bk.l,.int .i64 s.bk.t],.int .i64 o.t.a,.int .i64 o.t.b,.int .i64 (qc s o.now).clock] W λ e w'=>e=.returned (.tuple #[.agg #[.int .i64 o.t.a,.int .i64 o.t.b,.int .i64 V,.int .i64 T],.int .i64 0])∧Below W.heap.size W w' from by rw[←hV];exact gb.PQ hr hrn rfl hT W)
 obtain⟨W0,hW0,h4⟩:=Zm (s:=s) o hrow
 have H0:=zd h4
 have i0:=h4.q.is
 have k0:=h4.q.cells
 have hlt:=h4.lt
 clear h4 hrow h0 hE ht h2 hr hrn hV hT
 have y1:W0.cell? ⟨w.heap.size+1,1,none⟩=some (.int .i64 o.now):=H0.out.oc 1
 have y4:W0.cell? ⟨w.heap.size+1,4,none⟩=some (.string o.t.s):=H0.out.oc 4
 have y5:W0.cell? ⟨w.heap.size+1,5,none⟩=some (.int .i64 o.t.k):=H0.out.oc 5
 have y6:W0.cell? ⟨w.heap.size+1,6,none⟩=some (.bool o.t.up):=H0.out.oc 6
 have y7:W0.cell? ⟨w.heap.size+1,7,none⟩=some (.int .i64 o.t.o):=H0.out.oc 7
 have y8:W0.cell? ⟨w.heap.size+1,8,none⟩=some (.int .i64 o.t.a):=H0.out.oc 8
 have y9:W0.cell? ⟨w.heap.size+1,9,none⟩=some (.int .i64 o.t.b):=H0.out.oc 9
 have x1:W0.cell? ⟨w.heap.size,1,none⟩=some (.int .i64 s.tx.k):=H0.out.q.cell 1
 rw[←hk]at x1
 clear hk
 have HE3:=zd (And.intro e3 e4)
 clear e3 e4
 go_enter func91,ntmps91
 go_wp2_with fail
 clear hW0 i0 k0 hlt x1 y1 y4 y5 y6 y7 y8 y9 e1 e2
 refine(HCK.out _).mono ?_
 rintro e w5 ⟨rfl,hb5⟩
 have H5:=zd (H0.out.on hb5)
 clear hb5 H0 HCK
 have i0:=H5.out.q.is
 have k0:=H5.out.q.cells
 have y1:w5.cell? ⟨w.heap.size+1,1,none⟩=some (.int .i64 o.now):=H5.out.oc 1
 go_wp2_with fail
 refine(HLK.out _).mono ?_
 rintro e w1 ⟨rfl,hb1⟩
 have H1:=zd (H5.out.on hb1)
 have i1:=H1.out.q.is
 have H2:=zd (H1.out.XX (qc s o.now) rfl)
 clear hb1 H5 HLK y1 i0 k0
 go_upto_region 9 with fail
 generalize w1.setRow w.heap.size (rC p n c (qc s o.now))=w2 at*
 clear i1 H1
 have y4:w2.cell? ⟨w.heap.size+1,4,none⟩=some (.string o.t.s):=H2.out.oc 4
 have y5:w2.cell? ⟨w.heap.size+1,5,none⟩=some (.int .i64 o.t.k):=H2.out.oc 5
 have y6:w2.cell? ⟨w.heap.size+1,6,none⟩=some (.bool o.t.up):=H2.out.oc 6
 have y7:w2.cell? ⟨w.heap.size+1,7,none⟩=some (.int .i64 o.t.o):=H2.out.oc 7
 have y8:w2.cell? ⟨w.heap.size+1,8,none⟩=some (.int .i64 o.t.a):=H2.out.oc 8
 have y9:w2.cell? ⟨w.heap.size+1,9,none⟩=some (.int .i64 o.t.b):=H2.out.oc 9
 obtain⟨x0,x1,x2,x3,x4,x5⟩:=Qm H2.out.q
 obtain⟨f0,f1,f2,f3,f4,f5⟩:=jK H2.out.q
 have H3:=zd (H2.out.Xl o.t)
 go_upto_region 10 with fail
 generalize hW3:Xl w2 w.heap.size o.t=w3 at*
 unfold Go.Proofs.YtfdfgnmgpgkknaaGreat.Xl at hW3
 rw[hW3]
 clear hW3 x0 x1 x2 x3 x4 x5 f0 f1 f2 f3 f4 f5 y4 y5 y6 y7 y8 y9 H2
 have x1:w3.cell? ⟨w.heap.size,1,none⟩=some (.int .i64 o.t.k):=H3.out.q.cell 1
 obtain⟨e3,e4⟩:=HE3.out
 have x4:w3.cell? ⟨w.heap.size,4,none⟩=some (.int .i64 o.t.a):=H3.out.q.cell 4
 have x5:w3.cell? ⟨w.heap.size,5,none⟩=some (.int .i64 o.t.b):=H3.out.q.cell 5
 have x7:w3.cell? ⟨w.heap.size,7,none⟩=some (.int .i64 s.bk.r):=H3.out.q.cell 7
 have x8:w3.cell? ⟨w.heap.size,8,none⟩=some (.int .i64 s.bk.u):=H3.out.q.cell 8
 have x9:w3.cell? ⟨w.heap.size,9,none⟩=some (.int .i64 s.bk.l):=H3.out.q.cell 9
 have x10:w3.cell? ⟨w.heap.size,10,none⟩=some (.int .i64 s.bk.t):=H3.out.q.cell 10
 have x16:w3.cell? ⟨w.heap.size,16,none⟩=some (.int .i64 (qc s o.now).clock):=H3.out.q.cell 16
 go_wp2_with fail
 clear x1 x4 x5 x7 x8 x9 x10 x16 e3 e4
 refine(HCH.out _).mono ?_
 rintro e w6 ⟨rfl,hb6⟩
 have hal:Below w6.heap.size w6 (w6.alloc (.cells #[.int .i64 0,.int .i64 0,.int .i64 0,.int .i64 0] 63)):=(zh _ _).alloc (zg _) _
 have hbl:=zo w6 (.cells #[.int .i64 0,.int .i64 0,.int .i64 0,.int .i64 0] 63)
 obtain⟨W7,hW7⟩:∃W7,w6.alloc (.cells #[.int .i64 0,.int .i64 0,.int .i64 0,.int .i64 0] 63)=W7:=⟨_,rfl⟩
 rw[hW7]at hal hbl
 have hst:=gb.qu (w:=W7) hal (zg _) (.int .i64 o.t.a) (.int .i64 o.t.b) (.int .i64 V) (.int .i64 T)
 have hs4:=gb.qF hbl (.int .i64 o.t.a) (.int .i64 o.t.b) (.int .i64 V) (.int .i64 T)
 have z0:W7.cell? ⟨w6.heap.size,0,none⟩=some (.int .i64 0):=ze _ _ 0 _ _ _ hbl
 have z1:W7.cell? ⟨w6.heap.size,1,none⟩=some (.int .i64 0):=ze _ _ 1 _ _ _ hbl
 have z2:W7.cell? ⟨w6.heap.size,2,none⟩=some (.int .i64 0):=ze _ _ 2 _ _ _ hbl
 have z3:W7.cell? ⟨w6.heap.size,3,none⟩=some (.int .i64 0):=ze _ _ 3 _ _ _ hbl
 have g0:W7.frozen? ⟨w6.heap.size,0,none⟩=false:=gb.qa hbl
 have g1:W7.frozen? ⟨w6.heap.size,1,none⟩=false:=gb.qa hbl
 have g2:W7.frozen? ⟨w6.heap.size,2,none⟩=false:=gb.qa hbl
 have g3:W7.frozen? ⟨w6.heap.size,3,none⟩=false:=gb.qa hbl
 have hlt2:=gb.qd hbl
 have H8:=zd ((H3.out.on hb6).on hst)
 have HC8:=zd hs4
 clear hb6 hal hbl hst hs4 HCH H3
 go_upto_region 12 with fail
 generalize hW8:gb.Zs W7 w6.heap.size (.int .i64 o.t.a) (.int .i64 o.t.b) (.int .i64 V) (.int .i64 T)=w8 at*
 unfold gb.Zs at hW8
 rw[hW8]
 clear hW8 z0 z1 z2 z3 g0 g1 g2 g3 hlt2 hW7
 generalize w6.heap.size=gg at*
 have y0:w8.cell? ⟨gg,0,none⟩=some (.int .i64 o.t.a):=ze _ _ 0 _ _ _ HC8.out
 have y1:w8.cell? ⟨gg,1,none⟩=some (.int .i64 o.t.b):=ze _ _ 1 _ _ _ HC8.out
 have y2:w8.cell? ⟨gg,2,none⟩=some (.int .i64 V):=ze _ _ 2 _ _ _ HC8.out
 have y3:w8.cell? ⟨gg,3,none⟩=some (.int .i64 T):=ze _ _ 3 _ _ _ HC8.out
 have u7:w8.cell? ⟨w.heap.size,7,none⟩=some (.int .i64 s.bk.r):=H8.out.q.cell 7
 have u8:w8.cell? ⟨w.heap.size,8,none⟩=some (.int .i64 s.bk.u):=H8.out.q.cell 8
 have u9:w8.cell? ⟨w.heap.size,9,none⟩=some (.int .i64 s.bk.l):=H8.out.q.cell 9
 have u10:w8.cell? ⟨w.heap.size,10,none⟩=some (.int .i64 s.bk.t):=H8.out.q.cell 10
 have v7:=H8.out.q.frz 7
 have v8:=H8.out.q.frz 8
 have v9:=H8.out.q.frz 9
 have v10:=H8.out.q.frz 10
 have H9:=zd (H8.out.YM ⟨o.t.a,o.t.b,V,T⟩)
 go_upto_region 13 with fail
 generalize hW9:YM w8 w.heap.size ⟨o.t.a,o.t.b,V,T⟩=w9 at*
 unfold Go.Proofs.YtfdfgnmgpgkknaaGreat.YM at hW9
 dsimp only at hW9
 rw[hW9]
 clear hW9 y0 y1 y2 y3 u7 u8 u9 u10 v7 v8 v9 v10 H8 HC8
 obtain⟨⟨t0,t1,t2⟩,⟨g0,g1,g2⟩,hz,hza,hzr,hzb⟩:=H9.out.fin (p':=p) (n':=n) (c':=c) (s':={qc s o.now with tx:=o.t,bk:=⟨o.t.a,o.t.b,V,T⟩}) H9.out.row ⟨0,⟨#[]⟩,0⟩
 have HZ:=zd hz
 have HZA:=zd hza
 have HZR:=zd hzr
 have HZB:=zd hzb
 have i1z:=H9.out.q.is
 have k1z:=H9.out.q.cells
 have i2z:=H9.out.r.is
 have hltz:=H9.out.lt
 clear hz hza hzr hzb
 go_wp2_with fail
 generalize hWf:ZC w9 (w.heap.size+2) (w.heap.size+3) (rC p n c {qc s o.now with tx:=o.t,bk:=⟨o.t.a,o.t.b,V,T⟩}) ⟨0,⟨#[]⟩,0⟩=wz at*
 unfold ZC at hWf
 dsimp only at hWf
 try rw[hWf]
 exact zk (v:=.tuple #[.agg (rC p n c {qc s o.now with tx:=o.t,bk:=⟨o.t.a,o.t.b,V,T⟩}),.agg #[.int .i64 0,.string ⟨#[]⟩,.int .i64 0]]) (by simp[results,results91,asAddr,qf HZ.out,qW HZA.out]) rfl ⟨p,n,c,rfl,HZR.out,HZB.out⟩
theorem Oh (p:Option Addr) (n c:Nat) (s:St) (o:Op) (w:World) (hrow:gc.qQ w p n c s.A) {M:Nat} (ho:Ok s M) (ht:o.t.s.size≤maxLen):Calls zf 91 #[.agg (rC p n c s),.agg #[.int .i64 o.kind,.int .i64 o.now,.int .i64 o.n,.string o.s,.string o.t.s,.int .i64 o.t.k,.bool o.t.up,.int .i64 o.t.o,.int .i64 o.t.a,.int .i64 o.t.b]] w (Brg (Xg s o.t o.now).1 ⟨0,⟨#[]⟩,(Xg s o.t o.now).2⟩ w):=by
 unfold Xg
 by_cases h1:o.t.k=s.tx.k
 ·rw[if_neg (by omega)]
  by_cases h2:o.t.k=0
  ·rw[if_pos h2]
   exact D4 p n c s o w hrow h1 h2
  ·rw[if_neg h2]
   by_cases h3:o.t.chk=0
   ·rw[if_neg (by omega)]
    dsimp only
    by_cases h4:o.t.k=2
    ·rw[if_pos h4]
     have hb:=Ti h3
     have hck:=VB (now:=o.now) ho.clock
     have hok:Ok {s with tx:=o.t,bk:=⟨1,1,0,0⟩} M:=⟨Or.inr h3,ht,ho.clock,ho.passed,ho.room,λ _=>(by decide:gb.qI 1 1 0 0=true),ho.top⟩
     have hab:=hok.ab
     have hbb:=hab.2.2.2.1 h4
     exact F5 p n c s o w hrow ht h1 h2 h3 h4 (ho.bk (by omega)) ((gb.qY _ _ _ _).2 ⟨hab.1,hab.2.1,hab.2.1,hck,by have:=hbb.1;show o.t.b≠0;intro e;rw[e]at hbb;omega,Int.le_refl _⟩) rfl rfl
    ·rw[if_neg h4]
     exact F4 p n c s o w hrow ht h1 h2 h3 h4
   ·rw[if_pos h3]
    exact D3 p n c s o w hrow ht h1 h2 rfl h3
 ·rw[if_pos h1]
  exact F6 p n c s o w hrow h1
end
section
open Go.RowKit
attribute [local go_sem ↓] Zr Ze
attribute [local go_sem] Zf qN X7
variable {w w':World} {q n c:Nat} {p:Option Addr} {s s':St}
theorem B6 (p:Option Addr) (n c:Nat) (s:St) (o:Op) (w:World) (hrow:gc.qQ w p n c s.A) (hk:o.kind=4):Calls zf 54 #[.agg (rC p n c s),.agg #[.int .i64 o.kind,.int .i64 o.now,.int .i64 o.n,.string o.s,.string o.t.s,.int .i64 o.t.k,.bool o.t.up,.int .i64 o.t.o,.int .i64 o.t.a,.int .i64 o.t.b]] w (Brg (qc s o.now) ⟨(qc s o.now).st,⟨#[]⟩,0⟩ w):=by
 have HLK:=zd (λ W=>Z6 p n c s o.now W)
 obtain⟨W0,hW0,h4⟩:=Zm (s:=s) o hrow
 have H0:=zd h4
 have i0:=h4.q.is
 have k0:=h4.q.cells
 have hlt:=h4.lt
 clear h4 hrow
 have y0:W0.cell? ⟨w.heap.size+1,0,none⟩=some (.int .i64 o.kind):=H0.out.oc 0
 have y1:W0.cell? ⟨w.heap.size+1,1,none⟩=some (.int .i64 o.now):=H0.out.oc 1
 rw[hk]at y0
 clear hk
 go_enter func54,ntmps54
 go_wp2_with fail
 clear hW0
 refine(HLK.out _).mono ?_
 rintro e w1 ⟨rfl,hb1⟩
 have H1:=zd (H0.out.on hb1)
 have i1:=H1.out.q.is
 have H2:=zd (H1.out.XX (qc s o.now) rfl)
 clear hb1 H0 HLK y0 y1 i0 k0 hlt
 go_upto_region 26 with fail
 generalize w1.setRow w.heap.size (rC p n c (qc s o.now))=w2 at*
 clear i1 H1
 have x21:w2.cell? ⟨w.heap.size,21,none⟩=some (.int .i64 (qc s o.now).st):=H2.out.q.cell 21
 have i1:=H2.out.q.is
 have k1:=H2.out.q.cells
 have i2:=H2.out.r.is
 have j1:=H2.out.q.drew.is
 have l1:=H2.out.q.drew.cells
 have j2:=H2.out.r.drew.is
 have h3:=H2.out.on (zh _ w2).drew
 obtain⟨⟨t0,t1,t2⟩,⟨g0,g1,g2⟩,hz,hza,hzr,hzb⟩:=h3.fin (p':=p) (n':=n) (c':=c) (s':=qc s o.now) h3.row ⟨(qc s o.now).st,⟨#[]⟩,0⟩
 have z21:(w2.drew.setRow (w.heap.size+2) (rC p n c (qc s o.now))).cell? ⟨w.heap.size,21,none⟩=some (.int .i64 (qc s o.now).st):=(h3.q.S7 (rC p n c (qc s o.now)) (show w.heap.size≠w.heap.size+2 by omega)).cell 21
 have hltz:=H2.out.lt
 have HZ:=zd hz
 have HZA:=zd hza
 have HZR:=zd hzr
 have HZB:=zd hzb
 clear hz hza hzr hzb h3
 go_region_law
  (first
   |fail)
 all_goals (
  go_wp2_with fail
  generalize hWf:ZC w2.drew (w.heap.size+2) (w.heap.size+3) (rC p n c (qc s o.now)) ⟨(qc s o.now).st,⟨#[]⟩,0⟩=wz at*
  unfold ZC at hWf
  dsimp only at hWf
  try rw[hWf]
  exact zk (v:=.tuple #[.agg (rC p n c (qc s o.now)),.agg #[.int .i64 (qc s o.now).st,.string ⟨#[]⟩,.int .i64 0]]) (by simp[results,results54,asAddr,qf HZ.out,qW HZA.out]) rfl ⟨p,n,c,rfl,HZR.out,HZB.out⟩)
end
section
open Go.RowKit
attribute [local go_sem ↓] Zr Ze
attribute [local go_sem] Zf qN X7
variable {w w':World} {q n c:Nat} {p:Option Addr} {s s':St}
theorem B3 (p:Option Addr) (n c:Nat) (s:St) (o:Op) (w:World) (hrow:gc.qQ w p n c s.A) (hk:o.kind<0∨6<o.kind):Calls zf 54 #[.agg (rC p n c s),.agg #[.int .i64 o.kind,.int .i64 o.now,.int .i64 o.n,.string o.s,.string o.t.s,.int .i64 o.t.k,.bool o.t.up,.int .i64 o.t.o,.int .i64 o.t.a,.int .i64 o.t.b]] w (Brg s ⟨0,⟨#[]⟩,0⟩ w):=by
 have c0:(o.kind==0)=false:=by simp;omega
 have b0:decide (o.kind=0)=false:=by simp;omega
 have c1:(o.kind==1)=false:=by simp;omega
 have b1:decide (o.kind=1)=false:=by simp;omega
 have c2:(o.kind==2)=false:=by simp;omega
 have b2:decide (o.kind=2)=false:=by simp;omega
 have c3:(o.kind==3)=false:=by simp;omega
 have b3:decide (o.kind=3)=false:=by simp;omega
 have c4:(o.kind==4)=false:=by simp;omega
 have b4:decide (o.kind=4)=false:=by simp;omega
 have c5:(o.kind==5)=false:=by simp;omega
 have b5:decide (o.kind=5)=false:=by simp;omega
 have c6:(o.kind==6)=false:=by simp;omega
 have b6:decide (o.kind=6)=false:=by simp;omega
 obtain⟨W0,hW0,h4⟩:=Zm (s:=s) o hrow
 have H0:=zd h4
 have i0:=h4.q.is
 have k0:=h4.q.cells
 have hlt:=h4.lt
 clear h4 hrow hk
 have y0:W0.cell? ⟨w.heap.size+1,0,none⟩=some (.int .i64 o.kind):=H0.out.oc 0
 go_enter func54,ntmps54
 go_upto_region 33 with fail
 clear hW0 i0 k0 hlt y0 c0 c1 c2 c3 c4 c5 c6 b0 b1 b2 b3 b4 b5 b6
 obtain⟨⟨t0,t1,t2⟩,⟨g0,g1,g2⟩,hz,hza,hzr,hzb⟩:=H0.out.fin (p':=p) (n':=n) (c':=c) (s':=s) H0.out.row ⟨0,⟨#[]⟩,0⟩
 have HZ:=zd hz
 have HZA:=zd hza
 have HZR:=zd hzr
 have HZB:=zd hzb
 have i1z:=H0.out.q.is
 have k1z:=H0.out.q.cells
 have i2z:=H0.out.r.is
 have hltz:=H0.out.lt
 clear hz hza hzr hzb
 go_wp2_with fail
 generalize hWf:ZC W0 (w.heap.size+2) (w.heap.size+3) (rC p n c s) ⟨0,⟨#[]⟩,0⟩=wz at*
 unfold ZC at hWf
 dsimp only at hWf
 try rw[hWf]
 exact zk (v:=.tuple #[.agg (rC p n c s),.agg #[.int .i64 0,.string ⟨#[]⟩,.int .i64 0]]) (by simp[results,results54,asAddr,qf HZ.out,qW HZA.out]) rfl ⟨p,n,c,rfl,HZR.out,HZB.out⟩
theorem Four.Pn {w W:World} {o:Op} (h:Four w W o p n c s) {i:Nat} {v:Value} {s':St} (hc:(rC p n c s).setIfInBounds i v=rC p n c s') (hA:s'.A=s.A):Four w (W.setCell ⟨w.heap.size,i,none⟩ v) o p n c s':=by
 refine⟨h.q.set hc,(zn W _ _ _ (show w.heap.size+1≠w.heap.size by omega)).trans h.o,h.r.far _ (by omega),(zn W _ _ _ (show w.heap.size+3≠w.heap.size by omega)).trans h.a,h.b.setCell (p:=⟨w.heap.size,i,none⟩) (zg _) v,?_⟩
 rw[hA]
 exact VD h.row h.q i v
theorem Four.X8 {w W:World} {o:Op} (h:Four w W o p n c s) (S:ByteArray) (A:List Int) (p':Option Addr) (n' c':Nat) (l:Int) (hr:gc.qQ W p' n' c' A):Four w (X8 W w.heap.size S p' n' c' l) o p' n' c' {s with S:=S,A:=A,last:=l}:=
 ⟨h.q.X8 S A p' n' c' l,(XU (show w.heap.size+1≠w.heap.size by omega) _ _ _ _ _).trans h.o,(XU (show w.heap.size+2≠w.heap.size by omega) _ _ _ _ _).trans h.r,(XU (show w.heap.size+3≠w.heap.size by omega) _ _ _ _ _).trans h.a,J8 h.b (zg _) _ _ _ _ _,ZR hr λ _ _ _ hb=>XU (h.q.Jd hb) _ _ _ _ _⟩
theorem B4 (p:Option Addr) (n c:Nat) (s:St) (o:Op) (w:World) (hrow:gc.qQ w p n c s.A) (hk:o.kind=6):Calls zf 54 #[.agg (rC p n c s),.agg #[.int .i64 o.kind,.int .i64 o.now,.int .i64 o.n,.string o.s,.string o.t.s,.int .i64 o.t.k,.bool o.t.up,.int .i64 o.t.o,.int .i64 o.t.a,.int .i64 o.t.b]] w (Brg {s with S:=⟨#[]⟩,A:=[]} ⟨0,s.S,0⟩ w):=by
 have c0:(o.kind==0)=false:=by simp[hk]
 have b0:decide (o.kind=0)=false:=by simp[hk]
 have c1:(o.kind==1)=false:=by simp[hk]
 have b1:decide (o.kind=1)=false:=by simp[hk]
 have c2:(o.kind==2)=false:=by simp[hk]
 have b2:decide (o.kind=2)=false:=by simp[hk]
 have c3:(o.kind==3)=false:=by simp[hk]
 have b3:decide (o.kind=3)=false:=by simp[hk]
 have c4:(o.kind==4)=false:=by simp[hk]
 have b4:decide (o.kind=4)=false:=by simp[hk]
 have c5:(o.kind==5)=false:=by simp[hk]
 have b5:decide (o.kind=5)=false:=by simp[hk]
 have c6:(o.kind==6)=true:=by simp[hk]
 have b6:decide (o.kind=6)=true:=by simp[hk]
 obtain⟨W0,hW0,h4⟩:=Zm (s:=s) o hrow
 have H0:=zd h4
 have i0:=h4.q.is
 have k0:=h4.q.cells
 have hlt:=h4.lt
 clear h4 hrow hk
 have y0:W0.cell? ⟨w.heap.size+1,0,none⟩=some (.int .i64 o.kind):=H0.out.oc 0
 have x11:W0.cell? ⟨w.heap.size,11,none⟩=some (.string s.S):=H0.out.q.cell 11
 have x12:W0.cell? ⟨w.heap.size,12,none⟩=some (.slice p n c):=H0.out.q.cell 12
 have x13:W0.cell? ⟨w.heap.size,13,none⟩=some (.int .i64 s.last):=H0.out.q.cell 13
 have f11:W0.frozen? ⟨w.heap.size,11,none⟩=false:=H0.out.q.frz 11
 have f12:W0.frozen? ⟨w.heap.size,12,none⟩=false:=H0.out.q.frz 12
 have f13:W0.frozen? ⟨w.heap.size,13,none⟩=false:=H0.out.q.frz 13
 have H1:=zd (show Four w (X8 W0 w.heap.size ⟨#[]⟩ none 0 0 s.last) o none 0 0 {s with S:=⟨#[]⟩,A:=[]}from H0.out.X8 ⟨#[]⟩ [] none 0 0 s.last (gc.QX W0))
 go_enter func54,ntmps54
 go_upto_region 32 with fail
 clear hW0
 generalize hW1:X8 W0 w.heap.size ⟨#[]⟩ none 0 0 s.last=w1 at*
 unfold Go.Proofs.YtfdfgnmgpgkknaaGreat.X8 at hW1
 rw[hW1]
 clear hW1 y0 x11 x12 x13 f11 f12 f13 i0 k0 hlt H0 c0 c1 c2 c3 c4 c5 c6 b0 b1 b2 b3 b4 b5 b6
 obtain⟨⟨t0,t1,t2⟩,⟨g0,g1,g2⟩,hz,hza,hzr,hzb⟩:=H1.out.fin (p':=none) (n':=0) (c':=0) (s':={s with S:=⟨#[]⟩,A:=[]}) H1.out.row ⟨0,s.S,0⟩
 have HZ:=zd hz
 have HZA:=zd hza
 have HZR:=zd hzr
 have HZB:=zd hzb
 have i1z:=H1.out.q.is
 have k1z:=H1.out.q.cells
 have i2z:=H1.out.r.is
 have hltz:=H1.out.lt
 clear hz hza hzr hzb
 go_wp2_with fail
 generalize hWf:ZC w1 (w.heap.size+2) (w.heap.size+3) (rC none 0 0 {s with S:=⟨#[]⟩,A:=[]}) ⟨0,s.S,0⟩=wz at*
 unfold ZC at hWf
 dsimp only at hWf
 try rw[hWf]
 exact zk (v:=.tuple #[.agg (rC none 0 0 {s with S:=⟨#[]⟩,A:=[]}),.agg #[.int .i64 0,.string s.S,.int .i64 0]]) (by simp[results,results54,asAddr,qf HZ.out,qW HZA.out]) rfl ⟨none,0,0,rfl,HZR.out,HZB.out⟩
end
section
open Go.RowKit
attribute [local go_sem ↓] Zr Ze
attribute [local go_sem] Zf qN X7
variable {w w':World} {q n c:Nat} {p:Option Addr} {s s':St}
theorem Ei (p:Option Addr) (n c:Nat) (s:St) (o:Op) (w:World) (hrow:gc.qQ w p n c s.A) (hk:o.kind=3) (hl:s.clock<gb.qe o.now) (hc:s.closed=true):Calls zf 54 #[.agg (rC p n c s),.agg #[.int .i64 o.kind,.int .i64 o.now,.int .i64 o.n,.string o.s,.string o.t.s,.int .i64 o.t.k,.bool o.t.up,.int .i64 o.t.o,.int .i64 o.t.a,.int .i64 o.t.b]] w (Brg {s with clock:=gb.qe o.now} ⟨0,⟨#[]⟩,0⟩ w):=by
 have HNR:=zd (λ W=>gb.Zq o.now W)
 have hd:decide (s.clock<gb.qe o.now)=true:=by simpa using hl
 have HC:=zd hc
 have c0:(o.kind==0)=false:=by simp[hk]
 have b0:decide (o.kind=0)=false:=by simp[hk]
 have c1:(o.kind==1)=false:=by simp[hk]
 have b1:decide (o.kind=1)=false:=by simp[hk]
 have c2:(o.kind==2)=false:=by simp[hk]
 have b2:decide (o.kind=2)=false:=by simp[hk]
 have c3:(o.kind==3)=true:=by simp[hk]
 have b3:decide (o.kind=3)=true:=by simp[hk]
 obtain⟨W0,hW0,h4⟩:=Zm (s:=s) o hrow
 have H0:=zd h4
 have i0:=h4.q.is
 have k0:=h4.q.cells
 have hlt:=h4.lt
 clear h4 hrow hk hl hc
 have y0:W0.cell? ⟨w.heap.size+1,0,none⟩=some (.int .i64 o.kind):=H0.out.oc 0
 have y1:W0.cell? ⟨w.heap.size+1,1,none⟩=some (.int .i64 o.now):=H0.out.oc 1
 go_enter func54,ntmps54
 go_wp2_with fail
 clear hW0
 refine(HNR.out _).mono ?_
 rintro e w0 ⟨rfl,rfl⟩
 have x16:W0.cell? ⟨w.heap.size,16,none⟩=some (.int .i64 s.clock):=H0.out.q.cell 16
 have f16:W0.frozen? ⟨w.heap.size,16,none⟩=false:=H0.out.q.frz 16
 have H1:=zd (H0.out.Pn (i:=16) (v:=.int .i64 (gb.qe o.now)) (s':={s with clock:=gb.qe o.now}) rfl rfl)
 go_upto_region 21 with fail
 generalize W0.setCell ⟨w.heap.size,16,none⟩ (.int .i64 (gb.qe o.now))=w1 at*
 clear x16 f16 y0 y1 i0 k0 hlt HNR hd c0 c1 c2 c3 b0 b1 b2 b3
 have x19:w1.cell? ⟨w.heap.size,19,none⟩=some (.bool s.closed):=H1.out.q.cell 19
 rw[HC.out]at x19
 go_upto_region 33 with fail
 clear x19
 obtain⟨⟨t0,t1,t2⟩,⟨g0,g1,g2⟩,hz,hza,hzr,hzb⟩:=H1.out.fin (p':=p) (n':=n) (c':=c) (s':={s with clock:=gb.qe o.now}) H1.out.row ⟨0,⟨#[]⟩,0⟩
 have HZ:=zd hz
 have HZA:=zd hza
 have HZR:=zd hzr
 have HZB:=zd hzb
 have i1z:=H1.out.q.is
 have k1z:=H1.out.q.cells
 have i2z:=H1.out.r.is
 have hltz:=H1.out.lt
 clear hz hza hzr hzb
 go_wp2_with fail
 generalize hWf:ZC w1 (w.heap.size+2) (w.heap.size+3) (rC p n c {s with clock:=gb.qe o.now}) ⟨0,⟨#[]⟩,0⟩=wz at*
 unfold ZC at hWf
 dsimp only at hWf
 try rw[hWf]
 exact zk (v:=.tuple #[.agg (rC p n c {s with clock:=gb.qe o.now}),.agg #[.int .i64 0,.string ⟨#[]⟩,.int .i64 0]]) (by simp[results,results54,asAddr,qf HZ.out,qW HZA.out]) rfl ⟨p,n,c,rfl,HZR.out,HZB.out⟩
theorem Ek (p:Option Addr) (n c:Nat) (s:St) (o:Op) (w:World) (hrow:gc.qQ w p n c s.A) (hk:o.kind=3) (hl:¬s.clock<gb.qe o.now) (hc:s.closed=true):Calls zf 54 #[.agg (rC p n c s),.agg #[.int .i64 o.kind,.int .i64 o.now,.int .i64 o.n,.string o.s,.string o.t.s,.int .i64 o.t.k,.bool o.t.up,.int .i64 o.t.o,.int .i64 o.t.a,.int .i64 o.t.b]] w (Brg s ⟨0,⟨#[]⟩,0⟩ w):=by
 have HNR:=zd (λ W=>gb.Zq o.now W)
 have hd:decide (s.clock<gb.qe o.now)=false:=by simpa using hl
 have HC:=zd hc
 have c0:(o.kind==0)=false:=by simp[hk]
 have b0:decide (o.kind=0)=false:=by simp[hk]
 have c1:(o.kind==1)=false:=by simp[hk]
 have b1:decide (o.kind=1)=false:=by simp[hk]
 have c2:(o.kind==2)=false:=by simp[hk]
 have b2:decide (o.kind=2)=false:=by simp[hk]
 have c3:(o.kind==3)=true:=by simp[hk]
 have b3:decide (o.kind=3)=true:=by simp[hk]
 obtain⟨W0,hW0,h4⟩:=Zm (s:=s) o hrow
 have H0:=zd h4
 have i0:=h4.q.is
 have k0:=h4.q.cells
 have hlt:=h4.lt
 clear h4 hrow hk hl hc
 have y0:W0.cell? ⟨w.heap.size+1,0,none⟩=some (.int .i64 o.kind):=H0.out.oc 0
 have y1:W0.cell? ⟨w.heap.size+1,1,none⟩=some (.int .i64 o.now):=H0.out.oc 1
 go_enter func54,ntmps54
 go_wp2_with fail
 clear hW0
 refine(HNR.out _).mono ?_
 rintro e w0 ⟨rfl,rfl⟩
 have x16:W0.cell? ⟨w.heap.size,16,none⟩=some (.int .i64 s.clock):=H0.out.q.cell 16
 have f16:W0.frozen? ⟨w.heap.size,16,none⟩=false:=H0.out.q.frz 16
 have H1:=H0
 go_upto_region 21 with fail
 generalize W0=w1 at*
 clear x16 f16 y0 y1 i0 k0 hlt HNR hd c0 c1 c2 c3 b0 b1 b2 b3
 have x19:w1.cell? ⟨w.heap.size,19,none⟩=some (.bool s.closed):=H1.out.q.cell 19
 rw[HC.out]at x19
 go_upto_region 33 with fail
 clear x19
 obtain⟨⟨t0,t1,t2⟩,⟨g0,g1,g2⟩,hz,hza,hzr,hzb⟩:=H1.out.fin (p':=p) (n':=n) (c':=c) (s':=s) H1.out.row ⟨0,⟨#[]⟩,0⟩
 have HZ:=zd hz
 have HZA:=zd hza
 have HZR:=zd hzr
 have HZB:=zd hzb
 have i1z:=H1.out.q.is
 have k1z:=H1.out.q.cells
 have i2z:=H1.out.r.is
 have hltz:=H1.out.lt
 clear hz hza hzr hzb
 go_wp2_with fail
 generalize hWf:ZC w1 (w.heap.size+2) (w.heap.size+3) (rC p n c s) ⟨0,⟨#[]⟩,0⟩=wz at*
 unfold ZC at hWf
 dsimp only at hWf
 try rw[hWf]
 exact zk (v:=.tuple #[.agg (rC p n c s),.agg #[.int .i64 0,.string ⟨#[]⟩,.int .i64 0]]) (by simp[results,results54,asAddr,qf HZ.out,qW HZA.out]) rfl ⟨p,n,c,rfl,HZR.out,HZB.out⟩
theorem Ej (p:Option Addr) (n c:Nat) (s:St) (o:Op) (w:World) (hrow:gc.qQ w p n c s.A) (hk:o.kind=3) (hl:s.clock<gb.qe o.now) (hc:s.closed=false):Calls zf 54 #[.agg (rC p n c s),.agg #[.int .i64 o.kind,.int .i64 o.now,.int .i64 o.n,.string o.s,.string o.t.s,.int .i64 o.t.k,.bool o.t.up,.int .i64 o.t.o,.int .i64 o.t.a,.int .i64 o.t.b]] w (Brg {s with clock:=gb.qe o.now,closed:=true,at':=gb.qe o.now} ⟨0,⟨#[]⟩,0⟩ w):=by
 have HNR:=zd (λ W=>gb.Zq o.now W)
 have hd:decide (s.clock<gb.qe o.now)=true:=by simpa using hl
 have HC:=zd hc
 have c0:(o.kind==0)=false:=by simp[hk]
 have b0:decide (o.kind=0)=false:=by simp[hk]
 have c1:(o.kind==1)=false:=by simp[hk]
 have b1:decide (o.kind=1)=false:=by simp[hk]
 have c2:(o.kind==2)=false:=by simp[hk]
 have b2:decide (o.kind=2)=false:=by simp[hk]
 have c3:(o.kind==3)=true:=by simp[hk]
 have b3:decide (o.kind=3)=true:=by simp[hk]
 obtain⟨W0,hW0,h4⟩:=Zm (s:=s) o hrow
 have H0:=zd h4
 have i0:=h4.q.is
 have k0:=h4.q.cells
 have hlt:=h4.lt
 clear h4 hrow hk hl hc
 have y0:W0.cell? ⟨w.heap.size+1,0,none⟩=some (.int .i64 o.kind):=H0.out.oc 0
 have y1:W0.cell? ⟨w.heap.size+1,1,none⟩=some (.int .i64 o.now):=H0.out.oc 1
 go_enter func54,ntmps54
 go_wp2_with fail
 clear hW0
 refine(HNR.out _).mono ?_
 rintro e w0 ⟨rfl,rfl⟩
 have x16:W0.cell? ⟨w.heap.size,16,none⟩=some (.int .i64 s.clock):=H0.out.q.cell 16
 have f16:W0.frozen? ⟨w.heap.size,16,none⟩=false:=H0.out.q.frz 16
 have H1:=zd (H0.out.Pn (i:=16) (v:=.int .i64 (gb.qe o.now)) (s':={s with clock:=gb.qe o.now}) rfl rfl)
 go_upto_region 21 with fail
 generalize W0.setCell ⟨w.heap.size,16,none⟩ (.int .i64 (gb.qe o.now))=w1 at*
 clear x16 f16 y0 y1 i0 k0 hlt HNR hd c0 c1 c2 c3 b0 b1 b2 b3
 have x19:w1.cell? ⟨w.heap.size,19,none⟩=some (.bool s.closed):=H1.out.q.cell 19
 rw[HC.out]at x19
 have f19:w1.frozen? ⟨w.heap.size,19,none⟩=false:=H1.out.q.frz 19
 have H2:=zd (H1.out.Pn (i:=19) (v:=.bool true) (s':={s with clock:=gb.qe o.now,closed:=true}) rfl rfl)
 go_upto_region 23 with fail
 generalize w1.setCell ⟨w.heap.size,19,none⟩ (.bool true)=w2 at*
 clear x19 f19 H1
 have x16:w2.cell? ⟨w.heap.size,16,none⟩=some (.int .i64 (gb.qe o.now)):=H2.out.q.cell 16
 have x20:w2.cell? ⟨w.heap.size,20,none⟩=some (.int .i64 s.at'):=H2.out.q.cell 20
 have f20:w2.frozen? ⟨w.heap.size,20,none⟩=false:=H2.out.q.frz 20
 have H3:=zd (H2.out.Pn (i:=20) (v:=.int .i64 (gb.qe o.now)) (s':={s with clock:=gb.qe o.now,closed:=true,at':=gb.qe o.now}) rfl rfl)
 go_upto_region 33 with fail
 generalize w2.setCell ⟨w.heap.size,20,none⟩ (.int .i64 (gb.qe o.now))=w3 at*
 clear x16 x20 f20 H2
 obtain⟨⟨t0,t1,t2⟩,⟨g0,g1,g2⟩,hz,hza,hzr,hzb⟩:=H3.out.fin (p':=p) (n':=n) (c':=c) (s':={s with clock:=gb.qe o.now,closed:=true,at':=gb.qe o.now}) H3.out.row ⟨0,⟨#[]⟩,0⟩
 have HZ:=zd hz
 have HZA:=zd hza
 have HZR:=zd hzr
 have HZB:=zd hzb
 have i1z:=H3.out.q.is
 have k1z:=H3.out.q.cells
 have i2z:=H3.out.r.is
 have hltz:=H3.out.lt
 clear hz hza hzr hzb
 go_wp2_with fail
 generalize hWf:ZC w3 (w.heap.size+2) (w.heap.size+3) (rC p n c {s with clock:=gb.qe o.now,closed:=true,at':=gb.qe o.now}) ⟨0,⟨#[]⟩,0⟩=wz at*
 unfold ZC at hWf
 dsimp only at hWf
 try rw[hWf]
 exact zk (v:=.tuple #[.agg (rC p n c {s with clock:=gb.qe o.now,closed:=true,at':=gb.qe o.now}),.agg #[.int .i64 0,.string ⟨#[]⟩,.int .i64 0]]) (by simp[results,results54,asAddr,qf HZ.out,qW HZA.out]) rfl ⟨p,n,c,rfl,HZR.out,HZB.out⟩
theorem El (p:Option Addr) (n c:Nat) (s:St) (o:Op) (w:World) (hrow:gc.qQ w p n c s.A) (hk:o.kind=3) (hl:¬s.clock<gb.qe o.now) (hc:s.closed=false):Calls zf 54 #[.agg (rC p n c s),.agg #[.int .i64 o.kind,.int .i64 o.now,.int .i64 o.n,.string o.s,.string o.t.s,.int .i64 o.t.k,.bool o.t.up,.int .i64 o.t.o,.int .i64 o.t.a,.int .i64 o.t.b]] w (Brg {s with closed:=true,at':=s.clock} ⟨0,⟨#[]⟩,0⟩ w):=by
 have HNR:=zd (λ W=>gb.Zq o.now W)
 have hd:decide (s.clock<gb.qe o.now)=false:=by simpa using hl
 have HC:=zd hc
 have c0:(o.kind==0)=false:=by simp[hk]
 have b0:decide (o.kind=0)=false:=by simp[hk]
 have c1:(o.kind==1)=false:=by simp[hk]
 have b1:decide (o.kind=1)=false:=by simp[hk]
 have c2:(o.kind==2)=false:=by simp[hk]
 have b2:decide (o.kind=2)=false:=by simp[hk]
 have c3:(o.kind==3)=true:=by simp[hk]
 have b3:decide (o.kind=3)=true:=by simp[hk]
 obtain⟨W0,hW0,h4⟩:=Zm (s:=s) o hrow
 have H0:=zd h4
 have i0:=h4.q.is
 have k0:=h4.q.cells
 have hlt:=h4.lt
 clear h4 hrow hk hl hc
 have y0:W0.cell? ⟨w.heap.size+1,0,none⟩=some (.int .i64 o.kind):=H0.out.oc 0
 have y1:W0.cell? ⟨w.heap.size+1,1,none⟩=some (.int .i64 o.now):=H0.out.oc 1
 go_enter func54,ntmps54
 go_wp2_with fail
 clear hW0
 refine(HNR.out _).mono ?_
 rintro e w0 ⟨rfl,rfl⟩
 have x16:W0.cell? ⟨w.heap.size,16,none⟩=some (.int .i64 s.clock):=H0.out.q.cell 16
 have f16:W0.frozen? ⟨w.heap.size,16,none⟩=false:=H0.out.q.frz 16
 have H1:=H0
 go_upto_region 21 with fail
 generalize W0=w1 at*
 clear x16 f16 y0 y1 i0 k0 hlt HNR hd c0 c1 c2 c3 b0 b1 b2 b3
 have x19:w1.cell? ⟨w.heap.size,19,none⟩=some (.bool s.closed):=H1.out.q.cell 19
 rw[HC.out]at x19
 have f19:w1.frozen? ⟨w.heap.size,19,none⟩=false:=H1.out.q.frz 19
 have H2:=zd (H1.out.Pn (i:=19) (v:=.bool true) (s':={s with closed:=true}) rfl rfl)
 go_upto_region 23 with fail
 generalize w1.setCell ⟨w.heap.size,19,none⟩ (.bool true)=w2 at*
 clear x19 f19 H1
 have x16:w2.cell? ⟨w.heap.size,16,none⟩=some (.int .i64 (s.clock)):=H2.out.q.cell 16
 have x20:w2.cell? ⟨w.heap.size,20,none⟩=some (.int .i64 s.at'):=H2.out.q.cell 20
 have f20:w2.frozen? ⟨w.heap.size,20,none⟩=false:=H2.out.q.frz 20
 have H3:=zd (H2.out.Pn (i:=20) (v:=.int .i64 (s.clock)) (s':={s with closed:=true,at':=s.clock}) rfl rfl)
 go_upto_region 33 with fail
 generalize w2.setCell ⟨w.heap.size,20,none⟩ (.int .i64 (s.clock))=w3 at*
 clear x16 x20 f20 H2
 obtain⟨⟨t0,t1,t2⟩,⟨g0,g1,g2⟩,hz,hza,hzr,hzb⟩:=H3.out.fin (p':=p) (n':=n) (c':=c) (s':={s with closed:=true,at':=s.clock}) H3.out.row ⟨0,⟨#[]⟩,0⟩
 have HZ:=zd hz
 have HZA:=zd hza
 have HZR:=zd hzr
 have HZB:=zd hzb
 have i1z:=H3.out.q.is
 have k1z:=H3.out.q.cells
 have i2z:=H3.out.r.is
 have hltz:=H3.out.lt
 clear hz hza hzr hzb
 go_wp2_with fail
 generalize hWf:ZC w3 (w.heap.size+2) (w.heap.size+3) (rC p n c {s with closed:=true,at':=s.clock}) ⟨0,⟨#[]⟩,0⟩=wz at*
 unfold ZC at hWf
 dsimp only at hWf
 try rw[hWf]
 exact zk (v:=.tuple #[.agg (rC p n c {s with closed:=true,at':=s.clock}),.agg #[.int .i64 0,.string ⟨#[]⟩,.int .i64 0]]) (by simp[results,results54,asAddr,qf HZ.out,qW HZA.out]) rfl ⟨p,n,c,rfl,HZR.out,HZB.out⟩
end
section
open Go.RowKit
attribute [local go_sem ↓] Zr Ze
attribute [local go_sem] Zf qN X7
variable {w w':World} {q n c:Nat} {p:Option Addr} {s s':St}
theorem Aa (p:Option Addr) (n c:Nat) (s:St) (o:Op) (w:World) (hrow:gc.qQ w p n c s.A) {S:St} {X E:Int} {T:ByteArray} (hk:o.kind=0) (hb:∀W,gc.qQ W p n c s.A→Calls zf 86 #[.agg (rC p n c s),.agg #[.int .i64 o.kind,.int .i64 o.now,.int .i64 o.n,.string o.s,.string o.t.s,.int .i64 o.t.k,.bool o.t.up,.int .i64 o.t.o,.int .i64 o.t.a,.int .i64 o.t.b]] W (Brg S ⟨X,T,E⟩ W)):Calls zf 54 #[.agg (rC p n c s),.agg #[.int .i64 o.kind,.int .i64 o.now,.int .i64 o.n,.string o.s,.string o.t.s,.int .i64 o.t.k,.bool o.t.up,.int .i64 o.t.o,.int .i64 o.t.a,.int .i64 o.t.b]] w (Brg S ⟨X,T,E⟩ w):=by
 have HBR:=zd hb
 obtain⟨W0,hW0,h4⟩:=Zm (s:=s) o hrow
 have H0:=zd h4
 have i0:=h4.q.is
 have k0:=h4.q.cells
 have hlt:=h4.lt
 clear h4 hrow hb
 have y0:W0.cell? ⟨w.heap.size+1,0,none⟩=some (.int .i64 o.kind):=H0.out.oc 0
 have y1:W0.cell? ⟨w.heap.size+1,1,none⟩=some (.int .i64 o.now):=H0.out.oc 1
 have y2:W0.cell? ⟨w.heap.size+1,2,none⟩=some (.int .i64 o.n):=H0.out.oc 2
 have y3:W0.cell? ⟨w.heap.size+1,3,none⟩=some (.string o.s):=H0.out.oc 3
 have y4:W0.cell? ⟨w.heap.size+1,4,none⟩=some (.string o.t.s):=H0.out.oc 4
 have y5:W0.cell? ⟨w.heap.size+1,5,none⟩=some (.int .i64 o.t.k):=H0.out.oc 5
 have y6:W0.cell? ⟨w.heap.size+1,6,none⟩=some (.bool o.t.up):=H0.out.oc 6
 have y7:W0.cell? ⟨w.heap.size+1,7,none⟩=some (.int .i64 o.t.o):=H0.out.oc 7
 have y8:W0.cell? ⟨w.heap.size+1,8,none⟩=some (.int .i64 o.t.a):=H0.out.oc 8
 have y9:W0.cell? ⟨w.heap.size+1,9,none⟩=some (.int .i64 o.t.b):=H0.out.oc 9
 have c0:(o.kind==0)=true:=by simp[hk]
 have b0:decide (o.kind=0)=true:=by simp[hk]
 clear hk
 go_enter func54,ntmps54
 go_wp2_with fail
 clear hW0
 refine(HBR.out _ H0.out.row).mono ?_
 rintro e w1 ⟨p1,n1,c1,rfl,hrow1,hb1⟩
 have H1:=zd (H0.out.on hb1)
 have HRW1:=zd hrow1
 clear hb1 hrow1 H0 HBR i0 k0 hlt y0 y1 y2 y3 y4 y5 y6 y7 y8 y9
 obtain⟨⟨t0,t1,t2⟩,⟨g0,g1,g2⟩,hz,hza,hzr,hzb⟩:=H1.out.fin (p':=p1) (n':=n1) (c':=c1) (s':=S) HRW1.out ⟨X,T,E⟩
 have HZ:=zd hz
 have HZA:=zd hza
 have HZR:=zd hzr
 have HZB:=zd hzb
 have i1z:=H1.out.q.is
 have k1z:=H1.out.q.cells
 have i2z:=H1.out.r.is
 have hltz:=H1.out.lt
 clear hz hza hzr hzb
 go_wp2_with fail
 generalize hWf:ZC w1 (w.heap.size+2) (w.heap.size+3) (rC p1 n1 c1 S) ⟨X,T,E⟩=wz at*
 unfold ZC at hWf
 dsimp only at hWf
 try rw[hWf]
 exact zk (v:=.tuple #[.agg (rC p1 n1 c1 S),.agg #[.int .i64 X,.string T,.int .i64 E]]) (by simp[results,results54,asAddr,qf HZ.out,qW HZA.out]) rfl ⟨p1,n1,c1,rfl,HZR.out,HZB.out⟩
theorem B9 (p:Option Addr) (n c:Nat) (s:St) (o:Op) (w:World) (hrow:gc.qQ w p n c s.A) {S:St} {X E:Int} {T:ByteArray} (hk:o.kind=1) (hb:∀W,gc.qQ W p n c s.A→Calls zf 86 #[.agg (rC p n c s),.agg #[.int .i64 o.kind,.int .i64 o.now,.int .i64 o.n,.string o.s,.string o.t.s,.int .i64 o.t.k,.bool o.t.up,.int .i64 o.t.o,.int .i64 o.t.a,.int .i64 o.t.b]] W (Brg S ⟨X,T,E⟩ W)):Calls zf 54 #[.agg (rC p n c s),.agg #[.int .i64 o.kind,.int .i64 o.now,.int .i64 o.n,.string o.s,.string o.t.s,.int .i64 o.t.k,.bool o.t.up,.int .i64 o.t.o,.int .i64 o.t.a,.int .i64 o.t.b]] w (Brg S ⟨X,T,E⟩ w):=by
 have HBR:=zd hb
 obtain⟨W0,hW0,h4⟩:=Zm (s:=s) o hrow
 have H0:=zd h4
 have i0:=h4.q.is
 have k0:=h4.q.cells
 have hlt:=h4.lt
 clear h4 hrow hb
 have y0:W0.cell? ⟨w.heap.size+1,0,none⟩=some (.int .i64 o.kind):=H0.out.oc 0
 have y1:W0.cell? ⟨w.heap.size+1,1,none⟩=some (.int .i64 o.now):=H0.out.oc 1
 have y2:W0.cell? ⟨w.heap.size+1,2,none⟩=some (.int .i64 o.n):=H0.out.oc 2
 have y3:W0.cell? ⟨w.heap.size+1,3,none⟩=some (.string o.s):=H0.out.oc 3
 have y4:W0.cell? ⟨w.heap.size+1,4,none⟩=some (.string o.t.s):=H0.out.oc 4
 have y5:W0.cell? ⟨w.heap.size+1,5,none⟩=some (.int .i64 o.t.k):=H0.out.oc 5
 have y6:W0.cell? ⟨w.heap.size+1,6,none⟩=some (.bool o.t.up):=H0.out.oc 6
 have y7:W0.cell? ⟨w.heap.size+1,7,none⟩=some (.int .i64 o.t.o):=H0.out.oc 7
 have y8:W0.cell? ⟨w.heap.size+1,8,none⟩=some (.int .i64 o.t.a):=H0.out.oc 8
 have y9:W0.cell? ⟨w.heap.size+1,9,none⟩=some (.int .i64 o.t.b):=H0.out.oc 9
 have c0:(o.kind==0)=false:=by simp[hk]
 have b0:decide (o.kind=0)=false:=by simp[hk]
 have c1:(o.kind==1)=true:=by simp[hk]
 have b1:decide (o.kind=1)=true:=by simp[hk]
 clear hk
 go_enter func54,ntmps54
 go_wp2_with fail
 clear hW0
 refine(HBR.out _ H0.out.row).mono ?_
 rintro e w1 ⟨p1,n1,c1,rfl,hrow1,hb1⟩
 have H1:=zd (H0.out.on hb1)
 have HRW1:=zd hrow1
 clear hb1 hrow1 H0 HBR i0 k0 hlt y0 y1 y2 y3 y4 y5 y6 y7 y8 y9
 obtain⟨⟨t0,t1,t2⟩,⟨g0,g1,g2⟩,hz,hza,hzr,hzb⟩:=H1.out.fin (p':=p1) (n':=n1) (c':=c1) (s':=S) HRW1.out ⟨X,T,E⟩
 have HZ:=zd hz
 have HZA:=zd hza
 have HZR:=zd hzr
 have HZB:=zd hzb
 have i1z:=H1.out.q.is
 have k1z:=H1.out.q.cells
 have i2z:=H1.out.r.is
 have hltz:=H1.out.lt
 clear hz hza hzr hzb
 go_wp2_with fail
 generalize hWf:ZC w1 (w.heap.size+2) (w.heap.size+3) (rC p1 n1 c1 S) ⟨X,T,E⟩=wz at*
 unfold ZC at hWf
 dsimp only at hWf
 try rw[hWf]
 exact zk (v:=.tuple #[.agg (rC p1 n1 c1 S),.agg #[.int .i64 X,.string T,.int .i64 E]]) (by simp[results,results54,asAddr,qf HZ.out,qW HZA.out]) rfl ⟨p1,n1,c1,rfl,HZR.out,HZB.out⟩
theorem B5 (p:Option Addr) (n c:Nat) (s:St) (o:Op) (w:World) (hrow:gc.qQ w p n c s.A) {S:St} {X E:Int} {T:ByteArray} (hk:o.kind=5) (hb:∀W,gc.qQ W p n c s.A→Calls zf 91 #[.agg (rC p n c s),.agg #[.int .i64 o.kind,.int .i64 o.now,.int .i64 o.n,.string o.s,.string o.t.s,.int .i64 o.t.k,.bool o.t.up,.int .i64 o.t.o,.int .i64 o.t.a,.int .i64 o.t.b]] W (Brg S ⟨X,T,E⟩ W)):Calls zf 54 #[.agg (rC p n c s),.agg #[.int .i64 o.kind,.int .i64 o.now,.int .i64 o.n,.string o.s,.string o.t.s,.int .i64 o.t.k,.bool o.t.up,.int .i64 o.t.o,.int .i64 o.t.a,.int .i64 o.t.b]] w (Brg S ⟨X,T,E⟩ w):=by
 have HBR:=zd hb
 obtain⟨W0,hW0,h4⟩:=Zm (s:=s) o hrow
 have H0:=zd h4
 have i0:=h4.q.is
 have k0:=h4.q.cells
 have hlt:=h4.lt
 clear h4 hrow hb
 have y0:W0.cell? ⟨w.heap.size+1,0,none⟩=some (.int .i64 o.kind):=H0.out.oc 0
 have y1:W0.cell? ⟨w.heap.size+1,1,none⟩=some (.int .i64 o.now):=H0.out.oc 1
 have y2:W0.cell? ⟨w.heap.size+1,2,none⟩=some (.int .i64 o.n):=H0.out.oc 2
 have y3:W0.cell? ⟨w.heap.size+1,3,none⟩=some (.string o.s):=H0.out.oc 3
 have y4:W0.cell? ⟨w.heap.size+1,4,none⟩=some (.string o.t.s):=H0.out.oc 4
 have y5:W0.cell? ⟨w.heap.size+1,5,none⟩=some (.int .i64 o.t.k):=H0.out.oc 5
 have y6:W0.cell? ⟨w.heap.size+1,6,none⟩=some (.bool o.t.up):=H0.out.oc 6
 have y7:W0.cell? ⟨w.heap.size+1,7,none⟩=some (.int .i64 o.t.o):=H0.out.oc 7
 have y8:W0.cell? ⟨w.heap.size+1,8,none⟩=some (.int .i64 o.t.a):=H0.out.oc 8
 have y9:W0.cell? ⟨w.heap.size+1,9,none⟩=some (.int .i64 o.t.b):=H0.out.oc 9
 have c0:(o.kind==0)=false:=by simp[hk]
 have b0:decide (o.kind=0)=false:=by simp[hk]
 have c1:(o.kind==1)=false:=by simp[hk]
 have b1:decide (o.kind=1)=false:=by simp[hk]
 have c2:(o.kind==2)=false:=by simp[hk]
 have b2:decide (o.kind=2)=false:=by simp[hk]
 have c3:(o.kind==3)=false:=by simp[hk]
 have b3:decide (o.kind=3)=false:=by simp[hk]
 have c4:(o.kind==4)=false:=by simp[hk]
 have b4:decide (o.kind=4)=false:=by simp[hk]
 have c5:(o.kind==5)=true:=by simp[hk]
 have b5:decide (o.kind=5)=true:=by simp[hk]
 clear hk
 go_enter func54,ntmps54
 go_wp2_with fail
 clear hW0
 refine(HBR.out _ H0.out.row).mono ?_
 rintro e w1 ⟨p1,n1,c1,rfl,hrow1,hb1⟩
 have H1:=zd (H0.out.on hb1)
 have HRW1:=zd hrow1
 clear hb1 hrow1 H0 HBR i0 k0 hlt y0 y1 y2 y3 y4 y5 y6 y7 y8 y9
 obtain⟨⟨t0,t1,t2⟩,⟨g0,g1,g2⟩,hz,hza,hzr,hzb⟩:=H1.out.fin (p':=p1) (n':=n1) (c':=c1) (s':=S) HRW1.out ⟨X,T,E⟩
 have HZ:=zd hz
 have HZA:=zd hza
 have HZR:=zd hzr
 have HZB:=zd hzb
 have i1z:=H1.out.q.is
 have k1z:=H1.out.q.cells
 have i2z:=H1.out.r.is
 have hltz:=H1.out.lt
 clear hz hza hzr hzb
 go_wp2_with fail
 generalize hWf:ZC w1 (w.heap.size+2) (w.heap.size+3) (rC p1 n1 c1 S) ⟨X,T,E⟩=wz at*
 unfold ZC at hWf
 dsimp only at hWf
 try rw[hWf]
 exact zk (v:=.tuple #[.agg (rC p1 n1 c1 S),.agg #[.int .i64 X,.string T,.int .i64 E]]) (by simp[results,results54,asAddr,qf HZ.out,qW HZA.out]) rfl ⟨p1,n1,c1,rfl,HZR.out,HZB.out⟩
end
section
open Go.RowKit
attribute [local go_sem ↓] Zr Ze
attribute [local go_sem] Zf qN X7
variable {w w':World} {q n c:Nat} {p:Option Addr} {s s':St}
theorem D9 (p:Option Addr) (n c:Nat) (s:St) (o:Op) (w:World) (hrow:gc.qQ w p n c s.A) (hk:o.kind=2) (hst:(qc s o.now).st≠0):Calls zf 54 #[.agg (rC p n c s),.agg #[.int .i64 o.kind,.int .i64 o.now,.int .i64 o.n,.string o.s,.string o.t.s,.int .i64 o.t.k,.bool o.t.up,.int .i64 o.t.o,.int .i64 o.t.a,.int .i64 o.t.b]] w (Brg (qc s o.now) ⟨0,⟨#[]⟩,0⟩ w):=by
 have HLK:=zd (λ W=>Z6 p n c s o.now W)
 have e1:((qc s o.now).st !=0)=true:=by simpa using hst
 have e2:decide ((qc s o.now).st=0)=false:=by simpa using hst
 have c0:(o.kind==0)=false:=by simp[hk]
 have b0:decide (o.kind=0)=false:=by simp[hk]
 have c1:(o.kind==1)=false:=by simp[hk]
 have b1:decide (o.kind=1)=false:=by simp[hk]
 have c2:(o.kind==2)=true:=by simp[hk]
 have b2:decide (o.kind=2)=true:=by simp[hk]
 obtain⟨W0,hW0,h4⟩:=Zm (s:=s) o hrow
 have H0:=zd h4
 have i0:=h4.q.is
 have k0:=h4.q.cells
 have hlt:=h4.lt
 clear h4 hrow hk hst
 have y0:W0.cell? ⟨w.heap.size+1,0,none⟩=some (.int .i64 o.kind):=H0.out.oc 0
 have y1:W0.cell? ⟨w.heap.size+1,1,none⟩=some (.int .i64 o.now):=H0.out.oc 1
 go_enter func54,ntmps54
 go_wp2_with fail
 clear hW0
 refine(HLK.out _).mono ?_
 rintro e w1 ⟨rfl,hb1⟩
 have H1:=zd (H0.out.on hb1)
 have i1:=H1.out.q.is
 have H2:=zd (H1.out.XX (qc s o.now) rfl)
 clear hb1 H0 HLK y0 y1 i0 k0 hlt c0 c1 c2 b0 b1 b2
 go_upto_region 7 with fail
 generalize w1.setRow w.heap.size (rC p n c (qc s o.now))=w2 at*
 clear i1 H1
 have x21:w2.cell? ⟨w.heap.size,21,none⟩=some (.int .i64 (qc s o.now).st):=H2.out.q.cell 21
 go_upto_region 8 with fail
 clear x21 e1 e2
 obtain⟨⟨t0,t1,t2⟩,⟨g0,g1,g2⟩,hz,hza,hzr,hzb⟩:=H2.out.fin (p':=p) (n':=n) (c':=c) (s':=(qc s o.now)) H2.out.row ⟨0,⟨#[]⟩,0⟩
 have HZ:=zd hz
 have HZA:=zd hza
 have HZR:=zd hzr
 have HZB:=zd hzb
 have i1z:=H2.out.q.is
 have k1z:=H2.out.q.cells
 have i2z:=H2.out.r.is
 have hltz:=H2.out.lt
 clear hz hza hzr hzb
 go_wp2_with fail
 generalize hWf:ZC w2 (w.heap.size+2) (w.heap.size+3) (rC p n c (qc s o.now)) ⟨0,⟨#[]⟩,0⟩=wz at*
 unfold ZC at hWf
 dsimp only at hWf
 try rw[hWf]
 exact zk (v:=.tuple #[.agg (rC p n c (qc s o.now)),.agg #[.int .i64 0,.string ⟨#[]⟩,.int .i64 0]]) (by simp[results,results54,asAddr,qf HZ.out,qW HZA.out]) rfl ⟨p,n,c,rfl,HZR.out,HZB.out⟩
theorem D8 (p:Option Addr) (n c:Nat) (s:St) (o:Op) (w:World) (hrow:gc.qQ w p n c s.A) (hk:o.kind=2) (hst:(qc s o.now).st=0) (hn:o.n<1):Calls zf 54 #[.agg (rC p n c s),.agg #[.int .i64 o.kind,.int .i64 o.now,.int .i64 o.n,.string o.s,.string o.t.s,.int .i64 o.t.k,.bool o.t.up,.int .i64 o.t.o,.int .i64 o.t.a,.int .i64 o.t.b]] w (Brg (qc s o.now) ⟨0,⟨#[]⟩,0⟩ w):=by
 have HLK:=zd (λ W=>Z6 p n c s o.now W)
 have HST:=zd hst
 have dn:decide (o.n<1)=true:=by simpa using hn
 have c0:(o.kind==0)=false:=by simp[hk]
 have b0:decide (o.kind=0)=false:=by simp[hk]
 have c1:(o.kind==1)=false:=by simp[hk]
 have b1:decide (o.kind=1)=false:=by simp[hk]
 have c2:(o.kind==2)=true:=by simp[hk]
 have b2:decide (o.kind=2)=true:=by simp[hk]
 obtain⟨W0,hW0,h4⟩:=Zm (s:=s) o hrow
 have H0:=zd h4
 have i0:=h4.q.is
 have k0:=h4.q.cells
 have hlt:=h4.lt
 clear h4 hrow hk hst hn
 have y0:W0.cell? ⟨w.heap.size+1,0,none⟩=some (.int .i64 o.kind):=H0.out.oc 0
 have y1:W0.cell? ⟨w.heap.size+1,1,none⟩=some (.int .i64 o.now):=H0.out.oc 1
 go_enter func54,ntmps54
 go_wp2_with fail
 clear hW0
 refine(HLK.out _).mono ?_
 rintro e w1 ⟨rfl,hb1⟩
 have H1:=zd (H0.out.on hb1)
 have i1:=H1.out.q.is
 have H2:=zd (H1.out.XX (qc s o.now) rfl)
 clear hb1 H0 HLK y0 y1 i0 k0 hlt c0 c1 c2 b0 b1 b2
 go_upto_region 7 with fail
 generalize w1.setRow w.heap.size (rC p n c (qc s o.now))=w2 at*
 clear i1 H1
 have x21:w2.cell? ⟨w.heap.size,21,none⟩=some (.int .i64 (qc s o.now).st):=H2.out.q.cell 21
 rw[HST.out]at x21
 have y2:w2.cell? ⟨w.heap.size+1,2,none⟩=some (.int .i64 o.n):=H2.out.oc 2
 go_upto_region 8 with fail
 clear x21 y2 dn
 obtain⟨⟨t0,t1,t2⟩,⟨g0,g1,g2⟩,hz,hza,hzr,hzb⟩:=H2.out.fin (p':=p) (n':=n) (c':=c) (s':=(qc s o.now)) H2.out.row ⟨0,⟨#[]⟩,0⟩
 have HZ:=zd hz
 have HZA:=zd hza
 have HZR:=zd hzr
 have HZB:=zd hzb
 have i1z:=H2.out.q.is
 have k1z:=H2.out.q.cells
 have i2z:=H2.out.r.is
 have hltz:=H2.out.lt
 clear hz hza hzr hzb
 go_wp2_with fail
 generalize hWf:ZC w2 (w.heap.size+2) (w.heap.size+3) (rC p n c (qc s o.now)) ⟨0,⟨#[]⟩,0⟩=wz at*
 unfold ZC at hWf
 dsimp only at hWf
 try rw[hWf]
 exact zk (v:=.tuple #[.agg (rC p n c (qc s o.now)),.agg #[.int .i64 0,.string ⟨#[]⟩,.int .i64 0]]) (by simp[results,results54,asAddr,qf HZ.out,qW HZA.out]) rfl ⟨p,n,c,rfl,HZR.out,HZB.out⟩
theorem D7 (p:Option Addr) (n c:Nat) (s:St) (o:Op) (w:World) (hrow:gc.qQ w p n c s.A) (hk:o.kind=2) (hst:(qc s o.now).st=0) (hn:¬o.n<1) (hS:s.S.size=n) (hnb:n≤100000) {R:Nat} (hR:gc.qn s.A (qc s o.now).clock=R) (hgt:o.n<(R:Int)) {G:St} {K:Nat} (htk:∀W,Calls zf 89 #[.agg (rC p n c (qc s o.now)),.int .i64 o.n] W λ e w'=>e=.returned (.tuple #[.agg (rC p n c G),.int .i64 (K:Int)])∧Below W.heap.size W w') (hGS:G.S=s.S) (hGA:G.A=s.A) (hK:gc.Zz G.A G.clock (K:Int)=K) {T S2:ByteArray} (hT:G.S.extract 0 K=T) (hS2:G.S.extract K n=S2) (hw:IntKind.i64.wrap (G.passed+(T.size:Int))=G.passed+(T.size:Int)):Calls zf 54 #[.agg (rC p n c s),.agg #[.int .i64 o.kind,.int .i64 o.now,.int .i64 o.n,.string o.s,.string o.t.s,.int .i64 o.t.k,.bool o.t.up,.int .i64 o.t.o,.int .i64 o.t.a,.int .i64 o.t.b]] w (Brg {G with S:=S2,A:=G.A.drop K,passed:=G.passed+(T.size:Int)} ⟨0,T,0⟩ w):=by
 have HLK:=zd (λ W=>Z6 p n c s o.now W)
 have HST:=zd hst
 have dn:decide (o.n<1)=false:=by simpa using hn
 have dg:decide (o.n<(R:Int))=true:=by simpa using hgt
 have HRD:=zd (λ W (hr:gc.qQ W p n c s.A)=>show Calls zf 88 #[.agg #[.string s.S,.slice p n c,.int .i64 s.last],.int .i64 (qc s o.now).clock] W λ e w'=>e=.returned (.int .i64 (R:Int))∧Below W.heap.size W w' from by rw[←hR];exact gc.VZ s.S p n c s.A s.last (qc s o.now).clock W hr.1 hS hnb hr.2.2.2.1)
 have HTK:=zd htk
 have HCT:=zd (λ W (hr:gc.qQ W p n c G.A)=>show Calls zf 90 #[.agg #[.string G.S,.slice p n c,.int .i64 G.last],.int .i64 G.clock,.int .i64 (K:Int)] W (gc.FD S2 (G.A.drop K) G.last T W)from by rw[←hT,←hS2];exact gc.YH G.S p n c G.A G.last G.clock (K:Int) W hr (by rw[hGS];exact hS) hnb hK)
 have HGA:=zd hGA
 have c0:(o.kind==0)=false:=by simp[hk]
 have b0:decide (o.kind=0)=false:=by simp[hk]
 have c1:(o.kind==1)=false:=by simp[hk]
 have b1:decide (o.kind=1)=false:=by simp[hk]
 have c2:(o.kind==2)=true:=by simp[hk]
 have b2:decide (o.kind=2)=true:=by simp[hk]
 obtain⟨W0,hW0,h4⟩:=Zm (s:=s) o hrow
 have H0:=zd h4
 have i0:=h4.q.is
 have k0:=h4.q.cells
 have hlt:=h4.lt
 clear h4 hrow hk hst hn hS hnb hR hgt htk hGS hGA hK hT hS2
 have y0:W0.cell? ⟨w.heap.size+1,0,none⟩=some (.int .i64 o.kind):=H0.out.oc 0
 have y1:W0.cell? ⟨w.heap.size+1,1,none⟩=some (.int .i64 o.now):=H0.out.oc 1
 go_enter func54,ntmps54
 go_wp2_with fail
 clear hW0
 refine(HLK.out _).mono ?_
 rintro e w1 ⟨rfl,hb1⟩
 have H1:=zd (H0.out.on hb1)
 have i1:=H1.out.q.is
 have H2:=zd (H1.out.XX (qc s o.now) rfl)
 clear hb1 H0 HLK y0 y1 i0 k0 hlt c0 c1 c2 b0 b1 b2
 go_upto_region 7 with fail
 generalize w1.setRow w.heap.size (rC p n c (qc s o.now))=w2 at*
 clear i1 H1
 have x21:w2.cell? ⟨w.heap.size,21,none⟩=some (.int .i64 (qc s o.now).st):=H2.out.q.cell 21
 rw[HST.out]at x21
 have y2:w2.cell? ⟨w.heap.size+1,2,none⟩=some (.int .i64 o.n):=H2.out.oc 2
 have x11:w2.cell? ⟨w.heap.size,11,none⟩=some (.string s.S):=H2.out.q.cell 11
 have x12:w2.cell? ⟨w.heap.size,12,none⟩=some (.slice p n c):=H2.out.q.cell 12
 have x13:w2.cell? ⟨w.heap.size,13,none⟩=some (.int .i64 s.last):=H2.out.q.cell 13
 have x16:w2.cell? ⟨w.heap.size,16,none⟩=some (.int .i64 (qc s o.now).clock):=H2.out.q.cell 16
 go_wp2_with fail
 clear x21 y2 x11 x12 x13 x16 dn
 refine(HRD.out _ H2.out.row).mono ?_
 rintro e w3 ⟨rfl,hb3⟩
 have H3:=zd (H2.out.on hb3)
 clear hb3 H2 HRD
 have y2:w3.cell? ⟨w.heap.size+1,2,none⟩=some (.int .i64 o.n):=H3.out.oc 2
 have i1:=H3.out.q.is
 have k1:=H3.out.q.cells
 go_wp2_with fail
 clear y2 i1 k1 dg
 refine(HTK.out _).mono ?_
 rintro e w4 ⟨rfl,hb4⟩
 have H4:=zd (H3.out.on hb4)
 have hra:=ZP w4 none 0 0 qZ
 have hba:Below w4.heap.size w4 (w4.alloc (.cells (rC none 0 0 qZ) 68)):=(zh _ _).alloc (zg _) _
 obtain⟨W5,hW5⟩:∃W5,w4.alloc (.cells (rC none 0 0 qZ) 68)=W5:=⟨_,rfl⟩
 rw[hW5]at hra hba
 have hW5:w4.alloc (.cells #[.string ⟨#[]⟩,.int .i64 0,.bool false,.int .i64 0,.int .i64 0,.int .i64 0,.int .u64 0,.int .i64 0,.int .i64 0,.int .i64 0,.int .i64 0,.string ⟨#[]⟩,.slice none 0 0,.int .i64 0,.int .i64 0,.int .i64 0,.int .i64 0,.int .i64 0,.int .i64 0,.bool false,.int .i64 0,.int .i64 0] 68)=W5:=hW5
 have i5:=hra.is
 have hlt5:=hra.lt
 have HG6:=zd (hra.row p n c G)
 have HB6:=zd (below_setRow hba (zg _) (rC p n c G))
 have hg4:w4.heap.size=w4.heap.size:=rfl
 clear hb4 H3 HTK hra hba
 go_upto_region 13 with fail
 generalize W5.setRow w4.heap.size (rC p n c G)=w6 at*
 clear i5 hlt5 hW5 hg4
 have x11:w6.cell? ⟨w4.heap.size,11,none⟩=some (.string G.S):=HG6.out.cell 11
 have x12:w6.cell? ⟨w4.heap.size,12,none⟩=some (.slice p n c):=HG6.out.cell 12
 have x13:w6.cell? ⟨w4.heap.size,13,none⟩=some (.int .i64 G.last):=HG6.out.cell 13
 have x16:w6.cell? ⟨w4.heap.size,16,none⟩=some (.int .i64 G.clock):=HG6.out.cell 16
 have hrow6:gc.qQ w6 p n c G.A:=by rw[HGA.out];exact gc.Zc H4.out.row HB6.out
 have HROW6:=zd hrow6
 clear hrow6
 go_wp2_with fail
 clear x11 x12 x13 x16
 refine(HCT.out _ HROW6.out).mono ?_
 rintro e w7 ⟨p1,n1,c1,rfl,hrow7,hb7⟩
 obtain⟨W8,hW8,hc8,hb8⟩:=Yr w7
 have hs9:=YZ hc8 S2 p1 n1 c1 G.last
 have hb9:=Yh hb8 (zg _) S2 p1 n1 c1 G.last
 have HG9:=zd (HG6.out.on (gb.seqB hb7 hb9))
 have HB9:=zd (gb.seqB HB6.out (gb.seqB hb7 hb9))
 have HROW9:=zd (gc.Zc hrow7 hb9)
 have HC9:=zd hs9
 have z0:W8.cell? ⟨w7.heap.size,0,none⟩=some (.string ⟨#[]⟩):=ze _ _ 0 _ _ _ hc8
 have z1:W8.cell? ⟨w7.heap.size,1,none⟩=some (.slice none 0 0):=ze _ _ 1 _ _ _ hc8
 have z2:W8.cell? ⟨w7.heap.size,2,none⟩=some (.int .i64 0):=ze _ _ 2 _ _ _ hc8
 have g0:W8.frozen? ⟨w7.heap.size,0,none⟩=false:=gb.qa hc8
 have g1:W8.frozen? ⟨w7.heap.size,1,none⟩=false:=gb.qa hc8
 have g2:W8.frozen? ⟨w7.heap.size,2,none⟩=false:=gb.qa hc8
 have hlt8:=gb.qd hc8
 clear hrow7 hb7 hc8 hs9 hb9 hb8 HG6 HB6 HROW6 HCT
 go_upto_region 14 with fail
 generalize hW9:Vl W8 w7.heap.size S2 p1 n1 c1 G.last=w9 at*
 unfold Vl at hW9
 rw[hW9]
 clear hW9 z0 z1 z2 g0 g1 g2 hlt8 hW8
 generalize w7.heap.size=h9 at*
 have y0:w9.cell? ⟨h9,0,none⟩=some (.string S2):=ze _ _ 0 _ _ _ HC9.out
 have y1:w9.cell? ⟨h9,1,none⟩=some (.slice p1 n1 c1):=ze _ _ 1 _ _ _ HC9.out
 have y2:w9.cell? ⟨h9,2,none⟩=some (.int .i64 G.last):=ze _ _ 2 _ _ _ HC9.out
 have u11:w9.cell? ⟨w4.heap.size,11,none⟩=some (.string G.S):=HG9.out.cell 11
 have u12:w9.cell? ⟨w4.heap.size,12,none⟩=some (.slice p n c):=HG9.out.cell 12
 have u13:w9.cell? ⟨w4.heap.size,13,none⟩=some (.int .i64 G.last):=HG9.out.cell 13
 have v11:w9.frozen? ⟨w4.heap.size,11,none⟩=false:=HG9.out.frz 11
 have v12:w9.frozen? ⟨w4.heap.size,12,none⟩=false:=HG9.out.frz 12
 have v13:w9.frozen? ⟨w4.heap.size,13,none⟩=false:=HG9.out.frz 13
 have HGA2:=zd (HG9.out.X8 S2 (G.A.drop K) p1 n1 c1 G.last)
 have HBA2:=zd (J8 HB9.out (zg _) S2 p1 n1 c1 G.last)
 have HROWA2:=zd (show gc.qQ (X8 w9 w4.heap.size S2 p1 n1 c1 G.last) p1 n1 c1 (G.A.drop K)from ZR HROW9.out λ _ _ _ hb=>XU (HG9.out.Jd hb) _ _ _ _ _)
 go_upto_region 15 with fail
 generalize hWA:X8 w9 w4.heap.size S2 p1 n1 c1 G.last=wA at*
 unfold Go.Proofs.YtfdfgnmgpgkknaaGreat.X8 at hWA
 rw[hWA]
 clear hWA y0 y1 y2 u11 u12 u13 v11 v12 v13 HG9 HB9 HROW9 HC9
 have x18:wA.cell? ⟨w4.heap.size,18,none⟩=some (.int .i64 G.passed):=HGA2.out.cell 18
 have f18:wA.frozen? ⟨w4.heap.size,18,none⟩=false:=HGA2.out.frz 18
 have HGB:=zd (HGA2.out.set (i:=18) (v:=.int .i64 (G.passed+(T.size:Int))) (s':={G with S:=S2,A:=G.A.drop K,passed:=G.passed+(T.size:Int)}) (p':=p1) (n':=n1) (c':=c1) rfl)
 have HBB:=zd (HBA2.out.setCell (p:=⟨w4.heap.size,18,none⟩) (zg _) (.int .i64 (G.passed+(T.size:Int))))
 have HROWB:=zd (VD HROWA2.out HGA2.out 18 (.int .i64 (G.passed+(T.size:Int))))
 go_upto_region 16 with fail
 generalize wA.setCell ⟨w4.heap.size,18,none⟩ (.int .i64 (G.passed+(T.size:Int)))=wB at*
 clear x18 f18 HGA2 HBA2 HROWA2 hw
 have HF:=zd (H4.out.on HBB.out)
 have ig:=HGB.out.is
 have kg:=HGB.out.cells
 have hgg:w4.heap.size=w4.heap.size:=rfl
 clear H4 hgg
 obtain⟨⟨t0,t1,t2⟩,⟨g0,g1,g2⟩,hz,hza,hzr,hzb⟩:=HF.out.fin (p':=p1) (n':=n1) (c':=c1) (s':={G with S:=S2,A:=G.A.drop K,passed:=G.passed+(T.size:Int)}) HROWB.out ⟨0,T,0⟩
 have HZ:=zd hz
 have HZA:=zd hza
 have HZR:=zd hzr
 have HZB:=zd hzb
 have i1z:=HF.out.q.is
 have k1z:=HF.out.q.cells
 have i2z:=HF.out.r.is
 have hltz:=HF.out.lt
 clear hz hza hzr hzb
 go_wp2_with fail
 generalize hWf:ZC wB (w.heap.size+2) (w.heap.size+3) (rC p1 n1 c1 {G with S:=S2,A:=G.A.drop K,passed:=G.passed+(T.size:Int)}) ⟨0,T,0⟩=wz at*
 unfold ZC at hWf
 dsimp only at hWf
 try rw[hWf]
 exact zk (v:=.tuple #[.agg (rC p1 n1 c1 {G with S:=S2,A:=G.A.drop K,passed:=G.passed+(T.size:Int)}),.agg #[.int .i64 0,.string T,.int .i64 0]]) (by simp[results,results54,asAddr,qf HZ.out,qW HZA.out]) rfl ⟨p1,n1,c1,rfl,HZR.out,HZB.out⟩
end
end Go.Proofs.YtfdfgnmgpgkknaaGreat
