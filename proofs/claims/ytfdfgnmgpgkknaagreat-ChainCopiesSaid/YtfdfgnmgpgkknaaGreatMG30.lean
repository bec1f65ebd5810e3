import Derived.Test.YtfdfgnmgpgkknaaGreatMG29
import Derived.Test.YtfdfgnmgpgkknaaGreatMG22
set_option maxRecDepth 100000
set_option maxHeartbeats 8000000
open Go.Proofs.Tryz renaming prog→zf
open Go.Lib renaming hid→zd
open Go.RowKit.Below renaming refl→zh
open Nat renaming le_refl→zg
open Go renaming cell_of_row→ze,bodyPost_ret→zk
open Go.Proofs.Tryz
namespace Go.Proofs.YtfdfgnmgpgkknaaGreat
open Go.RowKit
attribute [local go_sem ↓] Zr Ze
attribute [local go_sem] Zf qN X7
variable {w w':World} {q n c:Nat} {p:Option Addr} {s s':St}
theorem D6 (p:Option Addr) (n c:Nat) (s:St) (o:Op) (w:World) (hrow:gc.qQ w p n c s.A) (hk:o.kind=2) (hst:(qc s o.now).st=0) (hn:¬o.n<1) (hS:s.S.size=n) (hnb:n≤100000) {R:Nat} (hR:gc.qn s.A (qc s o.now).clock=R) (hgt:¬o.n<(R:Int)) {G:St} {K:Nat} (htk:∀W,Calls zf 89 #[.agg (rC p n c (qc s o.now)),.int .i64 (R:Int)] W λ e w'=>e=.returned (.tuple #[.agg (rC p n c G),.int .i64 (K:Int)])∧Below W.heap.size W w') (hGS:G.S=s.S) (hGA:G.A=s.A) (hK:gc.Zz G.A G.clock (K:Int)=K) {T S2:ByteArray} (hT:G.S.extract 0 K=T) (hS2:G.S.extract K n=S2) (hw:IntKind.i64.wrap (G.passed+(T.size:Int))=G.passed+(T.size:Int)):Calls zf 54 #[.agg (rC p n c s),.agg #[.int .i64 o.kind,.int .i64 o.now,.int .i64 o.n,.string o.s,.string o.t.s,.int .i64 o.t.k,.bool o.t.up,.int .i64 o.t.o,.int .i64 o.t.a,.int .i64 o.t.b]] w (Brg {G with S:=S2,A:=G.A.drop K,passed:=G.passed+(T.size:Int)} ⟨0,T,0⟩ w):=by
 have HLK:=zd (λ W=>Z6 p n c s o.now W)
 have HST:=zd hst
 have dn:decide (o.n<1)=false:=by simpa using hn
 have dg:decide (o.n<(R:Int))=false:=by simpa using hgt
 have HRD:=zd (λ W (hr:gc.qQ W p n c s.A)=>show Calls zf 88 #[.agg #[.string s.S,.slice p n c,.int .i64 s.last],.int .i64 (qc s o.now).clock] W λ e w'=>e=.returned (.int .i64 (R:Int))∧Below W.heap.size W w' from by rw[←hR];exact gc.VZ s.S p n c s.A s.last (qc s o.now).clock W hr.1 hS hnb hr.2.2.2.1)
 have HTK:=zd htk
 have HCT:=zd (λ W (hr:gc.qQ W p n c G.A)=>show Calls zf 90 #[.agg #[.string G.S,.slice p n c,.int .i64 G.last],.int .i64 G.clock,.int .i64 (K:Int)] W (gc.FD S2 (G.A.drop K) G.last T W)from by rw[←hT,←hS2];exact gc.YH G.S p n c G.A G.last G.clock (K:Int) W hr (by rw[hGS];exact hS) hnb hK)
 have HGA:=zd hGA
 have c0:(o.kind==0)=false:=by simp[hk]
 have b0:decide (o.kind=0)=false:=by simp[hk]
 have c1:(o.kind==1)=false:=by simp[hk]
 have b1:decide (o.kind=1)=false:=by simp[hk]
 have c2:(o.kind==2)=true:=by simp[hk]
 have b2:decide (o.kind=2)=true:=by simp[hk]
 obtain⟨W0,hW0,h4⟩:=Zm (s:=s) o hrow
 have H0:=zd h4
 have i0:=h4.q.is
 have k0:=h4.q.cells
 have hlt:=h4.lt
 clear h4 hrow hk hst hn hS hnb hR hgt htk hGS hGA hK hT hS2
 have y0:W0.cell? ⟨w.heap.size+1,0,none⟩=some (.int .i64 o.kind):=H0.out.oc 0
 have y1:W0.cell? ⟨w.heap.size+1,1,none⟩=some (.int .i64 o.now):=H0.out.oc 1
 go_enter func54,ntmps54
 go_wp2_with fail
 clear hW0
 refine(HLK.out _).mono ?_
 rintro e w1 ⟨rfl,hb1⟩
 have H1:=zd (H0.out.on hb1)
 have i1:=H1.out.q.is
 have H2:=zd (H1.out.XX (qc s o.now) rfl)
 clear hb1 H0 HLK y0 y1 i0 k0 hlt c0 c1 c2 b0 b1 b2
 go_upto_region 7 with fail
 generalize w1.setRow w.heap.size (rC p n c (qc s o.now))=w2 at*
 clear i1 H1
 have x21:w2.cell? ⟨w.heap.size,21,none⟩=some (.int .i64 (qc s o.now).st):=H2.out.q.cell 21
 rw[HST.out]at x21
 have y2:w2.cell? ⟨w.heap.size+1,2,none⟩=some (.int .i64 o.n):=H2.out.oc 2
 have x11:w2.cell? ⟨w.heap.size,11,none⟩=some (.string s.S):=H2.out.q.cell 11
 have x12:w2.cell? ⟨w.heap.size,12,none⟩=some (.slice p n c):=H2.out.q.cell 12
 have x13:w2.cell? ⟨w.heap.size,13,none⟩=some (.int .i64 s.last):=H2.out.q.cell 13
 have x16:w2.cell? ⟨w.heap.size,16,none⟩=some (.int .i64 (qc s o.now).clock):=H2.out.q.cell 16
 go_wp2_with fail
 clear x21 y2 x11 x12 x13 x16 dn
 refine(HRD.out _ H2.out.row).mono ?_
 rintro e w3 ⟨rfl,hb3⟩
 have H3:=zd (H2.out.on hb3)
 clear hb3 H2 HRD
 have y2:w3.cell? ⟨w.heap.size+1,2,none⟩=some (.int .i64 o.n):=H3.out.oc 2
 have i1:=H3.out.q.is
 have k1:=H3.out.q.cells
 go_wp2_with fail
 clear y2 i1 k1 dg
 refine(HTK.out _).mono ?_
 rintro e w4 ⟨rfl,hb4⟩
 have H4:=zd (H3.out.on hb4)
 have hra:=ZP w4 none 0 0 qZ
 have hba:Below w4.heap.size w4 (w4.alloc (.cells (rC none 0 0 qZ) 68)):=(zh _ _).alloc (zg _) _
 obtain⟨W5,hW5⟩:∃W5,w4.alloc (.cells (rC none 0 0 qZ) 68)=W5:=⟨_,rfl⟩
 rw[hW5]at hra hba
 have hW5:w4.alloc (.cells #[.string ⟨#[]⟩,.int .i64 0,.bool false,.int .i64 0,.int .i64 0,.int .i64 0,.int .u64 0,.int .i64 0,.int .i64 0,.int .i64 0,.int .i64 0,.string ⟨#[]⟩,.slice none 0 0,.int .i64 0,.int .i64 0,.int .i64 0,.int .i64 0,.int .i64 0,.int .i64 0,.bool false,.int .i64 0,.int .i64 0] 68)=W5:=hW5
 have i5:=hra.is
 have hlt5:=hra.lt
 have HG6:=zd (hra.row p n c G)
 have HB6:=zd (below_setRow hba (zg _) (rC p n c G))
 have hg4:w4.heap.size=w4.heap.size:=rfl
 clear hb4 H3 HTK hra hba
 go_upto_region 13 with fail
 generalize W5.setRow w4.heap.size (rC p n c G)=w6 at*
 clear i5 hlt5 hW5 hg4
 have x11:w6.cell? ⟨w4.heap.size,11,none⟩=some (.string G.S):=HG6.out.cell 11
 have x12:w6.cell? ⟨w4.heap.size,12,none⟩=some (.slice p n c):=HG6.out.cell 12
 have x13:w6.cell? ⟨w4.heap.size,13,none⟩=some (.int .i64 G.last):=HG6.out.cell 13
 have x16:w6.cell? ⟨w4.heap.size,16,none⟩=some (.int .i64 G.clock):=HG6.out.cell 16
 have hrow6:gc.qQ w6 p n c G.A:=by rw[HGA.out];exact gc.Zc H4.out.row HB6.out
 have HROW6:=zd hrow6
 clear hrow6
 go_wp2_with fail
 clear x11 x12 x13 x16
 refine(HCT.out _ HROW6.out).mono ?_
 rintro e w7 ⟨p1,n1,c1,rfl,hrow7,hb7⟩
 obtain⟨W8,hW8,hc8,hb8⟩:=Yr w7
 have hs9:=YZ hc8 S2 p1 n1 c1 G.last
 have hb9:=Yh hb8 (zg _) S2 p1 n1 c1 G.last
 have HG9:=zd (HG6.out.on (gb.seqB hb7 hb9))
 have HB9:=zd (gb.seqB HB6.out (gb.seqB hb7 hb9))
 have HROW9:=zd (gc.Zc hrow7 hb9)
 have HC9:=zd hs9
 have z0:W8.cell? ⟨w7.heap.size,0,none⟩=some (.string ⟨#[]⟩):=ze _ _ 0 _ _ _ hc8
 have z1:W8.cell? ⟨w7.heap.size,1,none⟩=some (.slice none 0 0):=ze _ _ 1 _ _ _ hc8
 have z2:W8.cell? ⟨w7.heap.size,2,none⟩=some (.int .i64 0):=ze _ _ 2 _ _ _ hc8
 have g0:W8.frozen? ⟨w7.heap.size,0,none⟩=false:=gb.qa hc8
 have g1:W8.frozen? ⟨w7.heap.size,1,none⟩=false:=gb.qa hc8
 have g2:W8.frozen? ⟨w7.heap.size,2,none⟩=false:=gb.qa hc8
 have hlt8:=gb.qd hc8
 clear hrow7 hb7 hc8 hs9 hb9 hb8 HG6 HB6 HROW6 HCT
 go_upto_region 14 with fail
 generalize hW9:Vl W8 w7.heap.size S2 p1 n1 c1 G.last=w9 at*
 unfold Vl at hW9
 rw[hW9]
 clear hW9 z0 z1 z2 g0 g1 g2 hlt8 hW8
 generalize w7.heap.size=h9 at*
 have y0:w9.cell? ⟨h9,0,none⟩=some (.string S2):=ze _ _ 0 _ _ _ HC9.out
 have y1:w9.cell? ⟨h9,1,none⟩=some (.slice p1 n1 c1):=ze _ _ 1 _ _ _ HC9.out
 have y2:w9.cell? ⟨h9,2,none⟩=some (.int .i64 G.last):=ze _ _ 2 _ _ _ HC9.out
 have u11:w9.cell? ⟨w4.heap.size,11,none⟩=some (.string G.S):=HG9.out.cell 11
 have u12:w9.cell? ⟨w4.heap.size,12,none⟩=some (.slice p n c):=HG9.out.cell 12
 have u13:w9.cell? ⟨w4.heap.size,13,none⟩=some (.int .i64 G.last):=HG9.out.cell 13
 have v11:w9.frozen? ⟨w4.heap.size,11,none⟩=false:=HG9.out.frz 11
 have v12:w9.frozen? ⟨w4.heap.size,12,none⟩=false:=HG9.out.frz 12
 have v13:w9.frozen? ⟨w4.heap.size,13,none⟩=false:=HG9.out.frz 13
 have HGA2:=zd (HG9.out.X8 S2 (G.A.drop K) p1 n1 c1 G.last)
 have HBA2:=zd (J8 HB9.out (zg _) S2 p1 n1 c1 G.last)
 have HROWA2:=zd (show gc.qQ (X8 w9 w4.heap.size S2 p1 n1 c1 G.last) p1 n1 c1 (G.A.drop K)from ZR HROW9.out λ _ _ _ hb=>XU (HG9.out.Jd hb) _ _ _ _ _)
 go_upto_region 15 with fail
 generalize hWA:X8 w9 w4.heap.size S2 p1 n1 c1 G.last=wA at*
 unfold Go.Proofs.YtfdfgnmgpgkknaaGreat.X8 at hWA
 rw[hWA]
 clear hWA y0 y1 y2 u11 u12 u13 v11 v12 v13 HG9 HB9 HROW9 HC9
 have x18:wA.cell? ⟨w4.heap.size,18,none⟩=some (.int .i64 G.passed):=HGA2.out.cell 18
 have f18:wA.frozen? ⟨w4.heap.size,18,none⟩=false:=HGA2.out.frz 18
 have HGB:=zd (HGA2.out.set (i:=18) (v:=.int .i64 (G.passed+(T.size:Int))) (s':={G with S:=S2,A:=G.A.drop K,passed:=G.passed+(T.size:Int)}) (p':=p1) (n':=n1) (c':=c1) rfl)
 have HBB:=zd (HBA2.out.setCell (p:=⟨w4.heap.size,18,none⟩) (zg _) (.int .i64 (G.passed+(T.size:Int))))
 have HROWB:=zd (VD HROWA2.out HGA2.out 18 (.int .i64 (G.passed+(T.size:Int))))
 go_upto_region 16 with fail
 generalize wA.setCell ⟨w4.heap.size,18,none⟩ (.int .i64 (G.passed+(T.size:Int)))=wB at*
 clear x18 f18 HGA2 HBA2 HROWA2 hw
 have HF:=zd (H4.out.on HBB.out)
 have ig:=HGB.out.is
 have kg:=HGB.out.cells
 have hgg:w4.heap.size=w4.heap.size:=rfl
 clear H4 hgg
 obtain⟨⟨t0,t1,t2⟩,⟨g0,g1,g2⟩,hz,hza,hzr,hzb⟩:=HF.out.fin (p':=p1) (n':=n1) (c':=c1) (s':={G with S:=S2,A:=G.A.drop K,passed:=G.passed+(T.size:Int)}) HROWB.out ⟨0,T,0⟩
 have HZ:=zd hz
 have HZA:=zd hza
 have HZR:=zd hzr
 have HZB:=zd hzb
 have i1z:=HF.out.q.is
 have k1z:=HF.out.q.cells
 have i2z:=HF.out.r.is
 have hltz:=HF.out.lt
 clear hz hza hzr hzb
 go_wp2_with fail
 generalize hWf:ZC wB (w.heap.size+2) (w.heap.size+3) (rC p1 n1 c1 {G with S:=S2,A:=G.A.drop K,passed:=G.passed+(T.size:Int)}) ⟨0,T,0⟩=wz at*
 unfold ZC at hWf
 dsimp only at hWf
 try rw[hWf]
 exact zk (v:=.tuple #[.agg (rC p1 n1 c1 {G with S:=S2,A:=G.A.drop K,passed:=G.passed+(T.size:Int)}),.agg #[.int .i64 0,.string T,.int .i64 0]]) (by simp[results,results54,asAddr,qf HZ.out,qW HZA.out]) rfl ⟨p1,n1,c1,rfl,HZR.out,HZB.out⟩
theorem SZ (s:St) {M:Nat} (ho:Ok s M) (N:Int) (h0:0≤N) (hl:s.tx.k=6→s.passed<s.tx.a):0≤(qC s N).2∧(qC s N).2≤N:=by
 by_cases h1:1≤N
 ·exact QI ho N h1 hl
 ·have e:N=0:=by omega
  subst e
  rw[(Kl ho hl).2]
  exact⟨Int.le_refl _,Int.le_refl _⟩
theorem B8 (p:Option Addr) (n c:Nat) (s:St) (o:Op) (w:World) (hrow:gc.qQ w p n c s.A) (hS:s.S.size=n) (hn:n≤100000) {M:Nat} (ho:Ok s M) (hk:o.kind=2):Calls zf 54 #[.agg (rC p n c s),.agg #[.int .i64 o.kind,.int .i64 o.now,.int .i64 o.n,.string o.s,.string o.t.s,.int .i64 o.t.k,.bool o.t.up,.int .i64 o.t.o,.int .i64 o.t.a,.int .i64 o.t.b]] w (Brg (Zw s o.now o.n).1 ⟨0,(Zw s o.now o.n).2,0⟩ w):=by
 unfold Zw
 dsimp only
 by_cases hst:(qc s o.now).st=0
 ·by_cases h1:o.n<1
  ·rw[if_pos (show(qc s o.now).st≠0∨o.n<1 from Or.inr h1)]
   exact D8 p n c s o w hrow hk hst h1
  ·rw[if_neg (show¬((qc s o.now).st≠0∨o.n<1)fromλ h=>h.elim (λ h=>h hst) h1)]
   obtain⟨R,hR⟩:∃R,gc.qn (qc s o.now).A (qc s o.now).clock=R:=⟨_,rfl⟩
   rw[hR]
   have hRl:R≤n:=by
    have:=gc.XK (qc s o.now).A (qc s o.now).clock
    have hl:(qc s o.now).A.length=n:=hrow.1
    omega
   have hol:=ho.look o.now
   have fin:∀(N:Int),0≤N→N≤(R:Int)→(∀(G:St) (K:Nat),qC (qc s o.now) N=(G,(K:Int))→G.S=s.S→G.A=s.A→gc.Zz G.A G.clock (K:Int)=K→IntKind.i64.wrap (G.passed+((G.S.extract 0 K).size:Int))=G.passed+((G.S.extract 0 K).size:Int)→Calls zf 54 #[.agg (rC p n c s),.agg #[.int .i64 o.kind,.int .i64 o.now,.int .i64 o.n,.string o.s,.string o.t.s,.int .i64 o.t.k,.bool o.t.up,.int .i64 o.t.o,.int .i64 o.t.a,.int .i64 o.t.b]] w (Brg {G with S:=G.S.extract K n,A:=G.A.drop K,passed:=G.passed+((G.S.extract 0 K).size:Int)} ⟨0,G.S.extract 0 K,0⟩ w))→
     Calls zf 54 #[.agg (rC p n c s),.agg #[.int .i64 o.kind,.int .i64 o.now,.int .i64 o.n,.string o.s,.string o.t.s,.int .i64 o.t.k,.bool o.t.up,.int .i64 o.t.o,.int .i64 o.t.a,.int .i64 o.t.b]] w (Brg (VR (qC (qc s o.now) N).1 (gc.Zz (qc s o.now).A (qc s o.now).clock (qC (qc s o.now) N).2)) ⟨0,(qc s o.now).S.extract 0 (gc.Zz (qc s o.now).A (qc s o.now).clock (qC (qc s o.now) N).2),0⟩ w):=λ N h0 hN hh=>by
    have hgr:=SZ (qc s o.now) hol N h0 (λ h6=>Vq (s:=s) o.now hst h6)
    have hkp:=XN (qc s o.now) N
    obtain⟨GG,hGG⟩:∃GG,qC (qc s o.now) N=GG:=⟨_,rfl⟩
    rw[hGG]at hgr hkp⊢
    obtain⟨G,g2⟩:=GG
    obtain⟨K,rfl⟩:∃K:Nat,g2=(K:Int):=⟨g2.toNat,by have:0≤g2:=hgr.1;omega⟩
    dsimp only at hgr hkp⊢
    have hKR:K≤R:=by omega
    have hTK:gc.Zz (qc s o.now).A (qc s o.now).clock (K:Int)=K:=TA (by rw[hR];exact hKR)
    rw[hTK]
    have hGS:G.S=s.S:=hkp.1
    have hGA:G.A=s.A:=hkp.2.1
    have hGc:G.clock=(qc s o.now).clock:=hkp.2.2.2.1
    have hGp:G.passed=s.passed:=hkp.2.2.2.2.2.1
    have hsz:(G.S.extract 0 K).size=K:=by rw[ByteArray.size_extract,hGS];omega
    have hps:=ho.passed
    have htp:=ho.top
    have:=hh G K hGG hGS hGA (by rw[hGA,hGc];exact hTK) (by rw[hsz,IntKind.wrap_i64];omega)
    rw[hsz]at this
    have e1:(qc s o.now).S=G.S:=hGS.symm
    rw[e1]
    unfold VR
    rw[hGS,hS]
    rw[hGS]at this
    exact this
   by_cases hgt:o.n<(R:Int)
   ·rw[if_pos hgt]
    refine fin o.n (by omega) (by omega) λ G K hg h1' h2' h3' h4'=>?_
    exact D7 p n c s o w hrow hk hst h1 hS hn hR hgt (λ W=>by have:=YH p n c (qc s o.now) o.n W hol;rw[hg]at this;exact this) h1' h2' h3' rfl rfl h4'
   ·rw[if_neg hgt]
    refine fin (R:Int) (by omega) (Int.le_refl _) λ G K hg h1' h2' h3' h4'=>?_
    exact D6 p n c s o w hrow hk hst h1 hS hn hR hgt (λ W=>by have:=YH p n c (qc s o.now) (R:Int) W hol;rw[hg]at this;exact this) h1' h2' h3' rfl rfl h4'
 ·rw[if_pos (show(qc s o.now).st≠0∨o.n<1 from Or.inl hst)]
  exact D9 p n c s o w hrow hk hst
theorem B7 (p:Option Addr) (n c:Nat) (s:St) (o:Op) (w:World) (hrow:gc.qQ w p n c s.A) (hk:o.kind=3):Calls zf 54 #[.agg (rC p n c s),.agg #[.int .i64 o.kind,.int .i64 o.now,.int .i64 o.n,.string o.s,.string o.t.s,.int .i64 o.t.k,.bool o.t.up,.int .i64 o.t.o,.int .i64 o.t.a,.int .i64 o.t.b]] w (Brg (qS s o.now) qT w):=by
 unfold qS qM
 by_cases hl:s.clock<gb.qe o.now
 ·rw[if_pos hl]
  by_cases hc:s.closed=true
  ·rw[if_pos hc]
   exact Ei p n c s o w hrow hk hl hc
  ·rw[if_neg hc]
   exact Ej p n c s o w hrow hk hl (by simpa using hc)
 ·rw[if_neg hl]
  by_cases hc:s.closed=true
  ·rw[if_pos hc]
   exact Ek p n c s o w hrow hk hl hc
  ·rw[if_neg hc]
   exact El p n c s o w hrow hk hl (by simpa using hc)
theorem Eh (p:Option Addr) (n c:Nat) (s:St) (o:Op) (w:World) (hrow:gc.qQ w p n c s.A) (hS:s.S.size=n) (hn:n≤100000) (hos:o.s.size≤100000) (ht:o.t.s.size≤maxLen) {M:Nat} (ho:Ok s M):Calls zf 54 #[.agg (rC p n c s),.agg #[.int .i64 o.kind,.int .i64 o.now,.int .i64 o.n,.string o.s,.string o.t.s,.int .i64 o.t.k,.bool o.t.up,.int .i64 o.t.o,.int .i64 o.t.a,.int .i64 o.t.b]] w (Brg (doS s o).1 (doS s o).2 w):=by
 by_cases k0:o.kind=0
 ·exact Aa p n c s o w hrow k0 λ W hr=>Q0 p n c s o W hr ho hn hos (by omega) (Or.inl k0)
 by_cases k1:o.kind=1
 ·exact B9 p n c s o w hrow k1 λ W hr=>Q0 p n c s o W hr ho hn hos (by omega) (Or.inr k1)
 unfold doS
 rw[if_neg k0,if_neg k1]
 by_cases k2:o.kind=2
 ·rw[if_pos k2]
  exact B8 p n c s o w hrow hS hn ho k2
 rw[if_neg k2]
 by_cases k3:o.kind=3
 ·rw[if_pos k3]
  exact B7 p n c s o w hrow k3
 rw[if_neg k3]
 by_cases k4:o.kind=4
 ·rw[if_pos k4]
  exact B6 p n c s o w hrow k4
 rw[if_neg k4]
 by_cases k5:o.kind=5
 ·rw[if_pos k5]
  exact B5 p n c s o w hrow k5 λ W hr=>Oh p n c s o W hr ho ht
 rw[if_neg k5]
 by_cases k6:o.kind=6
 ·rw[if_pos k6]
  exact B4 p n c s o w hrow k6
 rw[if_neg k6]
 exact B3 p n c s o w hrow (by omega)
end Go.Proofs.YtfdfgnmgpgkknaaGreat
