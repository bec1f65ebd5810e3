import Derived.Test.YtfdfgnmgpgkknaaGreatMG25
import Derived.Test.YtfdfgnmgpgkknaaGreatMG21
set_option maxRecDepth 100000
set_option maxHeartbeats 8000000
open Go.RowKit.Below renaming refl→zh,heap_setCell→zn
open Nat renaming le_refl→zg,le_succ→zv,lt_of_lt_of_le→zy
open Go.Proofs.Tryz renaming prog→zf
open Go.Lib renaming hid→zd
open Go renaming bodyPost_ret→zk,heap_alloc_new→zo,cell_of_row→ze
open Go.Proofs.Tryz
namespace Go.Proofs.YtfdfgnmgpgkknaaGreat
section
open Go.RowKit
attribute [local go_sem ↓] Zr Ze
attribute [local go_sem] Zf qN X7
variable {w w':World} {q n c:Nat} {p:Option Addr} {s s':St}
theorem N5 (p:Option Addr) (n c:Nat) (s:St) (w:World):∃W0,(w.alloc (.cells (rC p n c s) 68)).alloc (.cells (rC none 0 0 qZ) 68)=W0∧RAt W0 w.heap.size p n c s∧RAt W0 (w.heap.size+1) none 0 0 qZ∧Below w.heap.size w W0:=by
 have h0:=ZP w p n c s
 have h1:=ZP (w.alloc (.cells (rC p n c s) 68)) none 0 0 qZ
 have hb0:Below w.heap.size w (w.alloc (.cells (rC p n c s) 68)):=(zh _ _).alloc (zg _) _
 have hb1:Below (w.alloc (.cells (rC p n c s) 68)).heap.size (w.alloc (.cells (rC p n c s) 68)) ((w.alloc (.cells (rC p n c s) 68)).alloc (.cells (rC none 0 0 qZ) 68)):=(zh _ _).alloc (zg _) _
 have e:(w.alloc (.cells (rC p n c s) 68)).heap.size=w.heap.size+1:=by simp
 rw[e]at h1
 exact⟨_,rfl,h0.on hb1,h1,gb.seqB hb0 hb1⟩
theorem XO (p:Option Addr) (n c:Nat) (s:St) (w:World):∃W0,(w.alloc (.cells (rC p n c s) 68)).alloc (.cells #[.string ⟨#[]⟩,.int .i64 0,.bool false,.int .i64 0,.int .i64 0,.int .i64 0,.int .u64 0,.int .i64 0,.int .i64 0,.int .i64 0,.int .i64 0,.string ⟨#[]⟩,.slice none 0 0,.int .i64 0,.int .i64 0,.int .i64 0,.int .i64 0,.int .i64 0,.int .i64 0,.bool false,.int .i64 0,.int .i64 0] 68)=W0∧RAt W0 w.heap.size p n c s∧RAt W0 (w.heap.size+1) none 0 0 qZ∧Below w.heap.size w W0:=N5 p n c s w
theorem JQ {s:St} (h:s.st=0):({s with st:=0}:St)=s:=by rw[←h]
theorem NF (s:St) (now:Int):(if(qL s now).st≠0 then qL s now else{qL s now with st:=qP (qL s now)})=qc s now:=by
 by_cases h:s.st=0
 ·rw[if_neg (show¬(qL s now).st≠0 fromλ h'=>h' h),jb s now h]
 ·rw[if_pos (show(qL s now).st≠0 from h),ND s now h]
theorem Ec (p:Option Addr) (n c:Nat) (s:St) (now:Int) (w:World) (hc:s.clock<gb.qe now) {s1:St} (hs1:qL s now=s1) {L:St} (hL:(if s1.st≠0 then s1 else{s1 with st:=qP s1})=L):Calls zf 87 #[.agg (rC p n c s),.int .i64 now] w λ e w'=>e=.returned (.agg (rC p n c L))∧Below w.heap.size w w':=by
 have HNR:=zd (λ W=>gb.Zq now W)
 obtain⟨W0,hW0,hq,hr,hb⟩:=XO p n c s w
 have x16:W0.cell? ⟨w.heap.size,16,none⟩=some (.int .i64 s.clock):=hq.cell 16
 have f16:W0.frozen? ⟨w.heap.size,16,none⟩=false:=hq.frz 16
 have hlt:=hr.lt
 have hd:decide (s.clock<gb.qe now)=true:=by simpa using hc
 have he:s1={s with clock:=gb.qe now}:=by rw[←hs1];unfold qL qM;rw[if_pos hc]
 have hq1:RAt (W0.setCell ⟨w.heap.size,16,none⟩ (.int .i64 (gb.qe now))) w.heap.size p n c s1:=by rw[he];exact hq.set rfl
 clear he
 have HB:=zd (hb.setCell (p:=⟨w.heap.size,16,none⟩) (zg _) (.int .i64 (gb.qe now)))
 have HQ:=zd hq1
 have HR:=zd (hr.far (g:=w.heap.size) (i:=16) (.int .i64 (gb.qe now)) (Nat.succ_ne_self _))
 have HL:=zd hL
 clear hq hq1 hr hb hs1 hL
 go_enter func87,ntmps87
 go_wp2_with fail
 clear hW0
 refine(HNR.out _).mono ?_
 rintro e w0 ⟨rfl,rfl⟩
 go_upto_region 4 with fail
 clear hd
 generalize W0.setCell ⟨w.heap.size,16,none⟩ (.int .i64 (gb.qe now))=w1 at*
 clear x16 f16 hlt HNR hc
 by_cases hst:s1.st=0
 ·have HL2:=zd (HL.out.symm.trans (if_neg (λ h:s1.st≠0=>h hst)))
  have HST:=zd hst
  have HA:=zd (λ W=>show Calls zf 112 #[.int .i64 s1.began,.int .i64 s1.tx.a] W λ e w'=>e=.returned (.int .i64 (XC s1.began s1.tx.a))∧W=w' from gb.Jz s1.began s1.tx.a W)
  have x21:w1.cell? ⟨w.heap.size,21,none⟩=some (.int .i64 s1.st):=HQ.out.cell 21
  rw[hst]at x21
  have x16:w1.cell? ⟨w.heap.size,16,none⟩=some (.int .i64 s1.clock):=HQ.out.cell 16
  have x15:w1.cell? ⟨w.heap.size,15,none⟩=some (.int .i64 s1.began):=HQ.out.cell 15
  have x4:w1.cell? ⟨w.heap.size,4,none⟩=some (.int .i64 s1.tx.a):=HQ.out.cell 4
  have hlt:=HR.out.lt
  obtain⟨o,ho⟩:∃o,decide (XC s1.began s1.tx.a≤s1.clock)=o:=⟨_,rfl⟩
  have HO:=zd ho
  clear hst
  go_wp2_with fail
  go_quiet ((go_at_call 112;exact gc.XL (HA.out _)))
  have HQ2:=zd (show RAt (w1.drewN nq) w.heap.size p n c s1 from HQ.out)
  have HR2:=zd (show RAt (w1.drewN nq) (w.heap.size+1) none 0 0 qZ from HR.out)
  have HB2:=zd (show Below w.heap.size w (w1.drewN nq)from below_drewN HB.out nq)
  generalize w1.drewN nq=w2 at*
  clear x21 x16 x15 x4 hlt HQ HR HB HL HA ho
  have hF:qP s1=if s1.tx.k=5∧o=true then(2:Int)else if s1.tx.k=4 then(if o=true then 1 else 0)else if s1.tx.k=6∧s1.tx.a≤s1.passed then 1 else if s1.closed=true∧s1.S.size=0∧(s1.tx.k≠7∨XC s1.at' s1.tx.a≤s1.clock)then 1 else 0:=by
   rw[←HO.out]
   unfold qP
   simp only[decide_eq_true_eq]
  have HF:=zd hF
  clear hF HO
  by_cases k5:s1.tx.k=5
  ·have KL:=zd k5
   have X1:=k5
   have x1:w2.cell? ⟨w.heap.size,1,none⟩=some (.int .i64 s1.tx.k):=HQ2.out.cell 1
   rw[k5]at x1
   clear k5 X1
   have X1:=True.intro
   cases o with
   |true=>
    have x21:w2.cell? ⟨w.heap.size,21,none⟩=some (.int .i64 s1.st):=HQ2.out.cell 21
    have f21:w2.frozen? ⟨w.heap.size,21,none⟩=false:=HQ2.out.frz 21
    have HQ9:=zd (HQ2.out.set (i:=21) (v:=.int .i64 2) (s':={s1 with st:=2}) (p':=p) (n':=n) (c':=c) rfl)
    have HR9:=zd (HR2.out.far (g:=w.heap.size) (i:=21) (.int .i64 2) (Nat.succ_ne_self _))
    have HB9:=zd (HB2.out.setCell (p:=⟨w.heap.size,21,none⟩) (zg _) (.int .i64 2))
    go_upto_region 9 with fail
    generalize w2.setCell ⟨w.heap.size,21,none⟩ (.int .i64 2)=w9 at*
    clear x21 f21 x1
    have i1:=HQ9.out.is
    have k1:=HQ9.out.cells
    have i2:=HR9.out.is
    have hlt:=HR9.out.lt
    go_wp2_with fail
    have hz:=HR9.out.row p n c {s1 with st:=2}
    have hb:=below_setRow HB9.out (zv w.heap.size) (rC p n c {s1 with st:=2})
    have HZ:=zd hz
    have HE:=zd hb
    clear hz hb
    generalize w9.setRow (w.heap.size+1) (rC p n c {s1 with st:=2})=wz at*
    exact zk (v:=.agg (rC p n c {s1 with st:=2})) (by simp[results,results87,asAddr,qf HZ.out]) rfl ⟨(by rw[HL2.out,show qP s1=2 by rw[HF.out];simp[KL.out]]),HE.out⟩
   |false=>
    cases hcl:s1.closed with
    |false=>
     have x19:w2.cell? ⟨w.heap.size,19,none⟩=some (.bool s1.closed):=HQ2.out.cell 19
     rw[hcl]at x19
     have HCL:=zd hcl
     clear hcl
     go_upto_region 20 with fail
     clear x19
     have i1:=HQ2.out.is
     have k1:=HQ2.out.cells
     have i2:=HR2.out.is
     have hlt:=HR2.out.lt
     go_wp2_with fail
     have hz:=HR2.out.row p n c s1
     have hb:=below_setRow HB2.out (zv w.heap.size) (rC p n c s1)
     have HZ:=zd hz
     have HE:=zd hb
     clear hz hb
     generalize w2.setRow (w.heap.size+1) (rC p n c s1)=wz at*
     exact zk (v:=.agg (rC p n c s1)) (by simp[results,results87,asAddr,qf HZ.out]) rfl ⟨(by rw[HL2.out,show qP s1=0 by rw[HF.out];simp[KL.out,HCL.out]];rw[JQ HST.out]),HE.out⟩
    |true=>
     have x19:w2.cell? ⟨w.heap.size,19,none⟩=some (.bool s1.closed):=HQ2.out.cell 19
     rw[hcl]at x19
     have HCL:=zd hcl
     have HHD:=zd (λ W=>Z7 p n c s1 W)
     clear hcl
     have i1:=HQ2.out.is
     have k1:=HQ2.out.cells
     have hlt:=HR2.out.lt
     go_wp2_with fail
     refine(HHD.out _).mono ?_
     rintro e w3 ⟨rfl,hb3⟩
     have HQ3:=zd (HQ2.out.on hb3)
     have HR3:=zd (HR2.out.on hb3)
     have HB3:=zd (gb.seqB HB2.out hb3)
     clear hb3 x19 i1 k1 hlt HQ2 HR2 HB2 HHD X1
     by_cases hS:s1.S.size=0
     ·have HS:=zd hS
      have h0:((s1.S.size:Nat):Int)=0:=by omega
      rw[h0]
      clear hS h0
      have x1:w3.cell? ⟨w.heap.size,1,none⟩=some (.int .i64 s1.tx.k):=HQ3.out.cell 1
      have hlt:=HR3.out.lt
      rw[KL.out]at x1
      go_wp2_with fail
      go_quiet (fail)
      have HQ4:=zd (show RAt (w3.drewN nq) w.heap.size p n c s1 from HQ3.out)
      have HR4:=zd (show RAt (w3.drewN nq) (w.heap.size+1) none 0 0 qZ from HR3.out)
      have HB4:=zd (show Below w.heap.size w (w3.drewN nq)from below_drewN HB3.out nq)
      generalize w3.drewN nq=w4 at*
      clear x1 hlt HQ3 HR3 HB3
      have x21:w4.cell? ⟨w.heap.size,21,none⟩=some (.int .i64 s1.st):=HQ4.out.cell 21
      have f21:w4.frozen? ⟨w.heap.size,21,none⟩=false:=HQ4.out.frz 21
      have HQ9:=zd (HQ4.out.set (i:=21) (v:=.int .i64 1) (s':={s1 with st:=1}) (p':=p) (n':=n) (c':=c) rfl)
      have HR9:=zd (HR4.out.far (g:=w.heap.size) (i:=21) (.int .i64 1) (Nat.succ_ne_self _))
      have HB9:=zd (HB4.out.setCell (p:=⟨w.heap.size,21,none⟩) (zg _) (.int .i64 1))
      go_upto_region 20 with fail
      generalize w4.setCell ⟨w.heap.size,21,none⟩ (.int .i64 1)=w9 at*
      clear x21 f21
      have i1:=HQ9.out.is
      have k1:=HQ9.out.cells
      have i2:=HR9.out.is
      have hlt:=HR9.out.lt
      go_wp2_with fail
      have hz:=HR9.out.row p n c {s1 with st:=1}
      have hb:=below_setRow HB9.out (zv w.heap.size) (rC p n c {s1 with st:=1})
      have HZ:=zd hz
      have HE:=zd hb
      clear hz hb
      generalize w9.setRow (w.heap.size+1) (rC p n c {s1 with st:=1})=wz at*
      exact zk (v:=.agg (rC p n c {s1 with st:=1})) (by simp[results,results87,asAddr,qf HZ.out]) rfl ⟨(by rw[HL2.out,show qP s1=1 by rw[HF.out];simp[KL.out,HCL.out,HS.out]]),HE.out⟩
     ·have hs1:(s1.S.size==0)=false:=by simpa using hS
      have hs2:decide (s1.S.size=0)=false:=by simpa using hS
      have hs3:(((s1.S.size:Nat):Int)==0)=false:=by simp[hS]
      have HS:=zd hS
      clear hS
      go_upto_region 20 with fail
      clear hs1 hs2 hs3
      have i1:=HQ3.out.is
      have k1:=HQ3.out.cells
      have i2:=HR3.out.is
      have hlt:=HR3.out.lt
      go_wp2_with fail
      have hz:=HR3.out.row p n c s1
      have hb:=below_setRow HB3.out (zv w.heap.size) (rC p n c s1)
      have HZ:=zd hz
      have HE:=zd hb
      clear hz hb
      generalize w3.setRow (w.heap.size+1) (rC p n c s1)=wz at*
      exact zk (v:=.agg (rC p n c s1)) (by simp[results,results87,asAddr,qf HZ.out]) rfl ⟨(by rw[HL2.out,show qP s1=0 by rw[HF.out];simp[KL.out,HCL.out,HS.out]];rw[JQ HST.out]),HE.out⟩
  by_cases k4:s1.tx.k=4
  ·have KL:=zd k4
   have x1:w2.cell? ⟨w.heap.size,1,none⟩=some (.int .i64 s1.tx.k):=HQ2.out.cell 1
   rw[k4]at x1
   clear k4
   cases o with
   |true=>
    have x21:w2.cell? ⟨w.heap.size,21,none⟩=some (.int .i64 s1.st):=HQ2.out.cell 21
    have f21:w2.frozen? ⟨w.heap.size,21,none⟩=false:=HQ2.out.frz 21
    have HQ9:=zd (HQ2.out.set (i:=21) (v:=.int .i64 1) (s':={s1 with st:=1}) (p':=p) (n':=n) (c':=c) rfl)
    have HR9:=zd (HR2.out.far (g:=w.heap.size) (i:=21) (.int .i64 1) (Nat.succ_ne_self _))
    have HB9:=zd (HB2.out.setCell (p:=⟨w.heap.size,21,none⟩) (zg _) (.int .i64 1))
    go_upto_region 13 with fail
    generalize w2.setCell ⟨w.heap.size,21,none⟩ (.int .i64 1)=w9 at*
    clear x21 f21 x1
    have i1:=HQ9.out.is
    have k1:=HQ9.out.cells
    have i2:=HR9.out.is
    have hlt:=HR9.out.lt
    go_wp2_with fail
    have hz:=HR9.out.row p n c {s1 with st:=1}
    have hb:=below_setRow HB9.out (zv w.heap.size) (rC p n c {s1 with st:=1})
    have HZ:=zd hz
    have HE:=zd hb
    clear hz hb
    generalize w9.setRow (w.heap.size+1) (rC p n c {s1 with st:=1})=wz at*
    exact zk (v:=.agg (rC p n c {s1 with st:=1})) (by simp[results,results87,asAddr,qf HZ.out]) rfl ⟨(by rw[HL2.out,show qP s1=1 by rw[HF.out];simp[KL.out]]),HE.out⟩
   |false=>
    go_upto_region 13 with fail
    clear x1
    have i1:=HQ2.out.is
    have k1:=HQ2.out.cells
    have i2:=HR2.out.is
    have hlt:=HR2.out.lt
    go_wp2_with fail
    have hz:=HR2.out.row p n c s1
    have hb:=below_setRow HB2.out (zv w.heap.size) (rC p n c s1)
    have HZ:=zd hz
    have HE:=zd hb
    clear hz hb
    generalize w2.setRow (w.heap.size+1) (rC p n c s1)=wz at*
    exact zk (v:=.agg (rC p n c s1)) (by simp[results,results87,asAddr,qf HZ.out]) rfl ⟨(by rw[HL2.out,show qP s1=0 by rw[HF.out];simp[KL.out]];rw[JQ HST.out]),HE.out⟩
  by_cases k6:s1.tx.k=6
  ·have KL:=zd k6
   have X1:=True.intro
   have x1:w2.cell? ⟨w.heap.size,1,none⟩=some (.int .i64 s1.tx.k):=HQ2.out.cell 1
   rw[k6]at x1
   have x18:w2.cell? ⟨w.heap.size,18,none⟩=some (.int .i64 s1.passed):=HQ2.out.cell 18
   have x4:w2.cell? ⟨w.heap.size,4,none⟩=some (.int .i64 s1.tx.a):=HQ2.out.cell 4
   clear k6
   by_cases hp:s1.tx.a≤s1.passed
   ·have hd:decide (s1.tx.a≤s1.passed)=true:=by simpa using hp
    have HP:=zd hp
    clear hp
    have x21:w2.cell? ⟨w.heap.size,21,none⟩=some (.int .i64 s1.st):=HQ2.out.cell 21
    have f21:w2.frozen? ⟨w.heap.size,21,none⟩=false:=HQ2.out.frz 21
    have HQ9:=zd (HQ2.out.set (i:=21) (v:=.int .i64 1) (s':={s1 with st:=1}) (p':=p) (n':=n) (c':=c) rfl)
    have HR9:=zd (HR2.out.far (g:=w.heap.size) (i:=21) (.int .i64 1) (Nat.succ_ne_self _))
    have HB9:=zd (HB2.out.setCell (p:=⟨w.heap.size,21,none⟩) (zg _) (.int .i64 1))
    go_upto_region 16 with fail
    generalize w2.setCell ⟨w.heap.size,21,none⟩ (.int .i64 1)=w9 at*
    clear x21 f21 x1 x18 x4 hd
    have i1:=HQ9.out.is
    have k1:=HQ9.out.cells
    have i2:=HR9.out.is
    have hlt:=HR9.out.lt
    go_wp2_with fail
    have hz:=HR9.out.row p n c {s1 with st:=1}
    have hb:=below_setRow HB9.out (zv w.heap.size) (rC p n c {s1 with st:=1})
    have HZ:=zd hz
    have HE:=zd hb
    clear hz hb
    generalize w9.setRow (w.heap.size+1) (rC p n c {s1 with st:=1})=wz at*
    exact zk (v:=.agg (rC p n c {s1 with st:=1})) (by simp[results,results87,asAddr,qf HZ.out]) rfl ⟨(by rw[HL2.out,show qP s1=1 by rw[HF.out];simp[KL.out,HP.out]]),HE.out⟩
   ·have hd:decide (s1.tx.a≤s1.passed)=false:=by simpa using hp
    have HP:=zd hp
    clear hp
    cases hcl:s1.closed with
    |false=>
     have x19:w2.cell? ⟨w.heap.size,19,none⟩=some (.bool s1.closed):=HQ2.out.cell 19
     rw[hcl]at x19
     have HCL:=zd hcl
     clear hcl
     go_upto_region 20 with fail
     clear x19
     have i1:=HQ2.out.is
     have k1:=HQ2.out.cells
     have i2:=HR2.out.is
     have hlt:=HR2.out.lt
     go_wp2_with fail
     have hz:=HR2.out.row p n c s1
     have hb:=below_setRow HB2.out (zv w.heap.size) (rC p n c s1)
     have HZ:=zd hz
     have HE:=zd hb
     clear hz hb
     generalize w2.setRow (w.heap.size+1) (rC p n c s1)=wz at*
     exact zk (v:=.agg (rC p n c s1)) (by simp[results,results87,asAddr,qf HZ.out]) rfl ⟨(by rw[HL2.out,show qP s1=0 by rw[HF.out];simp[KL.out,HP.out,HCL.out]];rw[JQ HST.out]),HE.out⟩
    |true=>
     have x19:w2.cell? ⟨w.heap.size,19,none⟩=some (.bool s1.closed):=HQ2.out.cell 19
     rw[hcl]at x19
     have HCL:=zd hcl
     have HHD:=zd (λ W=>Z7 p n c s1 W)
     clear hcl
     have i1:=HQ2.out.is
     have k1:=HQ2.out.cells
     have hlt:=HR2.out.lt
     go_wp2_with fail
     refine(HHD.out _).mono ?_
     rintro e w3 ⟨rfl,hb3⟩
     have HQ3:=zd (HQ2.out.on hb3)
     have HR3:=zd (HR2.out.on hb3)
     have HB3:=zd (gb.seqB HB2.out hb3)
     clear hb3 x19 i1 k1 hlt HQ2 HR2 HB2 HHD X1
     by_cases hS:s1.S.size=0
     ·have HS:=zd hS
      have h0:((s1.S.size:Nat):Int)=0:=by omega
      rw[h0]
      clear hS h0
      have x1:w3.cell? ⟨w.heap.size,1,none⟩=some (.int .i64 s1.tx.k):=HQ3.out.cell 1
      have hlt:=HR3.out.lt
      rw[KL.out]at x1
      go_wp2_with fail
      go_quiet (fail)
      have HQ4:=zd (show RAt (w3.drewN nq) w.heap.size p n c s1 from HQ3.out)
      have HR4:=zd (show RAt (w3.drewN nq) (w.heap.size+1) none 0 0 qZ from HR3.out)
      have HB4:=zd (show Below w.heap.size w (w3.drewN nq)from below_drewN HB3.out nq)
      generalize w3.drewN nq=w4 at*
      clear x1 hlt HQ3 HR3 HB3
      have x21:w4.cell? ⟨w.heap.size,21,none⟩=some (.int .i64 s1.st):=HQ4.out.cell 21
      have f21:w4.frozen? ⟨w.heap.size,21,none⟩=false:=HQ4.out.frz 21
      have HQ9:=zd (HQ4.out.set (i:=21) (v:=.int .i64 1) (s':={s1 with st:=1}) (p':=p) (n':=n) (c':=c) rfl)
      have HR9:=zd (HR4.out.far (g:=w.heap.size) (i:=21) (.int .i64 1) (Nat.succ_ne_self _))
      have HB9:=zd (HB4.out.setCell (p:=⟨w.heap.size,21,none⟩) (zg _) (.int .i64 1))
      go_upto_region 20 with fail
      generalize w4.setCell ⟨w.heap.size,21,none⟩ (.int .i64 1)=w9 at*
      clear x21 f21
      have i1:=HQ9.out.is
      have k1:=HQ9.out.cells
      have i2:=HR9.out.is
      have hlt:=HR9.out.lt
      go_wp2_with fail
      have hz:=HR9.out.row p n c {s1 with st:=1}
      have hb:=below_setRow HB9.out (zv w.heap.size) (rC p n c {s1 with st:=1})
      have HZ:=zd hz
      have HE:=zd hb
      clear hz hb
      generalize w9.setRow (w.heap.size+1) (rC p n c {s1 with st:=1})=wz at*
      exact zk (v:=.agg (rC p n c {s1 with st:=1})) (by simp[results,results87,asAddr,qf HZ.out]) rfl ⟨(by rw[HL2.out,show qP s1=1 by rw[HF.out];simp[KL.out,HCL.out,HS.out]]),HE.out⟩
     ·have hs1:(s1.S.size==0)=false:=by simpa using hS
      have hs2:decide (s1.S.size=0)=false:=by simpa using hS
      have hs3:(((s1.S.size:Nat):Int)==0)=false:=by simp[hS]
      have HS:=zd hS
      clear hS
      go_upto_region 20 with fail
      clear hs1 hs2 hs3
      have i1:=HQ3.out.is
      have k1:=HQ3.out.cells
      have i2:=HR3.out.is
      have hlt:=HR3.out.lt
      go_wp2_with fail
      have hz:=HR3.out.row p n c s1
      have hb:=below_setRow HB3.out (zv w.heap.size) (rC p n c s1)
      have HZ:=zd hz
      have HE:=zd hb
      clear hz hb
      generalize w3.setRow (w.heap.size+1) (rC p n c s1)=wz at*
      exact zk (v:=.agg (rC p n c s1)) (by simp[results,results87,asAddr,qf HZ.out]) rfl ⟨(by rw[HL2.out,show qP s1=0 by rw[HF.out];simp[KL.out,HP.out,HCL.out,HS.out]];rw[JQ HST.out]),HE.out⟩
  have e5:(s1.tx.k==5)=false:=by simpa using k5
  have e4:(s1.tx.k==4)=false:=by simpa using k4
  have e6:(s1.tx.k==6)=false:=by simpa using k6
  have d5:decide (s1.tx.k=5)=false:=by simpa using k5
  have d4:decide (s1.tx.k=4)=false:=by simpa using k4
  have d6:decide (s1.tx.k=6)=false:=by simpa using k6
  have x1:w2.cell? ⟨w.heap.size,1,none⟩=some (.int .i64 s1.tx.k):=HQ2.out.cell 1
  have X1:=True.intro
  have K5:=zd k5
  have K4:=zd k4
  have K6:=zd k6
  clear k5 k4 k6
  cases hcl:s1.closed with
  |false=>
   have x19:w2.cell? ⟨w.heap.size,19,none⟩=some (.bool s1.closed):=HQ2.out.cell 19
   rw[hcl]at x19
   have HCL:=zd hcl
   clear hcl
   go_upto_region 20 with fail
   clear x19
   have i1:=HQ2.out.is
   have k1:=HQ2.out.cells
   have i2:=HR2.out.is
   have hlt:=HR2.out.lt
   go_wp2_with fail
   have hz:=HR2.out.row p n c s1
   have hb:=below_setRow HB2.out (zv w.heap.size) (rC p n c s1)
   have HZ:=zd hz
   have HE:=zd hb
   clear hz hb
   generalize w2.setRow (w.heap.size+1) (rC p n c s1)=wz at*
   exact zk (v:=.agg (rC p n c s1)) (by simp[results,results87,asAddr,qf HZ.out]) rfl ⟨(by rw[HL2.out,show qP s1=0 by rw[HF.out];simp[K5.out,K4.out,K6.out,HCL.out]];rw[JQ HST.out]),HE.out⟩
  |true=>
   have x19:w2.cell? ⟨w.heap.size,19,none⟩=some (.bool s1.closed):=HQ2.out.cell 19
   rw[hcl]at x19
   have HCL:=zd hcl
   have HHD:=zd (λ W=>Z7 p n c s1 W)
   clear hcl
   have i1:=HQ2.out.is
   have k1:=HQ2.out.cells
   have hlt:=HR2.out.lt
   go_wp2_with fail
   refine(HHD.out _).mono ?_
   rintro e w3 ⟨rfl,hb3⟩
   have HQ3:=zd (HQ2.out.on hb3)
   have HR3:=zd (HR2.out.on hb3)
   have HB3:=zd (gb.seqB HB2.out hb3)
   clear hb3 x19 i1 k1 hlt HQ2 HR2 HB2 HHD X1
   by_cases hS:s1.S.size=0
   ·have HS:=zd hS
    have h0:((s1.S.size:Nat):Int)=0:=by omega
    rw[h0]
    clear hS h0
    have x1:w3.cell? ⟨w.heap.size,1,none⟩=some (.int .i64 s1.tx.k):=HQ3.out.cell 1
    have hlt:=HR3.out.lt
    by_cases k7:s1.tx.k=7
    ·have H7:=zd k7
     rw[k7]at x1
     have x16:w3.cell? ⟨w.heap.size,16,none⟩=some (.int .i64 s1.clock):=HQ3.out.cell 16
     have x20:w3.cell? ⟨w.heap.size,20,none⟩=some (.int .i64 s1.at'):=HQ3.out.cell 20
     have x4:w3.cell? ⟨w.heap.size,4,none⟩=some (.int .i64 s1.tx.a):=HQ3.out.cell 4
     have HA2:=zd (λ W=>show Calls zf 112 #[.int .i64 s1.at',.int .i64 s1.tx.a] W λ e w'=>e=.returned (.int .i64 (XC s1.at' s1.tx.a))∧W=w' from gb.Jz s1.at' s1.tx.a W)
     obtain⟨o2,ho2⟩:∃o2,decide (XC s1.at' s1.tx.a≤s1.clock)=o2:=⟨_,rfl⟩
     have HO2:=zd ho2
     clear k7
     go_wp2_with fail
     go_quiet ((go_at_call 112;exact gc.XL (HA2.out _)))
     have HQ4:=zd (show RAt (w3.drewN nq) w.heap.size p n c s1 from HQ3.out)
     have HR4:=zd (show RAt (w3.drewN nq) (w.heap.size+1) none 0 0 qZ from HR3.out)
     have HB4:=zd (show Below w.heap.size w (w3.drewN nq)from below_drewN HB3.out nq)
     generalize w3.drewN nq=w4 at*
     clear x1 x16 x20 x4 hlt HQ3 HR3 HB3 ho2
     cases o2 with
     |true=>
      have x21:w4.cell? ⟨w.heap.size,21,none⟩=some (.int .i64 s1.st):=HQ4.out.cell 21
      have f21:w4.frozen? ⟨w.heap.size,21,none⟩=false:=HQ4.out.frz 21
      have HQ9:=zd (HQ4.out.set (i:=21) (v:=.int .i64 1) (s':={s1 with st:=1}) (p':=p) (n':=n) (c':=c) rfl)
      have HR9:=zd (HR4.out.far (g:=w.heap.size) (i:=21) (.int .i64 1) (Nat.succ_ne_self _))
      have HB9:=zd (HB4.out.setCell (p:=⟨w.heap.size,21,none⟩) (zg _) (.int .i64 1))
      go_upto_region 20 with fail
      generalize w4.setCell ⟨w.heap.size,21,none⟩ (.int .i64 1)=w9 at*
      clear x21 f21
      have i1:=HQ9.out.is
      have k1:=HQ9.out.cells
      have i2:=HR9.out.is
      have hlt:=HR9.out.lt
      go_wp2_with fail
      have hz:=HR9.out.row p n c {s1 with st:=1}
      have hb:=below_setRow HB9.out (zv w.heap.size) (rC p n c {s1 with st:=1})
      have HZ:=zd hz
      have HE:=zd hb
      clear hz hb
      generalize w9.setRow (w.heap.size+1) (rC p n c {s1 with st:=1})=wz at*
      exact zk (v:=.agg (rC p n c {s1 with st:=1})) (by simp[results,results87,asAddr,qf HZ.out]) rfl ⟨(by rw[HL2.out,show qP s1=1 by rw[HF.out];simp[HCL.out,HS.out,H7.out,of_decide_eq_true HO2.out]]),HE.out⟩
     |false=>
      go_upto_region 20 with fail
      have i1:=HQ4.out.is
      have k1:=HQ4.out.cells
      have i2:=HR4.out.is
      have hlt:=HR4.out.lt
      go_wp2_with fail
      have hz:=HR4.out.row p n c s1
      have hb:=below_setRow HB4.out (zv w.heap.size) (rC p n c s1)
      have HZ:=zd hz
      have HE:=zd hb
      clear hz hb
      generalize w4.setRow (w.heap.size+1) (rC p n c s1)=wz at*
      exact zk (v:=.agg (rC p n c s1)) (by simp[results,results87,asAddr,qf HZ.out]) rfl ⟨(by rw[HL2.out,show qP s1=0 by rw[HF.out];simp[HCL.out,HS.out,H7.out,of_decide_eq_false HO2.out]];rw[JQ HST.out]),HE.out⟩
    ·have e7:(s1.tx.k !=7)=true:=by simpa using k7
     have d7:decide (s1.tx.k=7)=false:=by simpa using k7
     have H7:=zd k7
     clear k7
     go_wp2_with fail
     go_quiet (fail)
     have HQ4:=zd (show RAt (w3.drewN nq) w.heap.size p n c s1 from HQ3.out)
     have HR4:=zd (show RAt (w3.drewN nq) (w.heap.size+1) none 0 0 qZ from HR3.out)
     have HB4:=zd (show Below w.heap.size w (w3.drewN nq)from below_drewN HB3.out nq)
     generalize w3.drewN nq=w4 at*
     clear x1 hlt HQ3 HR3 HB3
     have x21:w4.cell? ⟨w.heap.size,21,none⟩=some (.int .i64 s1.st):=HQ4.out.cell 21
     have f21:w4.frozen? ⟨w.heap.size,21,none⟩=false:=HQ4.out.frz 21
     have HQ9:=zd (HQ4.out.set (i:=21) (v:=.int .i64 1) (s':={s1 with st:=1}) (p':=p) (n':=n) (c':=c) rfl)
     have HR9:=zd (HR4.out.far (g:=w.heap.size) (i:=21) (.int .i64 1) (Nat.succ_ne_self _))
     have HB9:=zd (HB4.out.setCell (p:=⟨w.heap.size,21,none⟩) (zg _) (.int .i64 1))
     go_upto_region 20 with fail
     generalize w4.setCell ⟨w.heap.size,21,none⟩ (.int .i64 1)=w9 at*
     clear x21 f21
     have i1:=HQ9.out.is
     have k1:=HQ9.out.cells
     have i2:=HR9.out.is
     have hlt:=HR9.out.lt
     go_wp2_with fail
     have hz:=HR9.out.row p n c {s1 with st:=1}
     have hb:=below_setRow HB9.out (zv w.heap.size) (rC p n c {s1 with st:=1})
     have HZ:=zd hz
     have HE:=zd hb
     clear hz hb
     generalize w9.setRow (w.heap.size+1) (rC p n c {s1 with st:=1})=wz at*
     exact zk (v:=.agg (rC p n c {s1 with st:=1})) (by simp[results,results87,asAddr,qf HZ.out]) rfl ⟨(by rw[HL2.out,show qP s1=1 by rw[HF.out];simp[K5.out,K4.out,K6.out,HCL.out,HS.out,H7.out]]),HE.out⟩
   ·have hs1:(s1.S.size==0)=false:=by simpa using hS
    have hs2:decide (s1.S.size=0)=false:=by simpa using hS
    have hs3:(((s1.S.size:Nat):Int)==0)=false:=by simp[hS]
    have HS:=zd hS
    clear hS
    go_upto_region 20 with fail
    clear hs1 hs2 hs3
    have i1:=HQ3.out.is
    have k1:=HQ3.out.cells
    have i2:=HR3.out.is
    have hlt:=HR3.out.lt
    go_wp2_with fail
    have hz:=HR3.out.row p n c s1
    have hb:=below_setRow HB3.out (zv w.heap.size) (rC p n c s1)
    have HZ:=zd hz
    have HE:=zd hb
    clear hz hb
    generalize w3.setRow (w.heap.size+1) (rC p n c s1)=wz at*
    exact zk (v:=.agg (rC p n c s1)) (by simp[results,results87,asAddr,qf HZ.out]) rfl ⟨(by rw[HL2.out,show qP s1=0 by rw[HF.out];simp[K5.out,K4.out,K6.out,HCL.out,HS.out]];rw[JQ HST.out]),HE.out⟩
 ·have HL2:=zd (HL.out.symm.trans (if_pos hst))
  have e1:(s1.st !=0)=true:=by simpa using hst
  have e2:decide (s1.st=0)=false:=by simpa using hst
  have x21:w1.cell? ⟨w.heap.size,21,none⟩=some (.int .i64 s1.st):=HQ.out.cell 21
  clear hst HL
  go_upto_region 5 with fail
  clear x21 e1 e2
  have i1:=HQ.out.is
  have k1:=HQ.out.cells
  have i2:=HR.out.is
  have hlt:=HR.out.lt
  go_wp2_with fail
  have hz:=HR.out.row p n c s1
  have hb:=below_setRow HB.out (zv w.heap.size) (rC p n c s1)
  have HZ:=zd hz
  have HE:=zd hb
  clear hz hb
  generalize w1.setRow (w.heap.size+1) (rC p n c s1)=wz at*
  exact zk (v:=.agg (rC p n c s1)) (by simp[results,results87,asAddr,qf HZ.out]) rfl ⟨(by rw[HL2.out]),HE.out⟩
end
section
open Go.RowKit
attribute [local go_sem ↓] Zr Ze
attribute [local go_sem] Zf qN X7
variable {w w':World} {q n c:Nat} {p:Option Addr} {s s':St}
theorem Ed (p:Option Addr) (n c:Nat) (s:St) (now:Int) (w:World) (hc:¬s.clock<gb.qe now) {s1:St} (hs1:qL s now=s1) {L:St} (hL:(if s1.st≠0 then s1 else{s1 with st:=qP s1})=L):Calls zf 87 #[.agg (rC p n c s),.int .i64 now] w λ e w'=>e=.returned (.agg (rC p n c L))∧Below w.heap.size w w':=by
 have HNR:=zd (λ W=>gb.Zq now W)
 obtain⟨W0,hW0,hq,hr,hb⟩:=XO p n c s w
 have x16:W0.cell? ⟨w.heap.size,16,none⟩=some (.int .i64 s.clock):=hq.cell 16
 have f16:W0.frozen? ⟨w.heap.size,16,none⟩=false:=hq.frz 16
 have hlt:=hr.lt
 have hd:decide (s.clock<gb.qe now)=false:=by simpa using hc
 have he:s=s1:=by rw[←hs1];unfold qL qM;rw[if_neg hc]
 have hq1:RAt W0 w.heap.size p n c s1:=by rw[←he];exact hq
 clear he
 have HB:=zd hb
 have HQ:=zd hq1
 have HR:=zd hr
 have HL:=zd hL
 clear hq hq1 hr hb hs1 hL
 go_enter func87,ntmps87
 go_wp2_with fail
 clear hW0
 refine(HNR.out _).mono ?_
 rintro e w0 ⟨rfl,rfl⟩
 go_upto_region 4 with fail
 clear hd
 generalize W0=w1 at*
 clear x16 f16 hlt HNR hc
 by_cases hst:s1.st=0
 ·have HL2:=zd (HL.out.symm.trans (if_neg (λ h:s1.st≠0=>h hst)))
  have HST:=zd hst
  have HA:=zd (λ W=>show Calls zf 112 #[.int .i64 s1.began,.int .i64 s1.tx.a] W λ e w'=>e=.returned (.int .i64 (XC s1.began s1.tx.a))∧W=w' from gb.Jz s1.began s1.tx.a W)
  have x21:w1.cell? ⟨w.heap.size,21,none⟩=some (.int .i64 s1.st):=HQ.out.cell 21
  rw[hst]at x21
  have x16:w1.cell? ⟨w.heap.size,16,none⟩=some (.int .i64 s1.clock):=HQ.out.cell 16
  have x15:w1.cell? ⟨w.heap.size,15,none⟩=some (.int .i64 s1.began):=HQ.out.cell 15
  have x4:w1.cell? ⟨w.heap.size,4,none⟩=some (.int .i64 s1.tx.a):=HQ.out.cell 4
  have hlt:=HR.out.lt
  obtain⟨o,ho⟩:∃o,decide (XC s1.began s1.tx.a≤s1.clock)=o:=⟨_,rfl⟩
  have HO:=zd ho
  clear hst
  go_wp2_with fail
  go_quiet ((go_at_call 112;exact gc.XL (HA.out _)))
  have HQ2:=zd (show RAt (w1.drewN nq) w.heap.size p n c s1 from HQ.out)
  have HR2:=zd (show RAt (w1.drewN nq) (w.heap.size+1) none 0 0 qZ from HR.out)
  have HB2:=zd (show Below w.heap.size w (w1.drewN nq)from below_drewN HB.out nq)
  generalize w1.drewN nq=w2 at*
  clear x21 x16 x15 x4 hlt HQ HR HB HL HA ho
  have hF:qP s1=if s1.tx.k=5∧o=true then(2:Int)else if s1.tx.k=4 then(if o=true then 1 else 0)else if s1.tx.k=6∧s1.tx.a≤s1.passed then 1 else if s1.closed=true∧s1.S.size=0∧(s1.tx.k≠7∨XC s1.at' s1.tx.a≤s1.clock)then 1 else 0:=by
   rw[←HO.out]
   unfold qP
   simp only[decide_eq_true_eq]
  have HF:=zd hF
  clear hF HO
  by_cases k5:s1.tx.k=5
  ·have KL:=zd k5
   have X1:=k5
   have x1:w2.cell? ⟨w.heap.size,1,none⟩=some (.int .i64 s1.tx.k):=HQ2.out.cell 1
   rw[k5]at x1
   clear k5 X1
   have X1:=True.intro
   cases o with
   |true=>
    have x21:w2.cell? ⟨w.heap.size,21,none⟩=some (.int .i64 s1.st):=HQ2.out.cell 21
    have f21:w2.frozen? ⟨w.heap.size,21,none⟩=false:=HQ2.out.frz 21
    have HQ9:=zd (HQ2.out.set (i:=21) (v:=.int .i64 2) (s':={s1 with st:=2}) (p':=p) (n':=n) (c':=c) rfl)
    have HR9:=zd (HR2.out.far (g:=w.heap.size) (i:=21) (.int .i64 2) (Nat.succ_ne_self _))
    have HB9:=zd (HB2.out.setCell (p:=⟨w.heap.size,21,none⟩) (zg _) (.int .i64 2))
    go_upto_region 9 with fail
    generalize w2.setCell ⟨w.heap.size,21,none⟩ (.int .i64 2)=w9 at*
    clear x21 f21 x1
    have i1:=HQ9.out.is
    have k1:=HQ9.out.cells
    have i2:=HR9.out.is
    have hlt:=HR9.out.lt
    go_wp2_with fail
    have hz:=HR9.out.row p n c {s1 with st:=2}
    have hb:=below_setRow HB9.out (zv w.heap.size) (rC p n c {s1 with st:=2})
    have HZ:=zd hz
    have HE:=zd hb
    clear hz hb
    generalize w9.setRow (w.heap.size+1) (rC p n c {s1 with st:=2})=wz at*
    exact zk (v:=.agg (rC p n c {s1 with st:=2})) (by simp[results,results87,asAddr,qf HZ.out]) rfl ⟨(by rw[HL2.out,show qP s1=2 by rw[HF.out];simp[KL.out]]),HE.out⟩
   |false=>
    cases hcl:s1.closed with
    |false=>
     have x19:w2.cell? ⟨w.heap.size,19,none⟩=some (.bool s1.closed):=HQ2.out.cell 19
     rw[hcl]at x19
     have HCL:=zd hcl
     clear hcl
     go_upto_region 20 with fail
     clear x19
     have i1:=HQ2.out.is
     have k1:=HQ2.out.cells
     have i2:=HR2.out.is
     have hlt:=HR2.out.lt
     go_wp2_with fail
     have hz:=HR2.out.row p n c s1
     have hb:=below_setRow HB2.out (zv w.heap.size) (rC p n c s1)
     have HZ:=zd hz
     have HE:=zd hb
     clear hz hb
     generalize w2.setRow (w.heap.size+1) (rC p n c s1)=wz at*
     exact zk (v:=.agg (rC p n c s1)) (by simp[results,results87,asAddr,qf HZ.out]) rfl ⟨(by rw[HL2.out,show qP s1=0 by rw[HF.out];simp[KL.out,HCL.out]];rw[JQ HST.out]),HE.out⟩
    |true=>
     have x19:w2.cell? ⟨w.heap.size,19,none⟩=some (.bool s1.closed):=HQ2.out.cell 19
     rw[hcl]at x19
     have HCL:=zd hcl
     have HHD:=zd (λ W=>Z7 p n c s1 W)
     clear hcl
     have i1:=HQ2.out.is
     have k1:=HQ2.out.cells
     have hlt:=HR2.out.lt
     go_wp2_with fail
     refine(HHD.out _).mono ?_
     rintro e w3 ⟨rfl,hb3⟩
     have HQ3:=zd (HQ2.out.on hb3)
     have HR3:=zd (HR2.out.on hb3)
     have HB3:=zd (gb.seqB HB2.out hb3)
     clear hb3 x19 i1 k1 hlt HQ2 HR2 HB2 HHD X1
     by_cases hS:s1.S.size=0
     ·have HS:=zd hS
      have h0:((s1.S.size:Nat):Int)=0:=by omega
      rw[h0]
      clear hS h0
      have x1:w3.cell? ⟨w.heap.size,1,none⟩=some (.int .i64 s1.tx.k):=HQ3.out.cell 1
      have hlt:=HR3.out.lt
      rw[KL.out]at x1
      go_wp2_with fail
      go_quiet (fail)
      have HQ4:=zd (show RAt (w3.drewN nq) w.heap.size p n c s1 from HQ3.out)
      have HR4:=zd (show RAt (w3.drewN nq) (w.heap.size+1) none 0 0 qZ from HR3.out)
      have HB4:=zd (show Below w.heap.size w (w3.drewN nq)from below_drewN HB3.out nq)
      generalize w3.drewN nq=w4 at*
      clear x1 hlt HQ3 HR3 HB3
      have x21:w4.cell? ⟨w.heap.size,21,none⟩=some (.int .i64 s1.st):=HQ4.out.cell 21
      have f21:w4.frozen? ⟨w.heap.size,21,none⟩=false:=HQ4.out.frz 21
      have HQ9:=zd (HQ4.out.set (i:=21) (v:=.int .i64 1) (s':={s1 with st:=1}) (p':=p) (n':=n) (c':=c) rfl)
      have HR9:=zd (HR4.out.far (g:=w.heap.size) (i:=21) (.int .i64 1) (Nat.succ_ne_self _))
      have HB9:=zd (HB4.out.setCell (p:=⟨w.heap.size,21,none⟩) (zg _) (.int .i64 1))
      go_upto_region 20 with fail
      generalize w4.setCell ⟨w.heap.size,21,none⟩ (.int .i64 1)=w9 at*
      clear x21 f21
      have i1:=HQ9.out.is
      have k1:=HQ9.out.cells
      have i2:=HR9.out.is
      have hlt:=HR9.out.lt
      go_wp2_with fail
      have hz:=HR9.out.row p n c {s1 with st:=1}
      have hb:=below_setRow HB9.out (zv w.heap.size) (rC p n c {s1 with st:=1})
      have HZ:=zd hz
      have HE:=zd hb
      clear hz hb
      generalize w9.setRow (w.heap.size+1) (rC p n c {s1 with st:=1})=wz at*
      exact zk (v:=.agg (rC p n c {s1 with st:=1})) (by simp[results,results87,asAddr,qf HZ.out]) rfl ⟨(by rw[HL2.out,show qP s1=1 by rw[HF.out];simp[KL.out,HCL.out,HS.out]]),HE.out⟩
     ·have hs1:(s1.S.size==0)=false:=by simpa using hS
      have hs2:decide (s1.S.size=0)=false:=by simpa using hS
      have hs3:(((s1.S.size:Nat):Int)==0)=false:=by simp[hS]
      have HS:=zd hS
      clear hS
      go_upto_region 20 with fail
      clear hs1 hs2 hs3
      have i1:=HQ3.out.is
      have k1:=HQ3.out.cells
      have i2:=HR3.out.is
      have hlt:=HR3.out.lt
      go_wp2_with fail
      have hz:=HR3.out.row p n c s1
      have hb:=below_setRow HB3.out (zv w.heap.size) (rC p n c s1)
      have HZ:=zd hz
      have HE:=zd hb
      clear hz hb
      generalize w3.setRow (w.heap.size+1) (rC p n c s1)=wz at*
      exact zk (v:=.agg (rC p n c s1)) (by simp[results,results87,asAddr,qf HZ.out]) rfl ⟨(by rw[HL2.out,show qP s1=0 by rw[HF.out];simp[KL.out,HCL.out,HS.out]];rw[JQ HST.out]),HE.out⟩
  by_cases k4:s1.tx.k=4
  ·have KL:=zd k4
   have x1:w2.cell? ⟨w.heap.size,1,none⟩=some (.int .i64 s1.tx.k):=HQ2.out.cell 1
   rw[k4]at x1
   clear k4
   cases o with
   |true=>
    have x21:w2.cell? ⟨w.heap.size,21,none⟩=some (.int .i64 s1.st):=HQ2.out.cell 21
    have f21:w2.frozen? ⟨w.heap.size,21,none⟩=false:=HQ2.out.frz 21
    have HQ9:=zd (HQ2.out.set (i:=21) (v:=.int .i64 1) (s':={s1 with st:=1}) (p':=p) (n':=n) (c':=c) rfl)
    have HR9:=zd (HR2.out.far (g:=w.heap.size) (i:=21) (.int .i64 1) (Nat.succ_ne_self _))
    have HB9:=zd (HB2.out.setCell (p:=⟨w.heap.size,21,none⟩) (zg _) (.int .i64 1))
    go_upto_region 13 with fail
    generalize w2.setCell ⟨w.heap.size,21,none⟩ (.int .i64 1)=w9 at*
    clear x21 f21 x1
    have i1:=HQ9.out.is
    have k1:=HQ9.out.cells
    have i2:=HR9.out.is
    have hlt:=HR9.out.lt
    go_wp2_with fail
    have hz:=HR9.out.row p n c {s1 with st:=1}
    have hb:=below_setRow HB9.out (zv w.heap.size) (rC p n c {s1 with st:=1})
    have HZ:=zd hz
    have HE:=zd hb
    clear hz hb
    generalize w9.setRow (w.heap.size+1) (rC p n c {s1 with st:=1})=wz at*
    exact zk (v:=.agg (rC p n c {s1 with st:=1})) (by simp[results,results87,asAddr,qf HZ.out]) rfl ⟨(by rw[HL2.out,show qP s1=1 by rw[HF.out];simp[KL.out]]),HE.out⟩
   |false=>
    go_upto_region 13 with fail
    clear x1
    have i1:=HQ2.out.is
    have k1:=HQ2.out.cells
    have i2:=HR2.out.is
    have hlt:=HR2.out.lt
    go_wp2_with fail
    have hz:=HR2.out.row p n c s1
    have hb:=below_setRow HB2.out (zv w.heap.size) (rC p n c s1)
    have HZ:=zd hz
    have HE:=zd hb
    clear hz hb
    generalize w2.setRow (w.heap.size+1) (rC p n c s1)=wz at*
    exact zk (v:=.agg (rC p n c s1)) (by simp[results,results87,asAddr,qf HZ.out]) rfl ⟨(by rw[HL2.out,show qP s1=0 by rw[HF.out];simp[KL.out]];rw[JQ HST.out]),HE.out⟩
  by_cases k6:s1.tx.k=6
  ·have KL:=zd k6
   have X1:=True.intro
   have x1:w2.cell? ⟨w.heap.size,1,none⟩=some (.int .i64 s1.tx.k):=HQ2.out.cell 1
   rw[k6]at x1
   have x18:w2.cell? ⟨w.heap.size,18,none⟩=some (.int .i64 s1.passed):=HQ2.out.cell 18
   have x4:w2.cell? ⟨w.heap.size,4,none⟩=some (.int .i64 s1.tx.a):=HQ2.out.cell 4
   clear k6
   by_cases hp:s1.tx.a≤s1.passed
   ·have hd:decide (s1.tx.a≤s1.passed)=true:=by simpa using hp
    have HP:=zd hp
    clear hp
    have x21:w2.cell? ⟨w.heap.size,21,none⟩=some (.int .i64 s1.st):=HQ2.out.cell 21
    have f21:w2.frozen? ⟨w.heap.size,21,none⟩=false:=HQ2.out.frz 21
    have HQ9:=zd (HQ2.out.set (i:=21) (v:=.int .i64 1) (s':={s1 with st:=1}) (p':=p) (n':=n) (c':=c) rfl)
    have HR9:=zd (HR2.out.far (g:=w.heap.size) (i:=21) (.int .i64 1) (Nat.succ_ne_self _))
    have HB9:=zd (HB2.out.setCell (p:=⟨w.heap.size,21,none⟩) (zg _) (.int .i64 1))
    go_upto_region 16 with fail
    generalize w2.setCell ⟨w.heap.size,21,none⟩ (.int .i64 1)=w9 at*
    clear x21 f21 x1 x18 x4 hd
    have i1:=HQ9.out.is
    have k1:=HQ9.out.cells
    have i2:=HR9.out.is
    have hlt:=HR9.out.lt
    go_wp2_with fail
    have hz:=HR9.out.row p n c {s1 with st:=1}
    have hb:=below_setRow HB9.out (zv w.heap.size) (rC p n c {s1 with st:=1})
    have HZ:=zd hz
    have HE:=zd hb
    clear hz hb
    generalize w9.setRow (w.heap.size+1) (rC p n c {s1 with st:=1})=wz at*
    exact zk (v:=.agg (rC p n c {s1 with st:=1})) (by simp[results,results87,asAddr,qf HZ.out]) rfl ⟨(by rw[HL2.out,show qP s1=1 by rw[HF.out];simp[KL.out,HP.out]]),HE.out⟩
   ·have hd:decide (s1.tx.a≤s1.passed)=false:=by simpa using hp
    have HP:=zd hp
    clear hp
    cases hcl:s1.closed with
    |false=>
     have x19:w2.cell? ⟨w.heap.size,19,none⟩=some (.bool s1.closed):=HQ2.out.cell 19
     rw[hcl]at x19
     have HCL:=zd hcl
     clear hcl
     go_upto_region 20 with fail
     clear x19
     have i1:=HQ2.out.is
     have k1:=HQ2.out.cells
     have i2:=HR2.out.is
     have hlt:=HR2.out.lt
     go_wp2_with fail
     have hz:=HR2.out.row p n c s1
     have hb:=below_setRow HB2.out (zv w.heap.size) (rC p n c s1)
     have HZ:=zd hz
     have HE:=zd hb
     clear hz hb
     generalize w2.setRow (w.heap.size+1) (rC p n c s1)=wz at*
     exact zk (v:=.agg (rC p n c s1)) (by simp[results,results87,asAddr,qf HZ.out]) rfl ⟨(by rw[HL2.out,show qP s1=0 by rw[HF.out];simp[KL.out,HP.out,HCL.out]];rw[JQ HST.out]),HE.out⟩
    |true=>
     have x19:w2.cell? ⟨w.heap.size,19,none⟩=some (.bool s1.closed):=HQ2.out.cell 19
     rw[hcl]at x19
     have HCL:=zd hcl
     have HHD:=zd (λ W=>Z7 p n c s1 W)
     clear hcl
     have i1:=HQ2.out.is
     have k1:=HQ2.out.cells
     have hlt:=HR2.out.lt
     go_wp2_with fail
     refine(HHD.out _).mono ?_
     rintro e w3 ⟨rfl,hb3⟩
     have HQ3:=zd (HQ2.out.on hb3)
     have HR3:=zd (HR2.out.on hb3)
     have HB3:=zd (gb.seqB HB2.out hb3)
     clear hb3 x19 i1 k1 hlt HQ2 HR2 HB2 HHD X1
     by_cases hS:s1.S.size=0
     ·have HS:=zd hS
      have h0:((s1.S.size:Nat):Int)=0:=by omega
      rw[h0]
      clear hS h0
      have x1:w3.cell? ⟨w.heap.size,1,none⟩=some (.int .i64 s1.tx.k):=HQ3.out.cell 1
      have hlt:=HR3.out.lt
      rw[KL.out]at x1
      go_wp2_with fail
      go_quiet (fail)
      have HQ4:=zd (show RAt (w3.drewN nq) w.heap.size p n c s1 from HQ3.out)
      have HR4:=zd (show RAt (w3.drewN nq) (w.heap.size+1) none 0 0 qZ from HR3.out)
      have HB4:=zd (show Below w.heap.size w (w3.drewN nq)from below_drewN HB3.out nq)
      generalize w3.drewN nq=w4 at*
      clear x1 hlt HQ3 HR3 HB3
      have x21:w4.cell? ⟨w.heap.size,21,none⟩=some (.int .i64 s1.st):=HQ4.out.cell 21
      have f21:w4.frozen? ⟨w.heap.size,21,none⟩=false:=HQ4.out.frz 21
      have HQ9:=zd (HQ4.out.set (i:=21) (v:=.int .i64 1) (s':={s1 with st:=1}) (p':=p) (n':=n) (c':=c) rfl)
      have HR9:=zd (HR4.out.far (g:=w.heap.size) (i:=21) (.int .i64 1) (Nat.succ_ne_self _))
      have HB9:=zd (HB4.out.setCell (p:=⟨w.heap.size,21,none⟩) (zg _) (.int .i64 1))
      go_upto_region 20 with fail
      generalize w4.setCell ⟨w.heap.size,21,none⟩ (.int .i64 1)=w9 at*
      clear x21 f21
      have i1:=HQ9.out.is
      have k1:=HQ9.out.cells
      have i2:=HR9.out.is
      have hlt:=HR9.out.lt
      go_wp2_with fail
      have hz:=HR9.out.row p n c {s1 with st:=1}
      have hb:=below_setRow HB9.out (zv w.heap.size) (rC p n c {s1 with st:=1})
      have HZ:=zd hz
      have HE:=zd hb
      clear hz hb
      generalize w9.setRow (w.heap.size+1) (rC p n c {s1 with st:=1})=wz at*
      exact zk (v:=.agg (rC p n c {s1 with st:=1})) (by simp[results,results87,asAddr,qf HZ.out]) rfl ⟨(by rw[HL2.out,show qP s1=1 by rw[HF.out];simp[KL.out,HCL.out,HS.out]]),HE.out⟩
     ·have hs1:(s1.S.size==0)=false:=by simpa using hS
      have hs2:decide (s1.S.size=0)=false:=by simpa using hS
      have hs3:(((s1.S.size:Nat):Int)==0)=false:=by simp[hS]
      have HS:=zd hS
      clear hS
      go_upto_region 20 with fail
      clear hs1 hs2 hs3
      have i1:=HQ3.out.is
      have k1:=HQ3.out.cells
      have i2:=HR3.out.is
      have hlt:=HR3.out.lt
      go_wp2_with fail
      have hz:=HR3.out.row p n c s1
      have hb:=below_setRow HB3.out (zv w.heap.size) (rC p n c s1)
      have HZ:=zd hz
      have HE:=zd hb
      clear hz hb
      generalize w3.setRow (w.heap.size+1) (rC p n c s1)=wz at*
      exact zk (v:=.agg (rC p n c s1)) (by simp[results,results87,asAddr,qf HZ.out]) rfl ⟨(by rw[HL2.out,show qP s1=0 by rw[HF.out];simp[KL.out,HP.out,HCL.out,HS.out]];rw[JQ HST.out]),HE.out⟩
  have e5:(s1.tx.k==5)=false:=by simpa using k5
  have e4:(s1.tx.k==4)=false:=by simpa using k4
  have e6:(s1.tx.k==6)=false:=by simpa using k6
  have d5:decide (s1.tx.k=5)=false:=by simpa using k5
  have d4:decide (s1.tx.k=4)=false:=by simpa using k4
  have d6:decide (s1.tx.k=6)=false:=by simpa using k6
  have x1:w2.cell? ⟨w.heap.size,1,none⟩=some (.int .i64 s1.tx.k):=HQ2.out.cell 1
  have X1:=True.intro
  have K5:=zd k5
  have K4:=zd k4
  have K6:=zd k6
  clear k5 k4 k6
  cases hcl:s1.closed with
  |false=>
   have x19:w2.cell? ⟨w.heap.size,19,none⟩=some (.bool s1.closed):=HQ2.out.cell 19
   rw[hcl]at x19
   have HCL:=zd hcl
   clear hcl
   go_upto_region 20 with fail
   clear x19
   have i1:=HQ2.out.is
   have k1:=HQ2.out.cells
   have i2:=HR2.out.is
   have hlt:=HR2.out.lt
   go_wp2_with fail
   have hz:=HR2.out.row p n c s1
   have hb:=below_setRow HB2.out (zv w.heap.size) (rC p n c s1)
   have HZ:=zd hz
   have HE:=zd hb
   clear hz hb
   generalize w2.setRow (w.heap.size+1) (rC p n c s1)=wz at*
   exact zk (v:=.agg (rC p n c s1)) (by simp[results,results87,asAddr,qf HZ.out]) rfl ⟨(by rw[HL2.out,show qP s1=0 by rw[HF.out];simp[K5.out,K4.out,K6.out,HCL.out]];rw[JQ HST.out]),HE.out⟩
  |true=>
   have x19:w2.cell? ⟨w.heap.size,19,none⟩=some (.bool s1.closed):=HQ2.out.cell 19
   rw[hcl]at x19
   have HCL:=zd hcl
   have HHD:=zd (λ W=>Z7 p n c s1 W)
   clear hcl
   have i1:=HQ2.out.is
   have k1:=HQ2.out.cells
   have hlt:=HR2.out.lt
   go_wp2_with fail
   refine(HHD.out _).mono ?_
   rintro e w3 ⟨rfl,hb3⟩
   have HQ3:=zd (HQ2.out.on hb3)
   have HR3:=zd (HR2.out.on hb3)
   have HB3:=zd (gb.seqB HB2.out hb3)
   clear hb3 x19 i1 k1 hlt HQ2 HR2 HB2 HHD X1
   by_cases hS:s1.S.size=0
   ·have HS:=zd hS
    have h0:((s1.S.size:Nat):Int)=0:=by omega
    rw[h0]
    clear hS h0
    have x1:w3.cell? ⟨w.heap.size,1,none⟩=some (.int .i64 s1.tx.k):=HQ3.out.cell 1
    have hlt:=HR3.out.lt
    by_cases k7:s1.tx.k=7
    ·have H7:=zd k7
     rw[k7]at x1
     have x16:w3.cell? ⟨w.heap.size,16,none⟩=some (.int .i64 s1.clock):=HQ3.out.cell 16
     have x20:w3.cell? ⟨w.heap.size,20,none⟩=some (.int .i64 s1.at'):=HQ3.out.cell 20
     have x4:w3.cell? ⟨w.heap.size,4,none⟩=some (.int .i64 s1.tx.a):=HQ3.out.cell 4
     have HA2:=zd (λ W=>show Calls zf 112 #[.int .i64 s1.at',.int .i64 s1.tx.a] W λ e w'=>e=.returned (.int .i64 (XC s1.at' s1.tx.a))∧W=w' from gb.Jz s1.at' s1.tx.a W)
     obtain⟨o2,ho2⟩:∃o2,decide (XC s1.at' s1.tx.a≤s1.clock)=o2:=⟨_,rfl⟩
     have HO2:=zd ho2
     clear k7
     go_wp2_with fail
     go_quiet ((go_at_call 112;exact gc.XL (HA2.out _)))
     have HQ4:=zd (show RAt (w3.drewN nq) w.heap.size p n c s1 from HQ3.out)
     have HR4:=zd (show RAt (w3.drewN nq) (w.heap.size+1) none 0 0 qZ from HR3.out)
     have HB4:=zd (show Below w.heap.size w (w3.drewN nq)from below_drewN HB3.out nq)
     generalize w3.drewN nq=w4 at*
     clear x1 x16 x20 x4 hlt HQ3 HR3 HB3 ho2
     cases o2 with
     |true=>
      have x21:w4.cell? ⟨w.heap.size,21,none⟩=some (.int .i64 s1.st):=HQ4.out.cell 21
      have f21:w4.frozen? ⟨w.heap.size,21,none⟩=false:=HQ4.out.frz 21
      have HQ9:=zd (HQ4.out.set (i:=21) (v:=.int .i64 1) (s':={s1 with st:=1}) (p':=p) (n':=n) (c':=c) rfl)
      have HR9:=zd (HR4.out.far (g:=w.heap.size) (i:=21) (.int .i64 1) (Nat.succ_ne_self _))
      have HB9:=zd (HB4.out.setCell (p:=⟨w.heap.size,21,none⟩) (zg _) (.int .i64 1))
      go_upto_region 20 with fail
      generalize w4.setCell ⟨w.heap.size,21,none⟩ (.int .i64 1)=w9 at*
      clear x21 f21
      have i1:=HQ9.out.is
      have k1:=HQ9.out.cells
      have i2:=HR9.out.is
      have hlt:=HR9.out.lt
      go_wp2_with fail
      have hz:=HR9.out.row p n c {s1 with st:=1}
      have hb:=below_setRow HB9.out (zv w.heap.size) (rC p n c {s1 with st:=1})
      have HZ:=zd hz
      have HE:=zd hb
      clear hz hb
      generalize w9.setRow (w.heap.size+1) (rC p n c {s1 with st:=1})=wz at*
      exact zk (v:=.agg (rC p n c {s1 with st:=1})) (by simp[results,results87,asAddr,qf HZ.out]) rfl ⟨(by rw[HL2.out,show qP s1=1 by rw[HF.out];simp[HCL.out,HS.out,H7.out,of_decide_eq_true HO2.out]]),HE.out⟩
     |false=>
      go_upto_region 20 with fail
      have i1:=HQ4.out.is
      have k1:=HQ4.out.cells
      have i2:=HR4.out.is
      have hlt:=HR4.out.lt
      go_wp2_with fail
      have hz:=HR4.out.row p n c s1
      have hb:=below_setRow HB4.out (zv w.heap.size) (rC p n c s1)
      have HZ:=zd hz
      have HE:=zd hb
      clear hz hb
      generalize w4.setRow (w.heap.size+1) (rC p n c s1)=wz at*
      exact zk (v:=.agg (rC p n c s1)) (by simp[results,results87,asAddr,qf HZ.out]) rfl ⟨(by rw[HL2.out,show qP s1=0 by rw[HF.out];simp[HCL.out,HS.out,H7.out,of_decide_eq_false HO2.out]];rw[JQ HST.out]),HE.out⟩
    ·have e7:(s1.tx.k !=7)=true:=by simpa using k7
     have d7:decide (s1.tx.k=7)=false:=by simpa using k7
     have H7:=zd k7
     clear k7
     go_wp2_with fail
     go_quiet (fail)
     have HQ4:=zd (show RAt (w3.drewN nq) w.heap.size p n c s1 from HQ3.out)
     have HR4:=zd (show RAt (w3.drewN nq) (w.heap.size+1) none 0 0 qZ from HR3.out)
     have HB4:=zd (show Below w.heap.size w (w3.drewN nq)from below_drewN HB3.out nq)
     generalize w3.drewN nq=w4 at*
     clear x1 hlt HQ3 HR3 HB3
     have x21:w4.cell? ⟨w.heap.size,21,none⟩=some (.int .i64 s1.st):=HQ4.out.cell 21
     have f21:w4.frozen? ⟨w.heap.size,21,none⟩=false:=HQ4.out.frz 21
     have HQ9:=zd (HQ4.out.set (i:=21) (v:=.int .i64 1) (s':={s1 with st:=1}) (p':=p) (n':=n) (c':=c) rfl)
     have HR9:=zd (HR4.out.far (g:=w.heap.size) (i:=21) (.int .i64 1) (Nat.succ_ne_self _))
     have HB9:=zd (HB4.out.setCell (p:=⟨w.heap.size,21,none⟩) (zg _) (.int .i64 1))
     go_upto_region 20 with fail
     generalize w4.setCell ⟨w.heap.size,21,none⟩ (.int .i64 1)=w9 at*
     clear x21 f21
     have i1:=HQ9.out.is
     have k1:=HQ9.out.cells
     have i2:=HR9.out.is
     have hlt:=HR9.out.lt
     go_wp2_with fail
     have hz:=HR9.out.row p n c {s1 with st:=1}
     have hb:=below_setRow HB9.out (zv w.heap.size) (rC p n c {s1 with st:=1})
     have HZ:=zd hz
     have HE:=zd hb
     clear hz hb
     generalize w9.setRow (w.heap.size+1) (rC p n c {s1 with st:=1})=wz at*
     exact zk (v:=.agg (rC p n c {s1 with st:=1})) (by simp[results,results87,asAddr,qf HZ.out]) rfl ⟨(by rw[HL2.out,show qP s1=1 by rw[HF.out];simp[K5.out,K4.out,K6.out,HCL.out,HS.out,H7.out]]),HE.out⟩
   ·have hs1:(s1.S.size==0)=false:=by simpa using hS
    have hs2:decide (s1.S.size=0)=false:=by simpa using hS
    have hs3:(((s1.S.size:Nat):Int)==0)=false:=by simp[hS]
    have HS:=zd hS
    clear hS
    go_upto_region 20 with fail
    clear hs1 hs2 hs3
    have i1:=HQ3.out.is
    have k1:=HQ3.out.cells
    have i2:=HR3.out.is
    have hlt:=HR3.out.lt
    go_wp2_with fail
    have hz:=HR3.out.row p n c s1
    have hb:=below_setRow HB3.out (zv w.heap.size) (rC p n c s1)
    have HZ:=zd hz
    have HE:=zd hb
    clear hz hb
    generalize w3.setRow (w.heap.size+1) (rC p n c s1)=wz at*
    exact zk (v:=.agg (rC p n c s1)) (by simp[results,results87,asAddr,qf HZ.out]) rfl ⟨(by rw[HL2.out,show qP s1=0 by rw[HF.out];simp[K5.out,K4.out,K6.out,HCL.out,HS.out]];rw[JQ HST.out]),HE.out⟩
 ·have HL2:=zd (HL.out.symm.trans (if_pos hst))
  have e1:(s1.st !=0)=true:=by simpa using hst
  have e2:decide (s1.st=0)=false:=by simpa using hst
  have x21:w1.cell? ⟨w.heap.size,21,none⟩=some (.int .i64 s1.st):=HQ.out.cell 21
  clear hst HL
  go_upto_region 5 with fail
  clear x21 e1 e2
  have i1:=HQ.out.is
  have k1:=HQ.out.cells
  have i2:=HR.out.is
  have hlt:=HR.out.lt
  go_wp2_with fail
  have hz:=HR.out.row p n c s1
  have hb:=below_setRow HB.out (zv w.heap.size) (rC p n c s1)
  have HZ:=zd hz
  have HE:=zd hb
  clear hz hb
  generalize w1.setRow (w.heap.size+1) (rC p n c s1)=wz at*
  exact zk (v:=.agg (rC p n c s1)) (by simp[results,results87,asAddr,qf HZ.out]) rfl ⟨(by rw[HL2.out]),HE.out⟩
theorem Z6 (p:Option Addr) (n c:Nat) (s:St) (now:Int) (w:World):Calls zf 87 #[.agg (rC p n c s),.int .i64 now] w λ e w'=>e=.returned (.agg (rC p n c (qc s now)))∧Below w.heap.size w w':=by
 by_cases hc:s.clock<gb.qe now
 ·exact Ec p n c s now w hc rfl (NF s now)
 ·exact Ed p n c s now w hc rfl (NF s now)
end
section
open Go.RowKit
attribute [local go_sem ↓] Zr Ze
attribute [local go_sem] Zf qN X7
variable {w w':World} {q n c:Nat} {p:Option Addr} {s s':St}
theorem ZR {xs:List Int} (h:gc.qQ w p n c xs) (hk:∀(b:Nat) (cs:Array Value) (fr:Nat×Nat),w.heap[b]?=some (Obj.cells cs 3 fr)→w'.heap[b]?=w.heap[b]?):gc.qQ w' p n c xs:=by
 obtain⟨h1,h2,h3,h4,h5,h6⟩:=h
 refine⟨h1,h2,h3,?_,h5,λ hn=>?_⟩
 ·rcases Nat.eq_zero_or_pos n with h0|h0
  ·subst h0
   intro hn
   exact absurd hn (Nat.lt_irrefl 0)
  ·obtain⟨a,cs,fr,e,hh⟩:=h6 h0
   intro hn
   obtain⟨b,o,e2,hc⟩:=h4 hn
   refine⟨b,o,e2,λ i hi=>?_⟩
   rw[←hc i hi]
   rw[e2]at e
   injection e with e
   subst e
   simp only[World.cell?]
   rw[hk _ _ _ hh]
 ·obtain⟨a,cs,fr,e,hh⟩:=h6 hn
  exact⟨a,cs,fr,e,(hk _ _ _ hh).trans hh⟩
theorem RAt.Jd (h:RAt w q p n c s) {b:Nat} {cs:Array Value} {fr:Nat×Nat} (hb:w.heap[b]?=some (.cells cs 3 fr)):b≠q:=λ e=>by
 rw[e]at hb
 unfold RAt at h
 rw[h]at hb
 injection hb with hb
 injection hb with _ hb
 simp at hb
theorem YJ {xs:List Int} {p':Option Addr} {n' c':Nat} (h:gc.qQ w p n c xs) (hq:RAt w q p' n' c' s) (cs:Array Value):gc.qQ (w.setRow q cs) p n c xs:=ZR h λ _ _ _ hb=>setRow_other w q _ cs (hq.Jd hb)
theorem VD {xs:List Int} {p':Option Addr} {n' c':Nat} (h:gc.qQ w p n c xs) (hq:RAt w q p' n' c' s) (i:Nat) (v:Value):gc.qQ (w.setCell ⟨q,i,none⟩ v) p n c xs:=ZR h λ _ _ _ hb=>zn w ⟨q,i,none⟩ v _ (hq.Jd hb)
def Frc (s:St) (w:World) (e:Ending) (w':World):Prop:=∃p n c,e=.returned (.agg (rC p n c s))∧gc.qQ w' p n c s.A∧Below w.heap.size w w'
theorem Yr (w:World):∃W0,w.alloc (.cells #[.string ⟨#[]⟩,.slice none 0 0,.int .i64 0] 66)=W0∧W0.heap[w.heap.size]?=some (.cells #[.string ⟨#[]⟩,.slice none 0 0,.int .i64 0] 66 (0,0))∧Below w.heap.size w W0:=⟨_,rfl,zo w _,(zh _ _).alloc (zg _) _⟩
def Vl (w:World) (g:Nat) (S:ByteArray) (p:Option Addr) (n c:Nat) (l:Int):World:=((w.setCell ⟨g,0,none⟩ (.string S)).setCell ⟨g,1,none⟩ (.slice p n c)).setCell ⟨g,2,none⟩ (.int .i64 l)
theorem YZ {g:Nat} {a b d:Value} (h:w.heap[g]?=some (.cells #[a,b,d] 66 (0,0))) (S:ByteArray) (p:Option Addr) (n c:Nat) (l:Int):(Vl w g S p n c l).heap[g]?=some (.cells #[.string S,.slice p n c,.int .i64 l] 66 (0,0)):=by
 unfold Vl
 have h1:_=some (Obj.cells #[.string S,b,d] 66 (0,0)):=gb.qo (i:=0) h (.string S)
 have h2:_=some (Obj.cells #[.string S,.slice p n c,d] 66 (0,0)):=gb.qo (i:=1) h1 (.slice p n c)
 exact gb.qo (i:=2) h2 (.int .i64 l)
theorem Yh {B:Nat} {w0:World} {g:Nat} (h:Below B w0 w) (hg:B≤g) (S:ByteArray) (p:Option Addr) (n c:Nat) (l:Int):Below B w0 (Vl w g S p n c l):=((h.setCell (p:=⟨g,0,none⟩) hg _).setCell (p:=⟨g,1,none⟩) hg _).setCell (p:=⟨g,2,none⟩) hg _
def X8 (w:World) (q:Nat) (S:ByteArray) (p:Option Addr) (n c:Nat) (l:Int):World:=((w.setCell ⟨q,11,none⟩ (.string S)).setCell ⟨q,12,none⟩ (.slice p n c)).setCell ⟨q,13,none⟩ (.int .i64 l)
theorem RAt.X8 (h:RAt w q p n c s) (S:ByteArray) (A:List Int) (p':Option Addr) (n' c':Nat) (l:Int):RAt (X8 w q S p' n' c' l) q p' n' c' {s with S:=S,A:=A,last:=l}:=
 ((h.set (i:=11) (s':={s with S:=S}) (p':=p) (n':=n) (c':=c) rfl).set (i:=12) (s':={s with S:=S}) (p':=p') (n':=n') (c':=c') rfl).set (i:=13) rfl
theorem XU {i:Nat} (hi:i≠q) (S:ByteArray) (p:Option Addr) (n c:Nat) (l:Int):(X8 w q S p n c l).heap[i]?=w.heap[i]?:=by
 unfold Go.Proofs.YtfdfgnmgpgkknaaGreat.X8
 rw[zn _ _ _ _ hi,zn _ _ _ _ hi,zn _ _ _ _ hi]
theorem J8 {B:Nat} {w0:World} (h:Below B w0 w) (hg:B≤q) (S:ByteArray) (p:Option Addr) (n c:Nat) (l:Int):Below B w0 (X8 w q S p n c l):=((h.setCell (p:=⟨q,11,none⟩) hg _).setCell (p:=⟨q,12,none⟩) hg _).setCell (p:=⟨q,13,none⟩) hg _
theorem TQ (p:Option Addr) (n c:Nat) (s:St) (w:World) (hrow:gc.qQ w p n c s.A):Calls zf 111 #[.agg (rC p n c s),.string ⟨#[]⟩] w (Frc s w):=by
 obtain⟨W0,hW0,hq,hr,hb⟩:=XO p n c s w
 have HB:=zd hb
 have HQ:=zd hq
 have HR:=zd hr
 have HROW:=zd (gc.Zc hrow hb)
 have hlt:=hr.lt
 have i1:=HQ.out.is
 have k1:=HQ.out.cells
 have i2:=HR.out.is
 clear hq hr hb hrow
 go_enter func111,ntmps111
 go_wp2_with fail
 have hz:=HR.out.row p n c s
 have hb:=below_setRow HB.out (zv w.heap.size) (rC p n c s)
 have hrw:=YJ HROW.out HR.out (rC p n c s)
 have HZ:=zd hz
 have HE:=zd hb
 have HRW:=zd hrw
 clear hz hb hrw
 generalize W0.setRow (w.heap.size+1) (rC p n c s)=wz at*
 exact zk (v:=.agg (rC p n c s)) (by simp[results,results111,asAddr,qf HZ.out]) rfl ⟨p,n,c,rfl,HRW.out,HE.out⟩
theorem Sm (p:Option Addr) (n c:Nat) (s:St) (w:World) (hrow:gc.qQ w p n c s.A) {b:ByteArray} (hk:s.tx.k≠1) (hb0:0<b.size) (hn:n≤100000) (hbs:b.size≤100000) (hS:s.S.size≤100000) {T:Int} (hT:gc.Xl s.last s.clock=T):Calls zf 111 #[.agg (rC p n c s),.string b] w (Frc {s with S:=s.S++b,A:=s.A++List.replicate b.size T,last:=T} w):=by
 have HP:=zd (λ W (hr:gc.qQ W p n c s.A)=>gc.jP s.S b p n c s.A s.last s.clock W hr hn hbs hS hb0 hT)
 have eb:=gc.UR hb0
 have e1:(s.tx.k==1)=false:=by simpa using hk
 have e2:decide (s.tx.k=1)=false:=by simpa using hk
 clear hk hb0 hn hbs hS hT
 obtain⟨W0,hW0,hq,hr,hb⟩:=XO p n c s w
 have HB:=zd hb
 have HQ:=zd hq
 have HR:=zd hr
 have HROW:=zd (gc.Zc hrow hb)
 have hlt:=hr.lt
 have x1:W0.cell? ⟨w.heap.size,1,none⟩=some (.int .i64 s.tx.k):=hq.cell 1
 have x11:W0.cell? ⟨w.heap.size,11,none⟩=some (.string s.S):=hq.cell 11
 have x12:W0.cell? ⟨w.heap.size,12,none⟩=some (.slice p n c):=hq.cell 12
 have x13:W0.cell? ⟨w.heap.size,13,none⟩=some (.int .i64 s.last):=hq.cell 13
 have x16:W0.cell? ⟨w.heap.size,16,none⟩=some (.int .i64 s.clock):=hq.cell 16
 clear hq hr hb hrow
 go_enter func111,ntmps111
 go_wp2_with fail
 clear hW0 x1 x11 x12 x13 x16 hlt eb e1 e2
 refine(HP.out _ HROW.out).mono ?_
 rintro e w1 ⟨p1,n1,c1,rfl,hrow1,hb1⟩
 obtain⟨W2,hW2,hc2,hb2⟩:=Yr w1
 have hs3:=YZ hc2 (s.S++b) p1 n1 c1 T
 have hb3:=Yh hb2 (zg _) (s.S++b) p1 n1 c1 T
 have hq3:=HQ.out.on (gb.seqB hb1 hb3)
 have HR3:=zd (HR.out.on (gb.seqB hb1 hb3))
 have HB3:=zd (gb.seqB HB.out (gb.seqB hb1 hb3))
 have HROW3:=zd (gc.Zc hrow1 hb3)
 have HC3:=zd hs3
 have HQ3:=zd hq3
 have hne:=(zy HQ.out.lt hb1.size)
 have HNE:=zd (show w1.heap.size≠w.heap.size by omega)
 have z0:W2.cell? ⟨w1.heap.size,0,none⟩=some (.string ⟨#[]⟩):=ze _ _ 0 _ _ _ hc2
 have z1:W2.cell? ⟨w1.heap.size,1,none⟩=some (.slice none 0 0):=ze _ _ 1 _ _ _ hc2
 have z2:W2.cell? ⟨w1.heap.size,2,none⟩=some (.int .i64 0):=ze _ _ 2 _ _ _ hc2
 have g0:W2.frozen? ⟨w1.heap.size,0,none⟩=false:=gb.qa hc2
 have g1:W2.frozen? ⟨w1.heap.size,1,none⟩=false:=gb.qa hc2
 have g2:W2.frozen? ⟨w1.heap.size,2,none⟩=false:=gb.qa hc2
 have hlt2:=gb.qd hc2
 clear hrow1 hb1 hc2 hs3 hb3 hq3 hb2 hne HP
 go_upto_region 9 with fail
 generalize hW3:Vl W2 w1.heap.size (s.S++b) p1 n1 c1 T=w3 at*
 unfold Vl at hW3
 rw[hW3]
 clear hW3 z0 z1 z2 g0 g1 g2 hlt2 hW2
 generalize w1.heap.size=g at*
 have y0:w3.cell? ⟨g,0,none⟩=some (.string (s.S++b)):=ze _ _ 0 _ _ _ HC3.out
 have y1:w3.cell? ⟨g,1,none⟩=some (.slice p1 n1 c1):=ze _ _ 1 _ _ _ HC3.out
 have y2:w3.cell? ⟨g,2,none⟩=some (.int .i64 T):=ze _ _ 2 _ _ _ HC3.out
 have u11:w3.cell? ⟨w.heap.size,11,none⟩=some (.string s.S):=HQ3.out.cell 11
 have u12:w3.cell? ⟨w.heap.size,12,none⟩=some (.slice p n c):=HQ3.out.cell 12
 have u13:w3.cell? ⟨w.heap.size,13,none⟩=some (.int .i64 s.last):=HQ3.out.cell 13
 have v11:=HQ3.out.frz 11
 have v12:=HQ3.out.frz 12
 have v13:=HQ3.out.frz 13
 have HQ4:=zd (HQ3.out.X8 (s.S++b) (s.A++List.replicate b.size T) p1 n1 c1 T)
 have HR4:=zd (show RAt (X8 w3 w.heap.size (s.S++b) p1 n1 c1 T) (w.heap.size+1) none 0 0 qZ from(XU (Nat.succ_ne_self _) _ _ _ _ _).trans HR3.out)
 have HB4:=zd (J8 HB3.out (zg _) (s.S++b) p1 n1 c1 T)
 have HROW4:=zd (show gc.qQ (X8 w3 w.heap.size (s.S++b) p1 n1 c1 T) p1 n1 c1 (s.A++List.replicate b.size T)from ZR HROW3.out λ _ _ _ hb=>XU (HQ3.out.Jd hb) _ _ _ _ _)
 go_upto_region 10 with fail
 generalize hW4:X8 w3 w.heap.size (s.S++b) p1 n1 c1 T=w4 at*
 unfold Go.Proofs.YtfdfgnmgpgkknaaGreat.X8 at hW4
 rw[hW4]
 clear hW4 y0 y1 y2 u11 u12 u13 v11 v12 v13 HQ3 HR3 HB3 HROW3 HC3
 have i1:=HQ4.out.is
 have k1:=HQ4.out.cells
 have i2:=HR4.out.is
 have hlt:=HR4.out.lt
 go_wp2_with fail
 have hz:=HR4.out.row p1 n1 c1 {s with S:=s.S++b,A:=s.A++List.replicate b.size T,last:=T}
 have hb:=below_setRow HB4.out (zv w.heap.size) (rC p1 n1 c1 {s with S:=s.S++b,A:=s.A++List.replicate b.size T,last:=T})
 have hrw:=YJ HROW4.out HR4.out (rC p1 n1 c1 {s with S:=s.S++b,A:=s.A++List.replicate b.size T,last:=T})
 have HZ:=zd hz
 have HE:=zd hb
 have HRW:=zd hrw
 clear hz hb hrw
 generalize w4.setRow (w.heap.size+1) (rC p1 n1 c1 {s with S:=s.S++b,A:=s.A++List.replicate b.size T,last:=T})=wz at*
 exact zk (v:=.agg (rC p1 n1 c1 {s with S:=s.S++b,A:=s.A++List.replicate b.size T,last:=T})) (by simp[results,results111,asAddr,qf HZ.out]) rfl ⟨p1,n1,c1,rfl,HRW.out,HE.out⟩
end
section
open Go.RowKit
attribute [local go_sem ↓] Zr Ze
attribute [local go_sem] Zf qN X7
variable {w w':World} {q n c:Nat} {p:Option Addr} {s s':St}
theorem TR (p:Option Addr) (n c:Nat) (s:St) (w:World) (hrow:gc.qQ w p n c s.A) {b:ByteArray} (hk:s.tx.k=1) (ha:0≤s.tx.a∧s.tx.a≤1099511627776) (hbb:0≤s.tx.b∧s.tx.b≤1099511627776) (hb0:0<b.size) (hn:n≤100000) (hbs:b.size≤100000) (hS:s.S.size≤100000) {D V X T:Int} (hD:gd.Vo s.d (s.tx.a -s.tx.b) (s.tx.a+s.tx.b)=D) (hV:gd.Vn s.d (s.tx.a -s.tx.b) (s.tx.a+s.tx.b)=V) (hX:XC s.clock V=X) (hT:gc.Xl s.last X=T):Calls zf 111 #[.agg (rC p n c s),.string b] w (Frc {s with d:=D,S:=s.S++b,A:=s.A++List.replicate b.size T,last:=T} w):=by
 have hw1:IntKind.i64.wrap (s.tx.a -s.tx.b)=s.tx.a -s.tx.b:=by rw[IntKind.wrap_i64];omega
 have hw2:IntKind.i64.wrap (s.tx.a+s.tx.b)=s.tx.a+s.tx.b:=by rw[IntKind.wrap_i64];omega
 have HP:=zd (λ W (hr:gc.qQ W p n c s.A)=>gc.jP s.S b p n c s.A s.last X W hr hn hbs hS hb0 hT)
 have HRG:=zd (λ W=>show Calls zf 131 #[.int .u64 s.d,.int .i64 (s.tx.a -s.tx.b),.int .i64 (s.tx.a+s.tx.b)] W λ e w'=>e=.returned (.tuple #[.int .i64 V,.int .u64 D])∧Below W.heap.size W w' from by rw[←hD,←hV];exact gd.Sh _ _ _ W)
 have HAD:=zd (λ W=>show Calls zf 112 #[.int .i64 s.clock,.int .i64 V] W λ e w'=>e=.returned (.int .i64 X)∧W=w' from by rw[←hX];exact gb.Jz s.clock V W)
 have eb:=gc.UR hb0
 have e1:(s.tx.k==1)=true:=by simpa using hk
 have e2:decide (s.tx.k=1)=true:=by simpa using hk
 clear hk ha hbb hb0 hn hbs hS hD hV hX hT
 obtain⟨W0,hW0,hq,hr,hb⟩:=XO p n c s w
 have HB:=zd hb
 have HQ:=zd hq
 have HR:=zd hr
 have HROW:=zd (gc.Zc hrow hb)
 have hlt:=hr.lt
 have x1:W0.cell? ⟨w.heap.size,1,none⟩=some (.int .i64 s.tx.k):=hq.cell 1
 have x4:W0.cell? ⟨w.heap.size,4,none⟩=some (.int .i64 s.tx.a):=hq.cell 4
 have x5:W0.cell? ⟨w.heap.size,5,none⟩=some (.int .i64 s.tx.b):=hq.cell 5
 have x6:W0.cell? ⟨w.heap.size,6,none⟩=some (.int .u64 s.d):=hq.cell 6
 have x16:W0.cell? ⟨w.heap.size,16,none⟩=some (.int .i64 s.clock):=hq.cell 16
 clear hq hr hb hrow
 go_enter func111,ntmps111
 go_wp2_with fail
 clear hW0 x1 x4 x5 x6 x16 hlt eb e1 e2 hw1 hw2
 refine(HRG.out _).mono ?_
 rintro e w5 ⟨rfl,hb5⟩
 have HQ5:=zd (HQ.out.on hb5)
 have HR5:=zd (HR.out.on hb5)
 have HB5:=zd (gb.seqB HB.out hb5)
 have HROW5:=zd (gc.Zc HROW.out hb5)
 have x6:w5.cell? ⟨w.heap.size,6,none⟩=some (.int .u64 s.d):=HQ5.out.cell 6
 have f6:w5.frozen? ⟨w.heap.size,6,none⟩=false:=HQ5.out.frz 6
 clear hb5 HQ HR HB HROW HRG
 have HQ6:=zd (HQ5.out.set (i:=6) (v:=.int .u64 D) (s':={s with d:=D}) (p':=p) (n':=n) (c':=c) rfl)
 have HR6:=zd (HR5.out.far (g:=w.heap.size) (i:=6) (.int .u64 D) (Nat.succ_ne_self _))
 have HB6:=zd (HB5.out.setCell (p:=⟨w.heap.size,6,none⟩) (zg _) (.int .u64 D))
 have HROW6:=zd (VD HROW5.out HQ5.out 6 (.int .u64 D))
 go_upto_region 7 with fail
 generalize w5.setCell ⟨w.heap.size,6,none⟩ (.int .u64 D)=w6 at*
 clear x6 f6 HQ5 HR5 HB5 HROW5
 have x11:w6.cell? ⟨w.heap.size,11,none⟩=some (.string s.S):=HQ6.out.cell 11
 have x12:w6.cell? ⟨w.heap.size,12,none⟩=some (.slice p n c):=HQ6.out.cell 12
 have x13:w6.cell? ⟨w.heap.size,13,none⟩=some (.int .i64 s.last):=HQ6.out.cell 13
 have hlt:=HR6.out.lt
 go_wp2_with fail
 refine(HAD.out _).mono ?_
 rintro e w7 ⟨rfl,rfl⟩
 go_wp2_with fail
 clear x11 x12 x13 hlt HAD
 refine(HP.out _ HROW6.out).mono ?_
 rintro e w1 ⟨p1,n1,c1,rfl,hrow1,hb1⟩
 obtain⟨W2,hW2,hc2,hb2⟩:=Yr w1
 have hs3:=YZ hc2 (s.S++b) p1 n1 c1 T
 have hb3:=Yh hb2 (zg _) (s.S++b) p1 n1 c1 T
 have hq3:=HQ6.out.on (gb.seqB hb1 hb3)
 have HR3:=zd (HR6.out.on (gb.seqB hb1 hb3))
 have HB3:=zd (gb.seqB HB6.out (gb.seqB hb1 hb3))
 have HROW3:=zd (gc.Zc hrow1 hb3)
 have HC3:=zd hs3
 have HQ3:=zd hq3
 have hne:=(zy HQ6.out.lt hb1.size)
 have HNE:=zd (show w1.heap.size≠w.heap.size by omega)
 have z0:W2.cell? ⟨w1.heap.size,0,none⟩=some (.string ⟨#[]⟩):=ze _ _ 0 _ _ _ hc2
 have z1:W2.cell? ⟨w1.heap.size,1,none⟩=some (.slice none 0 0):=ze _ _ 1 _ _ _ hc2
 have z2:W2.cell? ⟨w1.heap.size,2,none⟩=some (.int .i64 0):=ze _ _ 2 _ _ _ hc2
 have g0:W2.frozen? ⟨w1.heap.size,0,none⟩=false:=gb.qa hc2
 have g1:W2.frozen? ⟨w1.heap.size,1,none⟩=false:=gb.qa hc2
 have g2:W2.frozen? ⟨w1.heap.size,2,none⟩=false:=gb.qa hc2
 have hlt2:=gb.qd hc2
 clear hrow1 hb1 hc2 hs3 hb3 hq3 hb2 hne HP
 go_upto_region 9 with fail
 generalize hW3:Vl W2 w1.heap.size (s.S++b) p1 n1 c1 T=w3 at*
 unfold Vl at hW3
 rw[hW3]
 clear hW3 z0 z1 z2 g0 g1 g2 hlt2 hW2
 generalize w1.heap.size=g at*
 have y0:w3.cell? ⟨g,0,none⟩=some (.string (s.S++b)):=ze _ _ 0 _ _ _ HC3.out
 have y1:w3.cell? ⟨g,1,none⟩=some (.slice p1 n1 c1):=ze _ _ 1 _ _ _ HC3.out
 have y2:w3.cell? ⟨g,2,none⟩=some (.int .i64 T):=ze _ _ 2 _ _ _ HC3.out
 have u11:w3.cell? ⟨w.heap.size,11,none⟩=some (.string s.S):=HQ3.out.cell 11
 have u12:w3.cell? ⟨w.heap.size,12,none⟩=some (.slice p n c):=HQ3.out.cell 12
 have u13:w3.cell? ⟨w.heap.size,13,none⟩=some (.int .i64 s.last):=HQ3.out.cell 13
 have v11:=HQ3.out.frz 11
 have v12:=HQ3.out.frz 12
 have v13:=HQ3.out.frz 13
 have HQ4:=zd (HQ3.out.X8 (s.S++b) (s.A++List.replicate b.size T) p1 n1 c1 T)
 have HR4:=zd (show RAt (X8 w3 w.heap.size (s.S++b) p1 n1 c1 T) (w.heap.size+1) none 0 0 qZ from(XU (Nat.succ_ne_self _) _ _ _ _ _).trans HR3.out)
 have HB4:=zd (J8 HB3.out (zg _) (s.S++b) p1 n1 c1 T)
 have HROW4:=zd (show gc.qQ (X8 w3 w.heap.size (s.S++b) p1 n1 c1 T) p1 n1 c1 (s.A++List.replicate b.size T)from ZR HROW3.out λ _ _ _ hb=>XU (HQ3.out.Jd hb) _ _ _ _ _)
 go_upto_region 10 with fail
 generalize hW4:X8 w3 w.heap.size (s.S++b) p1 n1 c1 T=w4 at*
 unfold Go.Proofs.YtfdfgnmgpgkknaaGreat.X8 at hW4
 rw[hW4]
 clear hW4 y0 y1 y2 u11 u12 u13 v11 v12 v13 HQ3 HR3 HB3 HROW3 HC3
 have i1:=HQ4.out.is
 have k1:=HQ4.out.cells
 have i2:=HR4.out.is
 have hlt:=HR4.out.lt
 go_wp2_with fail
 have hz:=HR4.out.row p1 n1 c1 {s with d:=D,S:=s.S++b,A:=s.A++List.replicate b.size T,last:=T}
 have hb:=below_setRow HB4.out (zv w.heap.size) (rC p1 n1 c1 {s with d:=D,S:=s.S++b,A:=s.A++List.replicate b.size T,last:=T})
 have hrw:=YJ HROW4.out HR4.out (rC p1 n1 c1 {s with d:=D,S:=s.S++b,A:=s.A++List.replicate b.size T,last:=T})
 have HZ:=zd hz
 have HE:=zd hb
 have HRW:=zd hrw
 clear hz hb hrw
 generalize w4.setRow (w.heap.size+1) (rC p1 n1 c1 {s with d:=D,S:=s.S++b,A:=s.A++List.replicate b.size T,last:=T})=wz at*
 exact zk (v:=.agg (rC p1 n1 c1 {s with d:=D,S:=s.S++b,A:=s.A++List.replicate b.size T,last:=T})) (by simp[results,results111,asAddr,qf HZ.out]) rfl ⟨p1,n1,c1,rfl,HRW.out,HE.out⟩
theorem Sn (p:Option Addr) (n c:Nat) (s:St) (w:World) (hrow:gc.qQ w p n c s.A) {b:ByteArray} (hab:(0≤s.tx.a∧s.tx.a≤1099511627776)∧(0≤s.tx.b∧s.tx.b≤1099511627776)) (hn:n≤100000) (hbs:b.size≤100000) (hS:s.S.size≤100000):Calls zf 111 #[.agg (rC p n c s),.string b] w (Frc (qG s b) w):=by
 unfold qG
 by_cases h0:b.size=0
 ·rw[if_pos h0]
  have e:b=⟨#[]⟩:=ByteArray.ext (Array.eq_empty_of_size_eq_zero h0)
  rw[e]
  exact TQ p n c s w hrow
 ·rw[if_neg h0]
  by_cases hk:s.tx.k=1
  ·rw[if_pos hk]
   exact TR p n c s w hrow hk hab.1 hab.2 (by omega) hn hbs hS rfl rfl rfl rfl
  ·rw[if_neg hk]
   exact Sm p n c s w hrow hk (by omega) hn hbs hS rfl
end
section
open Go.RowKit
attribute [local go_sem ↓] Zr Ze
attribute [local go_sem] Zf qN X7
variable {w w':World} {q n c:Nat} {p:Option Addr} {s s':St}
theorem F8 (p:Option Addr) (n c:Nat) (s:St) (N:Int) (w:World) (hk:s.tx.k=4):Calls zf 89 #[.agg (rC p n c s),.int .i64 N] w λ e w'=>e=.returned (.tuple #[.agg (rC p n c s),.int .i64 0])∧Below w.heap.size w w':=by
 obtain⟨W0,hW0,hq,hr,hb⟩:=XO p n c s w
 have HB:=zd hb
 have HQ:=zd hq
 have HR:=zd hr
 have hlt:=hr.lt
 have x1:W0.cell? ⟨w.heap.size,1,none⟩=some (.int .i64 s.tx.k):=hq.cell 1
 rw[hk]at x1
 clear hk
 clear hq hr hb
 go_enter func89,ntmps89
 go_upto_region 15 with fail
 clear hW0 hlt x1
 have i1:=HQ.out.is
 have k1:=HQ.out.cells
 have i2:=HR.out.is
 have hlt:=HR.out.lt
 go_wp2_with fail
 have hz:=HR.out.row p n c s
 have hb:=below_setRow HB.out (zv w.heap.size) (rC p n c s)
 have HZ:=zd hz
 have HE:=zd hb
 clear hz hb
 generalize W0.setRow (w.heap.size+1) (rC p n c s)=wz at*
 exact zk (v:=.tuple #[.agg (rC p n c s),.int .i64 0]) (by simp[results,results89,asAddr,qf HZ.out]) rfl ⟨rfl,HE.out⟩
theorem F7 (p:Option Addr) (n c:Nat) (s:St) (N:Int) (w:World) (h2:s.tx.k≠2) (h3:s.tx.k≠3) (h4:s.tx.k≠4) (h6:s.tx.k≠6):Calls zf 89 #[.agg (rC p n c s),.int .i64 N] w λ e w'=>e=.returned (.tuple #[.agg (rC p n c s),.int .i64 N])∧Below w.heap.size w w':=by
 obtain⟨W0,hW0,hq,hr,hb⟩:=XO p n c s w
 have HB:=zd hb
 have HQ:=zd hq
 have HR:=zd hr
 have hlt:=hr.lt
 have x1:W0.cell? ⟨w.heap.size,1,none⟩=some (.int .i64 s.tx.k):=hq.cell 1
 have e2:(s.tx.k==2)=false:=by simpa using h2
 have d2:decide (s.tx.k=2)=false:=by simpa using h2
 have e3:(s.tx.k==3)=false:=by simpa using h3
 have d3:decide (s.tx.k=3)=false:=by simpa using h3
 have e4:(s.tx.k==4)=false:=by simpa using h4
 have d4:decide (s.tx.k=4)=false:=by simpa using h4
 have e6:(s.tx.k==6)=false:=by simpa using h6
 have d6:decide (s.tx.k=6)=false:=by simpa using h6
 clear h2 h3 h4 h6
 clear hq hr hb
 go_enter func89,ntmps89
 go_upto_region 19 with fail
 clear hW0 hlt x1
 have i1:=HQ.out.is
 have k1:=HQ.out.cells
 have i2:=HR.out.is
 have hlt:=HR.out.lt
 go_wp2_with fail
 have hz:=HR.out.row p n c s
 have hb:=below_setRow HB.out (zv w.heap.size) (rC p n c s)
 have HZ:=zd hz
 have HE:=zd hb
 clear hz hb
 generalize W0.setRow (w.heap.size+1) (rC p n c s)=wz at*
 exact zk (v:=.tuple #[.agg (rC p n c s),.int .i64 N]) (by simp[results,results89,asAddr,qf HZ.out]) rfl ⟨rfl,HE.out⟩
theorem Oj (p:Option Addr) (n c:Nat) (s:St) (N:Int) (w:World) (hk:s.tx.k=6) (hw:IntKind.i64.wrap (s.tx.a -s.passed)=s.tx.a -s.passed) (hn:¬s.tx.a -s.passed<N):Calls zf 89 #[.agg (rC p n c s),.int .i64 N] w λ e w'=>e=.returned (.tuple #[.agg (rC p n c s),.int .i64 N])∧Below w.heap.size w w':=by
 obtain⟨W0,hW0,hq,hr,hb⟩:=XO p n c s w
 have HB:=zd hb
 have HQ:=zd hq
 have HR:=zd hr
 have hlt:=hr.lt
 have x1:W0.cell? ⟨w.heap.size,1,none⟩=some (.int .i64 s.tx.k):=hq.cell 1
 have x4:W0.cell? ⟨w.heap.size,4,none⟩=some (.int .i64 s.tx.a):=hq.cell 4
 have x18:W0.cell? ⟨w.heap.size,18,none⟩=some (.int .i64 s.passed):=hq.cell 18
 rw[hk]at x1
 have hd:decide (s.tx.a -s.passed<N)=false:=by simpa using hn
 clear hk hn
 clear hq hr hb
 go_enter func89,ntmps89
 go_upto_region 19 with fail
 clear hW0 hlt x1 x4 x18 hd
 have i1:=HQ.out.is
 have k1:=HQ.out.cells
 have i2:=HR.out.is
 have hlt:=HR.out.lt
 go_wp2_with fail
 have hz:=HR.out.row p n c s
 have hb:=below_setRow HB.out (zv w.heap.size) (rC p n c s)
 have HZ:=zd hz
 have HE:=zd hb
 clear hz hb
 generalize W0.setRow (w.heap.size+1) (rC p n c s)=wz at*
 exact zk (v:=.tuple #[.agg (rC p n c s),.int .i64 N]) (by simp[results,results89,asAddr,qf HZ.out]) rfl ⟨rfl,HE.out⟩
theorem Om (p:Option Addr) (n c:Nat) (s:St) (N:Int) (w:World) (hk:s.tx.k=3) (hn:N=0∨s.clock<s.pause):Calls zf 89 #[.agg (rC p n c s),.int .i64 N] w λ e w'=>e=.returned (.tuple #[.agg (rC p n c s),.int .i64 0])∧Below w.heap.size w w':=by
 obtain⟨W0,hW0,hq,hr,hb⟩:=XO p n c s w
 have HB:=zd hb
 have HQ:=zd hq
 have HR:=zd hr
 have hlt:=hr.lt
 have x1:W0.cell? ⟨w.heap.size,1,none⟩=some (.int .i64 s.tx.k):=hq.cell 1
 have x16:W0.cell? ⟨w.heap.size,16,none⟩=some (.int .i64 s.clock):=hq.cell 16
 have x17:W0.cell? ⟨w.heap.size,17,none⟩=some (.int .i64 s.pause):=hq.cell 17
 rw[hk]at x1
 have HN:=zd hn
 clear hk hn
 clear hq hr hb
 go_enter func89,ntmps89
 by_cases hn0:N=0
 ·have d0:(N==0)=true:=by simpa using hn0
  have d1:decide (N=0)=true:=by simpa using hn0
  clear hn0
  go_upto_region 8 with fail
  clear hW0 hlt x1 x16 x17 d0 d1
  have i1:=HQ.out.is
  have k1:=HQ.out.cells
  have i2:=HR.out.is
  have hlt:=HR.out.lt
  go_wp2_with fail
  have hz:=HR.out.row p n c s
  have hb:=below_setRow HB.out (zv w.heap.size) (rC p n c s)
  have HZ:=zd hz
  have HE:=zd hb
  clear hz hb
  generalize W0.setRow (w.heap.size+1) (rC p n c s)=wz at*
  exact zk (v:=.tuple #[.agg (rC p n c s),.int .i64 0]) (by simp[results,results89,asAddr,qf HZ.out]) rfl ⟨rfl,HE.out⟩
 ·have hp:s.clock<s.pause:=HN.out.resolve_left hn0
  have d0:(N==0)=false:=by simpa using hn0
  have d1:decide (N=0)=false:=by simpa using hn0
  have d2:decide (s.clock<s.pause)=true:=by simpa using hp
  clear hn0 hp
  go_upto_region 8 with fail
  clear hW0 hlt x1 x16 x17 d0 d1 d2
  have i1:=HQ.out.is
  have k1:=HQ.out.cells
  have i2:=HR.out.is
  have hlt:=HR.out.lt
  go_wp2_with fail
  have hz:=HR.out.row p n c s
  have hb:=below_setRow HB.out (zv w.heap.size) (rC p n c s)
  have HZ:=zd hz
  have HE:=zd hb
  clear hz hb
  generalize W0.setRow (w.heap.size+1) (rC p n c s)=wz at*
  exact zk (v:=.tuple #[.agg (rC p n c s),.int .i64 0]) (by simp[results,results89,asAddr,qf HZ.out]) rfl ⟨rfl,HE.out⟩
theorem Ol (p:Option Addr) (n c:Nat) (s:St) (N:Int) (w:World) (hk:s.tx.k=6) (hw:IntKind.i64.wrap (s.tx.a -s.passed)=s.tx.a -s.passed) (hn:s.tx.a -s.passed<N):Calls zf 89 #[.agg (rC p n c s),.int .i64 N] w λ e w'=>e=.returned (.tuple #[.agg (rC p n c s),.int .i64 (s.tx.a -s.passed)])∧Below w.heap.size w w':=by
 obtain⟨W0,hW0,hq,hr,hb⟩:=XO p n c s w
 have HB:=zd hb
 have HQ:=zd hq
 have HR:=zd hr
 have hlt:=hr.lt
 have x1:W0.cell? ⟨w.heap.size,1,none⟩=some (.int .i64 s.tx.k):=hq.cell 1
 have x4:W0.cell? ⟨w.heap.size,4,none⟩=some (.int .i64 s.tx.a):=hq.cell 4
 have x18:W0.cell? ⟨w.heap.size,18,none⟩=some (.int .i64 s.passed):=hq.cell 18
 rw[hk]at x1
 have hd:decide (s.tx.a -s.passed<N)=true:=by simpa using hn
 have i1:=HQ.out.is
 have k1:=HQ.out.cells
 have i2:=HR.out.is
 have j1:=HQ.out.drew.is
 have l1:=HQ.out.drew.cells
 have j2:=HR.out.drew.is
 clear hk hn
 clear hq hr hb
 go_enter func89,ntmps89
 go_wp2_with fail
 clear hW0
 have hqf:=HQ.out.S7 (g:=w.heap.size+1) (rC p n c s) (Nat.ne_of_lt (Nat.lt_succ_self _))
 have y4:(W0.setRow (w.heap.size+1) (rC p n c s)).cell? ⟨w.heap.size,4,none⟩=some (.int .i64 s.tx.a):=hqf.cell 4
 have y18:(W0.setRow (w.heap.size+1) (rC p n c s)).cell? ⟨w.heap.size,18,none⟩=some (.int .i64 s.passed):=hqf.cell 18
 have z4:(W0.drew.setRow (w.heap.size+1) (rC p n c s)).cell? ⟨w.heap.size,4,none⟩=some (.int .i64 s.tx.a):=hqf.cell 4
 have z18:(W0.drew.setRow (w.heap.size+1) (rC p n c s)).cell? ⟨w.heap.size,18,none⟩=some (.int .i64 s.passed):=hqf.cell 18
 have HZ:=zd (show RAt (W0.drew.setRow (w.heap.size+1) (rC p n c s)) (w.heap.size+1) p n c s from HR.out.drew.row p n c s)
 have HE:=zd (show Below w.heap.size w (W0.drew.setRow (w.heap.size+1) (rC p n c s))from below_setRow HB.out.drew (zv w.heap.size) (rC p n c s))
 clear hqf
 go_region_law
  (first
   |fail)
 all_goals (
  go_wp2_with fail
  generalize W0.drew.setRow (w.heap.size+1) (rC p n c s)=wz at*
  exact zk (v:=.tuple #[.agg (rC p n c s),.int .i64 (s.tx.a -s.passed)]) (by simp[results,results89,asAddr,Act.put,qf HZ.out]) rfl ⟨rfl,HE.out⟩)
end
end Go.Proofs.YtfdfgnmgpgkknaaGreat
