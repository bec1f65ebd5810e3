import Derived.Test.YtfdfgnmgpgkknaaGreatMG31
import Derived.Test.YtfdfgnmgpgkknaaGreatMG24
set_option maxRecDepth 100000
set_option maxHeartbeats 8000000
open Go.RowKit.Below renaming refl→zh
open Nat renaming le_refl→zg,le_succ→zv
open Go.Proofs.Tryz renaming prog→zf
open Go.Lib renaming hid→zd
open Go renaming bodyPost_ret→zk,heap_alloc_new→zo,cell_of_row→ze
open Go.Proofs.Tryz
namespace Go.Proofs.YtfdfgnmgpgkknaaGreat
section
open Go.RowKit
attribute [local go_sem ↓] Zr Ze
attribute [local go_sem] Zf qN X7
variable {w w':World} {q n c:Nat} {p:Option Addr} {s s':St}
def RNo (E:Int) (w:World) (e:Ending) (w':World):Prop:=e=.returned (.tuple #[.agg (rC none 0 0 qZ),.int .i64 E])∧Below w.heap.size w w'
def FH (s:St) (w:World) (e:Ending) (w':World):Prop:=e=.returned (.tuple #[.agg (rC none 0 0 s),.int .i64 0])∧Below w.heap.size w w'
theorem Bo (w:World) (t:Tox):∃W0,(w.alloc (qV t)).alloc (.cells (rC none 0 0 qZ) 68)=W0∧Qj W0 w.heap.size t∧RAt W0 (w.heap.size+1) none 0 0 qZ∧Below w.heap.size w W0:=by
 have h0:=Xh w t
 have hb0:=Z8 w t
 have h1:=ZP (w.alloc (qV t)) none 0 0 qZ
 have hb1:Below (w.alloc (qV t)).heap.size (w.alloc (qV t)) ((w.alloc (qV t)).alloc (.cells (rC none 0 0 qZ) 68)):=(zh _ _).alloc (zg _) _
 have e:(w.alloc (qV t)).heap.size=w.heap.size+1:=by simp
 rw[e]at h1
 exact⟨_,rfl,h0.on hb1,h1,gb.seqB hb0 hb1⟩
theorem UY (w:World) (t:Tox):∃W0,(w.alloc (.cells #[.string t.s,.int .i64 t.k,.bool t.up,.int .i64 t.o,.int .i64 t.a,.int .i64 t.b] 35)).alloc (.cells #[.string ⟨#[]⟩,.int .i64 0,.bool false,.int .i64 0,.int .i64 0,.int .i64 0,.int .u64 0,.int .i64 0,.int .i64 0,.int .i64 0,.int .i64 0,.string ⟨#[]⟩,.slice none 0 0,.int .i64 0,.int .i64 0,.int .i64 0,.int .i64 0,.int .i64 0,.int .i64 0,.bool false,.int .i64 0,.int .i64 0] 68)=W0∧Qj W0 w.heap.size t∧RAt W0 (w.heap.size+1) none 0 0 qZ∧Below w.heap.size w W0:=Bo w t
theorem NW (t:Tox) (ht:t.s.size≤maxLen) (W:World) {E:Int} (hE:t.chk=E):Calls zf 51 #[.agg #[.string t.s,.int .i64 t.k,.bool t.up,.int .i64 t.o,.int .i64 t.a,.int .i64 t.b]] W λ e w'=>e=.returned (.int .i64 E)∧Below W.heap.size W w':=by
 rw[←hE]
 exact gx.Y2 t.s ht t.k t.up t.o t.a t.b W
theorem KP (t:Tox) (h:t≠qi) (W:World):Calls zf 50 #[.agg #[.string t.s,.int .i64 t.k,.bool t.up,.int .i64 t.o,.int .i64 t.a,.int .i64 t.b]] W λ e w'=>e=.returned (.bool false)∧Below W.heap.size W w':=Oq t h W
theorem Ov (t:Tox) (ht:t.s.size≤maxLen) (seed room now:Int) (w:World) {E:Int} (hE:t.chk=E) (hE0:E≠0) (h0:t≠qi):Calls zf 21 #[.agg #[.string t.s,.int .i64 t.k,.bool t.up,.int .i64 t.o,.int .i64 t.a,.int .i64 t.b],.int .u64 seed,.int .i64 room,.int .i64 now] w (RNo E w):=by
 have HPS:=zd (λ W=>KP t h0 W)
 have HCK:=zd (λ W=>NW t ht W hE)
 have e3:(E !=0)=true:=by simpa using hE0
 have e4:decide (E=0)=false:=by simpa using hE0
 clear hE hE0 ht h0
 obtain⟨W0,hW0,ha0,hr0,hb0⟩:=UY w t
 have hsz:=hr0.lt
 obtain⟨y0,y1,y2,y3,y4,y5⟩:=ha0.cell
 have HT:=zd ha0
 have HR:=zd hr0
 have HB:=zd hb0
 clear ha0 hr0 hb0
 go_enter func21,ntmps21
 go_wp2_with fail
 clear hW0
 refine(HPS.out _).mono ?_
 rintro e w1 ⟨rfl,hb1⟩
 have HT1:=zd (HT.out.on hb1)
 have HR1:=zd (HR.out.on hb1)
 have HB1:=zd (gb.seqB HB.out hb1)
 clear hb1 HT HR HB y0 y1 y2 y3 y4 y5
 obtain⟨y0,y1,y2,y3,y4,y5⟩:=HT1.out.cell
 go_wp2_with fail
 refine(HCK.out _).mono ?_
 rintro e w2 ⟨rfl,hb2⟩
 have HT2:=zd (HT1.out.on hb2)
 have HR2:=zd (HR1.out.on hb2)
 have HB2:=zd (gb.seqB HB1.out hb2)
 clear hb2 HT1 HR1 HB1 y0 y1 y2 y3 y4 y5
 obtain⟨y0,y1,y2,y3,y4,y5⟩:=HT2.out.cell
 go_wp2_with fail
 refine(HCK.out _).mono ?_
 rintro e w3 ⟨rfl,hb3⟩
 have HT3:=zd (HT2.out.on hb3)
 have HR3:=zd (HR2.out.on hb3)
 have HB3:=zd (gb.seqB HB2.out hb3)
 clear hb3 HT2 HR2 HB2 y0 y1 y2 y3 y4 y5
 obtain⟨y0,y1,y2,y3,y4,y5⟩:=HT3.out.cell
 have hv:jI #[.string ⟨#[]⟩,.int .i64 0,.bool false,.int .i64 0,.int .i64 0,.int .i64 0,.int .u64 0,.int .i64 0,.int .i64 0,.int .i64 0,.int .i64 0,.string ⟨#[]⟩,.slice none 0 0,.int .i64 0,.int .i64 0,.int .i64 0,.int .i64 0,.int .i64 0,.int .i64 0,.bool false,.int .i64 0,.int .i64 0]:=X7 none 0 0 qZ
 have i2:=HR3.out.is
 have hz:=HR3.out.row none 0 0 qZ
 have hb:=below_setRow HB3.out (zv w.heap.size) (rC none 0 0 qZ)
 have HZ:=zd hz
 have HE:=zd hb
 clear hz hb
 go_wp2_with fail
 generalize hWf:w3.setRow (w.heap.size+1) (rC none 0 0 qZ)=wz at*
 unfold rC qZ qi at hWf
 dsimp only at hWf
 try rw[hWf]
 exact zk (v:=.tuple #[.agg (rC none 0 0 qZ),.int .i64 E]) (by simp[results,results21,asAddr,qf HZ.out]) rfl ⟨rfl,HE.out⟩
theorem TN (t:Tox) (ht:t.s.size≤maxLen) (seed room now:Int) (w:World) (hE:t.chk=0) (h0:t≠qi) (hr:room<1∨4096<room):Calls zf 21 #[.agg #[.string t.s,.int .i64 t.k,.bool t.up,.int .i64 t.o,.int .i64 t.a,.int .i64 t.b],.int .u64 seed,.int .i64 room,.int .i64 now] w (RNo 1 w):=by
 have HPS:=zd (λ W=>KP t h0 W)
 have HCK:=zd (λ W=>NW t ht W hE)
 have HRM:=zd hr
 clear hE ht h0 hr
 obtain⟨W0,hW0,ha0,hr0,hb0⟩:=UY w t
 have hsz:=hr0.lt
 obtain⟨y0,y1,y2,y3,y4,y5⟩:=ha0.cell
 have HT:=zd ha0
 have HR:=zd hr0
 have HB:=zd hb0
 clear ha0 hr0 hb0
 go_enter func21,ntmps21
 go_wp2_with fail
 clear hW0
 refine(HPS.out _).mono ?_
 rintro e w1 ⟨rfl,hb1⟩
 have HT1:=zd (HT.out.on hb1)
 have HR1:=zd (HR.out.on hb1)
 have HB1:=zd (gb.seqB HB.out hb1)
 clear hb1 HT HR HB y0 y1 y2 y3 y4 y5
 obtain⟨y0,y1,y2,y3,y4,y5⟩:=HT1.out.cell
 go_wp2_with fail
 refine(HCK.out _).mono ?_
 rintro e w2 ⟨rfl,hb2⟩
 have HT2:=zd (HT1.out.on hb2)
 have HR2:=zd (HR1.out.on hb2)
 have HB2:=zd (gb.seqB HB1.out hb2)
 clear hb2 HT1 HR1 HB1 y0 y1 y2 y3 y4 y5
 obtain⟨y0,y1,y2,y3,y4,y5⟩:=HT2.out.cell
 have d1:(decide (room<1)||decide (4096<room))=true:=by have:=HRM.out;simp;omega
 rcases HRM.out with hr|hr
 ·have c1:decide (room<1)=true:=by simpa using hr
  clear hr
  go_upto_region 4 with fail
  clear c1
  have hv:jI #[.string ⟨#[]⟩,.int .i64 0,.bool false,.int .i64 0,.int .i64 0,.int .i64 0,.int .u64 0,.int .i64 0,.int .i64 0,.int .i64 0,.int .i64 0,.string ⟨#[]⟩,.slice none 0 0,.int .i64 0,.int .i64 0,.int .i64 0,.int .i64 0,.int .i64 0,.int .i64 0,.bool false,.int .i64 0,.int .i64 0]:=X7 none 0 0 qZ
  have i2:=HR2.out.is
  have hz:=HR2.out.row none 0 0 qZ
  have hb:=below_setRow HB2.out (zv w.heap.size) (rC none 0 0 qZ)
  have HZ:=zd hz
  have HE:=zd hb
  clear hz hb
  go_wp2_with fail
  generalize hWf:w2.setRow (w.heap.size+1) (rC none 0 0 qZ)=wz at*
  unfold rC qZ qi at hWf
  dsimp only at hWf
  try rw[hWf]
  exact zk (v:=.tuple #[.agg (rC none 0 0 qZ),.int .i64 1]) (by simp[results,results21,asAddr,qf HZ.out]) rfl ⟨rfl,HE.out⟩
 ·have c1:decide (room<1)=false:=by simp;omega
  have c2:decide (4096<room)=true:=by simpa using hr
  clear hr
  go_upto_region 4 with fail
  clear c1 c2
  have hv:jI #[.string ⟨#[]⟩,.int .i64 0,.bool false,.int .i64 0,.int .i64 0,.int .i64 0,.int .u64 0,.int .i64 0,.int .i64 0,.int .i64 0,.int .i64 0,.string ⟨#[]⟩,.slice none 0 0,.int .i64 0,.int .i64 0,.int .i64 0,.int .i64 0,.int .i64 0,.int .i64 0,.bool false,.int .i64 0,.int .i64 0]:=X7 none 0 0 qZ
  have i2:=HR2.out.is
  have hz:=HR2.out.row none 0 0 qZ
  have hb:=below_setRow HB2.out (zv w.heap.size) (rC none 0 0 qZ)
  have HZ:=zd hz
  have HE:=zd hb
  clear hz hb
  go_wp2_with fail
  generalize hWf:w2.setRow (w.heap.size+1) (rC none 0 0 qZ)=wz at*
  unfold rC qZ qi at hWf
  dsimp only at hWf
  try rw[hWf]
  exact zk (v:=.tuple #[.agg (rC none 0 0 qZ),.int .i64 1]) (by simp[results,results21,asAddr,qf HZ.out]) rfl ⟨rfl,HE.out⟩
end
section
open Go.RowKit
attribute [local go_sem ↓] Zr Ze
attribute [local go_sem] Zf qN X7
variable {w w':World} {q n c:Nat} {p:Option Addr} {s s':St}
theorem TO (t:Tox) (_ht:t.s.size≤maxLen) (seed room now:Int) (w:World) (h0:t=qi) (hr:room<1∨4096<room):Calls zf 21 #[.agg #[.string t.s,.int .i64 t.k,.bool t.up,.int .i64 t.o,.int .i64 t.a,.int .i64 t.b],.int .u64 seed,.int .i64 room,.int .i64 now] w (RNo 1 w):=by
 have HPS:=zd (λ W=>show Calls zf 50 #[.agg #[.string t.s,.int .i64 t.k,.bool t.up,.int .i64 t.o,.int .i64 t.a,.int .i64 t.b]] W λ e w'=>e=.returned (.bool true)∧Below W.heap.size W w' from by rw[h0];exact jQ W)
 have HRM:=zd hr
 clear h0 hr
 obtain⟨W0,hW0,ha0,hr0,hb0⟩:=UY w t
 have hsz:=hr0.lt
 obtain⟨y0,y1,y2,y3,y4,y5⟩:=ha0.cell
 have HT:=zd ha0
 have HR:=zd hr0
 have HB:=zd hb0
 clear ha0 hr0 hb0
 go_enter func21,ntmps21
 go_wp2_with fail
 clear hW0
 refine(HPS.out _).mono ?_
 rintro e w1 ⟨rfl,hb1⟩
 have HT1:=zd (HT.out.on hb1)
 have HR1:=zd (HR.out.on hb1)
 have HB1:=zd (gb.seqB HB.out hb1)
 clear hb1 HT HR HB y0 y1 y2 y3 y4 y5
 obtain⟨y0,y1,y2,y3,y4,y5⟩:=HT1.out.cell
 rcases HRM.out with hr|hr
 ·have c1:decide (room<1)=true:=by simpa using hr
  clear hr
  go_upto_region 4 with fail
  clear c1
  have hv:jI #[.string ⟨#[]⟩,.int .i64 0,.bool false,.int .i64 0,.int .i64 0,.int .i64 0,.int .u64 0,.int .i64 0,.int .i64 0,.int .i64 0,.int .i64 0,.string ⟨#[]⟩,.slice none 0 0,.int .i64 0,.int .i64 0,.int .i64 0,.int .i64 0,.int .i64 0,.int .i64 0,.bool false,.int .i64 0,.int .i64 0]:=X7 none 0 0 qZ
  have i2:=HR1.out.is
  have hz:=HR1.out.row none 0 0 qZ
  have hb:=below_setRow HB1.out (zv w.heap.size) (rC none 0 0 qZ)
  have HZ:=zd hz
  have HE:=zd hb
  clear hz hb
  go_wp2_with fail
  generalize hWf:w1.setRow (w.heap.size+1) (rC none 0 0 qZ)=wz at*
  unfold rC qZ qi at hWf
  dsimp only at hWf
  try rw[hWf]
  exact zk (v:=.tuple #[.agg (rC none 0 0 qZ),.int .i64 1]) (by simp[results,results21,asAddr,qf HZ.out]) rfl ⟨rfl,HE.out⟩
 ·have c1:decide (room<1)=false:=by simp;omega
  have c2:decide (4096<room)=true:=by simpa using hr
  clear hr
  go_upto_region 4 with fail
  clear c1 c2
  have hv:jI #[.string ⟨#[]⟩,.int .i64 0,.bool false,.int .i64 0,.int .i64 0,.int .i64 0,.int .u64 0,.int .i64 0,.int .i64 0,.int .i64 0,.int .i64 0,.string ⟨#[]⟩,.slice none 0 0,.int .i64 0,.int .i64 0,.int .i64 0,.int .i64 0,.int .i64 0,.int .i64 0,.bool false,.int .i64 0,.int .i64 0]:=X7 none 0 0 qZ
  have i2:=HR1.out.is
  have hz:=HR1.out.row none 0 0 qZ
  have hb:=below_setRow HB1.out (zv w.heap.size) (rC none 0 0 qZ)
  have HZ:=zd hz
  have HE:=zd hb
  clear hz hb
  go_wp2_with fail
  generalize hWf:w1.setRow (w.heap.size+1) (rC none 0 0 qZ)=wz at*
  unfold rC qZ qi at hWf
  dsimp only at hWf
  try rw[hWf]
  exact zk (v:=.tuple #[.agg (rC none 0 0 qZ),.int .i64 1]) (by simp[results,results21,asAddr,qf HZ.out]) rfl ⟨rfl,HE.out⟩
theorem PB (t:Tox) (_ht:t.s.size≤maxLen) (seed room now:Int) (w:World) (h0:t=qi) (hr:1≤room∧room≤4096):Calls zf 21 #[.agg #[.string t.s,.int .i64 t.k,.bool t.up,.int .i64 t.o,.int .i64 t.a,.int .i64 t.b],.int .u64 seed,.int .i64 room,.int .i64 now] w (FH (Zh t seed room now) w):=by
 have HPS:=zd (λ W=>show Calls zf 50 #[.agg #[.string t.s,.int .i64 t.k,.bool t.up,.int .i64 t.o,.int .i64 t.a,.int .i64 t.b]] W λ e w'=>e=.returned (.bool true)∧Below W.heap.size W w' from by rw[h0];exact jQ W)
 have hk:t.k≠2:=by rw[h0];decide
 have HEQ:=zd (show Zh t seed room now=⟨t,seed,⟨0,0,0,0⟩,⟨#[]⟩,[],0,room,gb.qe now,gb.qe now,0,0,false,0,0⟩ by unfold Zh;rw[if_neg hk])
 have e5:(t.k==2)=false:=by simpa using hk
 have e6:decide (t.k=2)=false:=by simpa using hk
 clear h0 hk
 have HNR:=zd (λ W=>gb.Zq now W)
 have HRM:=zd hr
 clear hr
 obtain⟨W0,hW0,ha0,hr0,hb0⟩:=UY w t
 have hsz:=hr0.lt
 obtain⟨y0,y1,y2,y3,y4,y5⟩:=ha0.cell
 have HT:=zd ha0
 have HR:=zd hr0
 have HB:=zd hb0
 clear ha0 hr0 hb0
 go_enter func21,ntmps21
 go_wp2_with fail
 clear hW0
 refine(HPS.out _).mono ?_
 rintro e w1 ⟨rfl,hb1⟩
 have HT1:=zd (HT.out.on hb1)
 have HR1:=zd (HR.out.on hb1)
 have HB1:=zd (gb.seqB HB.out hb1)
 clear hb1 HT HR HB y0 y1 y2 y3 y4 y5
 obtain⟨y0,y1,y2,y3,y4,y5⟩:=HT1.out.cell
 have c1:decide (room<1)=false:=by have:=HRM.out;simp;omega
 have c2:decide (4096<room)=false:=by have:=HRM.out;simp;omega
 go_wp2_with fail
 refine(HNR.out _).mono ?_
 rintro e w8 ⟨rfl,rfl⟩
 clear c1 c2 HNR
 have hra:=ZP w1 none 0 0 qZ
 have hba:Below w1.heap.size w1 (w1.alloc (.cells (rC none 0 0 qZ) 68)):=(zh _ _).alloc (zg _) _
 obtain⟨W5,hW5⟩:∃W5,w1.alloc (.cells (rC none 0 0 qZ) 68)=W5:=⟨_,rfl⟩
 rw[hW5]at hra hba
 have hW5:w1.alloc (.cells #[.string ⟨#[]⟩,.int .i64 0,.bool false,.int .i64 0,.int .i64 0,.int .i64 0,.int .u64 0,.int .i64 0,.int .i64 0,.int .i64 0,.int .i64 0,.string ⟨#[]⟩,.slice none 0 0,.int .i64 0,.int .i64 0,.int .i64 0,.int .i64 0,.int .i64 0,.int .i64 0,.bool false,.int .i64 0,.int .i64 0] 68)=W5:=hW5
 have i5:=hra.is
 have hlt5:=hra.lt
 have hv2:jI #[.string t.s,.int .i64 t.k,.bool t.up,.int .i64 t.o,.int .i64 t.a,.int .i64 t.b,.int .u64 seed,.int .i64 0,.int .i64 0,.int .i64 0,.int .i64 0,.string ⟨#[]⟩,.slice none 0 0,.int .i64 0,.int .i64 room,.int .i64 (gb.qe now),.int .i64 (gb.qe now),.int .i64 0,.int .i64 0,.bool false,.int .i64 0,.int .i64 0]:=X7 none 0 0 (⟨t,seed,⟨0,0,0,0⟩,⟨#[]⟩,[],0,room,gb.qe now,gb.qe now,0,0,false,0,0⟩:St)
 have HG:=zd (hra.row none 0 0 (⟨t,seed,⟨0,0,0,0⟩,⟨#[]⟩,[],0,room,gb.qe now,gb.qe now,0,0,false,0,0⟩:St))
 have hb6:=below_setRow hba (zg _) (rC none 0 0 (⟨t,seed,⟨0,0,0,0⟩,⟨#[]⟩,[],0,room,gb.qe now,gb.qe now,0,0,false,0,0⟩:St))
 have HTG:=zd (HT1.out.on hb6)
 have HRG:=zd (HR1.out.on hb6)
 have HBG:=zd (gb.seqB HB1.out hb6)
 have hgs:w.heap.size<w1.heap.size:=HT1.out.lt
 have HGS:=zd (show w.heap.size≤w1.heap.size∧w.heap.size+1≠w1.heap.size by have:=HR1.out.lt;omega)
 clear hra hba hb6 HT1 HR1 HB1
 go_upto_region 7 with fail
 generalize hW6:W5.setRow w1.heap.size (rC none 0 0 (⟨t,seed,⟨0,0,0,0⟩,⟨#[]⟩,[],0,room,gb.qe now,gb.qe now,0,0,false,0,0⟩:St))=w6 at*
 unfold rC at hW6
 dsimp only at hW6
 rw[hW6]
 clear hW6 i5 hlt5 hW5 hv2 y0 y1 y2 y3 y4 y5 hgs
 generalize w1.heap.size=g at*
 obtain⟨_,y1,_,_,y4,y5⟩:=HTG.out.cell
 go_upto_region 10 with fail
 clear y1 y4 y5 e5 e6
 have i1:=HG.out.is
 have k1:=HG.out.cells
 have i2:=HRG.out.is
 have hz:=HRG.out.row none 0 0 (⟨t,seed,⟨0,0,0,0⟩,⟨#[]⟩,[],0,room,gb.qe now,gb.qe now,0,0,false,0,0⟩:St)
 have hb:=below_setRow HBG.out (zv w.heap.size) (rC none 0 0 (⟨t,seed,⟨0,0,0,0⟩,⟨#[]⟩,[],0,room,gb.qe now,gb.qe now,0,0,false,0,0⟩:St))
 have HZ:=zd hz
 have HE:=zd hb
 clear hz hb
 go_wp2_with fail
 generalize w6.setRow (w.heap.size+1) (rC none 0 0 (⟨t,seed,⟨0,0,0,0⟩,⟨#[]⟩,[],0,room,gb.qe now,gb.qe now,0,0,false,0,0⟩:St))=wz at*
 exact zk (v:=.tuple #[.agg (rC none 0 0 (⟨t,seed,⟨0,0,0,0⟩,⟨#[]⟩,[],0,room,gb.qe now,gb.qe now,0,0,false,0,0⟩:St)),.int .i64 0]) (by simp[results,results21,asAddr,qf HZ.out]) rfl ⟨by rw[HEQ.out],HE.out⟩
theorem PA (t:Tox) (ht:t.s.size≤maxLen) (seed room now:Int) (w:World) (hE:t.chk=0) (h0:t≠qi) (hk:t.k≠2) (hr:1≤room∧room≤4096):Calls zf 21 #[.agg #[.string t.s,.int .i64 t.k,.bool t.up,.int .i64 t.o,.int .i64 t.a,.int .i64 t.b],.int .u64 seed,.int .i64 room,.int .i64 now] w (FH (Zh t seed room now) w):=by
 have HPS:=zd (λ W=>KP t h0 W)
 have HCK:=zd (λ W=>NW t ht W hE)
 have HEQ:=zd (show Zh t seed room now=⟨t,seed,⟨0,0,0,0⟩,⟨#[]⟩,[],0,room,gb.qe now,gb.qe now,0,0,false,0,0⟩ by unfold Zh;rw[if_neg hk])
 have e5:(t.k==2)=false:=by simpa using hk
 have e6:decide (t.k=2)=false:=by simpa using hk
 clear hE ht h0 hk
 have HNR:=zd (λ W=>gb.Zq now W)
 have HRM:=zd hr
 clear hr
 obtain⟨W0,hW0,ha0,hr0,hb0⟩:=UY w t
 have hsz:=hr0.lt
 obtain⟨y0,y1,y2,y3,y4,y5⟩:=ha0.cell
 have HT:=zd ha0
 have HR:=zd hr0
 have HB:=zd hb0
 clear ha0 hr0 hb0
 go_enter func21,ntmps21
 go_wp2_with fail
 clear hW0
 refine(HPS.out _).mono ?_
 rintro e w1 ⟨rfl,hb1⟩
 have HT1:=zd (HT.out.on hb1)
 have HR1:=zd (HR.out.on hb1)
 have HB1:=zd (gb.seqB HB.out hb1)
 clear hb1 HT HR HB y0 y1 y2 y3 y4 y5
 obtain⟨y0,y1,y2,y3,y4,y5⟩:=HT1.out.cell
 go_wp2_with fail
 refine(HCK.out _).mono ?_
 rintro e w2 ⟨rfl,hb2⟩
 have HT2:=zd (HT1.out.on hb2)
 have HR2:=zd (HR1.out.on hb2)
 have HB2:=zd (gb.seqB HB1.out hb2)
 clear hb2 HT1 HR1 HB1 y0 y1 y2 y3 y4 y5
 obtain⟨y0,y1,y2,y3,y4,y5⟩:=HT2.out.cell
 have c1:decide (room<1)=false:=by have:=HRM.out;simp;omega
 have c2:decide (4096<room)=false:=by have:=HRM.out;simp;omega
 go_wp2_with fail
 refine(HNR.out _).mono ?_
 rintro e w8 ⟨rfl,rfl⟩
 clear c1 c2 HNR
 have hra:=ZP w2 none 0 0 qZ
 have hba:Below w2.heap.size w2 (w2.alloc (.cells (rC none 0 0 qZ) 68)):=(zh _ _).alloc (zg _) _
 obtain⟨W5,hW5⟩:∃W5,w2.alloc (.cells (rC none 0 0 qZ) 68)=W5:=⟨_,rfl⟩
 rw[hW5]at hra hba
 have hW5:w2.alloc (.cells #[.string ⟨#[]⟩,.int .i64 0,.bool false,.int .i64 0,.int .i64 0,.int .i64 0,.int .u64 0,.int .i64 0,.int .i64 0,.int .i64 0,.int .i64 0,.string ⟨#[]⟩,.slice none 0 0,.int .i64 0,.int .i64 0,.int .i64 0,.int .i64 0,.int .i64 0,.int .i64 0,.bool false,.int .i64 0,.int .i64 0] 68)=W5:=hW5
 have i5:=hra.is
 have hlt5:=hra.lt
 have hv2:jI #[.string t.s,.int .i64 t.k,.bool t.up,.int .i64 t.o,.int .i64 t.a,.int .i64 t.b,.int .u64 seed,.int .i64 0,.int .i64 0,.int .i64 0,.int .i64 0,.string ⟨#[]⟩,.slice none 0 0,.int .i64 0,.int .i64 room,.int .i64 (gb.qe now),.int .i64 (gb.qe now),.int .i64 0,.int .i64 0,.bool false,.int .i64 0,.int .i64 0]:=X7 none 0 0 (⟨t,seed,⟨0,0,0,0⟩,⟨#[]⟩,[],0,room,gb.qe now,gb.qe now,0,0,false,0,0⟩:St)
 have HG:=zd (hra.row none 0 0 (⟨t,seed,⟨0,0,0,0⟩,⟨#[]⟩,[],0,room,gb.qe now,gb.qe now,0,0,false,0,0⟩:St))
 have hb6:=below_setRow hba (zg _) (rC none 0 0 (⟨t,seed,⟨0,0,0,0⟩,⟨#[]⟩,[],0,room,gb.qe now,gb.qe now,0,0,false,0,0⟩:St))
 have HTG:=zd (HT2.out.on hb6)
 have HRG:=zd (HR2.out.on hb6)
 have HBG:=zd (gb.seqB HB2.out hb6)
 have hgs:w.heap.size<w2.heap.size:=HT2.out.lt
 have HGS:=zd (show w.heap.size≤w2.heap.size∧w.heap.size+1≠w2.heap.size by have:=HR2.out.lt;omega)
 clear hra hba hb6 HT2 HR2 HB2
 go_upto_region 7 with fail
 generalize hW6:W5.setRow w2.heap.size (rC none 0 0 (⟨t,seed,⟨0,0,0,0⟩,⟨#[]⟩,[],0,room,gb.qe now,gb.qe now,0,0,false,0,0⟩:St))=w6 at*
 unfold rC at hW6
 dsimp only at hW6
 rw[hW6]
 clear hW6 i5 hlt5 hW5 hv2 y0 y1 y2 y3 y4 y5 hgs
 generalize w2.heap.size=g at*
 obtain⟨_,y1,_,_,y4,y5⟩:=HTG.out.cell
 go_upto_region 10 with fail
 clear y1 y4 y5 e5 e6
 have i1:=HG.out.is
 have k1:=HG.out.cells
 have i2:=HRG.out.is
 have hz:=HRG.out.row none 0 0 (⟨t,seed,⟨0,0,0,0⟩,⟨#[]⟩,[],0,room,gb.qe now,gb.qe now,0,0,false,0,0⟩:St)
 have hb:=below_setRow HBG.out (zv w.heap.size) (rC none 0 0 (⟨t,seed,⟨0,0,0,0⟩,⟨#[]⟩,[],0,room,gb.qe now,gb.qe now,0,0,false,0,0⟩:St))
 have HZ:=zd hz
 have HE:=zd hb
 clear hz hb
 go_wp2_with fail
 generalize w6.setRow (w.heap.size+1) (rC none 0 0 (⟨t,seed,⟨0,0,0,0⟩,⟨#[]⟩,[],0,room,gb.qe now,gb.qe now,0,0,false,0,0⟩:St))=wz at*
 exact zk (v:=.tuple #[.agg (rC none 0 0 (⟨t,seed,⟨0,0,0,0⟩,⟨#[]⟩,[],0,room,gb.qe now,gb.qe now,0,0,false,0,0⟩:St)),.int .i64 0]) (by simp[results,results21,asAddr,qf HZ.out]) rfl ⟨by rw[HEQ.out],HE.out⟩
end
section
open Go.RowKit
attribute [local go_sem ↓] Zr Ze
attribute [local go_sem] Zf qN X7
variable {w w':World} {q n c:Nat} {p:Option Addr} {s s':St}
theorem PC (t:Tox) (ht:t.s.size≤maxLen) (seed room now:Int) (w:World) (hE:t.chk=0) (h0:t≠qi) (hk:t.k=2) (hr:1≤room∧room≤4096):Calls zf 21 #[.agg #[.string t.s,.int .i64 t.k,.bool t.up,.int .i64 t.o,.int .i64 t.a,.int .i64 t.b],.int .u64 seed,.int .i64 room,.int .i64 now] w (FH (Zh t seed room now) w):=by
 have HPS:=zd (λ W=>KP t h0 W)
 have HCK:=zd (λ W=>NW t ht W hE)
 have HEQ:=zd (show Zh t seed room now=⟨t,seed,⟨t.a,t.b,t.b,gb.qe now⟩,⟨#[]⟩,[],0,room,gb.qe now,gb.qe now,0,0,false,0,0⟩ by unfold Zh;rw[if_pos hk])
 have HE5:=zd (show(t.k==2)=true by simpa using hk)
 have HE6:=zd (show decide (t.k=2)=true by simpa using hk)
 have hrn:gb.qI t.a t.b t.b (gb.qe now)=true:=by rw[←YC];exact UK hE hk now
 have HNB:=zd (λ W=>gb.Sk hrn W)
 clear hE ht h0 hk hrn
 have HNR:=zd (λ W=>gb.Zq now W)
 have HRM:=zd hr
 clear hr
 obtain⟨W0,hW0,ha0,hr0,hb0⟩:=UY w t
 have hsz:=hr0.lt
 obtain⟨y0,y1,y2,y3,y4,y5⟩:=ha0.cell
 have HT:=zd ha0
 have HR:=zd hr0
 have HB:=zd hb0
 clear ha0 hr0 hb0
 go_enter func21,ntmps21
 go_wp2_with fail
 clear hW0
 refine(HPS.out _).mono ?_
 rintro e w1 ⟨rfl,hb1⟩
 have HT1:=zd (HT.out.on hb1)
 have HR1:=zd (HR.out.on hb1)
 have HB1:=zd (gb.seqB HB.out hb1)
 clear hb1 HT HR HB y0 y1 y2 y3 y4 y5
 obtain⟨y0,y1,y2,y3,y4,y5⟩:=HT1.out.cell
 go_wp2_with fail
 refine(HCK.out _).mono ?_
 rintro e w2 ⟨rfl,hb2⟩
 have HT2:=zd (HT1.out.on hb2)
 have HR2:=zd (HR1.out.on hb2)
 have HB2:=zd (gb.seqB HB1.out hb2)
 clear hb2 HT1 HR1 HB1 y0 y1 y2 y3 y4 y5
 obtain⟨y0,y1,y2,y3,y4,y5⟩:=HT2.out.cell
 have c1:decide (room<1)=false:=by have:=HRM.out;simp;omega
 have c2:decide (4096<room)=false:=by have:=HRM.out;simp;omega
 go_wp2_with fail
 refine(HNR.out _).mono ?_
 rintro e w8 ⟨rfl,rfl⟩
 clear c1 c2 HNR
 have hra:=ZP w2 none 0 0 qZ
 have hba:Below w2.heap.size w2 (w2.alloc (.cells (rC none 0 0 qZ) 68)):=(zh _ _).alloc (zg _) _
 obtain⟨W5,hW5⟩:∃W5,w2.alloc (.cells (rC none 0 0 qZ) 68)=W5:=⟨_,rfl⟩
 rw[hW5]at hra hba
 have hW5:w2.alloc (.cells #[.string ⟨#[]⟩,.int .i64 0,.bool false,.int .i64 0,.int .i64 0,.int .i64 0,.int .u64 0,.int .i64 0,.int .i64 0,.int .i64 0,.int .i64 0,.string ⟨#[]⟩,.slice none 0 0,.int .i64 0,.int .i64 0,.int .i64 0,.int .i64 0,.int .i64 0,.int .i64 0,.bool false,.int .i64 0,.int .i64 0] 68)=W5:=hW5
 have i5:=hra.is
 have hlt5:=hra.lt
 have hv2:jI #[.string t.s,.int .i64 t.k,.bool t.up,.int .i64 t.o,.int .i64 t.a,.int .i64 t.b,.int .u64 seed,.int .i64 0,.int .i64 0,.int .i64 0,.int .i64 0,.string ⟨#[]⟩,.slice none 0 0,.int .i64 0,.int .i64 room,.int .i64 (gb.qe now),.int .i64 (gb.qe now),.int .i64 0,.int .i64 0,.bool false,.int .i64 0,.int .i64 0]:=X7 none 0 0 (⟨t,seed,⟨0,0,0,0⟩,⟨#[]⟩,[],0,room,gb.qe now,gb.qe now,0,0,false,0,0⟩:St)
 have HG:=zd (hra.row none 0 0 (⟨t,seed,⟨0,0,0,0⟩,⟨#[]⟩,[],0,room,gb.qe now,gb.qe now,0,0,false,0,0⟩:St))
 have hb6:=below_setRow hba (zg _) (rC none 0 0 (⟨t,seed,⟨0,0,0,0⟩,⟨#[]⟩,[],0,room,gb.qe now,gb.qe now,0,0,false,0,0⟩:St))
 have HTG:=zd (HT2.out.on hb6)
 have HRG:=zd (HR2.out.on hb6)
 have HBG:=zd (gb.seqB HB2.out hb6)
 have hgs:w.heap.size<w2.heap.size:=HT2.out.lt
 have HGS:=zd (show w.heap.size≤w2.heap.size∧w.heap.size+1≠w2.heap.size by have:=HR2.out.lt;omega)
 clear hra hba hb6 HT2 HR2 HB2
 go_upto_region 7 with fail
 generalize hW6:W5.setRow w2.heap.size (rC none 0 0 (⟨t,seed,⟨0,0,0,0⟩,⟨#[]⟩,[],0,room,gb.qe now,gb.qe now,0,0,false,0,0⟩:St))=w6 at*
 unfold rC at hW6
 dsimp only at hW6
 rw[hW6]
 clear hW6 i5 hlt5 hW5 hv2 y0 y1 y2 y3 y4 y5 hgs
 generalize w2.heap.size=g at*
 obtain⟨_,y1,_,_,y4,y5⟩:=HTG.out.cell
 have e5:=HE5.out
 have e6:=HE6.out
 go_wp2_with fail
 clear y1 y4 y5 e5 e6
 refine(HNB.out _).mono ?_
 rintro e w7 ⟨rfl,hb7⟩
 have hal:Below w7.heap.size w7 (w7.alloc (.cells #[.int .i64 0,.int .i64 0,.int .i64 0,.int .i64 0] 63)):=(zh _ _).alloc (zg _) _
 have hbl:=zo w7 (.cells #[.int .i64 0,.int .i64 0,.int .i64 0,.int .i64 0] 63)
 obtain⟨W8,hW8⟩:∃W8,w7.alloc (.cells #[.int .i64 0,.int .i64 0,.int .i64 0,.int .i64 0] 63)=W8:=⟨_,rfl⟩
 rw[hW8]at hal hbl
 have hst:=gb.qu (w:=W8) hal (zg _) (.int .i64 t.a) (.int .i64 t.b) (.int .i64 t.b) (.int .i64 (gb.qe now))
 have hs4:=gb.qF hbl (.int .i64 t.a) (.int .i64 t.b) (.int .i64 t.b) (.int .i64 (gb.qe now))
 have z0:W8.cell? ⟨w7.heap.size,0,none⟩=some (.int .i64 0):=ze _ _ 0 _ _ _ hbl
 have z1:W8.cell? ⟨w7.heap.size,1,none⟩=some (.int .i64 0):=ze _ _ 1 _ _ _ hbl
 have z2:W8.cell? ⟨w7.heap.size,2,none⟩=some (.int .i64 0):=ze _ _ 2 _ _ _ hbl
 have z3:W8.cell? ⟨w7.heap.size,3,none⟩=some (.int .i64 0):=ze _ _ 3 _ _ _ hbl
 have g0:W8.frozen? ⟨w7.heap.size,0,none⟩=false:=gb.qa hbl
 have g1:W8.frozen? ⟨w7.heap.size,1,none⟩=false:=gb.qa hbl
 have g2:W8.frozen? ⟨w7.heap.size,2,none⟩=false:=gb.qa hbl
 have g3:W8.frozen? ⟨w7.heap.size,3,none⟩=false:=gb.qa hbl
 have hlt2:=gb.qd hbl
 have HG9:=zd (HG.out.on (gb.seqB hb7 hst))
 have HR9:=zd (HRG.out.on (gb.seqB hb7 hst))
 have HB9:=zd (gb.seqB HBG.out (gb.seqB hb7 hst))
 have HC9:=zd hs4
 clear hb7 hal hbl hst hs4 HNB HG HRG HBG HTG
 go_upto_region 9 with fail
 generalize hW9:gb.Zs W8 w7.heap.size (.int .i64 t.a) (.int .i64 t.b) (.int .i64 t.b) (.int .i64 (gb.qe now))=w9 at*
 unfold gb.Zs at hW9
 rw[hW9]
 clear hW9 z0 z1 z2 z3 g0 g1 g2 g3 hlt2 hW8
 generalize w7.heap.size=gg at*
 have y0:w9.cell? ⟨gg,0,none⟩=some (.int .i64 t.a):=ze _ _ 0 _ _ _ HC9.out
 have y1:w9.cell? ⟨gg,1,none⟩=some (.int .i64 t.b):=ze _ _ 1 _ _ _ HC9.out
 have y2:w9.cell? ⟨gg,2,none⟩=some (.int .i64 t.b):=ze _ _ 2 _ _ _ HC9.out
 have y3:w9.cell? ⟨gg,3,none⟩=some (.int .i64 (gb.qe now)):=ze _ _ 3 _ _ _ HC9.out
 have u7:w9.cell? ⟨g,7,none⟩=some (.int .i64 0):=HG9.out.cell 7
 have u8:w9.cell? ⟨g,8,none⟩=some (.int .i64 0):=HG9.out.cell 8
 have u9:w9.cell? ⟨g,9,none⟩=some (.int .i64 0):=HG9.out.cell 9
 have u10:w9.cell? ⟨g,10,none⟩=some (.int .i64 0):=HG9.out.cell 10
 have v7:=HG9.out.frz 7
 have v8:=HG9.out.frz 8
 have v9:=HG9.out.frz 9
 have v10:=HG9.out.frz 10
 have HGA:=zd (show RAt (YM w9 g ⟨t.a,t.b,t.b,gb.qe now⟩) g none 0 0 (⟨t,seed,⟨t.a,t.b,t.b,gb.qe now⟩,⟨#[]⟩,[],0,room,gb.qe now,gb.qe now,0,0,false,0,0⟩:St)from HG9.out.YM ⟨t.a,t.b,t.b,gb.qe now⟩)
 have HRA:=zd (show RAt (YM w9 g ⟨t.a,t.b,t.b,gb.qe now⟩) (w.heap.size+1) none 0 0 qZ from(YL HGS.out.2 _).trans HR9.out)
 have HBA:=zd (V4 HB9.out HGS.out.1 ⟨t.a,t.b,t.b,gb.qe now⟩)
 go_upto_region 10 with fail
 generalize hWA:YM w9 g ⟨t.a,t.b,t.b,gb.qe now⟩=wA at*
 unfold Go.Proofs.YtfdfgnmgpgkknaaGreat.YM at hWA
 dsimp only at hWA
 rw[hWA]
 clear hWA y0 y1 y2 y3 u7 u8 u9 u10 v7 v8 v9 v10 HG9 HR9 HB9 HC9
 have i1:=HGA.out.is
 have k1:=HGA.out.cells
 have i2:=HRA.out.is
 have hz:=HRA.out.row none 0 0 (⟨t,seed,⟨t.a,t.b,t.b,gb.qe now⟩,⟨#[]⟩,[],0,room,gb.qe now,gb.qe now,0,0,false,0,0⟩:St)
 have hb:=below_setRow HBA.out (zv w.heap.size) (rC none 0 0 (⟨t,seed,⟨t.a,t.b,t.b,gb.qe now⟩,⟨#[]⟩,[],0,room,gb.qe now,gb.qe now,0,0,false,0,0⟩:St))
 have HZ:=zd hz
 have HE:=zd hb
 clear hz hb
 go_wp2_with fail
 generalize wA.setRow (w.heap.size+1) (rC none 0 0 (⟨t,seed,⟨t.a,t.b,t.b,gb.qe now⟩,⟨#[]⟩,[],0,room,gb.qe now,gb.qe now,0,0,false,0,0⟩:St))=wz at*
 exact zk (v:=.tuple #[.agg (rC none 0 0 (⟨t,seed,⟨t.a,t.b,t.b,gb.qe now⟩,⟨#[]⟩,[],0,room,gb.qe now,gb.qe now,0,0,false,0,0⟩:St)),.int .i64 0]) (by simp[results,results21,asAddr,qf HZ.out]) rfl ⟨by rw[HEQ.out],HE.out⟩
theorem TM (t:Tox) (ht:t.s.size≤maxLen) (seed room now:Int) (w:World) (h:Zx t room=0):Calls zf 21 #[.agg #[.string t.s,.int .i64 t.k,.bool t.up,.int .i64 t.o,.int .i64 t.a,.int .i64 t.b],.int .u64 seed,.int .i64 room,.int .i64 now] w (FH (Zh t seed room now) w):=by
 obtain⟨hx,h1,h2⟩:=Ur h
 by_cases h0:t=qi
 ·exact PB t ht seed room now w h0 ⟨h1,h2⟩
 ·have hc:t.chk=0:=hx.resolve_left h0
  by_cases hk:t.k=2
  ·exact PC t ht seed room now w hc h0 hk ⟨h1,h2⟩
  ·exact PA t ht seed room now w hc h0 hk ⟨h1,h2⟩
theorem Ns (t:Tox) (ht:t.s.size≤maxLen) (seed room now:Int) (w:World) (h:Zx t room≠0):Calls zf 21 #[.agg #[.string t.s,.int .i64 t.k,.bool t.up,.int .i64 t.o,.int .i64 t.a,.int .i64 t.b],.int .u64 seed,.int .i64 room,.int .i64 now] w (RNo (Zx t room) w):=by
 unfold Zx at h⊢
 by_cases h1:t≠qi∧t.chk≠0
 ·rw[if_pos h1]
  exact Ov t ht seed room now w rfl h1.2 h1.1
 ·rw[if_neg h1]at h⊢
  have hr:room<1∨4096<room:=by
   rcases Decidable.em (room<1∨4096<room)with h2|h2
   ·exact h2
   ·rw[if_neg h2]at h
    exact absurd rfl h
  rw[if_pos hr]
  by_cases h0:t=qi
  ·exact TO t ht seed room now w h0 hr
  ·have hc:t.chk=0:=by
    rcases Decidable.em (t.chk=0)with e|e
    ·exact e
    ·exact absurd ⟨h0,e⟩ h1
   exact TN t ht seed room now w hc h0 hr
end
end Go.Proofs.YtfdfgnmgpgkknaaGreat
