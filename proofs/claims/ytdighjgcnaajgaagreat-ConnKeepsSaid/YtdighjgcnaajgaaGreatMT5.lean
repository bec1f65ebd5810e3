import Derived.Test.YtdighjgcnaajgaaGreatMT4
import Derived.Deep.Cut
import Derived.Deep.CutBlock
namespace Go.Proofs.YtdighjgcnaajgaaGreat
open Go.RowKit
def yopV (o:YOp):Value:=.agg #[.int .i64 o.kind,.int .i64 o.way,.int .i64 o.now,.int .i64 o.n0,.int .i64 o.n1,.string o.s,.string o.t.s,.int .i64 o.t.k,.bool o.t.up,.int .i64 o.t.o,.int .i64 o.t.a,.int .i64 o.t.b]
def yopC (o:YOp):Obj:=.cells #[.int .i64 o.kind,.int .i64 o.way,.int .i64 o.now,.int .i64 o.n0,.int .i64 o.n1,.string o.s,.string o.t.s,.int .i64 o.t.k,.bool o.t.up,.int .i64 o.t.o,.int .i64 o.t.a,.int .i64 o.t.b] 48
def yanC (a:YAns):Obj:=.cells #[.int .i64 a.n,.string a.x.b,.int .i64 a.x.e,.string a.y.b,.int .i64 a.y.e,.int .i64 a.e] 53
def yanV (a:YAns):Value:=.agg #[.int .i64 a.n,.string a.x.b,.int .i64 a.x.e,.string a.y.b,.int .i64 a.y.e,.int .i64 a.e]
def yset (w:World) (g:Nat) (a:YAns):World:=((((((w.setCell ⟨g,0,none⟩ (.int .i64 a.n)).setCell ⟨g,1,none⟩ (.string a.x.b)).setCell ⟨g,2,none⟩ (.int .i64 a.x.e)).setCell ⟨g,3,none⟩ (.string a.y.b)).setCell ⟨g,4,none⟩ (.int .i64 a.y.e)).setCell ⟨g,5,none⟩ (.int .i64 a.e))
structure KZ (w0 w:World) (U:Own) (g:Nat) (s:Cn) (M:Nat) (o:YOp) (a:YAns) (W:World) (U':Own):Prop where
 hd:KHd w0 W U' g s M
 rest:Rest w U W U'
 up:w0.heap.size≤w.heap.size
 b3:W.heap[w.heap.size]?=some (yopC o)
 b4:W.heap[w.heap.size+1]?=some (yanC noYA)
 b5:W.heap[w.heap.size+2]?=some (yanC a)
 n3:¬U' w.heap.size
 n4:¬U' (w.heap.size+1)
 n5:¬U' (w.heap.size+2)
section
variable {w0 w W W':World} {U U1 U':Own} {g:Nat} {s s':Cn} {M M':Nat} {o:YOp} {a:YAns}
theorem kz_start (h:KHd w0 w U g s M) (o:YOp):KZ w0 w U g s M o noYA (((w.alloc (yopC o)).alloc (yanC noYA)).alloc (yanC noYA)) U:=by
 obtain⟨hb,hs,hn⟩:=allocs [yopC o,yanC noYA,yanC noYA] w
 have h3:=hn 0 (by simp)
 have h4:=hn 1 (by simp)
 have h5:=hn 2 (by simp)
 simp only[Nat.add_zero,List.getElem_cons_zero,List.getElem_cons_succ]at h3 h4 h5
 exact⟨h.on hb,λ i hi hu=>⟨hb.block i hi,hu⟩,h.2.2.size,h3,h4,h5,h.new (Nat.le_refl _),h.new (by omega),h.new (by omega)⟩
theorem KZ.on (h:KZ w0 w U g s M o a W U') (hb:Below W.heap.size W W'):KZ w0 w U g s M o a W' U':=
 ⟨h.hd.on hb,λ i hi hu=>by
  have hh:=h.rest i hi hu
  exact⟨(hb.block i (Nat.lt_of_lt_of_le hi (Nat.le_of_lt (gb.blk_lt h.b3)))).trans hh.1,hh.2⟩,h.up,(hb.block _ (gb.blk_lt h.b3)).trans h.b3,(hb.block _ (gb.blk_lt h.b4)).trans h.b4,(hb.block _ (gb.blk_lt h.b5)).trans h.b5,h.n3,h.n4,h.n5⟩
theorem KZ.step (h:KZ w0 w U g s M o a W U1) (hs:KStp W U1 g s' M' W'):∃U',KZ w0 w U g s' M' o a W' U':=by
 obtain⟨U',hd,hr⟩:=h.hd.step hs
 have r3:=hr _ (gb.blk_lt h.b3) h.n3
 have r4:=hr _ (gb.blk_lt h.b4) h.n4
 have r5:=hr _ (gb.blk_lt h.b5) h.n5
 refine⟨U',hd,λ i hi hu=>?_,h.up,r3.1.trans h.b3,r4.1.trans h.b4,r5.1.trans h.b5,r3.2,r4.2,r5.2⟩
 have h1:=h.rest i hi hu
 have h2:=hr i (Nat.lt_trans hi (gb.blk_lt h.b3)) h1.2
 exact⟨h2.1.trans h1.1,h2.2⟩
theorem KZ.set (h:KZ w0 w U g s M o a W U') {k:Nat} {v:Value} {a':YAns} (ha:(W.setCell ⟨w.heap.size+2,k,none⟩ v).heap[w.heap.size+2]?=some (yanC a')):KZ w0 w U g s M o a' (W.setCell ⟨w.heap.size+2,k,none⟩ v) U':=
 ⟨h.hd.set h.n5 (by have:=h.up;omega) v,λ i hi hu=>by
  have hh:=h.rest i hi hu
  exact⟨(Below.heap_setCell _ _ _ _ (show i≠w.heap.size+2 by omega)).trans hh.1,hh.2⟩,h.up,(Below.heap_setCell _ _ _ _ (show w.heap.size≠w.heap.size+2 by omega)).trans h.b3,(Below.heap_setCell _ _ _ _ (show w.heap.size+1≠w.heap.size+2 by omega)).trans h.b4,ha,h.n3,h.n4,h.n5⟩
theorem KZ.setN (h:KZ w0 w U g s M o a W U') (z:Int):KZ w0 w U g s M o ⟨z,a.x,a.y,a.e⟩ (W.setCell ⟨w.heap.size+2,0,none⟩ (.int .i64 z)) U':=h.set (by rw[gb.set_heap h.b5];rfl)
theorem KZ.setX (h:KZ w0 w U g s M o a W U') (z:YOut):KZ w0 w U g s M o ⟨a.n,z,a.y,a.e⟩ ((W.setCell ⟨w.heap.size+2,1,none⟩ (.string z.b)).setCell ⟨w.heap.size+2,2,none⟩ (.int .i64 z.e)) U':=
 (h.set (a':=⟨a.n,⟨z.b,a.x.e⟩,a.y,a.e⟩) (by rw[gb.set_heap h.b5];rfl)).set (by rw[gb.set_heap (gb.set_heap h.b5 _) _];rfl)
theorem KZ.setY (h:KZ w0 w U g s M o a W U') (z:YOut):KZ w0 w U g s M o ⟨a.n,a.x,z,a.e⟩ ((W.setCell ⟨w.heap.size+2,3,none⟩ (.string z.b)).setCell ⟨w.heap.size+2,4,none⟩ (.int .i64 z.e)) U':=
 (h.set (a':=⟨a.n,a.x,⟨z.b,a.y.e⟩,a.e⟩) (by rw[gb.set_heap h.b5];rfl)).set (by rw[gb.set_heap (gb.set_heap h.b5 _) _];rfl)
theorem KZ.setE (h:KZ w0 w U g s M o a W U') (z:Int):KZ w0 w U g s M o ⟨a.n,a.x,a.y,z⟩ (W.setCell ⟨w.heap.size+2,5,none⟩ (.int .i64 z)) U':=h.set (by rw[gb.set_heap h.b5];rfl)
theorem KZ.mono (h:KZ w0 w U g s M o a W U') (hM:M≤M') (hf:M'≤400000):KZ w0 w U g s M' o a W U':=⟨h.hd.mono hM hf,h.rest,h.up,h.b3,h.b4,h.b5,h.n3,h.n4,h.n5⟩
theorem yan_at {B:Nat} (h:W.heap[B]?=some (yanC a)):((W.cell? ⟨B,0,none⟩=some (.int .i64 a.n)∧W.cell? ⟨B,1,none⟩=some (.string a.x.b)∧W.cell? ⟨B,2,none⟩=some (.int .i64 a.x.e)∧W.cell? ⟨B,3,none⟩=some (.string a.y.b)∧W.cell? ⟨B,4,none⟩=some (.int .i64 a.y.e)∧W.cell? ⟨B,5,none⟩=some (.int .i64 a.e))∧
  (W.frozen? ⟨B,0,none⟩=false∧W.frozen? ⟨B,1,none⟩=false∧W.frozen? ⟨B,2,none⟩=false∧W.frozen? ⟨B,3,none⟩=false∧W.frozen? ⟨B,4,none⟩=false∧W.frozen? ⟨B,5,none⟩=false)∧B<W.heap.size):=
 ⟨⟨cell_of_row _ _ 0 _ _ _ h,cell_of_row _ _ 1 _ _ _ h,cell_of_row _ _ 2 _ _ _ h,cell_of_row _ _ 3 _ _ _ h,cell_of_row _ _ 4 _ _ _ h,cell_of_row _ _ 5 _ _ _ h⟩,⟨gb.frozen_at h,gb.frozen_at h,gb.frozen_at h,gb.frozen_at h,gb.frozen_at h,gb.frozen_at h⟩,gb.blk_lt h⟩
theorem yop_at {B:Nat} (h:W.heap[B]?=some (yopC o)):W.cell? ⟨B,0,none⟩=some (.int .i64 o.kind)∧W.cell? ⟨B,1,none⟩=some (.int .i64 o.way)∧W.cell? ⟨B,2,none⟩=some (.int .i64 o.now)∧W.cell? ⟨B,3,none⟩=some (.int .i64 o.n0)∧W.cell? ⟨B,4,none⟩=some (.int .i64 o.n1)∧W.cell? ⟨B,5,none⟩=some (.string o.s)∧
  W.cell? ⟨B,6,none⟩=some (.string o.t.s)∧W.cell? ⟨B,7,none⟩=some (.int .i64 o.t.k)∧W.cell? ⟨B,8,none⟩=some (.bool o.t.up)∧W.cell? ⟨B,9,none⟩=some (.int .i64 o.t.o)∧W.cell? ⟨B,10,none⟩=some (.int .i64 o.t.a)∧W.cell? ⟨B,11,none⟩=some (.int .i64 o.t.b):=
 ⟨cell_of_row _ _ 0 _ _ _ h,cell_of_row _ _ 1 _ _ _ h,cell_of_row _ _ 2 _ _ _ h,cell_of_row _ _ 3 _ _ _ h,cell_of_row _ _ 4 _ _ _ h,cell_of_row _ _ 5 _ _ _ h,cell_of_row _ _ 6 _ _ _ h,cell_of_row _ _ 7 _ _ _ h,cell_of_row _ _ 8 _ _ _ h,cell_of_row _ _ 9 _ _ _ h,cell_of_row _ _ 10 _ _ _ h,cell_of_row _ _ 11 _ _ _ h⟩
def KDoe (w0 w:World) (U:Own) (g:Nat) (s:Cn) (a:YAns) (M:Nat) (e:Ending) (W:World):Prop:=e=.returned (yanV a)∧∃U',KHd w0 W U' g s M∧Rest w U W U'
theorem KZ.fin (h:KZ w0 w U g s M o a W U'):(∃U'',KHd w0 (yset W (w.heap.size+1) a) U'' g s M∧Rest w U (yset W (w.heap.size+1) a) U'')∧(yset W (w.heap.size+1) a).heap[w.heap.size+1]?=some (yanC a):=by
 have hu:=h.up
 have key:∀{W:World} (i:Nat) (v:Value),KHd w0 W U' g s M→KHd w0 (W.setCell ⟨w.heap.size+1,i,none⟩ v) U' g s M:=λ i v hh=>hh.set h.n4 (by omega) v
 have kh:∀{W:World} (i j:Nat) (v:Value),j<w.heap.size→(W.setCell ⟨w.heap.size+1,i,none⟩ v).heap[j]?=W.heap[j]?:=λ i j v hj=>Below.heap_setCell _ _ _ _ (show j≠w.heap.size+1 by omega)
 refine⟨⟨U',key _ _ (key _ _ (key _ _ (key _ _ (key _ _ (key _ _ h.hd))))),λ i hi hx=>?_⟩,?_⟩
 ·have hh:=h.rest i hi hx
  refine⟨?_,hh.2⟩
  unfold yset
  rw[kh _ _ _ hi,kh _ _ _ hi,kh _ _ _ hi,kh _ _ _ hi,kh _ _ _ hi,kh _ _ _ hi]
  exact hh.1
 ·unfold yset
  rw[gb.set_heap (gb.set_heap (gb.set_heap (gb.set_heap (gb.set_heap (gb.set_heap h.b4 _) _) _) _) _) _]
  rfl
set_option maxRecDepth 100000 in
set_option maxHeartbeats 16000000 in
theorem kdoes (h:KHd w0 w U g s M) (o:YOp) (ht:o.t.s.size≤maxLen) (hM:M+(o.s.size+o.t.s.size)≤M') (hf:M'≤400000):
  Calls Tryz.prog 16 #[ptr g,yopV o] w (KDoe w0 w U g (s.doK o) (s.ansK o) M'):=by
 have hz:=kz_start h o
 obtain⟨kd,way,now,n0,n1,b,⟨ts,tk,tu,t2,ta,tb⟩⟩:=o
 obtain⟨s9,hs9⟩:∃s9,s.doK ⟨kd,way,now,n0,n1,b,⟨ts,tk,tu,t2,ta,tb⟩⟩=s9:=⟨_,rfl⟩
 obtain⟨a9,ha9⟩:∃a9,s.ansK ⟨kd,way,now,n0,n1,b,⟨ts,tk,tu,t2,ta,tb⟩⟩=a9:=⟨_,rfl⟩
 rw[hs9,ha9]
 have HZ:=Lib.hid hz
 unfold yopV
 dsimp only at ht hM⊢
 obtain⟨w1,hw1⟩:∃w1,((w.alloc (yopC ⟨kd,way,now,n0,n1,b,⟨ts,tk,tu,t2,ta,tb⟩⟩)).alloc (yanC noYA)).alloc (yanC noYA)=w1:=⟨_,rfl⟩
 rw[hw1]at HZ
 have HCV:=Lib.hid (λ (hbs:b.size≤400000)=>gc.conv_text b (by omega) w1)
 have hsz:w1.heap.size=w.heap.size+3:=by rw[←hw1];simp
 unfold yopC yanC at hw1
 simp only[noYA,noOut]at hw1
 have HW1:=Lib.hid hw1
 clear hz h hw1
 go_enter Tryz.func16,Tryz.ntmps16
 go_upto_block 0 with fail
 go_cut[]from 6 (λ wc=>∃U',KZ w0 w U g s9 M' ⟨kd,way,now,n0,n1,b,⟨ts,tk,tu,t2,ta,tb⟩⟩ a9 wc U')
 case first=>
  rw[HW1.out]
  clear HW1
  obtain⟨q0,q1,q2,q3,q4,q5,q6,q7,q8,q9,q10,q11⟩:=yop_at HZ.out.b3
  simp only at q0 q1 q2 q3 q4 q5 q6 q7 q8 q9 q10 q11
  by_cases hk:0≤kd∧kd≤6
  ·have hc:kd=0∨kd=1∨kd=2∨kd=3∨kd=4∨kd=5∨kd=6:=by omega
   rcases hc with rfl|rfl|rfl|rfl|rfl|rfl|rfl
   ·obtain⟨c,wB,hcv,hbi,hb1,_,_,hnc⟩:=HCV.out (by omega)
    have HZ:=Lib.hid (HZ.out.on hb1)
    rw[hsz]at hcv hbi
    have HD:=Lib.hid (isend HZ.out.hd.1 way now rfl hbi (by omega) (M':=M') (by omega) hf)
    clear hb1 HCV
    go_wp2_with fail
    refine HD.out.mono ?_
    rintro e w2 ⟨rfl,hs⟩
    subst hs9
    subst ha9
    obtain⟨U2,hz2⟩:=HZ.out.step hs
    have HZ2:=Lib.hid (hz2.mono (M':=M') (by omega) hf)
    clear hs hz2 HZ q0 q1 q2 q3 q4 q5 q6 q7 q8 q9 q10 q11 hcv hbi HD
    obtain⟨⟨x0,x1,x2,x3,x4,x5⟩,⟨f0,f1,f2,f3,f4,f5⟩,hlt⟩:=yan_at HZ2.out.b5
    simp only[noYA,noOut]at x0 x1 x2 x3 x4 x5
    go_wp2_with fail
    go_meet
    exact⟨U2,HZ2.out.setN _⟩
   ·go_wp2_with fail
    refine(ifin HZ.out.hd.1 way now).mono ?_
    rintro e w2 ⟨rfl,hs⟩
    subst hs9
    subst ha9
    obtain⟨U2,hz2⟩:=HZ.out.step hs
    have HZ2:=Lib.hid (hz2.mono (M':=M') (by omega) hf)
    clear hs hz2 HZ q0 q1 q2 q3 q4 q5 q6 q7 q8 q9 q10 q11 HCV
    have hlt:=gb.blk_lt HZ2.out.b5
    go_wp2_with fail
    go_meet
    exact⟨U2,HZ2.out⟩
   ·go_wp2_with fail
    refine(icut HZ.out.hd.1 now).mono ?_
    rintro e w2 ⟨rfl,hs⟩
    subst hs9
    subst ha9
    obtain⟨U2,hz2⟩:=HZ.out.step hs
    have HZ2:=Lib.hid (hz2.mono (M':=M') (by omega) hf)
    clear hs hz2 HZ q0 q1 q2 q3 q4 q5 q6 q7 q8 q9 q10 q11 HCV
    have hlt:=gb.blk_lt HZ2.out.b5
    go_wp2_with fail
    go_meet
    exact⟨U2,HZ2.out⟩
   ·have HD:=Lib.hid (istep HZ.out.hd.1 now n0 n1)
    unfold outV tolC at HD
    have hs9':(s.stepS now n0 n1).k=s9:=hs9
    have ha9':(⟨0,(s.stepS now n0 n1).x,(s.stepS now n0 n1).y,0⟩:YAns)=a9:=ha9
    clear hs9 ha9
    generalize s.stepS now n0 n1=S at*
    obtain⟨sk,⟨xb,xe⟩,⟨yb,ye⟩⟩:=S
    subst hs9'
    subst ha9'
    simp only at HD
    have HIX:=Lib.hid (show(∀W,(Instr.index 89 (.agg #[.string xb,.int .i64 xe,.string yb,.int .i64 ye]) (.int .i64 0)).run Tryz.prog W=.ok (.agg #[.string xb,.int .i64 xe]) W)∧∀W,(Instr.index 89 (.agg #[.string xb,.int .i64 xe,.string yb,.int .i64 ye]) (.int .i64 1)).run Tryz.prog W=.ok (.agg #[.string yb,.int .i64 ye]) W from⟨λ W=>by kernel_rfl,λ W=>by kernel_rfl⟩)
    go_wp2_with fail
    refine HD.out.mono ?_
    rintro e w2 ⟨rfl,hs⟩
    obtain⟨U2,hz2⟩:=HZ.out.step hs
    have HZ2:=Lib.hid (hz2.mono (M':=M') (by omega) hf)
    clear hs hz2 HZ HCV HD q0 q1 q2 q3 q4 q5 q6 q7 q8 q9 q10 q11
    dsimp only
    generalize Value.agg #[.string xb,.int .i64 xe,.string yb,.int .i64 ye]=av at*
    go_wp2_with fail
    go_loopw [6,7,44] (λ _ _ i wr=>∃j:Nat,j≤2∧i=.int .i64 (j:Int)∧Hid (KZ w0 w U g sk M' ⟨3,way,now,n0,n1,b,⟨ts,tk,tu,t2,ta,tb⟩⟩ (if j=0 then noYA else if j=1 then⟨0,⟨xb,xe⟩,noOut,0⟩else⟨0,⟨xb,xe⟩,⟨yb,ye⟩,0⟩) wr U2)) (λ _ _ i _=>2 -(intOf i).toNat)
    case atStart=>exact⟨0,by decide,rfl,HZ2⟩
    case round=>
     clear HZ2
     obtain⟨j,hj,rfl,HZ2⟩:=hrel
     rcases(show j=0∨j=1∨j=2 by omega)with rfl|rfl|rfl
     ·have hal:Below wr.heap.size wr (wr.alloc (.cells #[.string xb,.int .i64 xe] 88)):=(Below.refl _ _).alloc (Nat.le_refl _) _
      have HZ3:=Lib.hid (HZ2.out.on hal)
      obtain⟨⟨x0,x1,x2,x3,x4,x5⟩,⟨f0,f1,f2,f3,f4,f5⟩,hlt⟩:=yan_at HZ3.out.b5
      simp only[noYA,noOut,if_true]at x0 x1 x2 x3 x4 x5
      have HZ4:=Lib.hid (HZ3.out.setX ⟨xb,xe⟩)
      have hi:=HIX.out.1
      have hnew:=heap_alloc_new wr (.cells #[.string xb,.int .i64 xe] 88)
      have u0:=cell_of_row _ _ 0 _ _ _ hnew
      have u1:=cell_of_row _ _ 1 _ _ _ hnew
      rw[show((0:Nat):Int)=0 from rfl]
      clear hal HZ2 HZ3 HIX hnew
      go_wp2_with fail
      go_roundw
      case rel=>exact⟨1,by decide,by first|rfl|go_num,HZ4⟩
      case measure=>simp[intOf]
     ·have hal:Below wr.heap.size wr (wr.alloc (.cells #[.string yb,.int .i64 ye] 88)):=(Below.refl _ _).alloc (Nat.le_refl _) _
      have HZ3:=Lib.hid (HZ2.out.on hal)
      obtain⟨⟨x0,x1,x2,x3,x4,x5⟩,⟨f0,f1,f2,f3,f4,f5⟩,hlt⟩:=yan_at HZ3.out.b5
      simp only[noYA,noOut,if_true,Nat.one_ne_zero,if_false]at x0 x1 x2 x3 x4 x5
      have HZ4:=Lib.hid (HZ3.out.setY ⟨yb,ye⟩)
      have hi:=HIX.out.2
      have hnew:=heap_alloc_new wr (.cells #[.string yb,.int .i64 ye] 88)
      have u0:=cell_of_row _ _ 0 _ _ _ hnew
      have u1:=cell_of_row _ _ 1 _ _ _ hnew
      rw[show((1:Nat):Int)=1 from rfl]
      clear hal HZ2 HZ3 HIX hnew
      go_wp2_with fail
      go_roundw
      case rel=>exact⟨2,by decide,by first|rfl|go_num,HZ4⟩
      case measure=>simp[intOf]
     ·rw[show((2:Nat):Int)=2 from rfl]
      go_wp2_with fail
      go_meet
      exact⟨U2,HZ2.out⟩
   ·have HD:=Lib.hid (iadd HZ.out.hd.1 (t:=⟨ts,tk,tu,t2,ta,tb⟩) ht now (M':=M') (by show M+ts.size≤M';omega) hf)
    unfold Tox.v at HD
    go_wp2_with fail
    refine HD.out.mono ?_
    rintro e w2 ⟨rfl,hs⟩
    subst hs9
    subst ha9
    obtain⟨U2,hz2⟩:=HZ.out.step hs
    have HZ2:=Lib.hid (hz2.mono (M':=M') (by omega) hf)
    clear hs hz2 HZ q0 q1 q2 q3 q4 q5 q6 q7 q8 q9 q10 q11 HCV HD
    obtain⟨⟨x0,x1,x2,x3,x4,x5⟩,⟨f0,f1,f2,f3,f4,f5⟩,hlt⟩:=yan_at HZ2.out.b5
    simp only[noYA,noOut]at x0 x1 x2 x3 x4 x5
    go_wp2_with fail
    go_meet
    exact⟨U2,HZ2.out.setE _⟩
   ·go_wp2_with fail
    refine(idrop HZ.out.hd.1 b now).mono ?_
    rintro e w2 ⟨rfl,hs⟩
    subst hs9
    subst ha9
    obtain⟨U2,hz2⟩:=HZ.out.step hs
    have HZ2:=Lib.hid (hz2.mono (M':=M') (by omega) hf)
    clear hs hz2 HZ q0 q1 q2 q3 q4 q5 q6 q7 q8 q9 q10 q11 HCV
    obtain⟨⟨x0,x1,x2,x3,x4,x5⟩,⟨f0,f1,f2,f3,f4,f5⟩,hlt⟩:=yan_at HZ2.out.b5
    simp only[noYA,noOut]at x0 x1 x2 x3 x4 x5
    go_wp2_with fail
    go_meet
    exact⟨U2,HZ2.out.setE _⟩
   ·have HD:=Lib.hid (ichg HZ.out.hd.1 (t:=⟨ts,tk,tu,t2,ta,tb⟩) ht now)
    unfold Tox.v at HD
    go_wp2_with fail
    refine HD.out.mono ?_
    rintro e w2 ⟨rfl,hs⟩
    subst hs9
    subst ha9
    obtain⟨U2,hz2⟩:=HZ.out.step hs
    have HZ2:=Lib.hid (hz2.mono (M':=M') (by omega) hf)
    clear hs hz2 HZ q0 q1 q2 q3 q4 q5 q6 q7 q8 q9 q10 q11 HCV HD
    obtain⟨⟨x0,x1,x2,x3,x4,x5⟩,⟨f0,f1,f2,f3,f4,f5⟩,hlt⟩:=yan_at HZ2.out.b5
    simp only[noYA,noOut]at x0 x1 x2 x3 x4 x5
    go_wp2_with fail
    go_meet
    exact⟨U2,HZ2.out.setE _⟩
  ·have hk':s9=s∧a9=noYA:=by
    rw[←hs9,←ha9]
    unfold Cn.doK Cn.ansK
    dsimp only
    rw[if_neg (by omega),if_neg (by omega),if_neg (by omega),if_neg (by omega),if_neg (by omega),if_neg (by omega),if_neg (by omega),if_neg (by omega),if_neg (by omega),if_neg (by omega),if_neg (by omega),if_neg (by omega)]
    exact⟨rfl,rfl⟩
   obtain⟨rfl,rfl⟩:=hk'
   have k0:(kd==0)=false:=by simp;omega
   have g0:decide (kd=0)=false:=by simp;omega
   have k1:(kd==1)=false:=by simp;omega
   have g1:decide (kd=1)=false:=by simp;omega
   have k2:(kd==2)=false:=by simp;omega
   have g2:decide (kd=2)=false:=by simp;omega
   have k3:(kd==3)=false:=by simp;omega
   have g3:decide (kd=3)=false:=by simp;omega
   have k4:(kd==4)=false:=by simp;omega
   have g4:decide (kd=4)=false:=by simp;omega
   have k5:(kd==5)=false:=by simp;omega
   have g5:decide (kd=5)=false:=by simp;omega
   have k6:(kd==6)=false:=by simp;omega
   have g6:decide (kd=6)=false:=by simp;omega
   have HZ2:=Lib.hid (HZ.out.mono (M':=M') (by omega) hf)
   clear hs9 ha9 HZ HCV hk
   go_wp2_with fail
   go_meet
   exact⟨U,HZ2.out⟩
 case rest=>
  obtain⟨U2,HZ3⟩:=hcut
  clear HW1 HZ HCV hs9 ha9 hM
  obtain⟨an,⟨axb,axe⟩,⟨ayb,aye⟩,ae⟩:=a9
  have HF:=Lib.hid HZ3.fin
  obtain⟨⟨x0,x1,x2,x3,x4,x5⟩,_,hlt2⟩:=yan_at HZ3.b5
  obtain⟨⟨y0,y1,y2,y3,y4,y5⟩,⟨f0,f1,f2,f3,f4,f5⟩,hlt⟩:=yan_at HZ3.b4
  simp only[noYA,noOut]at x0 x1 x2 x3 x4 x5 y0 y1 y2 y3 y4 y5
  clear HZ3
  go_wp2_with fail
  generalize hW:yset wc (w.heap.size+1) ⟨an,⟨axb,axe⟩,⟨ayb,aye⟩,ae⟩=W at*
  unfold yset at hW
  simp only at hW
  rw[hW]
  clear hW x0 x1 x2 x3 x4 x5 y0 y1 y2 y3 y4 y5 f0 f1 f2 f3 f4 f5
  obtain⟨hdd,hzz⟩:=HF.out
  obtain⟨⟨z0,z1,z2,z3,z4,z5⟩,_,_⟩:=yan_at hzz
  simp only at z0 z1 z2 z3 z4 z5
  exact bodyPost_ret (v:=.agg #[.int .i64 an,.string axb,.int .i64 axe,.string ayb,.int .i64 aye,.int .i64 ae]) (by simp[results,Tryz.results16,go_sem,z0,z1,z2,z3,z4,z5]) rfl ⟨rfl,hdd⟩
end
end Go.Proofs.YtdighjgcnaajgaaGreat
namespace Go.Proofs.YtdighjgcnaajgaaGreat
open Go.RowKit
def noYop:YOp:=⟨0,0,0,0,0,⟨#[]⟩,noTox⟩
def YopsIn (w:World) (p:Option Addr) (n:Nat) (os:List YOp):Prop:=0<n→∃b o,p=some ⟨b,o,none⟩∧∀i,i<n→
 w.cell? ⟨b,o+i*12,none⟩=some (.int .i64 (os.getD i noYop).kind)∧w.cell? ⟨b,o+(i*12+1),none⟩=some (.int .i64 (os.getD i noYop).way)∧w.cell? ⟨b,o+(i*12+2),none⟩=some (.int .i64 (os.getD i noYop).now)∧w.cell? ⟨b,o+(i*12+3),none⟩=some (.int .i64 (os.getD i noYop).n0)∧w.cell? ⟨b,o+(i*12+4),none⟩=some (.int .i64 (os.getD i noYop).n1)∧w.cell? ⟨b,o+(i*12+5),none⟩=some (.string (os.getD i noYop).s)∧w.cell? ⟨b,o+(i*12+6),none⟩=some (.string (os.getD i noYop).t.s)∧w.cell? ⟨b,o+(i*12+7),none⟩=some (.int .i64 (os.getD i noYop).t.k)∧w.cell? ⟨b,o+(i*12+8),none⟩=some (.bool (os.getD i noYop).t.up)∧w.cell? ⟨b,o+(i*12+9),none⟩=some (.int .i64 (os.getD i noYop).t.o)∧w.cell? ⟨b,o+(i*12+10),none⟩=some (.int .i64 (os.getD i noYop).t.a)∧w.cell? ⟨b,o+(i*12+11),none⟩=some (.int .i64 (os.getD i noYop).t.b)
theorem yops_on {w w':World} {p:Option Addr} {n:Nat} {os:List YOp} (h:YopsIn w p n os) (hb:Below w.heap.size w w'):YopsIn w' p n os:=λ hn=>by
 obtain⟨b,o,e,hc⟩:=h hn
 refine⟨b,o,e,λ i hi=>?_⟩
 obtain⟨h0,h1,h2,h3,h4,h5,h6,h7,h8,h9,h10,h11⟩:=hc i hi
 have key:∀{k:Nat} {v:Value},w.cell? ⟨b,k,none⟩=some v→w'.cell? ⟨b,k,none⟩=some v:=λ hk=>(hb.cell (World.block_lt_of_cell? w _ hk)).trans hk
 exact⟨key h0,key h1,key h2,key h3,key h4,key h5,key h6,key h7,key h8,key h9,key h10,key h11⟩
def ytot:List YOp→Nat
 |[]=>0
 |o::r=>o.s.size+o.t.s.size+ytot r
theorem ytot_append (l m:List YOp):ytot (l++m)=ytot l+ytot m:=by
 induction l with
 |nil=>simp[ytot]
 |cons o r ih=>simp only[List.cons_append,ytot,ih];omega
theorem ytot_take_le (l:List YOp) (k:Nat):ytot (l.take k)≤ytot l:=by
 have h:=ytot_append (l.take k) (l.drop k)
 rw[List.take_append_drop]at h
 omega
theorem ytot_step (os:List YOp) (k m:Nat) (hm:os.length=m) (hk:k<m) (L:Nat) (hL:(os.getD k noYop).s.size+(os.getD k noYop).t.s.size=L):ytot (os.take (k+1))=ytot (os.take k)+L:=by
 rw[List.take_add_one,List.getElem?_eq_getElem (by omega),ytot_append,←hL,List.getD_eq_getElem?_getD,List.getElem?_eq_getElem (by omega)]
 simp[ytot]
theorem ytot_bound (l:List YOp) (B:Nat) (h:∀o∈l,o.s.size+o.t.s.size≤B):ytot l≤l.length*B:=by
 induction l with
 |nil=>simp[ytot]
 |cons o r ih=>
  have h1:=h o (by simp)
  have h2:=ih λ x hx=>h x (by simp[hx])
  simp only[ytot,List.length_cons,Nat.add_mul,Nat.one_mul]
  omega
theorem yat_of (l:List YOp) (k:Nat) (h:k<l.length):l.getD k noYop∈l:=by
 rw[List.getD_eq_getElem?_getD,List.getElem?_eq_getElem h]
 exact List.getElem_mem h
theorem ywrap_total (x:Int) (L:Nat):IntKind.i64.wrap (IntKind.i64.wrap x+(L:Int))=IntKind.i64.wrap (x+(L:Int)):=by
 rw[IntKind.wrap_i64,IntKind.wrap_i64,IntKind.wrap_i64]
 omega
theorem ytwo_sum (y:Int) (a b t u:Nat) (hy:y=IntKind.i64.wrap (t:Int)) (hu:u=t+(a+b)):wrap64 (y+wrap64 ((a:Int)+(b:Int)))=IntKind.i64.wrap (u:Int):=by
 rw[show∀x,wrap64 x=IntKind.i64.wrap x fromλ x=>(IntWalk.i64_left _).symm,show∀x,wrap64 x=IntKind.i64.wrap x fromλ x=>(IntWalk.i64_left _).symm,hy,hu,Int.natCast_add,Int.natCast_add,IntKind.wrap_i64,IntKind.wrap_i64,IntKind.wrap_i64,IntKind.wrap_i64]
 omega
def KFew (nl m:Nat) (os:List YOp) (w:World) (e:Ending) (w':World):Prop:=∃b,e=.returned (.bool b)∧(b=true→nl≤12∧m≤60∧ytot os≤2000)∧Below w.heap.size w w'
set_option maxHeartbeats 4000000 in
theorem kfew_any (pl:Option Addr) (nl dl:Nat) (seed room now:Int) (p:Option Addr) (m d:Nat) (os:List YOp) (w:World) (hx:os.length=m) (hmd:m≤d) (hd:d≤9223372036854775807) (hz:∀o∈os,o.s.size≤140737488351232∧o.t.s.size≤140737488351232) (hj:YopsIn w p m os):
  Calls Tryz.prog 10 #[.agg #[.slice pl nl dl,.int .u64 seed,.int .i64 room,.int .i64 now],.slice p m d] w (KFew nl m os w):=by
 have HX:=Lib.hid hx
 have HZ:=Lib.hid hz
 have hal:Below w.heap.size w (w.alloc (.cells #[.slice pl nl dl,.int .u64 seed,.int .i64 room,.int .i64 now] 25)):=(Below.refl _ _).alloc (Nat.le_refl _) _
 have HJ:=Lib.hid (yops_on hj hal)
 have hnew:=heap_alloc_new w (.cells #[.slice pl nl dl,.int .u64 seed,.int .i64 room,.int .i64 now] 25)
 have HAL:=Lib.hid hal
 have HNW:=Lib.hid hnew
 clear hx hz hj hal hnew
 go_enter Tryz.func10,Tryz.ntmps10
 go_wp2_with fail
 generalize w.alloc (.cells #[.slice pl nl dl,.int .u64 seed,.int .i64 room,.int .i64 now] 25)=w1 at*
 go_loopw [5,7,10] (λ nv _ i wr=>∃(k:Nat) (y:Int),k≤m∧i=.int .i64 k∧nv=.int .i64 y∧Hid (y=IntKind.i64.wrap (ytot (os.take k):Int))∧Hid (Below w1.heap.size w1 wr)) (λ _ _ i _=>m -(intOf i).toNat)
 case atStart=>exact⟨0,0,by omega,rfl,rfl,Lib.hid (by simp[ytot];rfl),Lib.hid (Below.refl _ _)⟩
 case round=>
  obtain⟨k,y,hk,rfl,rfl,HY,HB⟩:=hrel
  by_cases hlt:k<m
  ·obtain⟨b,o,rfl,hc⟩:=yops_on HJ.out HB.out (by omega)
   obtain⟨g0,g1,g2,g3,g4,g5,g6,g7,g8,g9,g10,g11⟩:=hc k hlt
   have HT:=Lib.hid (ytot_step os k m HX.out hlt _ rfl)
   generalize os.getD k noYop=op at*
   obtain⟨kind,way,T,N,N2,X,tx⟩:=op
   obtain⟨ts,tk,tu,t2,ta,tb⟩:=tx
   simp only at g0 g1 g2 g3 g4 g5 g6 g7 g8 g9 g10 g11 HT
   rw[←Nat.add_assoc]at g1 g2 g3 g4 g5 g6 g7 g8 g9 g10 g11
   have HY':=Lib.hid (ytwo_sum y X.size ts.size _ _ HY.out HT.out)
   clear hc HY HT
   go_wp2_with fail
   go_roundw
   case rel=>exact⟨k+1,_,by omega,by go_num,rfl,HY',Lib.hid (HB.out.alloc HB.out.size _)⟩
   case measure=>simp[intOf];omega
  ·have hkm:k=m:=by omega
   have HY':=Lib.hid (show y=IntKind.i64.wrap (ytot os:Int) by rw[HY.out,hkm,←HX.out,List.take_length])
   have HT:Hid (m≤60→(ytot os:Int)≤9223372036854775807):=λ h=>by
    have:=ytot_bound os 281474976702464 (λ o ho=>by have:=HZ.out o ho;omega)
    rw[HX.out]at this
    omega
   have hs0:=cell_of_row wr w.heap.size 0 _ _ _ ((HB.out.block _ (gb.blk_lt HNW.out)).trans HNW.out)
   have HBW:=Lib.hid (HAL.out.trans (HB.out.mono HAL.out.size))
   by_cases h1:nl≤12
   ·have d1:decide ((nl:Int)≤12)=true:=by simp;omega
    by_cases h2:m≤60
    ·have d2:decide ((m:Int)≤60)=true:=by simp;omega
     go_wp2_with fail
     go_ret
     refine⟨_,rfl,λ h=>⟨h1,h2,?_⟩,HBW.out⟩
     have hh:=HY'.out
     rw[IntWalk.i64_in _ ⟨by omega,HT.out h2⟩]at hh
     simp at h
     omega
    ·have d2:decide ((m:Int)≤60)=false:=by simp;omega
     go_wp2_with fail
     go_ret
     exact⟨_,rfl,(λ h=>by simp at h),HBW.out⟩
   ·have d1:decide ((nl:Int)≤12)=false:=by simp;omega
    go_wp2_with fail
    go_ret
    exact⟨_,rfl,(λ h=>by simp at h),HBW.out⟩
end Go.Proofs.YtdighjgcnaajgaaGreat
namespace Go.Proofs.YtdighjgcnaajgaaGreat
open Go.RowKit
def yt0:Tox:=⟨⟨#[97]⟩,5,true,100,3,0⟩
def yk0:Cn:=Cn.newC [yt0] 7 9 0 1
def yk1:Cn:=yk0.sendK 1 0 ⟨#[97,98]⟩
def yk2:Told:=yk1.stepS 3 9 9
theorem yk_new:newLE [yt0] 9=0:=by decide+kernel
theorem yk_n:yk0.sendN 1 0 ⟨#[97,98]⟩=2:=by decide+kernel
theorem yk_x:yk2.x.b=⟨#[]⟩∧yk2.x.e=2∧yk2.y.b=⟨#[97,98]⟩∧yk2.y.e=2:=by decide+kernel
theorem yk_f:yk2.k.A.fin≠0∧yk2.k.B.fin≠0∧yk2.k.names.length=1∧(yk2.k.lk 1).got=2:=by decide+kernel
theorem ytox_in (w:World):ToxIn (w.alloc (toxObj yt0)) (some ⟨w.heap.size,0,none⟩) 1 [yt0]:=λ _=>⟨_,_,rfl,λ i hi=>by
 obtain rfl:i=0:=by omega
 have h:=heap_alloc_new w (toxObj yt0)
 obtain⟨h0,h1,h2,h3,h4,h5⟩:=tox_cells h
 simp only[Nat.zero_mul,Nat.zero_add]
 exact⟨h0,h1,h2,h3,h4,h5⟩⟩
set_option maxRecDepth 100000 in
set_option maxHeartbeats 8000000 in
theorem yalive (w:World):Calls Tryz.prog 11 #[] w λ e w'=>e=.returned (.bool true)∧Below w.heap.size w w':=by
 have hal:Below w.heap.size w (w.alloc (toxObj yt0)):=(Below.refl _ _).alloc (Nat.le_refl _) _
 have HN:=Lib.hid (knew (some ⟨w.heap.size,0,none⟩) 1 1 [yt0] 7 9 0 (w.alloc (toxObj yt0)) rfl (Nat.le_refl _) (λ t ht=>by cases List.mem_singleton.1 ht;decide) (ytox_in w) yk_new)
 have HAL:=Lib.hid hal
 unfold toxObj yt0 at HN HAL
 simp only at HN HAL
 clear hal
 have kc:=λ (w:World) (C:Array Value) (n c:Nat)=>Lib.run_convert_bytes_const (P:=Tryz.prog) w 87 5 C n c Tryz.underlying87 Tryz.underlying5
 go_enter Tryz.func11,Tryz.ntmps11
 go_wp2_with fail
 refine HN.out.mono ?_
 rintro e w1 ⟨g,V,rfl,h1,hmk⟩
 have H1:=Lib.hid (show KHd w w1 V g yk0 128 from h1.base HAL.out)
 clear h1 hmk HN HAL
 go_wp2_with fail
 clear kc
 have hb2:Below w1.heap.size w1 (w1.alloc (.cells #[.int .u8 97,.int .u8 98] 5 (2,3))):=(Below.refl _ _).alloc (Nat.le_refl _) _
 have HP:=Lib.hid (isend (H1.out.on hb2).1 1 0 (pb:=some ⟨w1.heap.size,0,none⟩) (nb:=2) (cb:=2) (s:=⟨#[97,98]⟩) rfl (gc.made_bytes w1 [97,98] 2 (2,3) rfl) (Nat.le_refl _) (M':=130) (by decide) (by decide))
 have H2:=Lib.hid (H1.out.on hb2)
 clear hb2 H1
 rw[yk_n]at HP
 refine HP.out.mono ?_
 rintro e w2 ⟨rfl,hs⟩
 obtain⟨V2,h3,_⟩:=H2.out.step hs
 have H3:=Lib.hid (show KHd w w2 V2 g yk1 130 from h3)
 clear hs h3 H2 HP
 go_wp2_with fail
 have HS:=Lib.hid (show Calls Tryz.prog 31 #[ptr g,.int .i64 3,.agg #[.int .i64 9,.int .i64 9]] w2 λ e w'=>e=.returned (.agg #[.string ⟨#[]⟩,.int .i64 2,.string ⟨#[97,98]⟩,.int .i64 2])∧KStp w2 V2 g yk2.k 130 w' from(istep H3.out.1 3 9 9).mono λ e w' he=>⟨by
  rw[he.1]
  show Ending.returned (.agg #[.string yk2.x.b,.int .i64 yk2.x.e,.string yk2.y.b,.int .i64 yk2.y.e])=_
  rw[yk_x.1,yk_x.2.1,yk_x.2.2.1,yk_x.2.2.2],he.2⟩)
 refine HS.out.mono ?_
 rintro e w3 ⟨rfl,hs⟩
 obtain⟨V3,h4,_⟩:=H3.out.step hs
 have hal:Below w3.heap.size w3 (w3.alloc (.cells #[.string ⟨#[]⟩,.int .i64 2,.string ⟨#[97,98]⟩,.int .i64 2] 89)):=(Below.refl _ _).alloc (Nat.le_refl _) _
 have H4:=Lib.hid (h4.on hal)
 have hn:=heap_alloc_new w3 (.cells #[.string ⟨#[]⟩,.int .i64 2,.string ⟨#[97,98]⟩,.int .i64 2] 89)
 have u0:=cell_of_row _ _ 0 _ _ _ hn
 have u1:=cell_of_row _ _ 1 _ _ _ hn
 have u2:=cell_of_row _ _ 2 _ _ _ hn
 have u3:=cell_of_row _ _ 3 _ _ _ hn
 have heq:∀W,(Op.equalIn 10000 89 (.agg #[.string ⟨#[]⟩,.int .i64 2,.string ⟨#[97,98]⟩,.int .i64 2]) (.agg #[.string ⟨#[]⟩,.int .i64 2,.string ⟨#[97,98]⟩,.int .i64 2])).run Tryz.prog W=.ok true W:=λ W=>by kernel_rfl
 have HOV:=Lib.hid (iover H4.out.1)
 rw[show decide (yk2.k.A.fin≠0∧yk2.k.B.fin≠0)=true from decide_eq_true ⟨yk_f.1,yk_f.2.1⟩]at HOV
 clear hs h4 hal hn HS H3
 go_wp2_with fail
 refine HOV.out.mono ?_
 rintro e w5 ⟨rfl,hb⟩
 have H5:=Lib.hid (H4.out.on hb)
 clear hb HOV H4 u0 u1 u2 u3 heq
 have hnm:Calls Tryz.prog 20 #[ptr g] w5 λ e w'=>∃q d,e=.returned (.slice q 1 d)∧Below w5.heap.size w5 w':=(inames H5.out.1).mono λ e w' he=>by
  obtain⟨q,d,h1,_,h3⟩:=he
  exact⟨q,d,by rw[h1,yk_f.2.2.1],h3⟩
 have HNM:=Lib.hid hnm
 clear hnm
 go_wp2_with fail
 refine HNM.out.mono ?_
 rintro e w6 ⟨q,d,rfl,hb⟩
 have H6:=Lib.hid (H5.out.on hb)
 clear hb HNM H5
 go_wp2_with fail
 have HC:=Lib.hid (icounts H6.out.1 1)
 rw[show yk2.k.cnt 1=.agg #[.int .i64 (yk2.k.lk 1).sent,.int .i64 2,.int .i64 ((yk2.k.lk 1).c.held:Int),.int .i64 (yk2.k.lk 1).c.lost]from by
  unfold Cn.cnt
  rw[if_pos (Or.inr rfl)]
  show cntV (yk2.k.lk 1)=_
  unfold cntV
  rw[yk_f.2.2.2]
  ]at HC
 refine HC.out.mono ?_
 rintro e w7 ⟨rfl,hb⟩
 have HB:=Lib.hid (H6.out.on hb).2.2
 have hfi:∀(x y z:Int) (W:World),(Instr.field 60 (.agg #[.int .i64 x,.int .i64 2,.int .i64 y,.int .i64 z]) 1).run Tryz.prog W=.ok (.int .i64 2) W:=λ _ _ _ _=>by kernel_rfl
 clear hb HC H6
 go_wp2_with fail
 go_ret
 exact⟨rfl,HB.out⟩
end Go.Proofs.YtdighjgcnaajgaaGreat
