import Derived.Test.YtdighjgcnaajgaaGreatMS2
import Derived.Deep.Cut
namespace Go.Proofs.YtdighjgcnaajgaaGreat.gb
open Go.RowKit
def takeB (L n:Int):Int:=if n<0 then 0 else if L<n then L else n
def mostV (r u l t k:Int):Int:=if rightB r u l t=true then near (near u+near (near (near r*near k)))else 0
theorem fill_right {r u l t:Int} (h:rightB r u l t=true) (now:Int):rightB r u (fillL r u l t now) (fillT r u l t now)=true:=by
 have h0:=(rightB_iff r u l t).1 h
 obtain⟨h1,h2,h3,h4,h5,h6⟩:=h0
 rw[rightB_iff]
 have hn:=near_range now
 unfold fillL fillT
 by_cases hc:rightB r u l t=true∧t<near now
 ·rw[if_pos hc,if_pos hc]
  have hp:0≤r*(near now -t):=Int.mul_nonneg h1.1 (by omega)
  unfold lvl
  refine⟨h1,h2,?_,hn,h5,?_⟩<;>(split<;>omega)
 ·rw[if_neg hc,if_neg hc]
  exact⟨h1,h2,h3,h4,h5,h6⟩
set_option maxRecDepth 100000 in
set_option maxHeartbeats 8000000 in
theorem rtake_no {r u l t:Int} (h:rightB r u l t=false) (now n:Int) (w:World):Calls Tryz.prog 199 #[.agg #[.int .i64 r,.int .i64 u,.int .i64 l,.int .i64 t],.int .i64 now,.int .i64 n] w λ e w'=>e=.returned (.tuple #[.agg #[.int .i64 r,.int .i64 u,.int .i64 l,.int .i64 t],.int .i64 0])∧Below w.heap.size w w':=by
 have HRG:=Lib.hid (λ W=>show Calls Tryz.prog 212 #[.agg #[.int .i64 r,.int .i64 u,.int .i64 l,.int .i64 t]] W λ e w'=>e=.returned (.bool false)∧Below W.heap.size W w' from by rw[←h];exact rright_any r u l t W)
 have HB0:=Lib.hid (below2 w (.cells #[.int .i64 r,.int .i64 u,.int .i64 l,.int .i64 t] 167) (.cells #[.int .i64 0,.int .i64 0,.int .i64 0,.int .i64 0] 167))
 go_enter Tryz.func199,Tryz.ntmps199
 go_wp2_with fail
 refine(HRG.out _).mono ?_
 rintro e w3 ⟨rfl,hb⟩
 obtain⟨hg0,hg1,hlt⟩:=two_blocks hb
 have HB3:=Lib.hid (seqB HB0.out hb)
 have x0:w3.cell? ⟨w.heap.size,0,none⟩=some (.int .i64 r):=cell_of_row _ _ 0 _ _ _ hg0
 have x1:w3.cell? ⟨w.heap.size,1,none⟩=some (.int .i64 u):=cell_of_row _ _ 1 _ _ _ hg0
 have x2:w3.cell? ⟨w.heap.size,2,none⟩=some (.int .i64 l):=cell_of_row _ _ 2 _ _ _ hg0
 have x3:w3.cell? ⟨w.heap.size,3,none⟩=some (.int .i64 t):=cell_of_row _ _ 3 _ _ _ hg0
 have y0:w3.cell? ⟨w.heap.size+1,0,none⟩=some (.int .i64 0):=cell_of_row _ _ 0 _ _ _ hg1
 have y1:w3.cell? ⟨w.heap.size+1,1,none⟩=some (.int .i64 0):=cell_of_row _ _ 1 _ _ _ hg1
 have y2:w3.cell? ⟨w.heap.size+1,2,none⟩=some (.int .i64 0):=cell_of_row _ _ 2 _ _ _ hg1
 have y3:w3.cell? ⟨w.heap.size+1,3,none⟩=some (.int .i64 0):=cell_of_row _ _ 3 _ _ _ hg1
 have f0:w3.frozen? ⟨w.heap.size+1,0,none⟩=false:=frozen_at hg1
 have f1:w3.frozen? ⟨w.heap.size+1,1,none⟩=false:=frozen_at hg1
 have f2:w3.frozen? ⟨w.heap.size+1,2,none⟩=false:=frozen_at hg1
 have f3:w3.frozen? ⟨w.heap.size+1,3,none⟩=false:=frozen_at hg1
 clear hb HRG HB0
 have hz:=set4_heap hg1 (.int .i64 r) (.int .i64 u) (.int .i64 l) (.int .i64 t)
 have HD:=Lib.hid (set4_below (w:=w3) (g:=w.heap.size+1) HB3.out (show w.heap.size≤w.heap.size+1 by omega) (.int .i64 r) (.int .i64 u) (.int .i64 l) (.int .i64 t))
 go_wp2_with fail
 generalize hW:set4 w3 (w.heap.size+1) (.int .i64 r) (.int .i64 u) (.int .i64 l) (.int .i64 t)=W at*
 unfold set4 at hW
 rw[hW]
 clear hW
 have z0:W.cell? ⟨w.heap.size+1,0,none⟩=some (.int .i64 r):=cell_of_row W _ 0 _ _ _ hz
 have z1:W.cell? ⟨w.heap.size+1,1,none⟩=some (.int .i64 u):=cell_of_row W _ 1 _ _ _ hz
 have z2:W.cell? ⟨w.heap.size+1,2,none⟩=some (.int .i64 l):=cell_of_row W _ 2 _ _ _ hz
 have z3:W.cell? ⟨w.heap.size+1,3,none⟩=some (.int .i64 t):=cell_of_row W _ 3 _ _ _ hz
 exact bodyPost_ret (v:=.tuple #[.agg #[.int .i64 r,.int .i64 u,.int .i64 l,.int .i64 t],.int .i64 0]) (by simp[results,Tryz.results199,go_sem,z0,z1,z2,z3]) rfl ⟨rfl,HD.out⟩
set_option maxRecDepth 100000 in
set_option maxHeartbeats 8000000 in
theorem rtake_yes {r u l t:Int} (h:rightB r u l t=true) (now n:Int) {L T K D:Int} (hL:fillL r u l t now=L) (hT:fillT r u l t now=T) (hK:takeB L n=K) (hD:L -K=D) (w:World):Calls Tryz.prog 199 #[.agg #[.int .i64 r,.int .i64 u,.int .i64 l,.int .i64 t],.int .i64 now,.int .i64 n] w λ e w'=>e=.returned (.tuple #[.agg #[.int .i64 r,.int .i64 u,.int .i64 D,.int .i64 T],.int .i64 K])∧Below w.heap.size w w':=by
 have hfr:=(rightB_iff _ _ _ _).1 (fill_right h now)
 rw[hL]at hfr
 have hLr:=hfr.2.2.1
 have HRG:=Lib.hid (λ W=>show Calls Tryz.prog 212 #[.agg #[.int .i64 r,.int .i64 u,.int .i64 l,.int .i64 t]] W λ e w'=>e=.returned (.bool true)∧Below W.heap.size W w' from by rw[←h];exact rright_any r u l t W)
 have HFI:=Lib.hid (λ W=>show Calls Tryz.prog 213 #[.agg #[.int .i64 r,.int .i64 u,.int .i64 l,.int .i64 t],.int .i64 now] W λ e w'=>e=.returned (.agg #[.int .i64 r,.int .i64 u,.int .i64 L,.int .i64 T])∧Below W.heap.size W w' from by rw[←hL,←hT];exact rfill_any r u l t now W)
 have HB0:=Lib.hid (below2 w (.cells #[.int .i64 r,.int .i64 u,.int .i64 l,.int .i64 t] 167) (.cells #[.int .i64 0,.int .i64 0,.int .i64 0,.int .i64 0] 167))
 clear hfr hL hT h
 unfold takeB at hK
 by_cases hn0:n<0
 ·rw[if_pos hn0]at hK
  subst hK
  have hDe:D=L:=by omega
  have hw:IntKind.i64.wrap L=L:=IntWalk.i64_in _ (by omega)
  subst hDe
  clear hD
  have HDV:=Lib.hid (show D=D from rfl)
  have HKV:=Lib.hid (show(0:Int)=0 from rfl)
  go_enter Tryz.func199,Tryz.ntmps199
  go_wp2_with fail
  refine(HRG.out _).mono ?_
  rintro e w1 ⟨rfl,hb1⟩
  obtain⟨hg0,hg1,hlt⟩:=two_blocks hb1
  have HB1:=Lib.hid (seqB HB0.out hb1)
  have HG0:=Lib.hid hg0
  have HG1:=Lib.hid hg1
  have x0:w1.cell? ⟨w.heap.size,0,none⟩=some (.int .i64 r):=cell_of_row _ _ 0 _ _ _ hg0
  have x1:w1.cell? ⟨w.heap.size,1,none⟩=some (.int .i64 u):=cell_of_row _ _ 1 _ _ _ hg0
  have x2:w1.cell? ⟨w.heap.size,2,none⟩=some (.int .i64 l):=cell_of_row _ _ 2 _ _ _ hg0
  have x3:w1.cell? ⟨w.heap.size,3,none⟩=some (.int .i64 t):=cell_of_row _ _ 3 _ _ _ hg0
  clear hb1 hg0 hg1 hlt
  go_wp2_with fail
  refine(HFI.out _).mono ?_
  rintro e w2 ⟨rfl,hb2⟩
  have hg0:=(hb2.block _ (blk_lt HG0.out)).trans HG0.out
  have hg1:=(hb2.block _ (blk_lt HG1.out)).trans HG1.out
  have HB2:=Lib.hid (seqB HB1.out hb2)
  have hlt2:w.heap.size+1<w2.heap.size:=blk_lt hg1
  clear hb2 x0 x1 x2 x3
  have x0:w2.cell? ⟨w.heap.size,0,none⟩=some (.int .i64 r):=cell_of_row _ _ 0 _ _ _ hg0
  have x1:w2.cell? ⟨w.heap.size,1,none⟩=some (.int .i64 u):=cell_of_row _ _ 1 _ _ _ hg0
  have x2:w2.cell? ⟨w.heap.size,2,none⟩=some (.int .i64 l):=cell_of_row _ _ 2 _ _ _ hg0
  have x3:w2.cell? ⟨w.heap.size,3,none⟩=some (.int .i64 t):=cell_of_row _ _ 3 _ _ _ hg0
  have y0:w2.cell? ⟨w.heap.size+1,0,none⟩=some (.int .i64 0):=cell_of_row _ _ 0 _ _ _ hg1
  have y1:w2.cell? ⟨w.heap.size+1,1,none⟩=some (.int .i64 0):=cell_of_row _ _ 1 _ _ _ hg1
  have y2:w2.cell? ⟨w.heap.size+1,2,none⟩=some (.int .i64 0):=cell_of_row _ _ 2 _ _ _ hg1
  have y3:w2.cell? ⟨w.heap.size+1,3,none⟩=some (.int .i64 0):=cell_of_row _ _ 3 _ _ _ hg1
  have f0:w2.frozen? ⟨w.heap.size+1,0,none⟩=false:=frozen_at hg1
  have f1:w2.frozen? ⟨w.heap.size+1,1,none⟩=false:=frozen_at hg1
  have f2:w2.frozen? ⟨w.heap.size+1,2,none⟩=false:=frozen_at hg1
  have f3:w2.frozen? ⟨w.heap.size+1,3,none⟩=false:=frozen_at hg1
  have e0:w2.frozen? ⟨w.heap.size,0,none⟩=false:=frozen_at hg0
  have e1:w2.frozen? ⟨w.heap.size,1,none⟩=false:=frozen_at hg0
  have e2:w2.frozen? ⟨w.heap.size,2,none⟩=false:=frozen_at hg0
  have e3:w2.frozen? ⟨w.heap.size,3,none⟩=false:=frozen_at hg0
  go_upto_region 4 with fail
  have hs1:=set4_heap hg0 (.int .i64 r) (.int .i64 u) (.int .i64 D) (.int .i64 T)
  have hd1:=set4_below (w:=w2) HB2.out (show w.heap.size≤w.heap.size by omega) (.int .i64 r) (.int .i64 u) (.int .i64 D) (.int .i64 T)
  have hf1:=(set4_far (.int .i64 r) (.int .i64 u) (.int .i64 D) (.int .i64 T) (show w.heap.size+1≠w.heap.size by omega)).trans hg1
  generalize hW1:set4 w2 w.heap.size (.int .i64 r) (.int .i64 u) (.int .i64 D) (.int .i64 T)=W1 at*
  unfold set4 at hW1
  rw[hW1]
  clear hW1 x0 x1 x2 x3 y0 y1 y2 y3 f0 f1 f2 f3 e0 e1 e2 e3 hg0 hg1
  have hltW:w.heap.size+1<W1.heap.size:=blk_lt hf1
  have x0:W1.cell? ⟨w.heap.size,0,none⟩=some (.int .i64 r):=cell_of_row _ _ 0 _ _ _ hs1
  have x1:W1.cell? ⟨w.heap.size,1,none⟩=some (.int .i64 u):=cell_of_row _ _ 1 _ _ _ hs1
  have x2:W1.cell? ⟨w.heap.size,2,none⟩=some (.int .i64 D):=cell_of_row _ _ 2 _ _ _ hs1
  have x3:W1.cell? ⟨w.heap.size,3,none⟩=some (.int .i64 T):=cell_of_row _ _ 3 _ _ _ hs1
  have e2:W1.frozen? ⟨w.heap.size,2,none⟩=false:=frozen_at hs1
  go_upto_region 9 with fail
  have hs2:=set_heap (i:=2) hs1 (.int .i64 D)
  have hd2:=hd1.setCell (p:=⟨w.heap.size,2,none⟩) (Nat.le_refl _) (.int .i64 D)
  have hf2:=(Below.heap_setCell W1 ⟨w.heap.size,2,none⟩ (.int .i64 D) (w.heap.size+1) (by simp)).trans hf1
  generalize W1.setCell ⟨w.heap.size,2,none⟩ (.int .i64 D)=W2 at*
  have hs2:W2.heap[w.heap.size]?=some (.cells #[.int .i64 r,.int .i64 u,.int .i64 D,.int .i64 T] 167 (0,0)):=hs2
  have hltV:w.heap.size+1<W2.heap.size:=blk_lt hf2
  have hz:=set4_heap hf2 (.int .i64 r) (.int .i64 u) (.int .i64 D) (.int .i64 T)
  have HD:=Lib.hid (set4_below hd2 (show w.heap.size≤w.heap.size+1 by omega) (.int .i64 r) (.int .i64 u) (.int .i64 D) (.int .i64 T))
  have v0:W2.cell? ⟨w.heap.size,0,none⟩=some (.int .i64 r):=cell_of_row _ _ 0 _ _ _ hs2
  have v1:W2.cell? ⟨w.heap.size,1,none⟩=some (.int .i64 u):=cell_of_row _ _ 1 _ _ _ hs2
  have v2:W2.cell? ⟨w.heap.size,2,none⟩=some (.int .i64 D):=cell_of_row _ _ 2 _ _ _ hs2
  have v3:W2.cell? ⟨w.heap.size,3,none⟩=some (.int .i64 T):=cell_of_row _ _ 3 _ _ _ hs2
  have y0:W2.cell? ⟨w.heap.size+1,0,none⟩=some (.int .i64 0):=cell_of_row _ _ 0 _ _ _ hf2
  have y1:W2.cell? ⟨w.heap.size+1,1,none⟩=some (.int .i64 0):=cell_of_row _ _ 1 _ _ _ hf2
  have y2:W2.cell? ⟨w.heap.size+1,2,none⟩=some (.int .i64 0):=cell_of_row _ _ 2 _ _ _ hf2
  have y3:W2.cell? ⟨w.heap.size+1,3,none⟩=some (.int .i64 0):=cell_of_row _ _ 3 _ _ _ hf2
  have f0:W2.frozen? ⟨w.heap.size+1,0,none⟩=false:=frozen_at hf2
  have f1:W2.frozen? ⟨w.heap.size+1,1,none⟩=false:=frozen_at hf2
  have f2:W2.frozen? ⟨w.heap.size+1,2,none⟩=false:=frozen_at hf2
  have f3:W2.frozen? ⟨w.heap.size+1,3,none⟩=false:=frozen_at hf2
  clear hs1 hd1 hf1 hs2 hd2 hf2 x0 x1 x2 x3 e2 hltW
  go_wp2_with fail
  generalize hW:set4 W2 (w.heap.size+1) (.int .i64 r) (.int .i64 u) (.int .i64 D) (.int .i64 T)=W at*
  unfold set4 at hW
  rw[hW]
  clear hW
  have z0:W.cell? ⟨w.heap.size+1,0,none⟩=some (.int .i64 r):=cell_of_row W _ 0 _ _ _ hz
  have z1:W.cell? ⟨w.heap.size+1,1,none⟩=some (.int .i64 u):=cell_of_row W _ 1 _ _ _ hz
  have z2:W.cell? ⟨w.heap.size+1,2,none⟩=some (.int .i64 D):=cell_of_row W _ 2 _ _ _ hz
  have z3:W.cell? ⟨w.heap.size+1,3,none⟩=some (.int .i64 T):=cell_of_row W _ 3 _ _ _ hz
  exact bodyPost_ret (v:=.tuple #[.agg #[.int .i64 r,.int .i64 u,.int .i64 D,.int .i64 T],.int .i64 0]) (by simp[results,Tryz.results199,go_sem,z0,z1,z2,z3]) rfl ⟨by rfl,HD.out⟩
 ·rw[if_neg hn0]at hK
  by_cases hn1:L<n
  ·rw[if_pos hn1]at hK
   subst hK
   obtain rfl:D=0:=by omega
   have hw:IntKind.i64.wrap (L -L)=0:=by rw[IntWalk.i64_in _ (by omega)];omega
   clear hD
   go_enter Tryz.func199,Tryz.ntmps199
   go_wp2_with fail
   refine(HRG.out _).mono ?_
   rintro e w1 ⟨rfl,hb1⟩
   obtain⟨hg0,hg1,hlt⟩:=two_blocks hb1
   have HB1:=Lib.hid (seqB HB0.out hb1)
   have HG0:=Lib.hid hg0
   have HG1:=Lib.hid hg1
   have x0:w1.cell? ⟨w.heap.size,0,none⟩=some (.int .i64 r):=cell_of_row _ _ 0 _ _ _ hg0
   have x1:w1.cell? ⟨w.heap.size,1,none⟩=some (.int .i64 u):=cell_of_row _ _ 1 _ _ _ hg0
   have x2:w1.cell? ⟨w.heap.size,2,none⟩=some (.int .i64 l):=cell_of_row _ _ 2 _ _ _ hg0
   have x3:w1.cell? ⟨w.heap.size,3,none⟩=some (.int .i64 t):=cell_of_row _ _ 3 _ _ _ hg0
   clear hb1 hg0 hg1 hlt
   go_wp2_with fail
   refine(HFI.out _).mono ?_
   rintro e w2 ⟨rfl,hb2⟩
   have hg0:=(hb2.block _ (blk_lt HG0.out)).trans HG0.out
   have hg1:=(hb2.block _ (blk_lt HG1.out)).trans HG1.out
   have HB2:=Lib.hid (seqB HB1.out hb2)
   have hlt2:w.heap.size+1<w2.heap.size:=blk_lt hg1
   clear hb2 x0 x1 x2 x3
   have x0:w2.cell? ⟨w.heap.size,0,none⟩=some (.int .i64 r):=cell_of_row _ _ 0 _ _ _ hg0
   have x1:w2.cell? ⟨w.heap.size,1,none⟩=some (.int .i64 u):=cell_of_row _ _ 1 _ _ _ hg0
   have x2:w2.cell? ⟨w.heap.size,2,none⟩=some (.int .i64 l):=cell_of_row _ _ 2 _ _ _ hg0
   have x3:w2.cell? ⟨w.heap.size,3,none⟩=some (.int .i64 t):=cell_of_row _ _ 3 _ _ _ hg0
   have y0:w2.cell? ⟨w.heap.size+1,0,none⟩=some (.int .i64 0):=cell_of_row _ _ 0 _ _ _ hg1
   have y1:w2.cell? ⟨w.heap.size+1,1,none⟩=some (.int .i64 0):=cell_of_row _ _ 1 _ _ _ hg1
   have y2:w2.cell? ⟨w.heap.size+1,2,none⟩=some (.int .i64 0):=cell_of_row _ _ 2 _ _ _ hg1
   have y3:w2.cell? ⟨w.heap.size+1,3,none⟩=some (.int .i64 0):=cell_of_row _ _ 3 _ _ _ hg1
   have f0:w2.frozen? ⟨w.heap.size+1,0,none⟩=false:=frozen_at hg1
   have f1:w2.frozen? ⟨w.heap.size+1,1,none⟩=false:=frozen_at hg1
   have f2:w2.frozen? ⟨w.heap.size+1,2,none⟩=false:=frozen_at hg1
   have f3:w2.frozen? ⟨w.heap.size+1,3,none⟩=false:=frozen_at hg1
   have e0:w2.frozen? ⟨w.heap.size,0,none⟩=false:=frozen_at hg0
   have e1:w2.frozen? ⟨w.heap.size,1,none⟩=false:=frozen_at hg0
   have e2:w2.frozen? ⟨w.heap.size,2,none⟩=false:=frozen_at hg0
   have e3:w2.frozen? ⟨w.heap.size,3,none⟩=false:=frozen_at hg0
   go_upto_region 4 with fail
   have hs1:=set4_heap hg0 (.int .i64 r) (.int .i64 u) (.int .i64 L) (.int .i64 T)
   have hd1:=set4_below (w:=w2) HB2.out (show w.heap.size≤w.heap.size by omega) (.int .i64 r) (.int .i64 u) (.int .i64 L) (.int .i64 T)
   have hf1:=(set4_far (.int .i64 r) (.int .i64 u) (.int .i64 L) (.int .i64 T) (show w.heap.size+1≠w.heap.size by omega)).trans hg1
   generalize hW1:set4 w2 w.heap.size (.int .i64 r) (.int .i64 u) (.int .i64 L) (.int .i64 T)=W1 at*
   unfold set4 at hW1
   rw[hW1]
   clear hW1 x0 x1 x2 x3 y0 y1 y2 y3 f0 f1 f2 f3 e0 e1 e2 e3 hg0 hg1
   have hltW:w.heap.size+1<W1.heap.size:=blk_lt hf1
   have x0:W1.cell? ⟨w.heap.size,0,none⟩=some (.int .i64 r):=cell_of_row _ _ 0 _ _ _ hs1
   have x1:W1.cell? ⟨w.heap.size,1,none⟩=some (.int .i64 u):=cell_of_row _ _ 1 _ _ _ hs1
   have x2:W1.cell? ⟨w.heap.size,2,none⟩=some (.int .i64 L):=cell_of_row _ _ 2 _ _ _ hs1
   have x3:W1.cell? ⟨w.heap.size,3,none⟩=some (.int .i64 T):=cell_of_row _ _ 3 _ _ _ hs1
   have e2:W1.frozen? ⟨w.heap.size,2,none⟩=false:=frozen_at hs1
   go_upto_region 9 with fail
   have hs2:=set_heap (i:=2) hs1 (.int .i64 0)
   have hd2:=hd1.setCell (p:=⟨w.heap.size,2,none⟩) (Nat.le_refl _) (.int .i64 0)
   have hf2:=(Below.heap_setCell W1 ⟨w.heap.size,2,none⟩ (.int .i64 0) (w.heap.size+1) (by simp)).trans hf1
   generalize W1.setCell ⟨w.heap.size,2,none⟩ (.int .i64 0)=W2 at*
   have hs2:W2.heap[w.heap.size]?=some (.cells #[.int .i64 r,.int .i64 u,.int .i64 0,.int .i64 T] 167 (0,0)):=hs2
   have hltV:w.heap.size+1<W2.heap.size:=blk_lt hf2
   have hz:=set4_heap hf2 (.int .i64 r) (.int .i64 u) (.int .i64 0) (.int .i64 T)
   have HD:=Lib.hid (set4_below hd2 (show w.heap.size≤w.heap.size+1 by omega) (.int .i64 r) (.int .i64 u) (.int .i64 0) (.int .i64 T))
   have v0:W2.cell? ⟨w.heap.size,0,none⟩=some (.int .i64 r):=cell_of_row _ _ 0 _ _ _ hs2
   have v1:W2.cell? ⟨w.heap.size,1,none⟩=some (.int .i64 u):=cell_of_row _ _ 1 _ _ _ hs2
   have v2:W2.cell? ⟨w.heap.size,2,none⟩=some (.int .i64 0):=cell_of_row _ _ 2 _ _ _ hs2
   have v3:W2.cell? ⟨w.heap.size,3,none⟩=some (.int .i64 T):=cell_of_row _ _ 3 _ _ _ hs2
   have y0:W2.cell? ⟨w.heap.size+1,0,none⟩=some (.int .i64 0):=cell_of_row _ _ 0 _ _ _ hf2
   have y1:W2.cell? ⟨w.heap.size+1,1,none⟩=some (.int .i64 0):=cell_of_row _ _ 1 _ _ _ hf2
   have y2:W2.cell? ⟨w.heap.size+1,2,none⟩=some (.int .i64 0):=cell_of_row _ _ 2 _ _ _ hf2
   have y3:W2.cell? ⟨w.heap.size+1,3,none⟩=some (.int .i64 0):=cell_of_row _ _ 3 _ _ _ hf2
   have f0:W2.frozen? ⟨w.heap.size+1,0,none⟩=false:=frozen_at hf2
   have f1:W2.frozen? ⟨w.heap.size+1,1,none⟩=false:=frozen_at hf2
   have f2:W2.frozen? ⟨w.heap.size+1,2,none⟩=false:=frozen_at hf2
   have f3:W2.frozen? ⟨w.heap.size+1,3,none⟩=false:=frozen_at hf2
   clear hs1 hd1 hf1 hs2 hd2 hf2 x0 x1 x2 x3 e2 hltW
   go_wp2_with fail
   generalize hW:set4 W2 (w.heap.size+1) (.int .i64 r) (.int .i64 u) (.int .i64 0) (.int .i64 T)=W at*
   unfold set4 at hW
   rw[hW]
   clear hW
   have z0:W.cell? ⟨w.heap.size+1,0,none⟩=some (.int .i64 r):=cell_of_row W _ 0 _ _ _ hz
   have z1:W.cell? ⟨w.heap.size+1,1,none⟩=some (.int .i64 u):=cell_of_row W _ 1 _ _ _ hz
   have z2:W.cell? ⟨w.heap.size+1,2,none⟩=some (.int .i64 0):=cell_of_row W _ 2 _ _ _ hz
   have z3:W.cell? ⟨w.heap.size+1,3,none⟩=some (.int .i64 T):=cell_of_row W _ 3 _ _ _ hz
   exact bodyPost_ret (v:=.tuple #[.agg #[.int .i64 r,.int .i64 u,.int .i64 0,.int .i64 T],.int .i64 L]) (by simp[results,Tryz.results199,go_sem,z0,z1,z2,z3]) rfl ⟨rfl,HD.out⟩
  ·rw[if_neg hn1]at hK
   subst hK
   have hw:IntKind.i64.wrap (L -n)=D:=by rw[IntWalk.i64_in _ (by omega),hD]
   clear hD
   go_enter Tryz.func199,Tryz.ntmps199
   go_wp2_with fail
   refine(HRG.out _).mono ?_
   rintro e w1 ⟨rfl,hb1⟩
   obtain⟨hg0,hg1,hlt⟩:=two_blocks hb1
   have HB1:=Lib.hid (seqB HB0.out hb1)
   have HG0:=Lib.hid hg0
   have HG1:=Lib.hid hg1
   have x0:w1.cell? ⟨w.heap.size,0,none⟩=some (.int .i64 r):=cell_of_row _ _ 0 _ _ _ hg0
   have x1:w1.cell? ⟨w.heap.size,1,none⟩=some (.int .i64 u):=cell_of_row _ _ 1 _ _ _ hg0
   have x2:w1.cell? ⟨w.heap.size,2,none⟩=some (.int .i64 l):=cell_of_row _ _ 2 _ _ _ hg0
   have x3:w1.cell? ⟨w.heap.size,3,none⟩=some (.int .i64 t):=cell_of_row _ _ 3 _ _ _ hg0
   clear hb1 hg0 hg1 hlt
   go_wp2_with fail
   refine(HFI.out _).mono ?_
   rintro e w2 ⟨rfl,hb2⟩
   have hg0:=(hb2.block _ (blk_lt HG0.out)).trans HG0.out
   have hg1:=(hb2.block _ (blk_lt HG1.out)).trans HG1.out
   have HB2:=Lib.hid (seqB HB1.out hb2)
   have hlt2:w.heap.size+1<w2.heap.size:=blk_lt hg1
   clear hb2 x0 x1 x2 x3
   have x0:w2.cell? ⟨w.heap.size,0,none⟩=some (.int .i64 r):=cell_of_row _ _ 0 _ _ _ hg0
   have x1:w2.cell? ⟨w.heap.size,1,none⟩=some (.int .i64 u):=cell_of_row _ _ 1 _ _ _ hg0
   have x2:w2.cell? ⟨w.heap.size,2,none⟩=some (.int .i64 l):=cell_of_row _ _ 2 _ _ _ hg0
   have x3:w2.cell? ⟨w.heap.size,3,none⟩=some (.int .i64 t):=cell_of_row _ _ 3 _ _ _ hg0
   have y0:w2.cell? ⟨w.heap.size+1,0,none⟩=some (.int .i64 0):=cell_of_row _ _ 0 _ _ _ hg1
   have y1:w2.cell? ⟨w.heap.size+1,1,none⟩=some (.int .i64 0):=cell_of_row _ _ 1 _ _ _ hg1
   have y2:w2.cell? ⟨w.heap.size+1,2,none⟩=some (.int .i64 0):=cell_of_row _ _ 2 _ _ _ hg1
   have y3:w2.cell? ⟨w.heap.size+1,3,none⟩=some (.int .i64 0):=cell_of_row _ _ 3 _ _ _ hg1
   have f0:w2.frozen? ⟨w.heap.size+1,0,none⟩=false:=frozen_at hg1
   have f1:w2.frozen? ⟨w.heap.size+1,1,none⟩=false:=frozen_at hg1
   have f2:w2.frozen? ⟨w.heap.size+1,2,none⟩=false:=frozen_at hg1
   have f3:w2.frozen? ⟨w.heap.size+1,3,none⟩=false:=frozen_at hg1
   have e0:w2.frozen? ⟨w.heap.size,0,none⟩=false:=frozen_at hg0
   have e1:w2.frozen? ⟨w.heap.size,1,none⟩=false:=frozen_at hg0
   have e2:w2.frozen? ⟨w.heap.size,2,none⟩=false:=frozen_at hg0
   have e3:w2.frozen? ⟨w.heap.size,3,none⟩=false:=frozen_at hg0
   go_upto_region 4 with fail
   have hs1:=set4_heap hg0 (.int .i64 r) (.int .i64 u) (.int .i64 L) (.int .i64 T)
   have hd1:=set4_below (w:=w2) HB2.out (show w.heap.size≤w.heap.size by omega) (.int .i64 r) (.int .i64 u) (.int .i64 L) (.int .i64 T)
   have hf1:=(set4_far (.int .i64 r) (.int .i64 u) (.int .i64 L) (.int .i64 T) (show w.heap.size+1≠w.heap.size by omega)).trans hg1
   generalize hW1:set4 w2 w.heap.size (.int .i64 r) (.int .i64 u) (.int .i64 L) (.int .i64 T)=W1 at*
   unfold set4 at hW1
   rw[hW1]
   clear hW1 x0 x1 x2 x3 y0 y1 y2 y3 f0 f1 f2 f3 e0 e1 e2 e3 hg0 hg1
   have hltW:w.heap.size+1<W1.heap.size:=blk_lt hf1
   have x0:W1.cell? ⟨w.heap.size,0,none⟩=some (.int .i64 r):=cell_of_row _ _ 0 _ _ _ hs1
   have x1:W1.cell? ⟨w.heap.size,1,none⟩=some (.int .i64 u):=cell_of_row _ _ 1 _ _ _ hs1
   have x2:W1.cell? ⟨w.heap.size,2,none⟩=some (.int .i64 L):=cell_of_row _ _ 2 _ _ _ hs1
   have x3:W1.cell? ⟨w.heap.size,3,none⟩=some (.int .i64 T):=cell_of_row _ _ 3 _ _ _ hs1
   have e2:W1.frozen? ⟨w.heap.size,2,none⟩=false:=frozen_at hs1
   go_upto_region 9 with fail
   have hs2:=set_heap (i:=2) hs1 (.int .i64 D)
   have hd2:=hd1.setCell (p:=⟨w.heap.size,2,none⟩) (Nat.le_refl _) (.int .i64 D)
   have hf2:=(Below.heap_setCell W1 ⟨w.heap.size,2,none⟩ (.int .i64 D) (w.heap.size+1) (by simp)).trans hf1
   generalize W1.setCell ⟨w.heap.size,2,none⟩ (.int .i64 D)=W2 at*
   have hs2:W2.heap[w.heap.size]?=some (.cells #[.int .i64 r,.int .i64 u,.int .i64 D,.int .i64 T] 167 (0,0)):=hs2
   have hltV:w.heap.size+1<W2.heap.size:=blk_lt hf2
   have hz:=set4_heap hf2 (.int .i64 r) (.int .i64 u) (.int .i64 D) (.int .i64 T)
   have HD:=Lib.hid (set4_below hd2 (show w.heap.size≤w.heap.size+1 by omega) (.int .i64 r) (.int .i64 u) (.int .i64 D) (.int .i64 T))
   have v0:W2.cell? ⟨w.heap.size,0,none⟩=some (.int .i64 r):=cell_of_row _ _ 0 _ _ _ hs2
   have v1:W2.cell? ⟨w.heap.size,1,none⟩=some (.int .i64 u):=cell_of_row _ _ 1 _ _ _ hs2
   have v2:W2.cell? ⟨w.heap.size,2,none⟩=some (.int .i64 D):=cell_of_row _ _ 2 _ _ _ hs2
   have v3:W2.cell? ⟨w.heap.size,3,none⟩=some (.int .i64 T):=cell_of_row _ _ 3 _ _ _ hs2
   have y0:W2.cell? ⟨w.heap.size+1,0,none⟩=some (.int .i64 0):=cell_of_row _ _ 0 _ _ _ hf2
   have y1:W2.cell? ⟨w.heap.size+1,1,none⟩=some (.int .i64 0):=cell_of_row _ _ 1 _ _ _ hf2
   have y2:W2.cell? ⟨w.heap.size+1,2,none⟩=some (.int .i64 0):=cell_of_row _ _ 2 _ _ _ hf2
   have y3:W2.cell? ⟨w.heap.size+1,3,none⟩=some (.int .i64 0):=cell_of_row _ _ 3 _ _ _ hf2
   have f0:W2.frozen? ⟨w.heap.size+1,0,none⟩=false:=frozen_at hf2
   have f1:W2.frozen? ⟨w.heap.size+1,1,none⟩=false:=frozen_at hf2
   have f2:W2.frozen? ⟨w.heap.size+1,2,none⟩=false:=frozen_at hf2
   have f3:W2.frozen? ⟨w.heap.size+1,3,none⟩=false:=frozen_at hf2
   clear hs1 hd1 hf1 hs2 hd2 hf2 x0 x1 x2 x3 e2 hltW
   go_wp2_with fail
   generalize hW:set4 W2 (w.heap.size+1) (.int .i64 r) (.int .i64 u) (.int .i64 D) (.int .i64 T)=W at*
   unfold set4 at hW
   rw[hW]
   clear hW
   have z0:W.cell? ⟨w.heap.size+1,0,none⟩=some (.int .i64 r):=cell_of_row W _ 0 _ _ _ hz
   have z1:W.cell? ⟨w.heap.size+1,1,none⟩=some (.int .i64 u):=cell_of_row W _ 1 _ _ _ hz
   have z2:W.cell? ⟨w.heap.size+1,2,none⟩=some (.int .i64 D):=cell_of_row W _ 2 _ _ _ hz
   have z3:W.cell? ⟨w.heap.size+1,3,none⟩=some (.int .i64 T):=cell_of_row W _ 3 _ _ _ hz
   exact bodyPost_ret (v:=.tuple #[.agg #[.int .i64 r,.int .i64 u,.int .i64 D,.int .i64 T],.int .i64 n]) (by simp[results,Tryz.results199,go_sem,z0,z1,z2,z3]) rfl ⟨rfl,HD.out⟩
end Go.Proofs.YtdighjgcnaajgaaGreat.gb
namespace Go.Proofs.YtdighjgcnaajgaaGreat.gb
open Go.RowKit
end Go.Proofs.YtdighjgcnaajgaaGreat.gb
namespace Go.Proofs.YtdighjgcnaajgaaGreat.gb
open Go.RowKit
structure IsW (r u l t n x:Int):Prop where
 low:t≤x
 top:x≤1099511627776
 yes:n≤fillL r u l t x
 no:∀y,t≤y→y<x→fillL r u l t y<n
theorem fill_mono {r u l t:Int} (h:rightB r u l t=true) {y z:Int} (hy:t≤y) (hyz:y≤z) (hz:z≤1099511627776):fillL r u l t y≤fillL r u l t z:=by
 obtain⟨h1,h2,h3,h4,h5,h6⟩:=(rightB_iff r u l t).1 h
 unfold fillL lvl
 rw[near_of y (by omega) (by omega),near_of z (by omega) hz]
 have hm:r*(y -t)≤r*(z -t):=Int.mul_le_mul_of_nonneg_left (by omega) h1.1
 have hp:0≤r*(y -t):=Int.mul_nonneg h1.1 (by omega)
 have hp2:0≤r*(z -t):=Int.mul_nonneg h1.1 (by omega)
 generalize r*(y -t)=a at*
 generalize r*(z -t)=b at*
 simp only[h,true_and]
 (repeat' split)<;>omega
theorem field2 (a b c d:Int) (w:World):(Instr.field 167 (.agg #[.int .i64 a,.int .i64 b,.int .i64 c,.int .i64 d]) 2).run Tryz.prog w=.ok (.int .i64 c) w:=by
 first
  |kernel_rfl
  |rfl
  |simp[Instr.field,go_sem]
end Go.Proofs.YtdighjgcnaajgaaGreat.gb
namespace Go.Proofs.YtdighjgcnaajgaaGreat.gb
open Go.RowKit
theorem near_mono {m n:Int} (h:m≤n):near m≤near n:=by unfold near;(repeat' split)<;>omega
theorem lvl_lvl {r u l t a b:Int} (hr:0≤r) (ha:t≤a) (hb:a≤b):lvl r u (lvl r u l t a) a b=lvl r u l t b:=by
 have h1:0≤r*(a -t):=Int.mul_nonneg hr (by omega)
 have h2:0≤r*(b -a):=Int.mul_nonneg hr (by omega)
 have h3:r*(b -t)=r*(a -t)+r*(b -a):=by rw[←Int.mul_add];congr 1;omega
 unfold lvl
 rw[h3]
 generalize r*(a -t)=P at*
 generalize r*(b -a)=Q at*
 (repeat' split)<;>omega
theorem fill_same {r u l t now:Int} (h:¬t<near now):fillL r u l t now=l∧fillT r u l t now=t:=by
 unfold fillL fillT
 rw[if_neg (λ h'=>h h'.2),if_neg (λ h'=>h h'.2)]
 exact⟨rfl,rfl⟩
theorem fill_steps {r u l t:Int} (h:rightB r u l t=true) {m n:Int} (hmn:m≤n):
  fillL r u (fillL r u l t m) (fillT r u l t m) n=fillL r u l t n∧fillT r u (fillL r u l t m) (fillT r u l t m) n=fillT r u l t n:=by
 have hr:=(rightB_iff r u l t).1 h
 have hab:=near_mono hmn
 have h':=fill_right h m
 by_cases h0:¬t<near m
 ·rw[(fill_same h0).1,(fill_same h0).2]
  exact⟨rfl,rfl⟩
 unfold fillL fillT at h'⊢
 generalize near m=a at*
 generalize near n=b at*
 by_cases h1:t<a
 ·have c1:rightB r u l t=true∧t<a:=⟨h,h1⟩
  have c2:rightB r u l t=true∧t<b:=⟨h,by omega⟩
  simp only[if_pos c1,if_pos c2]at h'⊢
  by_cases h2:a<b
  ·have c3:rightB r u (lvl r u l t a) a=true∧a<b:=⟨h',h2⟩
   rw[if_pos c3,if_pos c3]
   exact⟨lvl_lvl hr.1.1 (by omega) (by omega),rfl⟩
  ·obtain rfl:a=b:=by omega
   have c3:¬(rightB r u (lvl r u l t a) a=true∧a<a):=λ h=>by omega
   rw[if_neg c3,if_neg c3]
   exact⟨rfl,rfl⟩
 ·exact absurd h1 h0
theorem fill_back {r u l t:Int} {m n:Int} (h:rightB r u l t=true) (hmn:m≤n):
  fillL r u (fillL r u l t n) (fillT r u l t n) m=fillL r u l t n∧fillT r u (fillL r u l t n) (fillT r u l t n) m=fillT r u l t n:=by
 have hab:=near_mono hmn
 have hT:¬fillT r u l t n<near m:=by
  unfold fillT
  by_cases h1:t<near n
  ·rw[if_pos ⟨h,h1⟩];omega
  ·rw[if_neg (λ h=>h1 h.2)];omega
 exact fill_same hT
theorem when_ex {r u l t n:Int} (h:rightB r u l t=true) (hn:n≤fillL r u l t 1099511627776):∃x,IsW r u l t n x:=by
 have hr:=(rightB_iff r u l t).1 h
 have key:∀(k:Nat),n≤fillL r u l t (t+k)→t+k≤1099511627776→∃x,IsW r u l t n x:=by
  intro k
  induction k with
  |zero=>
   intro h1 h2
   exact⟨t,Int.le_refl _,by omega,by simpa using h1,λ y a b=>by omega⟩
  |succ k ih=>
   intro h1 h2
   by_cases h3:n≤fillL r u l t (t+k)
   ·exact ih h3 (by omega)
   ·refine⟨t+(k+1:Nat),by omega,h2,h1,λ y a b=>?_⟩
    have:=fill_mono h a (show y≤t+k by omega) (by omega)
    omega
 refine key (1099511627776 -t).toNat ?_ (by omega)
 rw[show t+((1099511627776 -t).toNat:Int)=1099511627776 by omega]
 exact hn
theorem take_range {L n:Int} (hL:0≤L):0≤takeB L n∧takeB L n≤L∧(0≤n→takeB L n≤n)∧(n≤0→takeB L n=0)∧(n≤0∨takeB L n=n∨L -takeB L n=0):=by
 unfold takeB
 refine⟨?_,?_,?_,?_,?_⟩<;>(repeat' split)<;>omega
theorem less_right {r u l t k:Int} (h:rightB r u l t=true) (h0:0≤k) (h1:k≤l):rightB r u (l -k) t=true:=by
 have hr:=(rightB_iff r u l t).1 h
 rw[rightB_iff]
 exact⟨hr.1,hr.2.1,⟨by omega,by omega⟩,hr.2.2.2.1,hr.2.2.2.2.1,by omega⟩
theorem fillT_ge {r u l t now:Int} (h:rightB r u l t=true):¬fillT r u l t now<near now:=by
 unfold fillT
 by_cases h1:t<near now
 ·rw[if_pos ⟨h,h1⟩];omega
 ·rw[if_neg (λ h=>h1 h.2)];exact h1
theorem add_more {a m:Int} (ha:0≤a∧a≤1099511627776) (hm:0≤m):a≤near (near a+near m)∧near (near a+near m)≤1099511627776:=by
 rw[near_of a ha.1 ha.2]
 have:=near_range m
 unfold near at*
 (repeat' split at*)<;>omega
theorem more_right {r u l t r' u':Int} (h:rightB r u l t=true) (h1:r≤r'∧r'≤1099511627776) (h2:u≤u'∧u'≤1099511627776):rightB r' u' l t=true:=by
 have hr:=(rightB_iff r u l t).1 h
 rw[rightB_iff]
 exact⟨⟨by omega,h1.2⟩,⟨by omega,h2.2⟩,hr.2.2.1,hr.2.2.2.1,by omega,by omega⟩
theorem more_fill {r u l t r' u':Int} (h:rightB r u l t=true) (h1:r≤r'∧r'≤1099511627776) (h2:u≤u'∧u'≤1099511627776) (now:Int):fillL r u l t now≤fillL r' u' l t now:=by
 have hr:=(rightB_iff r u l t).1 h
 have h':=more_right h h1 h2
 unfold fillL
 by_cases hc:t<near now
 ·rw[if_pos ⟨h,hc⟩,if_pos ⟨h',hc⟩]
  have hm:r*(near now -t)≤r'*(near now -t):=Int.mul_le_mul_of_nonneg_right h1.1 (by omega)
  unfold lvl
  generalize r*(near now -t)=P at*
  generalize r'*(near now -t)=Q at*
  (repeat' split)<;>omega
 ·rw[if_neg (λ h=>hc h.2),if_neg (λ h=>hc h.2)]
  exact Int.le_refl _
theorem more_most {r u l t r' u':Int} (h:rightB r u l t=true) (h1:r≤r'∧r'≤1099511627776) (h2:u≤u'∧u'≤1099511627776) (k:Int):mostV r u l t k≤mostV r' u' l t k:=by
 have hr:=(rightB_iff r u l t).1 h
 have h':=more_right h h1 h2
 unfold mostV
 rw[if_pos h,if_pos h']
 have hk:=near_range k
 have e1:near r*near k≤near r'*near k:=Int.mul_le_mul_of_nonneg_right (near_mono h1.1) hk.1
 have e2:=near_mono (near_mono e1)
 have e3:=near_mono h2.1
 exact near_mono (by omega)
theorem window_step {r u l t now L T:Int} (h:rightB r u l t=true) (hL:fillL r u l t now=L) (hT:fillT r u l t now=T) (htn:t≤near now):T=near now∧L≤l+r*(T -t)∧L≤u∧0≤L:=by
 have hr:=(rightB_iff r u l t).1 h
 subst hL hT
 unfold fillL fillT
 by_cases hc:t<near now
 ·rw[if_pos ⟨h,hc⟩,if_pos ⟨h,hc⟩]
  have hp:0≤r*(near now -t):=Int.mul_nonneg hr.1.1 (by omega)
  unfold lvl
  refine⟨rfl,?_,?_,?_⟩<;>split<;>omega
 ·rw[if_neg (λ h=>hc h.2),if_neg (λ h=>hc h.2)]
  refine⟨by omega,?_,hr.2.2.2.2.2,hr.2.2.1.1⟩
  rw[Int.sub_self,Int.mul_zero]
  omega
theorem near_le {x y:Int} (hx:0≤x) (h:x≤y):near x≤y:=by
 unfold near
 (repeat' split)<;>omega
theorem most_fits {r u s d:Int} (hr:0≤r∧r≤1099511627776) (hu:0≤u∧u≤1099511627776) (hd:0≤d∧d≤1099511627776) (h0:0≤s) (hs:s≤u+r*d):near s≤near (near u+near (near (near r*near d))):=by
 rw[near_of u hu.1 hu.2,near_of r hr.1 hr.2,near_of d hd.1 hd.2]
 have hp:0≤r*d:=Int.mul_nonneg hr.1 hd.1
 generalize r*d=P at*
 unfold near
 (repeat' split)<;>omega
end Go.Proofs.YtdighjgcnaajgaaGreat.gb
