import Derived.Test.YtdighjgcnaajgaaGreatMS21
import Derived.Deep.RegionLaw
namespace Go.Proofs.YtdighjgcnaajgaaGreat.gb
open Go.RowKit
set_option maxRecDepth 100000 in
set_option maxHeartbeats 4000000 in
theorem new_b1 {r u n:Int} (h:rightB r u u n=true) (w:World):Calls Tryz.prog 168 #[.int .i64 r,.int .i64 u,.int .i64 n] w λ e w'=>e=.returned (.tuple #[.agg #[.int .i64 r,.int .i64 u,.int .i64 u,.int .i64 n],.int .i64 0])∧Below w.heap.size w w':=by
 have HRG:=Lib.hid (λ W=>show Calls Tryz.prog 196 #[.agg #[.int .i64 r,.int .i64 u,.int .i64 u,.int .i64 n]] W λ e w'=>e=.returned (.bool true)∧Below W.heap.size W w' from by rw[←h];exact right_b r u u n W)
 have HB0:=Lib.hid (below2 w (.cells #[.int .i64 0,.int .i64 0,.int .i64 0,.int .i64 0] 202) (.cells #[.int .i64 0,.int .i64 0,.int .i64 0,.int .i64 0] 202))
 obtain⟨W0,hW0⟩:∃W0,(w.alloc (.cells #[.int .i64 0,.int .i64 0,.int .i64 0,.int .i64 0] 202)).alloc (.cells #[.int .i64 0,.int .i64 0,.int .i64 0,.int .i64 0] 202)=W0:=⟨_,rfl⟩
 have hg:=two_blocks (w:=w) (o0:=(.cells #[.int .i64 0,.int .i64 0,.int .i64 0,.int .i64 0] 202)) (o1:=(.cells #[.int .i64 0,.int .i64 0,.int .i64 0,.int .i64 0] 202)) (w1:=W0) (by rw[hW0];exact Below.refl _ _)
 rw[hW0]at HB0
 obtain⟨hg0,hg1,hlt⟩:=hg
 have hz:=set4_heap hg1 (.int .i64 r) (.int .i64 u) (.int .i64 u) (.int .i64 n)
 have HD:=Lib.hid (set4_below (w:=W0) (g:=w.heap.size+1) HB0.out (show w.heap.size≤w.heap.size+1 by omega) (.int .i64 r) (.int .i64 u) (.int .i64 u) (.int .i64 n))
 have hf:=(set4_far (w:=W0) (g:=w.heap.size+1) (k:=w.heap.size) (.int .i64 r) (.int .i64 u) (.int .i64 u) (.int .i64 n) (by omega)).trans hg0
 have y0:W0.cell? ⟨w.heap.size+1,0,none⟩=some (.int .i64 0):=cell_of_row _ _ 0 _ _ _ hg1
 have y1:W0.cell? ⟨w.heap.size+1,1,none⟩=some (.int .i64 0):=cell_of_row _ _ 1 _ _ _ hg1
 have y2:W0.cell? ⟨w.heap.size+1,2,none⟩=some (.int .i64 0):=cell_of_row _ _ 2 _ _ _ hg1
 have y3:W0.cell? ⟨w.heap.size+1,3,none⟩=some (.int .i64 0):=cell_of_row _ _ 3 _ _ _ hg1
 have f0:W0.frozen? ⟨w.heap.size+1,0,none⟩=false:=frozen_at hg1
 have f1:W0.frozen? ⟨w.heap.size+1,1,none⟩=false:=frozen_at hg1
 have f2:W0.frozen? ⟨w.heap.size+1,2,none⟩=false:=frozen_at hg1
 have f3:W0.frozen? ⟨w.heap.size+1,3,none⟩=false:=frozen_at hg1
 clear hg0 hg1 h
 go_enter Tryz.func168,Tryz.ntmps168
 go_upto_region 2 with fail
 generalize hW:set4 W0 (w.heap.size+1) (.int .i64 r) (.int .i64 u) (.int .i64 u) (.int .i64 n)=W at*
 unfold set4 at hW
 rw[hW]
 clear hW y0 y1 y2 y3 f0 f1 f2 f3 hW0
 have y0:W.cell? ⟨w.heap.size+1,0,none⟩=some (.int .i64 r):=cell_of_row _ _ 0 _ _ _ hz
 have y1:W.cell? ⟨w.heap.size+1,1,none⟩=some (.int .i64 u):=cell_of_row _ _ 1 _ _ _ hz
 have y2:W.cell? ⟨w.heap.size+1,2,none⟩=some (.int .i64 u):=cell_of_row _ _ 2 _ _ _ hz
 have y3:W.cell? ⟨w.heap.size+1,3,none⟩=some (.int .i64 n):=cell_of_row _ _ 3 _ _ _ hz
 go_wp2_with fail
 refine(HRG.out _).mono ?_
 rintro e w1 ⟨rfl,hb⟩
 have hg0:=(hb.block _ (blk_lt hf)).trans hf
 have hg1:=(hb.block _ (blk_lt hz)).trans hz
 have HB1:=Lib.hid (seqB HD.out hb)
 clear hb y0 y1 y2 y3 hz hf hlt
 have hlt:=blk_lt hg1
 have y0:w1.cell? ⟨w.heap.size+1,0,none⟩=some (.int .i64 r):=cell_of_row _ _ 0 _ _ _ hg1
 have y1:w1.cell? ⟨w.heap.size+1,1,none⟩=some (.int .i64 u):=cell_of_row _ _ 1 _ _ _ hg1
 have y2:w1.cell? ⟨w.heap.size+1,2,none⟩=some (.int .i64 u):=cell_of_row _ _ 2 _ _ _ hg1
 have y3:w1.cell? ⟨w.heap.size+1,3,none⟩=some (.int .i64 n):=cell_of_row _ _ 3 _ _ _ hg1
 have x0:w1.cell? ⟨w.heap.size,0,none⟩=some (.int .i64 0):=cell_of_row _ _ 0 _ _ _ hg0
 have x1:w1.cell? ⟨w.heap.size,1,none⟩=some (.int .i64 0):=cell_of_row _ _ 1 _ _ _ hg0
 have x2:w1.cell? ⟨w.heap.size,2,none⟩=some (.int .i64 0):=cell_of_row _ _ 2 _ _ _ hg0
 have x3:w1.cell? ⟨w.heap.size,3,none⟩=some (.int .i64 0):=cell_of_row _ _ 3 _ _ _ hg0
 have f0:w1.frozen? ⟨w.heap.size,0,none⟩=false:=frozen_at hg0
 have f1:w1.frozen? ⟨w.heap.size,1,none⟩=false:=frozen_at hg0
 have f2:w1.frozen? ⟨w.heap.size,2,none⟩=false:=frozen_at hg0
 have f3:w1.frozen? ⟨w.heap.size,3,none⟩=false:=frozen_at hg0
 have hz:=set4_heap hg0 (.int .i64 r) (.int .i64 u) (.int .i64 u) (.int .i64 n)
 have HE:=Lib.hid (set4_below (w:=w1) (g:=w.heap.size) HB1.out (Nat.le_refl _) (.int .i64 r) (.int .i64 u) (.int .i64 u) (.int .i64 n))
 clear hg0 hg1
 go_wp2_with fail
 generalize hW:set4 w1 w.heap.size (.int .i64 r) (.int .i64 u) (.int .i64 u) (.int .i64 n)=W2 at*
 unfold set4 at hW
 rw[hW]
 clear hW
 have z0:W2.cell? ⟨w.heap.size,0,none⟩=some (.int .i64 r):=cell_of_row _ _ 0 _ _ _ hz
 have z1:W2.cell? ⟨w.heap.size,1,none⟩=some (.int .i64 u):=cell_of_row _ _ 1 _ _ _ hz
 have z2:W2.cell? ⟨w.heap.size,2,none⟩=some (.int .i64 u):=cell_of_row _ _ 2 _ _ _ hz
 have z3:W2.cell? ⟨w.heap.size,3,none⟩=some (.int .i64 n):=cell_of_row _ _ 3 _ _ _ hz
 exact bodyPost_ret (v:=.tuple #[.agg #[.int .i64 r,.int .i64 u,.int .i64 u,.int .i64 n],.int .i64 0]) (by simp[results,Tryz.results168,go_sem,z0,z1,z2,z3]) rfl ⟨rfl,HE.out⟩
set_option maxRecDepth 100000 in
set_option maxHeartbeats 4000000 in
theorem new_b0 {r u n:Int} (h:rightB r u u n=false) (w:World):Calls Tryz.prog 168 #[.int .i64 r,.int .i64 u,.int .i64 n] w λ e w'=>e=.returned (.tuple #[.agg #[.int .i64 0,.int .i64 0,.int .i64 0,.int .i64 0],.int .i64 1])∧Below w.heap.size w w':=by
 have HRG:=Lib.hid (λ W=>show Calls Tryz.prog 196 #[.agg #[.int .i64 r,.int .i64 u,.int .i64 u,.int .i64 n]] W λ e w'=>e=.returned (.bool false)∧Below W.heap.size W w' from by rw[←h];exact right_b r u u n W)
 have HB0:=Lib.hid (below2 w (.cells #[.int .i64 0,.int .i64 0,.int .i64 0,.int .i64 0] 202) (.cells #[.int .i64 0,.int .i64 0,.int .i64 0,.int .i64 0] 202))
 obtain⟨W0,hW0⟩:∃W0,(w.alloc (.cells #[.int .i64 0,.int .i64 0,.int .i64 0,.int .i64 0] 202)).alloc (.cells #[.int .i64 0,.int .i64 0,.int .i64 0,.int .i64 0] 202)=W0:=⟨_,rfl⟩
 have hg:=two_blocks (w:=w) (o0:=(.cells #[.int .i64 0,.int .i64 0,.int .i64 0,.int .i64 0] 202)) (o1:=(.cells #[.int .i64 0,.int .i64 0,.int .i64 0,.int .i64 0] 202)) (w1:=W0) (by rw[hW0];exact Below.refl _ _)
 rw[hW0]at HB0
 obtain⟨hg0,hg1,hlt⟩:=hg
 have hz:=set4_heap hg1 (.int .i64 r) (.int .i64 u) (.int .i64 u) (.int .i64 n)
 have HD:=Lib.hid (set4_below (w:=W0) (g:=w.heap.size+1) HB0.out (show w.heap.size≤w.heap.size+1 by omega) (.int .i64 r) (.int .i64 u) (.int .i64 u) (.int .i64 n))
 have hf:=(set4_far (w:=W0) (g:=w.heap.size+1) (k:=w.heap.size) (.int .i64 r) (.int .i64 u) (.int .i64 u) (.int .i64 n) (by omega)).trans hg0
 have y0:W0.cell? ⟨w.heap.size+1,0,none⟩=some (.int .i64 0):=cell_of_row _ _ 0 _ _ _ hg1
 have y1:W0.cell? ⟨w.heap.size+1,1,none⟩=some (.int .i64 0):=cell_of_row _ _ 1 _ _ _ hg1
 have y2:W0.cell? ⟨w.heap.size+1,2,none⟩=some (.int .i64 0):=cell_of_row _ _ 2 _ _ _ hg1
 have y3:W0.cell? ⟨w.heap.size+1,3,none⟩=some (.int .i64 0):=cell_of_row _ _ 3 _ _ _ hg1
 have f0:W0.frozen? ⟨w.heap.size+1,0,none⟩=false:=frozen_at hg1
 have f1:W0.frozen? ⟨w.heap.size+1,1,none⟩=false:=frozen_at hg1
 have f2:W0.frozen? ⟨w.heap.size+1,2,none⟩=false:=frozen_at hg1
 have f3:W0.frozen? ⟨w.heap.size+1,3,none⟩=false:=frozen_at hg1
 clear hg0 hg1 h
 go_enter Tryz.func168,Tryz.ntmps168
 go_upto_region 2 with fail
 generalize hW:set4 W0 (w.heap.size+1) (.int .i64 r) (.int .i64 u) (.int .i64 u) (.int .i64 n)=W at*
 unfold set4 at hW
 rw[hW]
 clear hW y0 y1 y2 y3 f0 f1 f2 f3 hW0
 have y0:W.cell? ⟨w.heap.size+1,0,none⟩=some (.int .i64 r):=cell_of_row _ _ 0 _ _ _ hz
 have y1:W.cell? ⟨w.heap.size+1,1,none⟩=some (.int .i64 u):=cell_of_row _ _ 1 _ _ _ hz
 have y2:W.cell? ⟨w.heap.size+1,2,none⟩=some (.int .i64 u):=cell_of_row _ _ 2 _ _ _ hz
 have y3:W.cell? ⟨w.heap.size+1,3,none⟩=some (.int .i64 n):=cell_of_row _ _ 3 _ _ _ hz
 go_wp2_with fail
 refine(HRG.out _).mono ?_
 rintro e w1 ⟨rfl,hb⟩
 have hg0:=(hb.block _ (blk_lt hf)).trans hf
 have hg1:=(hb.block _ (blk_lt hz)).trans hz
 have HB1:=Lib.hid (seqB HD.out hb)
 clear hb y0 y1 y2 y3 hz hf hlt
 have hlt:=blk_lt hg1
 have y0:w1.cell? ⟨w.heap.size+1,0,none⟩=some (.int .i64 r):=cell_of_row _ _ 0 _ _ _ hg1
 have y1:w1.cell? ⟨w.heap.size+1,1,none⟩=some (.int .i64 u):=cell_of_row _ _ 1 _ _ _ hg1
 have y2:w1.cell? ⟨w.heap.size+1,2,none⟩=some (.int .i64 u):=cell_of_row _ _ 2 _ _ _ hg1
 have y3:w1.cell? ⟨w.heap.size+1,3,none⟩=some (.int .i64 n):=cell_of_row _ _ 3 _ _ _ hg1
 have x0:w1.cell? ⟨w.heap.size,0,none⟩=some (.int .i64 0):=cell_of_row _ _ 0 _ _ _ hg0
 have x1:w1.cell? ⟨w.heap.size,1,none⟩=some (.int .i64 0):=cell_of_row _ _ 1 _ _ _ hg0
 have x2:w1.cell? ⟨w.heap.size,2,none⟩=some (.int .i64 0):=cell_of_row _ _ 2 _ _ _ hg0
 have x3:w1.cell? ⟨w.heap.size,3,none⟩=some (.int .i64 0):=cell_of_row _ _ 3 _ _ _ hg0
 have f0:w1.frozen? ⟨w.heap.size,0,none⟩=false:=frozen_at hg0
 have f1:w1.frozen? ⟨w.heap.size,1,none⟩=false:=frozen_at hg0
 have f2:w1.frozen? ⟨w.heap.size,2,none⟩=false:=frozen_at hg0
 have f3:w1.frozen? ⟨w.heap.size,3,none⟩=false:=frozen_at hg0
 have hz:=set4_heap hg0 (.int .i64 0) (.int .i64 0) (.int .i64 0) (.int .i64 0)
 have HE:=Lib.hid (set4_below (w:=w1) (g:=w.heap.size) HB1.out (Nat.le_refl _) (.int .i64 0) (.int .i64 0) (.int .i64 0) (.int .i64 0))
 clear hg0 hg1
 go_wp2_with fail
 generalize hW:set4 w1 w.heap.size (.int .i64 0) (.int .i64 0) (.int .i64 0) (.int .i64 0)=W2 at*
 unfold set4 at hW
 rw[hW]
 clear hW
 have z0:W2.cell? ⟨w.heap.size,0,none⟩=some (.int .i64 0):=cell_of_row _ _ 0 _ _ _ hz
 have z1:W2.cell? ⟨w.heap.size,1,none⟩=some (.int .i64 0):=cell_of_row _ _ 1 _ _ _ hz
 have z2:W2.cell? ⟨w.heap.size,2,none⟩=some (.int .i64 0):=cell_of_row _ _ 2 _ _ _ hz
 have z3:W2.cell? ⟨w.heap.size,3,none⟩=some (.int .i64 0):=cell_of_row _ _ 3 _ _ _ hz
 exact bodyPost_ret (v:=.tuple #[.agg #[.int .i64 0,.int .i64 0,.int .i64 0,.int .i64 0],.int .i64 1]) (by simp[results,Tryz.results168,go_sem,z0,z1,z2,z3]) rfl ⟨rfl,HE.out⟩
end Go.Proofs.YtdighjgcnaajgaaGreat.gb
namespace Go.Proofs.YtdighjgcnaajgaaGreat.gb
open Go.RowKit
theorem fill_is {r u l t now d M N T:Int} (h:rightB r u l t=true) (hd:near (near now -near t)=d) (hM:near (near r*near d)=M) (hN:near (near l+near M)=N) (hT:near (near t+near d)=T):trimL u N=fillL r u l t now∧T=fillT r u l t now:=by
 obtain⟨h1,h2,h3,h4,h5,h6⟩:=(rightB_iff r u l t).1 h
 have hx:=near_range now
 obtain⟨x,hxx⟩:∃x,near now=x:=⟨_,rfl⟩
 unfold fillL fillT
 rw[hxx]at hx hd⊢
 rw[near_of t h4.1 h4.2]at hd hT
 by_cases hlt:t<x
 ·rw[near_of (x -t) (by omega) (by omega)]at hd
  subst hd
  rw[if_pos ⟨h,hlt⟩,if_pos ⟨h,hlt⟩]
  refine⟨by unfold trimL;exact lvl_is h hlt hx.2 hM hN,?_⟩
  rw[←hT,near_of (x -t) (by omega) (by omega),near_of _ (by omega) (by omega)]
  omega
 ·rw[if_neg (λ q=>hlt q.2),if_neg (λ q=>hlt q.2)]
  have e0:d=0:=by rw[←hd];unfold near;(repeat' split)<;>omega
  subst e0
  have n0:near 0=0:=by decide
  rw[n0,Int.mul_zero,n0]at hM
  subst hM
  rw[n0,Int.add_zero,near_of l h3.1 h3.2,near_of l h3.1 h3.2]at hN
  subst hN
  rw[n0,Int.add_zero,near_of t h4.1 h4.2]at hT
  exact⟨by unfold trimL;exact if_neg (by omega),hT.symm⟩
set_option maxRecDepth 100000 in
set_option maxHeartbeats 8000000 in
theorem fill_b (r u l t now:Int) (w:World):Calls Tryz.prog 201 #[.agg #[.int .i64 r,.int .i64 u,.int .i64 l,.int .i64 t],.int .i64 now] w λ e w'=>e=.returned (.agg #[.int .i64 r,.int .i64 u,.int .i64 (fillL r u l t now),.int .i64 (fillT r u l t now)])∧Below w.heap.size w w':=by
 obtain⟨F,hF⟩:∃F,rightB r u l t=F:=⟨_,rfl⟩
 have HRG:=Lib.hid (λ W=>show Calls Tryz.prog 196 #[.agg #[.int .i64 r,.int .i64 u,.int .i64 l,.int .i64 t]] W λ e w'=>e=.returned (.bool F)∧Below W.heap.size W w' from by rw[←hF];exact right_b r u l t W)
 obtain⟨W0,hW0⟩:∃W0,(w.alloc (.cells #[.int .i64 r,.int .i64 u,.int .i64 l,.int .i64 t] 202)).alloc (.cells #[.int .i64 0,.int .i64 0,.int .i64 0,.int .i64 0] 202)=W0:=⟨_,rfl⟩
 have HB0:=Lib.hid (below2 w (.cells #[.int .i64 r,.int .i64 u,.int .i64 l,.int .i64 t] 202) (.cells #[.int .i64 0,.int .i64 0,.int .i64 0,.int .i64 0] 202))
 have hg:=two_blocks (w:=w) (o0:=(.cells #[.int .i64 r,.int .i64 u,.int .i64 l,.int .i64 t] 202)) (o1:=(.cells #[.int .i64 0,.int .i64 0,.int .i64 0,.int .i64 0] 202)) (w1:=W0) (by rw[hW0];exact Below.refl _ _)
 rw[hW0]at HB0
 obtain⟨hg0,hg1,hlt⟩:=hg
 have HG0:=Lib.hid hg0
 have HG1:=Lib.hid hg1
 have HF:=Lib.hid hF
 have x0:W0.cell? ⟨w.heap.size,0,none⟩=some (.int .i64 r):=cell_of_row _ _ 0 _ _ _ hg0
 have x1:W0.cell? ⟨w.heap.size,1,none⟩=some (.int .i64 u):=cell_of_row _ _ 1 _ _ _ hg0
 have x2:W0.cell? ⟨w.heap.size,2,none⟩=some (.int .i64 l):=cell_of_row _ _ 2 _ _ _ hg0
 have x3:W0.cell? ⟨w.heap.size,3,none⟩=some (.int .i64 t):=cell_of_row _ _ 3 _ _ _ hg0
 clear hg0 hg1 hF
 go_enter Tryz.func201,Tryz.ntmps201
 go_wp2_with fail
 refine(HRG.out _).mono ?_
 rintro e w1 ⟨rfl,hb⟩
 have hg0:=(hb.block _ (blk_lt HG0.out)).trans HG0.out
 have hg1:=(hb.block _ (blk_lt HG1.out)).trans HG1.out
 have HB1:=Lib.hid (seqB HB0.out hb)
 clear hb x0 x1 x2 x3 HG0 HG1 HRG hW0 hlt
 have hlt:=blk_lt hg1
 have x0:w1.cell? ⟨w.heap.size,0,none⟩=some (.int .i64 r):=cell_of_row _ _ 0 _ _ _ hg0
 have x1:w1.cell? ⟨w.heap.size,1,none⟩=some (.int .i64 u):=cell_of_row _ _ 1 _ _ _ hg0
 have x2:w1.cell? ⟨w.heap.size,2,none⟩=some (.int .i64 l):=cell_of_row _ _ 2 _ _ _ hg0
 have x3:w1.cell? ⟨w.heap.size,3,none⟩=some (.int .i64 t):=cell_of_row _ _ 3 _ _ _ hg0
 have e2:w1.frozen? ⟨w.heap.size,2,none⟩=false:=frozen_at hg0
 have e3:w1.frozen? ⟨w.heap.size,3,none⟩=false:=frozen_at hg0
 have y0:w1.cell? ⟨w.heap.size+1,0,none⟩=some (.int .i64 0):=cell_of_row _ _ 0 _ _ _ hg1
 have y1:w1.cell? ⟨w.heap.size+1,1,none⟩=some (.int .i64 0):=cell_of_row _ _ 1 _ _ _ hg1
 have y2:w1.cell? ⟨w.heap.size+1,2,none⟩=some (.int .i64 0):=cell_of_row _ _ 2 _ _ _ hg1
 have y3:w1.cell? ⟨w.heap.size+1,3,none⟩=some (.int .i64 0):=cell_of_row _ _ 3 _ _ _ hg1
 have f0:w1.frozen? ⟨w.heap.size+1,0,none⟩=false:=frozen_at hg1
 have f1:w1.frozen? ⟨w.heap.size+1,1,none⟩=false:=frozen_at hg1
 have f2:w1.frozen? ⟨w.heap.size+1,2,none⟩=false:=frozen_at hg1
 have f3:w1.frozen? ⟨w.heap.size+1,3,none⟩=false:=frozen_at hg1
 cases F with
 |false=>
  have hz:=set4_heap hg1 (.int .i64 r) (.int .i64 u) (.int .i64 l) (.int .i64 t)
  have HD:=Lib.hid (set4_below (w:=w1) (g:=w.heap.size+1) HB1.out (show w.heap.size≤w.heap.size+1 by omega) (.int .i64 r) (.int .i64 u) (.int .i64 l) (.int .i64 t))
  go_wp2_with fail
  generalize hW:set4 w1 (w.heap.size+1) (.int .i64 r) (.int .i64 u) (.int .i64 l) (.int .i64 t)=W9 at*
  unfold set4 at hW
  rw[hW]
  clear hW
  have z0:W9.cell? ⟨w.heap.size+1,0,none⟩=some (.int .i64 r):=cell_of_row _ _ 0 _ _ _ hz
  have z1:W9.cell? ⟨w.heap.size+1,1,none⟩=some (.int .i64 u):=cell_of_row _ _ 1 _ _ _ hz
  have z2:W9.cell? ⟨w.heap.size+1,2,none⟩=some (.int .i64 l):=cell_of_row _ _ 2 _ _ _ hz
  have z3:W9.cell? ⟨w.heap.size+1,3,none⟩=some (.int .i64 t):=cell_of_row _ _ 3 _ _ _ hz
  exact bodyPost_ret (v:=.agg #[.int .i64 r,.int .i64 u,.int .i64 l,.int .i64 t]) (by simp[results,Tryz.results201,go_sem,z0,z1,z2,z3]) rfl ⟨by unfold fillL fillT;simp[HF.out],HD.out⟩
 |true=>
  obtain⟨d,hd⟩:∃d,near (near now -near t)=d:=⟨_,rfl⟩
  obtain⟨M,hM⟩:∃M,near (near r*near d)=M:=⟨_,rfl⟩
  obtain⟨N,hN⟩:∃N,near (near l+near M)=N:=⟨_,rfl⟩
  obtain⟨T,hT⟩:∃T,near (near t+near d)=T:=⟨_,rfl⟩
  obtain⟨V,hV⟩:∃V,trimL u N=V:=⟨_,rfl⟩
  have hfi:=fill_is HF.out hd hM hN hT
  rw[hV]at hfi
  have HV:=Lib.hid hfi
  have HSU:=Lib.hid (λ W=>show Calls Tryz.prog 214 #[.int .i64 now,.int .i64 t] W λ e w'=>e=.returned (.int .i64 d)∧W=w' from by rw[←hd];exact sub_any now t W)
  have HMU:=Lib.hid (λ W=>show Calls Tryz.prog 215 #[.int .i64 r,.int .i64 d] W λ e w'=>e=.returned (.int .i64 M)∧∃n,w'=W.drewN n from by rw[←hM];exact mul_any r d W)
  have HA1:=Lib.hid (λ W=>show Calls Tryz.prog 185 #[.int .i64 l,.int .i64 M] W λ e w'=>e=.returned (.int .i64 N)∧W=w' from by rw[←hN];exact add_any l M W)
  have HA2:=Lib.hid (λ W=>show Calls Tryz.prog 185 #[.int .i64 t,.int .i64 d] W λ e w'=>e=.returned (.int .i64 T)∧W=w' from by rw[←hT];exact add_any t d W)
  have HTR:=Lib.hid (λ W=>show Calls Tryz.prog 202 #[.agg #[.int .i64 r,.int .i64 u,.int .i64 N,.int .i64 T]] W λ e w'=>e=.returned (.agg #[.int .i64 r,.int .i64 u,.int .i64 V,.int .i64 T])∧Below W.heap.size W w' from by rw[←hV];exact trim_any r u N T W)
  have HG0:=Lib.hid hg0
  have HG1:=Lib.hid hg1
  clear hd hM hN hT hV hfi hg0 hg1
  go_wp2_with fail
  refine(HSU.out _).mono ?_
  rintro e w2 ⟨rfl,rfl⟩
  go_wp2_with fail
  go_region_law
   (first
    |(go_simp;go_at_call 215;(with_reducible refine Calls.mono (HMU.out _) ?_);rintro e w3 ⟨rfl,n,rfl⟩)
    |(go_simp;go_at_call 185;(with_reducible refine Calls.mono (HA1.out _) ?_);rintro e w4 ⟨rfl,rfl⟩))
  all_goals (
   have hb:=drewN_below w1 (1+n)
   have hg0:=set_heap (i:=2) ((hb.block _ (blk_lt HG0.out)).trans HG0.out) (.int .i64 N)
   have hg1:=(Below.heap_setCell (w1.drewN (1+n)) ⟨w.heap.size,2,none⟩ (.int .i64 N) (w.heap.size+1) (by simp)).trans ((hb.block _ (blk_lt HG1.out)).trans HG1.out)
   have hd2:=(seqB HB1.out hb).setCell (p:=⟨w.heap.size,2,none⟩) (Nat.le_refl _) (.int .i64 N)
   generalize(w1.drewN (1+n)).setCell ⟨w.heap.size,2,none⟩ (.int .i64 N)=W2 at*
   clear hb x0 x1 x2 x3 y0 y1 y2 y3 f0 f1 f2 f3 e2 e3 hlt HG0 HG1
   have hg0:W2.heap[w.heap.size]?=some (.cells #[.int .i64 r,.int .i64 u,.int .i64 N,.int .i64 t] 202 (0,0)):=hg0
   have hlt:=blk_lt hg1
   have x0:W2.cell? ⟨w.heap.size,0,none⟩=some (.int .i64 r):=cell_of_row _ _ 0 _ _ _ hg0
   have x1:W2.cell? ⟨w.heap.size,1,none⟩=some (.int .i64 u):=cell_of_row _ _ 1 _ _ _ hg0
   have x2:W2.cell? ⟨w.heap.size,2,none⟩=some (.int .i64 N):=cell_of_row _ _ 2 _ _ _ hg0
   have x3:W2.cell? ⟨w.heap.size,3,none⟩=some (.int .i64 t):=cell_of_row _ _ 3 _ _ _ hg0
   have e3:W2.frozen? ⟨w.heap.size,3,none⟩=false:=frozen_at hg0
   have HG0:=Lib.hid hg0
   have HG1:=Lib.hid hg1
   have HD2:=Lib.hid hd2
   clear hg0 hg1 hd2
   go_wp2_with fail
   refine(HA2.out _).mono ?_
   rintro e w4 ⟨rfl,rfl⟩
   go_upto_region 6 with fail
   have hg0:=set_heap (i:=3) HG0.out (.int .i64 T)
   have hg1:=(Below.heap_setCell W2 ⟨w.heap.size,3,none⟩ (.int .i64 T) (w.heap.size+1) (by simp)).trans HG1.out
   have hd3:=HD2.out.setCell (p:=⟨w.heap.size,3,none⟩) (Nat.le_refl _) (.int .i64 T)
   generalize W2.setCell ⟨w.heap.size,3,none⟩ (.int .i64 T)=W3 at*
   clear x0 x1 x2 x3 e3 hlt HG0 HG1 HD2
   have hg0:W3.heap[w.heap.size]?=some (.cells #[.int .i64 r,.int .i64 u,.int .i64 N,.int .i64 T] 202 (0,0)):=hg0
   have x0:W3.cell? ⟨w.heap.size,0,none⟩=some (.int .i64 r):=cell_of_row _ _ 0 _ _ _ hg0
   have x1:W3.cell? ⟨w.heap.size,1,none⟩=some (.int .i64 u):=cell_of_row _ _ 1 _ _ _ hg0
   have x2:W3.cell? ⟨w.heap.size,2,none⟩=some (.int .i64 N):=cell_of_row _ _ 2 _ _ _ hg0
   have x3:W3.cell? ⟨w.heap.size,3,none⟩=some (.int .i64 T):=cell_of_row _ _ 3 _ _ _ hg0
   have HG1:=Lib.hid hg1
   have HD3:=Lib.hid hd3
   clear hg0 hg1 hd3
   go_wp2_with fail
   refine(HTR.out _).mono ?_
   rintro e w5 ⟨rfl,hb⟩
   have hg1:=(hb.block _ (blk_lt HG1.out)).trans HG1.out
   have HB5:=Lib.hid (seqB HD3.out hb)
   clear hb x0 x1 x2 x3 HG1 HD3
   have hlt:=blk_lt hg1
   have y0:w5.cell? ⟨w.heap.size+1,0,none⟩=some (.int .i64 0):=cell_of_row _ _ 0 _ _ _ hg1
   have y1:w5.cell? ⟨w.heap.size+1,1,none⟩=some (.int .i64 0):=cell_of_row _ _ 1 _ _ _ hg1
   have y2:w5.cell? ⟨w.heap.size+1,2,none⟩=some (.int .i64 0):=cell_of_row _ _ 2 _ _ _ hg1
   have y3:w5.cell? ⟨w.heap.size+1,3,none⟩=some (.int .i64 0):=cell_of_row _ _ 3 _ _ _ hg1
   have f0:w5.frozen? ⟨w.heap.size+1,0,none⟩=false:=frozen_at hg1
   have f1:w5.frozen? ⟨w.heap.size+1,1,none⟩=false:=frozen_at hg1
   have f2:w5.frozen? ⟨w.heap.size+1,2,none⟩=false:=frozen_at hg1
   have f3:w5.frozen? ⟨w.heap.size+1,3,none⟩=false:=frozen_at hg1
   have hz:=set4_heap hg1 (.int .i64 r) (.int .i64 u) (.int .i64 V) (.int .i64 T)
   have HD:=Lib.hid (set4_below (w:=w5) (g:=w.heap.size+1) HB5.out (show w.heap.size≤w.heap.size+1 by omega) (.int .i64 r) (.int .i64 u) (.int .i64 V) (.int .i64 T))
   go_wp2_with fail
   generalize hW:set4 w5 (w.heap.size+1) (.int .i64 r) (.int .i64 u) (.int .i64 V) (.int .i64 T)=W9 at*
   unfold set4 at hW
   rw[hW]
   clear hW
   have z0:W9.cell? ⟨w.heap.size+1,0,none⟩=some (.int .i64 r):=cell_of_row _ _ 0 _ _ _ hz
   have z1:W9.cell? ⟨w.heap.size+1,1,none⟩=some (.int .i64 u):=cell_of_row _ _ 1 _ _ _ hz
   have z2:W9.cell? ⟨w.heap.size+1,2,none⟩=some (.int .i64 V):=cell_of_row _ _ 2 _ _ _ hz
   have z3:W9.cell? ⟨w.heap.size+1,3,none⟩=some (.int .i64 T):=cell_of_row _ _ 3 _ _ _ hz
   exact bodyPost_ret (v:=.agg #[.int .i64 r,.int .i64 u,.int .i64 V,.int .i64 T]) (by simp[results,Tryz.results201,go_sem,z0,z1,z2,z3]) rfl ⟨by rw[HV.out.1,HV.out.2],HD.out⟩)
end Go.Proofs.YtdighjgcnaajgaaGreat.gb
namespace Go.Proofs.YtdighjgcnaajgaaGreat.gb
open Go.RowKit
set_option maxRecDepth 100000 in
set_option maxHeartbeats 8000000 in
theorem take_b0 {r u l t:Int} (h:rightB r u l t=false) (now n:Int) (w:World):Calls Tryz.prog 209 #[.agg #[.int .i64 r,.int .i64 u,.int .i64 l,.int .i64 t],.int .i64 now,.int .i64 n] w λ e w'=>e=.returned (.tuple #[.agg #[.int .i64 r,.int .i64 u,.int .i64 l,.int .i64 t],.int .i64 0])∧Below w.heap.size w w':=by
 have HRG:=Lib.hid (λ W=>show Calls Tryz.prog 196 #[.agg #[.int .i64 r,.int .i64 u,.int .i64 l,.int .i64 t]] W λ e w'=>e=.returned (.bool false)∧Below W.heap.size W w' from by rw[←h];exact right_b r u l t W)
 obtain⟨W0,hW0⟩:∃W0,(w.alloc (.cells #[.int .i64 r,.int .i64 u,.int .i64 l,.int .i64 t] 202)).alloc (.cells #[.int .i64 0,.int .i64 0,.int .i64 0,.int .i64 0] 202)=W0:=⟨_,rfl⟩
 have HB0:=Lib.hid (below2 w (.cells #[.int .i64 r,.int .i64 u,.int .i64 l,.int .i64 t] 202) (.cells #[.int .i64 0,.int .i64 0,.int .i64 0,.int .i64 0] 202))
 have hg:=two_blocks (w:=w) (o0:=(.cells #[.int .i64 r,.int .i64 u,.int .i64 l,.int .i64 t] 202)) (o1:=(.cells #[.int .i64 0,.int .i64 0,.int .i64 0,.int .i64 0] 202)) (w1:=W0) (by rw[hW0];exact Below.refl _ _)
 rw[hW0]at HB0
 obtain⟨hg0,hg1,hlt⟩:=hg
 have HG0:=Lib.hid hg0
 have HG1:=Lib.hid hg1
 have x0:W0.cell? ⟨w.heap.size,0,none⟩=some (.int .i64 r):=cell_of_row _ _ 0 _ _ _ hg0
 have x1:W0.cell? ⟨w.heap.size,1,none⟩=some (.int .i64 u):=cell_of_row _ _ 1 _ _ _ hg0
 have x2:W0.cell? ⟨w.heap.size,2,none⟩=some (.int .i64 l):=cell_of_row _ _ 2 _ _ _ hg0
 have x3:W0.cell? ⟨w.heap.size,3,none⟩=some (.int .i64 t):=cell_of_row _ _ 3 _ _ _ hg0
 clear hg0 hg1 h
 go_enter Tryz.func209,Tryz.ntmps209
 go_wp2_with fail
 refine(HRG.out _).mono ?_
 rintro e w1 ⟨rfl,hb⟩
 have hg0:=(hb.block _ (blk_lt HG0.out)).trans HG0.out
 have hg1:=(hb.block _ (blk_lt HG1.out)).trans HG1.out
 have HB1:=Lib.hid (seqB HB0.out hb)
 clear hb x0 x1 x2 x3 HG0 HG1 HRG hW0 hlt
 have hlt:=blk_lt hg1
 have x0:w1.cell? ⟨w.heap.size,0,none⟩=some (.int .i64 r):=cell_of_row _ _ 0 _ _ _ hg0
 have x1:w1.cell? ⟨w.heap.size,1,none⟩=some (.int .i64 u):=cell_of_row _ _ 1 _ _ _ hg0
 have x2:w1.cell? ⟨w.heap.size,2,none⟩=some (.int .i64 l):=cell_of_row _ _ 2 _ _ _ hg0
 have x3:w1.cell? ⟨w.heap.size,3,none⟩=some (.int .i64 t):=cell_of_row _ _ 3 _ _ _ hg0
 have y0:w1.cell? ⟨w.heap.size+1,0,none⟩=some (.int .i64 0):=cell_of_row _ _ 0 _ _ _ hg1
 have y1:w1.cell? ⟨w.heap.size+1,1,none⟩=some (.int .i64 0):=cell_of_row _ _ 1 _ _ _ hg1
 have y2:w1.cell? ⟨w.heap.size+1,2,none⟩=some (.int .i64 0):=cell_of_row _ _ 2 _ _ _ hg1
 have y3:w1.cell? ⟨w.heap.size+1,3,none⟩=some (.int .i64 0):=cell_of_row _ _ 3 _ _ _ hg1
 have f0:w1.frozen? ⟨w.heap.size+1,0,none⟩=false:=frozen_at hg1
 have f1:w1.frozen? ⟨w.heap.size+1,1,none⟩=false:=frozen_at hg1
 have f2:w1.frozen? ⟨w.heap.size+1,2,none⟩=false:=frozen_at hg1
 have f3:w1.frozen? ⟨w.heap.size+1,3,none⟩=false:=frozen_at hg1
 have hz:=set4_heap hg1 (.int .i64 r) (.int .i64 u) (.int .i64 l) (.int .i64 t)
 have HD:=Lib.hid (set4_below (w:=w1) (g:=w.heap.size+1) HB1.out (show w.heap.size≤w.heap.size+1 by omega) (.int .i64 r) (.int .i64 u) (.int .i64 l) (.int .i64 t))
 go_wp2_with fail
 generalize hW:set4 w1 (w.heap.size+1) (.int .i64 r) (.int .i64 u) (.int .i64 l) (.int .i64 t)=W9 at*
 unfold set4 at hW
 rw[hW]
 clear hW
 have z0:W9.cell? ⟨w.heap.size+1,0,none⟩=some (.int .i64 r):=cell_of_row _ _ 0 _ _ _ hz
 have z1:W9.cell? ⟨w.heap.size+1,1,none⟩=some (.int .i64 u):=cell_of_row _ _ 1 _ _ _ hz
 have z2:W9.cell? ⟨w.heap.size+1,2,none⟩=some (.int .i64 l):=cell_of_row _ _ 2 _ _ _ hz
 have z3:W9.cell? ⟨w.heap.size+1,3,none⟩=some (.int .i64 t):=cell_of_row _ _ 3 _ _ _ hz
 exact bodyPost_ret (v:=.tuple #[.agg #[.int .i64 r,.int .i64 u,.int .i64 l,.int .i64 t],.int .i64 0]) (by simp[results,Tryz.results209,go_sem,z0,z1,z2,z3]) rfl ⟨rfl,HD.out⟩
set_option maxRecDepth 100000 in
set_option maxHeartbeats 8000000 in
theorem take_bk {r u l t:Int} (h:rightB r u l t=true) (now n:Int) {L T K D M:Int} (hL:fillL r u l t now=L) (hT:fillT r u l t now=T) (hm1:(if L<n then L else n)=M) (hm2:(if 0<M then M else 0)=K) (hw:IntKind.i64.wrap (L -K)=D) (w:World):Calls Tryz.prog 209 #[.agg #[.int .i64 r,.int .i64 u,.int .i64 l,.int .i64 t],.int .i64 now,.int .i64 n] w λ e w'=>e=.returned (.tuple #[.agg #[.int .i64 r,.int .i64 u,.int .i64 D,.int .i64 T],.int .i64 K])∧Below w.heap.size w w':=by
 have HRG:=Lib.hid (λ W=>show Calls Tryz.prog 196 #[.agg #[.int .i64 r,.int .i64 u,.int .i64 l,.int .i64 t]] W λ e w'=>e=.returned (.bool true)∧Below W.heap.size W w' from by rw[←h];exact right_b r u l t W)
 obtain⟨W0,hW0⟩:∃W0,(w.alloc (.cells #[.int .i64 r,.int .i64 u,.int .i64 l,.int .i64 t] 202)).alloc (.cells #[.int .i64 0,.int .i64 0,.int .i64 0,.int .i64 0] 202)=W0:=⟨_,rfl⟩
 have HB0:=Lib.hid (below2 w (.cells #[.int .i64 r,.int .i64 u,.int .i64 l,.int .i64 t] 202) (.cells #[.int .i64 0,.int .i64 0,.int .i64 0,.int .i64 0] 202))
 have hg:=two_blocks (w:=w) (o0:=(.cells #[.int .i64 r,.int .i64 u,.int .i64 l,.int .i64 t] 202)) (o1:=(.cells #[.int .i64 0,.int .i64 0,.int .i64 0,.int .i64 0] 202)) (w1:=W0) (by rw[hW0];exact Below.refl _ _)
 rw[hW0]at HB0
 obtain⟨hg0,hg1,hlt⟩:=hg
 have HG0:=Lib.hid hg0
 have HG1:=Lib.hid hg1
 have x0:W0.cell? ⟨w.heap.size,0,none⟩=some (.int .i64 r):=cell_of_row _ _ 0 _ _ _ hg0
 have x1:W0.cell? ⟨w.heap.size,1,none⟩=some (.int .i64 u):=cell_of_row _ _ 1 _ _ _ hg0
 have x2:W0.cell? ⟨w.heap.size,2,none⟩=some (.int .i64 l):=cell_of_row _ _ 2 _ _ _ hg0
 have x3:W0.cell? ⟨w.heap.size,3,none⟩=some (.int .i64 t):=cell_of_row _ _ 3 _ _ _ hg0
 clear hg0 hg1
 have HFI:=Lib.hid (λ W=>show Calls Tryz.prog 201 #[.agg #[.int .i64 r,.int .i64 u,.int .i64 l,.int .i64 t],.int .i64 now] W λ e w'=>e=.returned (.agg #[.int .i64 r,.int .i64 u,.int .i64 L,.int .i64 T])∧Below W.heap.size W w' from by rw[←hL,←hT];exact fill_b r u l t now W)
 clear h hL hT
 go_enter Tryz.func209,Tryz.ntmps209
 go_wp2_with fail
 refine(HRG.out _).mono ?_
 rintro e w1 ⟨rfl,hb⟩
 have hg0:=(hb.block _ (blk_lt HG0.out)).trans HG0.out
 have hg1:=(hb.block _ (blk_lt HG1.out)).trans HG1.out
 have HB1:=Lib.hid (seqB HB0.out hb)
 clear hb x0 x1 x2 x3 HG0 HG1 HRG hW0 hlt
 have hlt:=blk_lt hg1
 have x0:w1.cell? ⟨w.heap.size,0,none⟩=some (.int .i64 r):=cell_of_row _ _ 0 _ _ _ hg0
 have x1:w1.cell? ⟨w.heap.size,1,none⟩=some (.int .i64 u):=cell_of_row _ _ 1 _ _ _ hg0
 have x2:w1.cell? ⟨w.heap.size,2,none⟩=some (.int .i64 l):=cell_of_row _ _ 2 _ _ _ hg0
 have x3:w1.cell? ⟨w.heap.size,3,none⟩=some (.int .i64 t):=cell_of_row _ _ 3 _ _ _ hg0
 have HG0:=Lib.hid hg0
 have HG1:=Lib.hid hg1
 clear hg0 hg1
 go_wp2_with fail
 refine(HFI.out _).mono ?_
 rintro e w2 ⟨rfl,hb⟩
 have hg0:=(hb.block _ (blk_lt HG0.out)).trans HG0.out
 have hg1:=(hb.block _ (blk_lt HG1.out)).trans HG1.out
 have HB2:=Lib.hid (seqB HB1.out hb)
 clear hb x0 x1 x2 x3 HG0 HG1 HFI hlt
 have x0:w2.cell? ⟨w.heap.size,0,none⟩=some (.int .i64 r):=cell_of_row _ _ 0 _ _ _ hg0
 have x1:w2.cell? ⟨w.heap.size,1,none⟩=some (.int .i64 u):=cell_of_row _ _ 1 _ _ _ hg0
 have x2:w2.cell? ⟨w.heap.size,2,none⟩=some (.int .i64 l):=cell_of_row _ _ 2 _ _ _ hg0
 have x3:w2.cell? ⟨w.heap.size,3,none⟩=some (.int .i64 t):=cell_of_row _ _ 3 _ _ _ hg0
 have e0:w2.frozen? ⟨w.heap.size,0,none⟩=false:=frozen_at hg0
 have e1:w2.frozen? ⟨w.heap.size,1,none⟩=false:=frozen_at hg0
 have e2:w2.frozen? ⟨w.heap.size,2,none⟩=false:=frozen_at hg0
 have e3:w2.frozen? ⟨w.heap.size,3,none⟩=false:=frozen_at hg0
 have hlt:=blk_lt hg1
 go_upto_region 4 with fail
 have hs:=set4_heap hg0 (.int .i64 r) (.int .i64 u) (.int .i64 L) (.int .i64 T)
 have hd:=set4_below (w:=w2) HB2.out (Nat.le_refl _) (.int .i64 r) (.int .i64 u) (.int .i64 L) (.int .i64 T)
 have hf:=(set4_far (.int .i64 r) (.int .i64 u) (.int .i64 L) (.int .i64 T) (show w.heap.size+1≠w.heap.size by omega)).trans hg1
 generalize hW1:set4 w2 w.heap.size (.int .i64 r) (.int .i64 u) (.int .i64 L) (.int .i64 T)=W1 at*
 unfold set4 at hW1
 rw[hW1]
 clear hW1 x0 x1 x2 x3 e0 e1 e2 e3 hg0 hg1 hlt
 have x0:W1.cell? ⟨w.heap.size,0,none⟩=some (.int .i64 r):=cell_of_row _ _ 0 _ _ _ hs
 have x1:W1.cell? ⟨w.heap.size,1,none⟩=some (.int .i64 u):=cell_of_row _ _ 1 _ _ _ hs
 have x2:W1.cell? ⟨w.heap.size,2,none⟩=some (.int .i64 L):=cell_of_row _ _ 2 _ _ _ hs
 have x3:W1.cell? ⟨w.heap.size,3,none⟩=some (.int .i64 T):=cell_of_row _ _ 3 _ _ _ hs
 have e2:W1.frozen? ⟨w.heap.size,2,none⟩=false:=frozen_at hs
 have HS:=Lib.hid hs
 have HF:=Lib.hid hf
 have HD1:=Lib.hid hd
 clear hs hf hd
 go_upto_region 6 with fail
 have hg0:=set_heap (i:=2) HS.out (.int .i64 D)
 have hg1:=(Below.heap_setCell W1 ⟨w.heap.size,2,none⟩ (.int .i64 D) (w.heap.size+1) (by simp)).trans HF.out
 have hd2:=HD1.out.setCell (p:=⟨w.heap.size,2,none⟩) (Nat.le_refl _) (.int .i64 D)
 generalize W1.setCell ⟨w.heap.size,2,none⟩ (.int .i64 D)=W2 at*
 clear x0 x1 x2 x3 e2 HS HF HD1
 have hg0:W2.heap[w.heap.size]?=some (.cells #[.int .i64 r,.int .i64 u,.int .i64 D,.int .i64 T] 202 (0,0)):=hg0
 have hlt:=blk_lt hg1
 have x0:W2.cell? ⟨w.heap.size,0,none⟩=some (.int .i64 r):=cell_of_row _ _ 0 _ _ _ hg0
 have x1:W2.cell? ⟨w.heap.size,1,none⟩=some (.int .i64 u):=cell_of_row _ _ 1 _ _ _ hg0
 have x2:W2.cell? ⟨w.heap.size,2,none⟩=some (.int .i64 D):=cell_of_row _ _ 2 _ _ _ hg0
 have x3:W2.cell? ⟨w.heap.size,3,none⟩=some (.int .i64 T):=cell_of_row _ _ 3 _ _ _ hg0
 have y0:W2.cell? ⟨w.heap.size+1,0,none⟩=some (.int .i64 0):=cell_of_row _ _ 0 _ _ _ hg1
 have y1:W2.cell? ⟨w.heap.size+1,1,none⟩=some (.int .i64 0):=cell_of_row _ _ 1 _ _ _ hg1
 have y2:W2.cell? ⟨w.heap.size+1,2,none⟩=some (.int .i64 0):=cell_of_row _ _ 2 _ _ _ hg1
 have y3:W2.cell? ⟨w.heap.size+1,3,none⟩=some (.int .i64 0):=cell_of_row _ _ 3 _ _ _ hg1
 have f0:W2.frozen? ⟨w.heap.size+1,0,none⟩=false:=frozen_at hg1
 have f1:W2.frozen? ⟨w.heap.size+1,1,none⟩=false:=frozen_at hg1
 have f2:W2.frozen? ⟨w.heap.size+1,2,none⟩=false:=frozen_at hg1
 have f3:W2.frozen? ⟨w.heap.size+1,3,none⟩=false:=frozen_at hg1
 have hz:=set4_heap hg1 (.int .i64 r) (.int .i64 u) (.int .i64 D) (.int .i64 T)
 have HD:=Lib.hid (set4_below (w:=W2) (g:=w.heap.size+1) hd2 (show w.heap.size≤w.heap.size+1 by omega) (.int .i64 r) (.int .i64 u) (.int .i64 D) (.int .i64 T))
 go_wp2_with fail
 generalize hW:set4 W2 (w.heap.size+1) (.int .i64 r) (.int .i64 u) (.int .i64 D) (.int .i64 T)=W9 at*
 unfold set4 at hW
 rw[hW]
 clear hW
 have z0:W9.cell? ⟨w.heap.size+1,0,none⟩=some (.int .i64 r):=cell_of_row _ _ 0 _ _ _ hz
 have z1:W9.cell? ⟨w.heap.size+1,1,none⟩=some (.int .i64 u):=cell_of_row _ _ 1 _ _ _ hz
 have z2:W9.cell? ⟨w.heap.size+1,2,none⟩=some (.int .i64 D):=cell_of_row _ _ 2 _ _ _ hz
 have z3:W9.cell? ⟨w.heap.size+1,3,none⟩=some (.int .i64 T):=cell_of_row _ _ 3 _ _ _ hz
 exact bodyPost_ret (v:=.tuple #[.agg #[.int .i64 r,.int .i64 u,.int .i64 D,.int .i64 T],.int .i64 K]) (by simp[results,Tryz.results209,go_sem,z0,z1,z2,z3]) rfl ⟨rfl,HD.out⟩
theorem take_b1 {r u l t:Int} (h:rightB r u l t=true) (now n:Int) {L T K D:Int} (hL:fillL r u l t now=L) (hT:fillT r u l t now=T) (hK:takeB L n=K) (hD:L -K=D) (w:World):Calls Tryz.prog 209 #[.agg #[.int .i64 r,.int .i64 u,.int .i64 l,.int .i64 t],.int .i64 now,.int .i64 n] w λ e w'=>e=.returned (.tuple #[.agg #[.int .i64 r,.int .i64 u,.int .i64 D,.int .i64 T],.int .i64 K])∧Below w.heap.size w w':=by
 have hr:=(rightB_iff _ _ _ _).1 (fill_right h now)
 rw[hL,hT]at hr
 have h3:=hr.2.2.1
 refine take_bk h now n hL hT rfl ?_ ?_ w
 ·rw[←hK]
  unfold takeB
  (repeat' split)<;>omega
 ·rw[IntWalk.i64_in _ ?_,hD]
  rw[←hK]
  unfold takeB
  (repeat' split)<;>omega
end Go.Proofs.YtdighjgcnaajgaaGreat.gb
namespace Go.Proofs.YtdighjgcnaajgaaGreat.gb
open Go.RowKit
set_option maxRecDepth 100000 in
set_option maxHeartbeats 8000000 in
theorem change_b {r u l t:Int} (h:rightB r u l t=true) {r2 u2 n:Int} (h2:rightB r2 u2 u2 n=true) {L T:Int} (hL:fillL r u l t n=L) (hT:fillT r u l t n=T) (w:World):Calls Tryz.prog 177 #[.agg #[.int .i64 r,.int .i64 u,.int .i64 l,.int .i64 t],.int .i64 r2,.int .i64 u2,.int .i64 n] w λ e w'=>e=.returned (.tuple #[.agg #[.int .i64 r2,.int .i64 u2,.int .i64 (trimL u2 L),.int .i64 T],.int .i64 0])∧Below w.heap.size w w':=by
 have HRG:=Lib.hid (λ W=>show Calls Tryz.prog 196 #[.agg #[.int .i64 r,.int .i64 u,.int .i64 l,.int .i64 t]] W λ e w'=>e=.returned (.bool true)∧Below W.heap.size W w' from by rw[←h];exact right_b r u l t W)
 have HNW:=Lib.hid (λ W=>new_b1 (n:=n) h2 W)
 have HFI:=Lib.hid (λ W=>show Calls Tryz.prog 201 #[.agg #[.int .i64 r,.int .i64 u,.int .i64 l,.int .i64 t],.int .i64 n] W λ e w'=>e=.returned (.agg #[.int .i64 r,.int .i64 u,.int .i64 L,.int .i64 T])∧Below W.heap.size W w' from by rw[←hL,←hT];exact fill_b r u l t n W)
 have HTR:=Lib.hid (λ W=>trim_any r2 u2 L T W)
 obtain⟨W0,hW0⟩:∃W0,(w.alloc (.cells #[.int .i64 r,.int .i64 u,.int .i64 l,.int .i64 t] 202)).alloc (.cells #[.int .i64 0,.int .i64 0,.int .i64 0,.int .i64 0] 202)=W0:=⟨_,rfl⟩
 have HB0:=Lib.hid (below2 w (.cells #[.int .i64 r,.int .i64 u,.int .i64 l,.int .i64 t] 202) (.cells #[.int .i64 0,.int .i64 0,.int .i64 0,.int .i64 0] 202))
 have hg:=two_blocks (w:=w) (o0:=(.cells #[.int .i64 r,.int .i64 u,.int .i64 l,.int .i64 t] 202)) (o1:=(.cells #[.int .i64 0,.int .i64 0,.int .i64 0,.int .i64 0] 202)) (w1:=W0) (by rw[hW0];exact Below.refl _ _)
 rw[hW0]at HB0
 obtain⟨hg0,hg1,hlt⟩:=hg
 have HG0:=Lib.hid hg0
 have HG1:=Lib.hid hg1
 clear h h2 hL hT hg0 hg1
 generalize trimL u2 L=V at*
 go_enter Tryz.func177,Tryz.ntmps177
 go_wp2_with fail
 refine(HNW.out _).mono ?_
 rintro e w1 ⟨rfl,hb⟩
 have hal:Below w1.heap.size w1 (w1.alloc (.cells #[.int .i64 0,.int .i64 0,.int .i64 0,.int .i64 0] 202)):=(Below.refl _ _).alloc (Nat.le_refl _) _
 have hbl:=heap_alloc_new w1 (.cells #[.int .i64 0,.int .i64 0,.int .i64 0,.int .i64 0] 202)
 obtain⟨W2,hW2⟩:∃W2,w1.alloc (.cells #[.int .i64 0,.int .i64 0,.int .i64 0,.int .i64 0] 202)=W2:=⟨_,rfl⟩
 rw[hW2]at hal hbl
 have hst:=set4_below (w:=W2) hal (Nat.le_refl _) (.int .i64 r2) (.int .i64 u2) (.int .i64 u2) (.int .i64 n)
 have x0:W2.cell? ⟨w1.heap.size,0,none⟩=some (.int .i64 0):=cell_of_row _ _ 0 _ _ _ hbl
 have x1:W2.cell? ⟨w1.heap.size,1,none⟩=some (.int .i64 0):=cell_of_row _ _ 1 _ _ _ hbl
 have x2:W2.cell? ⟨w1.heap.size,2,none⟩=some (.int .i64 0):=cell_of_row _ _ 2 _ _ _ hbl
 have x3:W2.cell? ⟨w1.heap.size,3,none⟩=some (.int .i64 0):=cell_of_row _ _ 3 _ _ _ hbl
 have f0:W2.frozen? ⟨w1.heap.size,0,none⟩=false:=frozen_at hbl
 have f1:W2.frozen? ⟨w1.heap.size,1,none⟩=false:=frozen_at hbl
 have f2:W2.frozen? ⟨w1.heap.size,2,none⟩=false:=frozen_at hbl
 have f3:W2.frozen? ⟨w1.heap.size,3,none⟩=false:=frozen_at hbl
 have hlt2:=blk_lt hbl
 have HB2:=Lib.hid (seqB HB0.out (seqB hb hst))
 have hg0:=(hst.block _ (blk_lt ((hb.block _ (blk_lt HG0.out)).trans HG0.out))).trans ((hb.block _ (blk_lt HG0.out)).trans HG0.out)
 have hg1:=(hst.block _ (blk_lt ((hb.block _ (blk_lt HG1.out)).trans HG1.out))).trans ((hb.block _ (blk_lt HG1.out)).trans HG1.out)
 clear hb hal hbl hst HG0 HG1 HNW hlt hW0
 go_upto_region 2 with fail
 generalize hW:set4 W2 w1.heap.size (.int .i64 r2) (.int .i64 u2) (.int .i64 u2) (.int .i64 n)=W3 at*
 unfold set4 at hW
 rw[hW]
 clear hW x0 x1 x2 x3 f0 f1 f2 f3 hW2 hlt2
 have hlt:=blk_lt hg1
 have x0:W3.cell? ⟨w.heap.size,0,none⟩=some (.int .i64 r):=cell_of_row _ _ 0 _ _ _ hg0
 have x1:W3.cell? ⟨w.heap.size,1,none⟩=some (.int .i64 u):=cell_of_row _ _ 1 _ _ _ hg0
 have x2:W3.cell? ⟨w.heap.size,2,none⟩=some (.int .i64 l):=cell_of_row _ _ 2 _ _ _ hg0
 have x3:W3.cell? ⟨w.heap.size,3,none⟩=some (.int .i64 t):=cell_of_row _ _ 3 _ _ _ hg0
 have HG0:=Lib.hid hg0
 have HG1:=Lib.hid hg1
 clear hg0 hg1
 go_wp2_with fail
 refine(HRG.out _).mono ?_
 rintro e w4 ⟨rfl,hb⟩
 have hg0:=(hb.block _ (blk_lt HG0.out)).trans HG0.out
 have hg1:=(hb.block _ (blk_lt HG1.out)).trans HG1.out
 have HB3:=Lib.hid (seqB HB2.out hb)
 clear hb x0 x1 x2 x3 HG0 HG1 HRG hlt HB2
 have hlt:=blk_lt hg1
 have x0:w4.cell? ⟨w.heap.size,0,none⟩=some (.int .i64 r):=cell_of_row _ _ 0 _ _ _ hg0
 have x1:w4.cell? ⟨w.heap.size,1,none⟩=some (.int .i64 u):=cell_of_row _ _ 1 _ _ _ hg0
 have x2:w4.cell? ⟨w.heap.size,2,none⟩=some (.int .i64 l):=cell_of_row _ _ 2 _ _ _ hg0
 have x3:w4.cell? ⟨w.heap.size,3,none⟩=some (.int .i64 t):=cell_of_row _ _ 3 _ _ _ hg0
 have HG0:=Lib.hid hg0
 have HG1:=Lib.hid hg1
 clear hg0 hg1
 go_wp2_with fail
 refine(HFI.out _).mono ?_
 rintro e w5 ⟨rfl,hb⟩
 have hg0:=(hb.block _ (blk_lt HG0.out)).trans HG0.out
 have hg1:=(hb.block _ (blk_lt HG1.out)).trans HG1.out
 have HB4:=Lib.hid (seqB HB3.out hb)
 clear hb x0 x1 x2 x3 HG0 HG1 HFI hlt HB3
 have hlt:=blk_lt hg1
 have x0:w5.cell? ⟨w.heap.size,0,none⟩=some (.int .i64 r):=cell_of_row _ _ 0 _ _ _ hg0
 have x1:w5.cell? ⟨w.heap.size,1,none⟩=some (.int .i64 u):=cell_of_row _ _ 1 _ _ _ hg0
 have x2:w5.cell? ⟨w.heap.size,2,none⟩=some (.int .i64 l):=cell_of_row _ _ 2 _ _ _ hg0
 have x3:w5.cell? ⟨w.heap.size,3,none⟩=some (.int .i64 t):=cell_of_row _ _ 3 _ _ _ hg0
 have e0:w5.frozen? ⟨w.heap.size,0,none⟩=false:=frozen_at hg0
 have e1:w5.frozen? ⟨w.heap.size,1,none⟩=false:=frozen_at hg0
 have e2:w5.frozen? ⟨w.heap.size,2,none⟩=false:=frozen_at hg0
 have e3:w5.frozen? ⟨w.heap.size,3,none⟩=false:=frozen_at hg0
 go_upto_region 5 with fail
 have hs:=set4_heap hg0 (.int .i64 r) (.int .i64 u) (.int .i64 L) (.int .i64 T)
 have hd:=set4_below (w:=w5) HB4.out (Nat.le_refl _) (.int .i64 r) (.int .i64 u) (.int .i64 L) (.int .i64 T)
 have hf:=(set4_far (.int .i64 r) (.int .i64 u) (.int .i64 L) (.int .i64 T) (show w.heap.size+1≠w.heap.size by omega)).trans hg1
 generalize hW:set4 w5 w.heap.size (.int .i64 r) (.int .i64 u) (.int .i64 L) (.int .i64 T)=W6 at*
 unfold set4 at hW
 rw[hW]
 clear hW x0 x1 x2 x3 e0 e1 e2 e3 hg0 hg1 hlt HB4
 have x0:W6.cell? ⟨w.heap.size,0,none⟩=some (.int .i64 r):=cell_of_row _ _ 0 _ _ _ hs
 have x1:W6.cell? ⟨w.heap.size,1,none⟩=some (.int .i64 u):=cell_of_row _ _ 1 _ _ _ hs
 have x2:W6.cell? ⟨w.heap.size,2,none⟩=some (.int .i64 L):=cell_of_row _ _ 2 _ _ _ hs
 have x3:W6.cell? ⟨w.heap.size,3,none⟩=some (.int .i64 T):=cell_of_row _ _ 3 _ _ _ hs
 have e0:W6.frozen? ⟨w.heap.size,0,none⟩=false:=frozen_at hs
 have e1:W6.frozen? ⟨w.heap.size,1,none⟩=false:=frozen_at hs
 have e2:W6.frozen? ⟨w.heap.size,2,none⟩=false:=frozen_at hs
 have e3:W6.frozen? ⟨w.heap.size,3,none⟩=false:=frozen_at hs
 have hlt:=blk_lt hf
 have hs2:=set_heap (i:=1) (set_heap (i:=0) hs (.int .i64 r2)) (.int .i64 u2)
 have hd2:=(hd.setCell (p:=⟨w.heap.size,0,none⟩) (Nat.le_refl _) (.int .i64 r2)).setCell (p:=⟨w.heap.size,1,none⟩) (Nat.le_refl _) (.int .i64 u2)
 have hf2:=((Below.heap_setCell (W6.setCell ⟨w.heap.size,0,none⟩ (.int .i64 r2)) ⟨w.heap.size,1,none⟩ (.int .i64 u2) (w.heap.size+1) (by simp)).trans (Below.heap_setCell W6 ⟨w.heap.size,0,none⟩ (.int .i64 r2) (w.heap.size+1) (by simp))).trans hf
 have HS2:=Lib.hid hs2
 have HD2:=Lib.hid hd2
 have HF2:=Lib.hid hf2
 clear hs hd hf hs2 hd2 hf2
 go_upto_region 6 with fail
 generalize(W6.setCell ⟨w.heap.size,0,none⟩ (.int .i64 r2)).setCell ⟨w.heap.size,1,none⟩ (.int .i64 u2)=W7 at*
 clear x0 x1 x2 x3 e0 e1 e2 e3 hlt
 have hs:W7.heap[w.heap.size]?=some (.cells #[.int .i64 r2,.int .i64 u2,.int .i64 L,.int .i64 T] 202 (0,0)):=HS2.out
 have hlt:=blk_lt HF2.out
 have x0:W7.cell? ⟨w.heap.size,0,none⟩=some (.int .i64 r2):=cell_of_row _ _ 0 _ _ _ hs
 have x1:W7.cell? ⟨w.heap.size,1,none⟩=some (.int .i64 u2):=cell_of_row _ _ 1 _ _ _ hs
 have x2:W7.cell? ⟨w.heap.size,2,none⟩=some (.int .i64 L):=cell_of_row _ _ 2 _ _ _ hs
 have x3:W7.cell? ⟨w.heap.size,3,none⟩=some (.int .i64 T):=cell_of_row _ _ 3 _ _ _ hs
 clear hs
 go_wp2_with fail
 refine(HTR.out _).mono ?_
 rintro e w8 ⟨rfl,hb⟩
 have hg1:=(hb.block _ (blk_lt HF2.out)).trans HF2.out
 have HB8:=Lib.hid (seqB HD2.out hb)
 clear hb x0 x1 x2 x3 HS2 HD2 HF2 hlt HTR
 have hlt:=blk_lt hg1
 have y0:w8.cell? ⟨w.heap.size+1,0,none⟩=some (.int .i64 0):=cell_of_row _ _ 0 _ _ _ hg1
 have y1:w8.cell? ⟨w.heap.size+1,1,none⟩=some (.int .i64 0):=cell_of_row _ _ 1 _ _ _ hg1
 have y2:w8.cell? ⟨w.heap.size+1,2,none⟩=some (.int .i64 0):=cell_of_row _ _ 2 _ _ _ hg1
 have y3:w8.cell? ⟨w.heap.size+1,3,none⟩=some (.int .i64 0):=cell_of_row _ _ 3 _ _ _ hg1
 have f0:w8.frozen? ⟨w.heap.size+1,0,none⟩=false:=frozen_at hg1
 have f1:w8.frozen? ⟨w.heap.size+1,1,none⟩=false:=frozen_at hg1
 have f2:w8.frozen? ⟨w.heap.size+1,2,none⟩=false:=frozen_at hg1
 have f3:w8.frozen? ⟨w.heap.size+1,3,none⟩=false:=frozen_at hg1
 have hz:=set4_heap hg1 (.int .i64 r2) (.int .i64 u2) (.int .i64 V) (.int .i64 T)
 have HD:=Lib.hid (set4_below (w:=w8) (g:=w.heap.size+1) HB8.out (show w.heap.size≤w.heap.size+1 by omega) (.int .i64 r2) (.int .i64 u2) (.int .i64 V) (.int .i64 T))
 clear hg1
 go_wp2_with fail
 generalize hW:set4 w8 (w.heap.size+1) (.int .i64 r2) (.int .i64 u2) (.int .i64 V) (.int .i64 T)=W9 at*
 unfold set4 at hW
 rw[hW]
 clear hW
 have z0:W9.cell? ⟨w.heap.size+1,0,none⟩=some (.int .i64 r2):=cell_of_row _ _ 0 _ _ _ hz
 have z1:W9.cell? ⟨w.heap.size+1,1,none⟩=some (.int .i64 u2):=cell_of_row _ _ 1 _ _ _ hz
 have z2:W9.cell? ⟨w.heap.size+1,2,none⟩=some (.int .i64 V):=cell_of_row _ _ 2 _ _ _ hz
 have z3:W9.cell? ⟨w.heap.size+1,3,none⟩=some (.int .i64 T):=cell_of_row _ _ 3 _ _ _ hz
 exact bodyPost_ret (v:=.tuple #[.agg #[.int .i64 r2,.int .i64 u2,.int .i64 V,.int .i64 T],.int .i64 0]) (by simp[results,Tryz.results177,go_sem,z0,z1,z2,z3]) rfl ⟨rfl,HD.out⟩
end Go.Proofs.YtdighjgcnaajgaaGreat.gb
