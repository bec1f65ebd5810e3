import Derived.Test.YtdighjgcnaajgaaGreatMS1
import Derived.RegionTactic
import Derived.Test.YtdighjgcnaajgaaGreatMS3
namespace Go.Proofs.YtdighjgcnaajgaaGreat.gb
open Go.RowKit
set_option maxHeartbeats 400000 in
theorem nearest_any (n:Int) (w:World):Calls Tryz.prog 153 #[.int .i64 n] w λ e w'=>e=.returned (.int .i64 (near n))∧w=w':=by
 go_enter Tryz.func153,Tryz.ntmps153
 go_wp2
 all_goals go_ret
 all_goals exact⟨ret_int (by unfold near;(repeat' split at*)<;>omega),rfl⟩
set_option maxHeartbeats 400000 in
theorem right_any (n:Int) (w:World):Calls Tryz.prog 118 #[.int .i64 n] w λ e w'=>e=.returned (.bool (n==near n))∧w=w':=by
 go_enter Tryz.func118,Tryz.ntmps118
 go_wp2_with (go_at_call 153;refine(nearest_any _ _).mono ?_;rintro e w' ⟨rfl,rfl⟩)
 go_ret
 exact⟨rfl,rfl⟩
set_option maxHeartbeats 400000 in
theorem add_any (a b:Int) (w:World):Calls Tryz.prog 185 #[.int .i64 a,.int .i64 b] w λ e w'=>e=.returned (.int .i64 (near (near a+near b)))∧w=w':=by
 have ha:=near_range a
 have hb:=near_range b
 go_enter Tryz.func185,Tryz.ntmps185
 go_wp2_with (go_at_call 153;refine(nearest_any _ _).mono ?_;rintro e w' ⟨rfl,rfl⟩)
 go_ret
 exact⟨rfl,rfl⟩
theorem mul64_int (x y:Int) (hx0:0≤x) (hx:x<18446744073709551616) (hy0:0≤y) (hy:y<18446744073709551616) (w:World):
  Calls Tryz.prog 182 #[.int .u64 x,.int .u64 y] w λ e w'=>e=.returned (.tuple #[.int .u64 (x*y/18446744073709551616),.int .u64 (x*y%18446744073709551616)])∧w=w':=by
 obtain⟨a,rfl⟩:=Int.eq_ofNat_of_zero_le hx0
 obtain⟨b,rfl⟩:=Int.eq_ofNat_of_zero_le hy0
 refine(Tryz.bits_Mul64 a b (by omega) (by omega) w).mono ?_
 rintro e w' ⟨rfl,rfl⟩
 exact⟨by simp,rfl⟩
set_option maxHeartbeats 400000 in
theorem div64_low (lo y:Int) (h0:0≤lo) (h1:lo<18446744073709551616) (hy0:1≤y) (hy:y<18446744073709551616) (w:World):
  Calls Tryz.prog 222 #[.int .u64 0,.int .u64 lo,.int .u64 y] w λ e w'=>e=.returned (.tuple #[.int .u64 (lo/y),.int .u64 (lo%y)])∧∃n,w'=w.drewN n:=by
 have c0:(y==0)=false:=by simp;omega
 have c1:decide (y≤0)=false:=by simp;omega
 go_enter Tryz.func222,Tryz.ntmps222
 go_wp2_with fail
 go_quiet (fail)
 go_wp2_with fail
 go_ret2
 exact⟨rfl,_,rfl⟩
theorem mul64_low (x y:Int) (hx0:0≤x) (hx:x<18446744073709551616) (hy0:0≤y) (hy:y<18446744073709551616) (h:x*y<18446744073709551616) (w:World):
  Calls Tryz.prog 182 #[.int .u64 x,.int .u64 y] w λ e w'=>e=.returned (.tuple #[.int .u64 0,.int .u64 (x*y)])∧w=w':=by
 have h0:0≤x*y:=Int.mul_nonneg hx0 hy0
 refine(mul64_int x y hx0 hx hy0 hy w).mono ?_
 rintro e w' ⟨rfl,rfl⟩
 refine⟨?_,rfl⟩
 rw[Int.ediv_eq_zero_of_lt h0 h,Int.emod_eq_of_lt h0 h]
def shareF (a b c:Int):Int:=if near a=0∨near b=0 then 0 else if near c=0 then 1099511627776 else if near a*near b/near c≤1099511627776 then near a*near b/near c else 1099511627776
set_option maxHeartbeats 400000 in
theorem share_zero (a b c:Int) (h:near a=0∨near b=0) (w:World):
  Calls Tryz.prog 218 #[.int .i64 a,.int .i64 b,.int .i64 c] w λ e w'=>e=.returned (.int .i64 (shareF a b c))∧∃n,w'=w.drewN n:=by
 have HF:=Lib.hid (show shareF a b c=0 by unfold shareF;rw[if_pos h])
 by_cases e0:near a=0
 ·have c0:(near a==0)=true:=by simp[e0]
  clear e0 h
  go_enter Tryz.func218,Tryz.ntmps218
  go_wp2_with (go_at_call 153;refine(nearest_any _ _).mono ?_;rintro e w' ⟨rfl,rfl⟩)
  go_ret
  exact⟨ret_int HF.out.symm,0,rfl⟩
 ·have c0:(near a==0)=false:=by simp[e0]
  have c1:(near b==0)=true:=by simp;omega
  clear e0 h
  go_enter Tryz.func218,Tryz.ntmps218
  go_wp2_with (go_at_call 153;refine(nearest_any _ _).mono ?_;rintro e w' ⟨rfl,rfl⟩)
  go_ret
  exact⟨ret_int HF.out.symm,0,rfl⟩
set_option maxHeartbeats 400000 in
theorem share_high (a b c:Int) (ha1:1≤near a) (hb1:1≤near b) (h:near c≤near a*near b/18446744073709551616) (w:World):
  Calls Tryz.prog 218 #[.int .i64 a,.int .i64 b,.int .i64 c] w λ e w'=>e=.returned (.int .i64 (shareF a b c))∧∃n,w'=w.drewN n:=by
 have ha:=near_range a
 have hb:=near_range b
 have hc:=near_range c
 have hp:=prod_range _ _ ha hb
 have c0:(near a==0)=false:=by simp;omega
 have c1:(near b==0)=false:=by simp;omega
 have HF:=Lib.hid (show shareF a b c=1099511627776 by
  unfold shareF
  rw[if_neg (by omega)]
  by_cases e:near c=0
  ·rw[if_pos e]
  ·rw[if_neg e,if_neg]
   have h1:near c*18446744073709551616≤near a*near b:=by omega
   have h2:18446744073709551616≤near a*near b/near c:=by
    rw[Int.le_ediv_iff_mul_le (by omega),Int.mul_comm];exact h1
   omega)
 go_enter Tryz.func218,Tryz.ntmps218
 go_wp2_with (first|(go_at_call 153;refine(nearest_any _ _).mono ?_;rintro e w' ⟨rfl,rfl⟩)|(go_at_call 182;refine(mul64_int _ _ (by omega) (by omega) (by omega) (by omega) _).mono ?_;rintro e w' ⟨rfl,rfl⟩))
 go_ret
 exact⟨ret_int HF.out.symm,0,rfl⟩
set_option maxHeartbeats 400000 in
theorem share_low (a b c:Int) (ha1:1≤near a) (hb1:1≤near b) (hc1:1≤near c) (h:near a*near b<18446744073709551616) (w:World):
  Calls Tryz.prog 218 #[.int .i64 a,.int .i64 b,.int .i64 c] w λ e w'=>e=.returned (.int .i64 (shareF a b c))∧∃n,w'=w.drewN n:=by
 have ha:=near_range a
 have hb:=near_range b
 have hc:=near_range c
 have hp:=prod_range _ _ ha hb
 have c0:(near a==0)=false:=by simp;omega
 have c1:(near b==0)=false:=by simp;omega
 have c2:decide (near c≤0)=false:=by simp;omega
 have HF:=Lib.hid (show shareF a b c=if near a*near b/near c≤1099511627776 then near a*near b/near c else 1099511627776 by
  unfold shareF
  rw[if_neg (by omega),if_neg (by omega)])
 have q0:0≤near a*near b/near c:=Int.ediv_nonneg (by omega) (by omega)
 go_enter Tryz.func218,Tryz.ntmps218
 go_wp2_with (first|(go_at_call 153;refine(nearest_any _ _).mono ?_;rintro e w' ⟨rfl,rfl⟩)|(go_at_call 182;refine(mul64_low _ _ (by omega) (by omega) (by omega) (by omega) h _).mono ?_;rintro e w' ⟨rfl,rfl⟩)|(go_at_call 222;refine(div64_low _ _ (by omega) (by omega) (by omega) (by omega) _).mono ?_;rintro e w' ⟨rfl,n,rfl⟩))
 all_goals go_ret
 all_goals exact⟨ret_int (by rw[HF.out];first|exact Int.min_def _ _|(split<;>omega)),_,rfl⟩
theorem shareF_one (a b:Int):shareF a b 1=near (near a*near b):=by
 have ha:=near_range a
 have hb:=near_range b
 have hp:=prod_range _ _ ha hb
 have h1:near 1=1:=by decide
 unfold shareF
 rw[h1,Int.ediv_one,if_neg (show¬((1:Int)=0) by omega)]
 split
 ·rename_i h
  rcases h with h|h<;>rw[h]<;>simp[near]
 ·rw[near_nonneg _ hp.1]
  (repeat' split)<;>omega
theorem mul_near (a b:Int) (w:World):Calls Tryz.prog 218 #[.int .i64 a,.int .i64 b,.int .i64 1] w λ e w'=>e=.returned (.int .i64 (near (near a*near b)))∧∃n,w'=w.drewN n:=by
 have ha:=near_range a
 have hb:=near_range b
 have hp:=prod_range _ _ ha hb
 have h1:near 1=1:=by decide
 rw[←shareF_one]
 by_cases h0:near a=0∨near b=0
 ·exact share_zero a b 1 h0 w
 ·by_cases hl:near a*near b<18446744073709551616
  ·exact share_low a b 1 (by omega) (by omega) (by omega) hl w
  ·exact share_high a b 1 (by omega) (by omega) (by omega) w
set_option maxHeartbeats 400000 in
theorem mul_any (a b:Int) (w:World):Calls Tryz.prog 215 #[.int .i64 a,.int .i64 b] w λ e w'=>e=.returned (.int .i64 (near (near a*near b)))∧∃n,w'=w.drewN n:=by
 go_enter Tryz.func215,Tryz.ntmps215
 go_wp2_with (go_at_call 218;refine(mul_near _ _ _).mono ?_;rintro e w' ⟨rfl,n,rfl⟩)
 go_ret
 exact⟨rfl,_,rfl⟩
end Go.Proofs.YtdighjgcnaajgaaGreat.gb
namespace Go.Proofs.YtdighjgcnaajgaaGreat.gb
open Go.RowKit
set_option maxHeartbeats 400000 in
theorem sub_any (a b:Int) (w:World):Calls Tryz.prog 214 #[.int .i64 a,.int .i64 b] w λ e w'=>e=.returned (.int .i64 (near (near a -near b)))∧w=w':=by
 have ha:=near_range a
 have hb:=near_range b
 go_enter Tryz.func214,Tryz.ntmps214
 go_wp2_with (go_at_call 153;refine(nearest_any _ _).mono ?_;rintro e w' ⟨rfl,rfl⟩)
 go_ret
 exact⟨rfl,rfl⟩
def upF (a b:Int):Int:=if near a=0 then 0 else if near b=0 then 1099511627776 else(near a+near b -1)/near b
def trimL (u l:Int):Int:=if u<l then u else l
set_option maxRecDepth 100000 in
set_option maxHeartbeats 4000000 in
theorem trim_any (r u l t:Int) (w:World):Calls Tryz.prog 202 #[.agg #[.int .i64 r,.int .i64 u,.int .i64 l,.int .i64 t]] w λ e w'=>e=.returned (.agg #[.int .i64 r,.int .i64 u,.int .i64 (trimL u l),.int .i64 t])∧Below w.heap.size w w':=by
 obtain⟨W0,hW0⟩:∃W0,(w.alloc (.cells #[.int .i64 r,.int .i64 u,.int .i64 l,.int .i64 t] 202)).alloc (.cells #[.int .i64 0,.int .i64 0,.int .i64 0,.int .i64 0] 202)=W0:=⟨_,rfl⟩
 have hb0:Below W0.heap.size W0 W0:=Below.refl _ _
 have HB0:=below2 w (.cells #[.int .i64 r,.int .i64 u,.int .i64 l,.int .i64 t] 202) (.cells #[.int .i64 0,.int .i64 0,.int .i64 0,.int .i64 0] 202)
 have hg:=two_blocks (w:=w) (o0:=.cells #[.int .i64 r,.int .i64 u,.int .i64 l,.int .i64 t] 202) (o1:=.cells #[.int .i64 0,.int .i64 0,.int .i64 0,.int .i64 0] 202) (w1:=W0) (by rw[hW0];exact hb0)
 rw[hW0]at HB0
 obtain⟨hg0,hg1,hlt⟩:=hg
 have HB:=Lib.hid HB0
 clear HB0 hb0
 have x0:W0.cell? ⟨w.heap.size,0,none⟩=some (.int .i64 r):=cell_of_row _ _ 0 _ _ _ hg0
 have x1:W0.cell? ⟨w.heap.size,1,none⟩=some (.int .i64 u):=cell_of_row _ _ 1 _ _ _ hg0
 have x2:W0.cell? ⟨w.heap.size,2,none⟩=some (.int .i64 l):=cell_of_row _ _ 2 _ _ _ hg0
 have x3:W0.cell? ⟨w.heap.size,3,none⟩=some (.int .i64 t):=cell_of_row _ _ 3 _ _ _ hg0
 have e2:W0.frozen? ⟨w.heap.size,2,none⟩=false:=frozen_at hg0
 have HG0:=Lib.hid hg0
 have HG1:=Lib.hid hg1
 clear hg0 hg1
 by_cases hul:u<l
 ·have HF:=Lib.hid (show trimL u l=u by unfold trimL;rw[if_pos hul])
  go_enter Tryz.func202,Tryz.ntmps202
  go_upto_region 2 with fail
  have hg0:=set_heap (i:=2) HG0.out (.int .i64 u)
  have hd:=HB.out.setCell (p:=⟨w.heap.size,2,none⟩) (Nat.le_refl _) (.int .i64 u)
  have hg1:=(Below.heap_setCell W0 ⟨w.heap.size,2,none⟩ (.int .i64 u) (w.heap.size+1) (by simp)).trans HG1.out
  generalize W0.setCell ⟨w.heap.size,2,none⟩ (.int .i64 u)=W2 at*
  clear x0 x1 x2 x3 e2
  have hg0:W2.heap[w.heap.size]?=some (.cells #[.int .i64 r,.int .i64 u,.int .i64 u,.int .i64 t] 202 (0,0)):=hg0
  have x0:W2.cell? ⟨w.heap.size,0,none⟩=some (.int .i64 r):=cell_of_row _ _ 0 _ _ _ hg0
  have x1:W2.cell? ⟨w.heap.size,1,none⟩=some (.int .i64 u):=cell_of_row _ _ 1 _ _ _ hg0
  have x2:W2.cell? ⟨w.heap.size,2,none⟩=some (.int .i64 u):=cell_of_row _ _ 2 _ _ _ hg0
  have x3:W2.cell? ⟨w.heap.size,3,none⟩=some (.int .i64 t):=cell_of_row _ _ 3 _ _ _ hg0
  have y0:W2.cell? ⟨w.heap.size+1,0,none⟩=some (.int .i64 0):=cell_of_row _ _ 0 _ _ _ hg1
  have y1:W2.cell? ⟨w.heap.size+1,1,none⟩=some (.int .i64 0):=cell_of_row _ _ 1 _ _ _ hg1
  have y2:W2.cell? ⟨w.heap.size+1,2,none⟩=some (.int .i64 0):=cell_of_row _ _ 2 _ _ _ hg1
  have y3:W2.cell? ⟨w.heap.size+1,3,none⟩=some (.int .i64 0):=cell_of_row _ _ 3 _ _ _ hg1
  have f0:W2.frozen? ⟨w.heap.size+1,0,none⟩=false:=frozen_at hg1
  have f1:W2.frozen? ⟨w.heap.size+1,1,none⟩=false:=frozen_at hg1
  have f2:W2.frozen? ⟨w.heap.size+1,2,none⟩=false:=frozen_at hg1
  have f3:W2.frozen? ⟨w.heap.size+1,3,none⟩=false:=frozen_at hg1
  have hlt2:w.heap.size+1<W2.heap.size:=blk_lt hg1
  have hz:=set4_heap hg1 (.int .i64 r) (.int .i64 u) (.int .i64 u) (.int .i64 t)
  have HD:=Lib.hid (set4_below hd (show w.heap.size≤w.heap.size+1 by omega) (.int .i64 r) (.int .i64 u) (.int .i64 u) (.int .i64 t))
  clear hg0 hg1 hd hlt
  go_wp2_with fail
  generalize hW:set4 W2 (w.heap.size+1) (.int .i64 r) (.int .i64 u) (.int .i64 u) (.int .i64 t)=W at*
  unfold set4 at hW
  rw[hW]
  clear hW
  have z0:W.cell? ⟨w.heap.size+1,0,none⟩=some (.int .i64 r):=cell_of_row W _ 0 _ _ _ hz
  have z1:W.cell? ⟨w.heap.size+1,1,none⟩=some (.int .i64 u):=cell_of_row W _ 1 _ _ _ hz
  have z2:W.cell? ⟨w.heap.size+1,2,none⟩=some (.int .i64 u):=cell_of_row W _ 2 _ _ _ hz
  have z3:W.cell? ⟨w.heap.size+1,3,none⟩=some (.int .i64 t):=cell_of_row W _ 3 _ _ _ hz
  exact bodyPost_ret (v:=.agg #[.int .i64 r,.int .i64 u,.int .i64 u,.int .i64 t]) (by simp[results,Tryz.results202,go_sem,z0,z1,z2,z3]) rfl ⟨by rw[HF.out],HD.out⟩
 ·have HF:=Lib.hid (show trimL u l=l by unfold trimL;rw[if_neg hul])
  go_enter Tryz.func202,Tryz.ntmps202
  go_upto_region 2 with fail
  have hg0:=set_heap (i:=2) HG0.out (.int .i64 l)
  have hd:=HB.out.setCell (p:=⟨w.heap.size,2,none⟩) (Nat.le_refl _) (.int .i64 l)
  have hg1:=(Below.heap_setCell W0 ⟨w.heap.size,2,none⟩ (.int .i64 l) (w.heap.size+1) (by simp)).trans HG1.out
  generalize W0.setCell ⟨w.heap.size,2,none⟩ (.int .i64 l)=W2 at*
  clear x0 x1 x2 x3 e2
  have hg0:W2.heap[w.heap.size]?=some (.cells #[.int .i64 r,.int .i64 u,.int .i64 l,.int .i64 t] 202 (0,0)):=hg0
  have x0:W2.cell? ⟨w.heap.size,0,none⟩=some (.int .i64 r):=cell_of_row _ _ 0 _ _ _ hg0
  have x1:W2.cell? ⟨w.heap.size,1,none⟩=some (.int .i64 u):=cell_of_row _ _ 1 _ _ _ hg0
  have x2:W2.cell? ⟨w.heap.size,2,none⟩=some (.int .i64 l):=cell_of_row _ _ 2 _ _ _ hg0
  have x3:W2.cell? ⟨w.heap.size,3,none⟩=some (.int .i64 t):=cell_of_row _ _ 3 _ _ _ hg0
  have y0:W2.cell? ⟨w.heap.size+1,0,none⟩=some (.int .i64 0):=cell_of_row _ _ 0 _ _ _ hg1
  have y1:W2.cell? ⟨w.heap.size+1,1,none⟩=some (.int .i64 0):=cell_of_row _ _ 1 _ _ _ hg1
  have y2:W2.cell? ⟨w.heap.size+1,2,none⟩=some (.int .i64 0):=cell_of_row _ _ 2 _ _ _ hg1
  have y3:W2.cell? ⟨w.heap.size+1,3,none⟩=some (.int .i64 0):=cell_of_row _ _ 3 _ _ _ hg1
  have f0:W2.frozen? ⟨w.heap.size+1,0,none⟩=false:=frozen_at hg1
  have f1:W2.frozen? ⟨w.heap.size+1,1,none⟩=false:=frozen_at hg1
  have f2:W2.frozen? ⟨w.heap.size+1,2,none⟩=false:=frozen_at hg1
  have f3:W2.frozen? ⟨w.heap.size+1,3,none⟩=false:=frozen_at hg1
  have hlt2:w.heap.size+1<W2.heap.size:=blk_lt hg1
  have hz:=set4_heap hg1 (.int .i64 r) (.int .i64 u) (.int .i64 l) (.int .i64 t)
  have HD:=Lib.hid (set4_below hd (show w.heap.size≤w.heap.size+1 by omega) (.int .i64 r) (.int .i64 u) (.int .i64 l) (.int .i64 t))
  clear hg0 hg1 hd hlt
  go_wp2_with fail
  generalize hW:set4 W2 (w.heap.size+1) (.int .i64 r) (.int .i64 u) (.int .i64 l) (.int .i64 t)=W at*
  unfold set4 at hW
  rw[hW]
  clear hW
  have z0:W.cell? ⟨w.heap.size+1,0,none⟩=some (.int .i64 r):=cell_of_row W _ 0 _ _ _ hz
  have z1:W.cell? ⟨w.heap.size+1,1,none⟩=some (.int .i64 u):=cell_of_row W _ 1 _ _ _ hz
  have z2:W.cell? ⟨w.heap.size+1,2,none⟩=some (.int .i64 l):=cell_of_row W _ 2 _ _ _ hz
  have z3:W.cell? ⟨w.heap.size+1,3,none⟩=some (.int .i64 t):=cell_of_row W _ 3 _ _ _ hz
  exact bodyPost_ret (v:=.agg #[.int .i64 r,.int .i64 u,.int .i64 l,.int .i64 t]) (by simp[results,Tryz.results202,go_sem,z0,z1,z2,z3]) rfl ⟨by rw[HF.out],HD.out⟩
end Go.Proofs.YtdighjgcnaajgaaGreat.gb
namespace Go.Proofs.YtdighjgcnaajgaaGreat.gb
open Go.RowKit
theorem right_is (n:Int) (w:World):Calls Tryz.prog 118 #[.int .i64 n] w λ e w'=>e=.returned (.bool (isR n))∧w=w':=by
 refine(right_any n w).mono ?_
 rintro e w' ⟨rfl,rfl⟩
 exact⟨ret_bool (by unfold isR;rw[Bool.eq_iff_iff,beq_iff_eq,beq_iff_eq];exact eq_comm),rfl⟩
set_option maxRecDepth 100000 in
set_option maxHeartbeats 8000000 in
theorem right_b (r u l t : Int) (w : World) : Calls Tryz.prog 196 #[.agg #[.int .i64 r, .int .i64 u, .int .i64 l, .int .i64 t]] w λ e w' => e = .returned (.bool (rightB r u l t)) ∧ Below w.heap.size w w' := by
 have HI := Lib.hid right_is
 have HT := Lib.hid (λ W => trim_any r u l t W)
 have HB0 := Lib.hid (show Below w.heap.size w (w.alloc (.cells #[.int .i64 r, .int .i64 u, .int .i64 l, .int .i64 t] 202)) from (Below.refl _ _).alloc (Nat.le_refl _) _)
 have HK0 := Lib.hid (heap_alloc_new w (.cells #[.int .i64 r, .int .i64 u, .int .i64 l, .int .i64 t] 202))
 have HF := Lib.hid (show rightB r u l t = (isR r && isR u && isR l && isR t && decide (u ≠ 0) && decide (l ≤ u)) from rfl)
 have HLT := Lib.hid (blk_lt HK0.out)
 obtain ⟨w1, hw1⟩ : ∃ w1, w.alloc (.cells #[.int .i64 r, .int .i64 u, .int .i64 l, .int .i64 t] 202) = w1 := ⟨_, rfl⟩
 rw [hw1] at HB0 HK0 HLT
 have x0 : w1.cell? ⟨w.heap.size, 0, none⟩ = some (.int .i64 r) := cell_of_row _ _ 0 _ _ _ HK0.out
 have x1 : w1.cell? ⟨w.heap.size, 1, none⟩ = some (.int .i64 u) := cell_of_row _ _ 1 _ _ _ HK0.out
 have x2 : w1.cell? ⟨w.heap.size, 2, none⟩ = some (.int .i64 l) := cell_of_row _ _ 2 _ _ _ HK0.out
 have x3 : w1.cell? ⟨w.heap.size, 3, none⟩ = some (.int .i64 t) := cell_of_row _ _ 3 _ _ _ HK0.out
 go_enter Tryz.func196, Tryz.ntmps196
 by_cases e4 : u = 0
 · have c0 : (u != 0) = false := by simp [e4]
   have HF2 := Lib.hid (show (decide (u ≠ 0)) = false by simp [e4])
   clear e4
   go_wp2_with fail
   go_step3
   go_wp2_with fail
   go_quiet (fail)
   have HB3 := Lib.hid (below_drewN HB0.out nq)
   go_wp2_with fail
   go_step3
   go_wp2_with fail
   go_loopw [3, 5, 24] (λ a _ i wr => ∃ k : Int, a = .bool false ∧ i = .int .i64 k ∧ (0 ≤ k ∧ k ≤ 4) ∧ Hid ((1 ≤ k → isR r = true) ∧ (2 ≤ k → isR u = true) ∧ (3 ≤ k → isR l = true) ∧ (4 ≤ k → isR t = true)) ∧ Hid (Below w.heap.size w wr)) (λ _ _ i _ => (4 - intOf i).toNat)
   case atStart => exact ⟨0, rfl, rfl, ⟨by omega, by omega⟩, Lib.hid ⟨by omega, by omega, by omega, by omega⟩, HB3⟩
   case round =>
     obtain ⟨k, rfl, rfl, hk, HK, HW⟩ := hrel
     have hk5 : k = 0 ∨ k = 1 ∨ k = 2 ∨ k = 3 ∨ k = 4 := by omega
     clear hk
     rcases hk5 with rfl | rfl | rfl | rfl | rfl
     · have hix : ∀ w, (Instr.index 265 (.agg #[.int .i64 r, .int .i64 u, .int .i64 l, .int .i64 t]) (.int .i64 0)).run Tryz.prog w = .ok (.int .i64 r) w := λ _ => by kernel_rfl
       go_wp2_with fail
       refine (HI.out _ _).mono ?_
       rintro e w' ⟨rfl, rfl⟩
       cases e0 : isR r with
       | false =>
         go_wp2_with fail
         try rw [Exit.noGoto_ret]
         go_ret
         exact ⟨ret_bool (by rw [HF.out]; simp [e0]), HW.out⟩
       | true =>
         have HK2 := Lib.hid e0
         clear e0
         go_wp2_with fail
         go_roundw
         case rel =>
           have h0 := HK.out
           have h1 := HK2.out
           exact ⟨1, rfl, rfl, ⟨by omega, by omega⟩, Lib.hid ⟨λ _ => h1, by omega, by omega, by omega⟩, HW⟩
         case measure => simp [intOf]
     · have hix : ∀ w, (Instr.index 265 (.agg #[.int .i64 r, .int .i64 u, .int .i64 l, .int .i64 t]) (.int .i64 1)).run Tryz.prog w = .ok (.int .i64 u) w := λ _ => by kernel_rfl
       go_wp2_with fail
       refine (HI.out _ _).mono ?_
       rintro e w' ⟨rfl, rfl⟩
       cases e1 : isR u with
       | false =>
         go_wp2_with fail
         try rw [Exit.noGoto_ret]
         go_ret
         exact ⟨ret_bool (by rw [HF.out]; simp [e1]), HW.out⟩
       | true =>
         have HK2 := Lib.hid e1
         clear e1
         go_wp2_with fail
         go_roundw
         case rel =>
           have h0 := HK.out
           have h1 := HK2.out
           exact ⟨2, rfl, rfl, ⟨by omega, by omega⟩, Lib.hid ⟨λ _ => h0.1 (by omega), λ _ => h1, by omega, by omega⟩, HW⟩
         case measure => simp [intOf]
     · have hix : ∀ w, (Instr.index 265 (.agg #[.int .i64 r, .int .i64 u, .int .i64 l, .int .i64 t]) (.int .i64 2)).run Tryz.prog w = .ok (.int .i64 l) w := λ _ => by kernel_rfl
       go_wp2_with fail
       refine (HI.out _ _).mono ?_
       rintro e w' ⟨rfl, rfl⟩
       cases e2 : isR l with
       | false =>
         go_wp2_with fail
         try rw [Exit.noGoto_ret]
         go_ret
         exact ⟨ret_bool (by rw [HF.out]; simp [e2]), HW.out⟩
       | true =>
         have HK2 := Lib.hid e2
         clear e2
         go_wp2_with fail
         go_roundw
         case rel =>
           have h0 := HK.out
           have h1 := HK2.out
           exact ⟨3, rfl, rfl, ⟨by omega, by omega⟩, Lib.hid ⟨λ _ => h0.1 (by omega), λ _ => h0.2.1 (by omega), λ _ => h1, by omega⟩, HW⟩
         case measure => simp [intOf]
     · have hix : ∀ w, (Instr.index 265 (.agg #[.int .i64 r, .int .i64 u, .int .i64 l, .int .i64 t]) (.int .i64 3)).run Tryz.prog w = .ok (.int .i64 t) w := λ _ => by kernel_rfl
       go_wp2_with fail
       refine (HI.out _ _).mono ?_
       rintro e w' ⟨rfl, rfl⟩
       cases e3 : isR t with
       | false =>
         go_wp2_with fail
         try rw [Exit.noGoto_ret]
         go_ret
         exact ⟨ret_bool (by rw [HF.out]; simp [e3]), HW.out⟩
       | true =>
         have HK2 := Lib.hid e3
         clear e3
         go_wp2_with fail
         go_roundw
         case rel =>
           have h0 := HK.out
           have h1 := HK2.out
           exact ⟨4, rfl, rfl, ⟨by omega, by omega⟩, Lib.hid ⟨λ _ => h0.1 (by omega), λ _ => h0.2.1 (by omega), λ _ => h0.2.2.1 (by omega), λ _ => h1⟩, HW⟩
         case measure => simp [intOf]
     · have h0 := HK.out
       have g0 := Lib.hid (h0.1 (by omega))
       have g1 := Lib.hid (h0.2.1 (by omega))
       have g2 := Lib.hid (h0.2.2.1 (by omega))
       have g3 := Lib.hid (h0.2.2.2 (by omega))
       clear h0
       go_wp2_with fail
       try rw [Exit.noGoto_ret]
       go_ret
       exact ⟨ret_bool (by rw [HF.out]; simp [g0.out, g1.out, g2.out, g3.out, HF2.out]), HW.out⟩
 · by_cases e5 : l ≤ u
   · have c0 : (u != 0) = true := by simp [e4]
     have HF2 := Lib.hid (show (decide (u ≠ 0)) = true by simp [e4])
     have HF3 := Lib.hid (show (decide (l ≤ u)) = true by simp [e5])
     have ev : trimL u l = l := by unfold trimL; rw [if_neg (by omega)]
     rw [ev] at HT
     clear e4 e5 ev
     have HCK := Lib.hid (show ∀ W, Below w1.heap.size w1 W → (W.cell? ⟨w.heap.size, 0, none⟩ = some (.int .i64 r) ∧ W.cell? ⟨w.heap.size, 1, none⟩ = some (.int .i64 u) ∧ W.cell? ⟨w.heap.size, 2, none⟩ = some (.int .i64 l) ∧ W.cell? ⟨w.heap.size, 3, none⟩ = some (.int .i64 t)) ∧ Below w1.heap.size w1 W from
       λ W hb => ⟨⟨cell_of_row _ _ 0 _ _ _ ((hb.block _ (blk_lt HK0.out)).trans HK0.out), cell_of_row _ _ 1 _ _ _ ((hb.block _ (blk_lt HK0.out)).trans HK0.out), cell_of_row _ _ 2 _ _ _ ((hb.block _ (blk_lt HK0.out)).trans HK0.out), cell_of_row _ _ 3 _ _ _ ((hb.block _ (blk_lt HK0.out)).trans HK0.out)⟩, hb⟩)
     go_wp2_with fail
     go_step3
     go_wp2_with fail
     go_region_held (λ W => (W.cell? ⟨w.heap.size, 0, none⟩ = some (.int .i64 r) ∧ W.cell? ⟨w.heap.size, 1, none⟩ = some (.int .i64 u) ∧ W.cell? ⟨w.heap.size, 2, none⟩ = some (.int .i64 l) ∧ W.cell? ⟨w.heap.size, 3, none⟩ = some (.int .i64 t)) ∧ Below w1.heap.size w1 W)
       ((refine HCK.out _ ?_
         go_split_ands
         first
           | with_reducible exact (Below.refl _ _).drew
           | with_reducible assumption))
       (first
         | (go_at_call 202; go_split_ands; (with_reducible refine Calls.mono (HT.out _) ?_); rintro e w5 ⟨rfl, hb⟩; (have hb5 := seqB (by assumption) hb); clear hb))
     have HB3 := Lib.hid (seqB HB0.out hb5)
     have hg0 := (hb5.block _ (blk_lt HK0.out)).trans HK0.out
     clear hb5 HCK x0 x1 x2 x3
     go_split_ands
     have x0 : w5.cell? ⟨w.heap.size, 0, none⟩ = some (.int .i64 r) := cell_of_row _ _ 0 _ _ _ hg0
     have x1 : w5.cell? ⟨w.heap.size, 1, none⟩ = some (.int .i64 u) := cell_of_row _ _ 1 _ _ _ hg0
     have x2 : w5.cell? ⟨w.heap.size, 2, none⟩ = some (.int .i64 l) := cell_of_row _ _ 2 _ _ _ hg0
     have x3 : w5.cell? ⟨w.heap.size, 3, none⟩ = some (.int .i64 t) := cell_of_row _ _ 3 _ _ _ hg0
     clear hg0
     go_wp2_with fail
     go_step3
     go_wp2_with fail
     go_loopw [3, 5, 24] (λ a _ i wr => ∃ k : Int, a = .bool true ∧ i = .int .i64 k ∧ (0 ≤ k ∧ k ≤ 4) ∧ Hid ((1 ≤ k → isR r = true) ∧ (2 ≤ k → isR u = true) ∧ (3 ≤ k → isR l = true) ∧ (4 ≤ k → isR t = true)) ∧ Hid (Below w.heap.size w wr)) (λ _ _ i _ => (4 - intOf i).toNat)
     case atStart => exact ⟨0, rfl, rfl, ⟨by omega, by omega⟩, Lib.hid ⟨by omega, by omega, by omega, by omega⟩, HB3⟩
     case round =>
       obtain ⟨k, rfl, rfl, hk, HK, HW⟩ := hrel
       have hk5 : k = 0 ∨ k = 1 ∨ k = 2 ∨ k = 3 ∨ k = 4 := by omega
       clear hk
       rcases hk5 with rfl | rfl | rfl | rfl | rfl
       · have hix : ∀ w, (Instr.index 265 (.agg #[.int .i64 r, .int .i64 u, .int .i64 l, .int .i64 t]) (.int .i64 0)).run Tryz.prog w = .ok (.int .i64 r) w := λ _ => by kernel_rfl
         go_wp2_with fail
         refine (HI.out _ _).mono ?_
         rintro e w' ⟨rfl, rfl⟩
         cases e0 : isR r with
         | false =>
           go_wp2_with fail
           try rw [Exit.noGoto_ret]
           go_ret
           exact ⟨ret_bool (by rw [HF.out]; simp [e0]), HW.out⟩
         | true =>
           have HK2 := Lib.hid e0
           clear e0
           go_wp2_with fail
           go_roundw
           case rel =>
             have h0 := HK.out
             have h1 := HK2.out
             exact ⟨1, rfl, rfl, ⟨by omega, by omega⟩, Lib.hid ⟨λ _ => h1, by omega, by omega, by omega⟩, HW⟩
           case measure => simp [intOf]
       · have hix : ∀ w, (Instr.index 265 (.agg #[.int .i64 r, .int .i64 u, .int .i64 l, .int .i64 t]) (.int .i64 1)).run Tryz.prog w = .ok (.int .i64 u) w := λ _ => by kernel_rfl
         go_wp2_with fail
         refine (HI.out _ _).mono ?_
         rintro e w' ⟨rfl, rfl⟩
         cases e1 : isR u with
         | false =>
           go_wp2_with fail
           try rw [Exit.noGoto_ret]
           go_ret
           exact ⟨ret_bool (by rw [HF.out]; simp [e1]), HW.out⟩
         | true =>
           have HK2 := Lib.hid e1
           clear e1
           go_wp2_with fail
           go_roundw
           case rel =>
             have h0 := HK.out
             have h1 := HK2.out
             exact ⟨2, rfl, rfl, ⟨by omega, by omega⟩, Lib.hid ⟨λ _ => h0.1 (by omega), λ _ => h1, by omega, by omega⟩, HW⟩
           case measure => simp [intOf]
       · have hix : ∀ w, (Instr.index 265 (.agg #[.int .i64 r, .int .i64 u, .int .i64 l, .int .i64 t]) (.int .i64 2)).run Tryz.prog w = .ok (.int .i64 l) w := λ _ => by kernel_rfl
         go_wp2_with fail
         refine (HI.out _ _).mono ?_
         rintro e w' ⟨rfl, rfl⟩
         cases e2 : isR l with
         | false =>
           go_wp2_with fail
           try rw [Exit.noGoto_ret]
           go_ret
           exact ⟨ret_bool (by rw [HF.out]; simp [e2]), HW.out⟩
         | true =>
           have HK2 := Lib.hid e2
           clear e2
           go_wp2_with fail
           go_roundw
           case rel =>
             have h0 := HK.out
             have h1 := HK2.out
             exact ⟨3, rfl, rfl, ⟨by omega, by omega⟩, Lib.hid ⟨λ _ => h0.1 (by omega), λ _ => h0.2.1 (by omega), λ _ => h1, by omega⟩, HW⟩
           case measure => simp [intOf]
       · have hix : ∀ w, (Instr.index 265 (.agg #[.int .i64 r, .int .i64 u, .int .i64 l, .int .i64 t]) (.int .i64 3)).run Tryz.prog w = .ok (.int .i64 t) w := λ _ => by kernel_rfl
         go_wp2_with fail
         refine (HI.out _ _).mono ?_
         rintro e w' ⟨rfl, rfl⟩
         cases e3 : isR t with
         | false =>
           go_wp2_with fail
           try rw [Exit.noGoto_ret]
           go_ret
           exact ⟨ret_bool (by rw [HF.out]; simp [e3]), HW.out⟩
         | true =>
           have HK2 := Lib.hid e3
           clear e3
           go_wp2_with fail
           go_roundw
           case rel =>
             have h0 := HK.out
             have h1 := HK2.out
             exact ⟨4, rfl, rfl, ⟨by omega, by omega⟩, Lib.hid ⟨λ _ => h0.1 (by omega), λ _ => h0.2.1 (by omega), λ _ => h0.2.2.1 (by omega), λ _ => h1⟩, HW⟩
           case measure => simp [intOf]
       · have h0 := HK.out
         have g0 := Lib.hid (h0.1 (by omega))
         have g1 := Lib.hid (h0.2.1 (by omega))
         have g2 := Lib.hid (h0.2.2.1 (by omega))
         have g3 := Lib.hid (h0.2.2.2 (by omega))
         clear h0
         go_wp2_with fail
         try rw [Exit.noGoto_ret]
         go_ret
         exact ⟨ret_bool (by rw [HF.out]; simp [g0.out, g1.out, g2.out, g3.out, HF2.out, HF3.out]), HW.out⟩
   · have c0 : (u != 0) = true := by simp [e4]
     have HF3 := Lib.hid (show (decide (l ≤ u)) = false by simp; omega)
     have ev : trimL u l = u := by unfold trimL; rw [if_pos (by omega)]
     have hne : (l == u) = false := by simp; omega
     rw [ev] at HT
     clear e4 e5 ev
     have HCK := Lib.hid (show ∀ W, Below w1.heap.size w1 W → (W.cell? ⟨w.heap.size, 0, none⟩ = some (.int .i64 r) ∧ W.cell? ⟨w.heap.size, 1, none⟩ = some (.int .i64 u) ∧ W.cell? ⟨w.heap.size, 2, none⟩ = some (.int .i64 l) ∧ W.cell? ⟨w.heap.size, 3, none⟩ = some (.int .i64 t)) ∧ Below w1.heap.size w1 W from
       λ W hb => ⟨⟨cell_of_row _ _ 0 _ _ _ ((hb.block _ (blk_lt HK0.out)).trans HK0.out), cell_of_row _ _ 1 _ _ _ ((hb.block _ (blk_lt HK0.out)).trans HK0.out), cell_of_row _ _ 2 _ _ _ ((hb.block _ (blk_lt HK0.out)).trans HK0.out), cell_of_row _ _ 3 _ _ _ ((hb.block _ (blk_lt HK0.out)).trans HK0.out)⟩, hb⟩)
     go_wp2_with fail
     go_step3
     go_wp2_with fail
     go_region_held (λ W => (W.cell? ⟨w.heap.size, 0, none⟩ = some (.int .i64 r) ∧ W.cell? ⟨w.heap.size, 1, none⟩ = some (.int .i64 u) ∧ W.cell? ⟨w.heap.size, 2, none⟩ = some (.int .i64 l) ∧ W.cell? ⟨w.heap.size, 3, none⟩ = some (.int .i64 t)) ∧ Below w1.heap.size w1 W)
       ((refine HCK.out _ ?_
         go_split_ands
         first
           | with_reducible exact (Below.refl _ _).drew
           | with_reducible assumption))
       (first
         | (go_at_call 202; go_split_ands; (with_reducible refine Calls.mono (HT.out _) ?_); rintro e w5 ⟨rfl, hb⟩; (have hb5 := seqB (by assumption) hb); clear hb))
     have HB3 := Lib.hid (seqB HB0.out hb5)
     have hg0 := (hb5.block _ (blk_lt HK0.out)).trans HK0.out
     clear hb5 HCK x0 x1 x2 x3
     go_split_ands
     have x0 : w5.cell? ⟨w.heap.size, 0, none⟩ = some (.int .i64 r) := cell_of_row _ _ 0 _ _ _ hg0
     have x1 : w5.cell? ⟨w.heap.size, 1, none⟩ = some (.int .i64 u) := cell_of_row _ _ 1 _ _ _ hg0
     have x2 : w5.cell? ⟨w.heap.size, 2, none⟩ = some (.int .i64 l) := cell_of_row _ _ 2 _ _ _ hg0
     have x3 : w5.cell? ⟨w.heap.size, 3, none⟩ = some (.int .i64 t) := cell_of_row _ _ 3 _ _ _ hg0
     clear hg0
     go_wp2_with fail
     go_step3
     go_wp2_with fail
     go_loopw [3, 5, 24] (λ a _ i wr => ∃ k : Int, a = .bool false ∧ i = .int .i64 k ∧ (0 ≤ k ∧ k ≤ 4) ∧ Hid ((1 ≤ k → isR r = true) ∧ (2 ≤ k → isR u = true) ∧ (3 ≤ k → isR l = true) ∧ (4 ≤ k → isR t = true)) ∧ Hid (Below w.heap.size w wr)) (λ _ _ i _ => (4 - intOf i).toNat)
     case atStart => exact ⟨0, rfl, rfl, ⟨by omega, by omega⟩, Lib.hid ⟨by omega, by omega, by omega, by omega⟩, HB3⟩
     case round =>
       obtain ⟨k, rfl, rfl, hk, HK, HW⟩ := hrel
       have hk5 : k = 0 ∨ k = 1 ∨ k = 2 ∨ k = 3 ∨ k = 4 := by omega
       clear hk
       rcases hk5 with rfl | rfl | rfl | rfl | rfl
       · have hix : ∀ w, (Instr.index 265 (.agg #[.int .i64 r, .int .i64 u, .int .i64 l, .int .i64 t]) (.int .i64 0)).run Tryz.prog w = .ok (.int .i64 r) w := λ _ => by kernel_rfl
         go_wp2_with fail
         refine (HI.out _ _).mono ?_
         rintro e w' ⟨rfl, rfl⟩
         cases e0 : isR r with
         | false =>
           go_wp2_with fail
           try rw [Exit.noGoto_ret]
           go_ret
           exact ⟨ret_bool (by rw [HF.out]; simp [e0]), HW.out⟩
         | true =>
           have HK2 := Lib.hid e0
           clear e0
           go_wp2_with fail
           go_roundw
           case rel =>
             have h0 := HK.out
             have h1 := HK2.out
             exact ⟨1, rfl, rfl, ⟨by omega, by omega⟩, Lib.hid ⟨λ _ => h1, by omega, by omega, by omega⟩, HW⟩
           case measure => simp [intOf]
       · have hix : ∀ w, (Instr.index 265 (.agg #[.int .i64 r, .int .i64 u, .int .i64 l, .int .i64 t]) (.int .i64 1)).run Tryz.prog w = .ok (.int .i64 u) w := λ _ => by kernel_rfl
         go_wp2_with fail
         refine (HI.out _ _).mono ?_
         rintro e w' ⟨rfl, rfl⟩
         cases e1 : isR u with
         | false =>
           go_wp2_with fail
           try rw [Exit.noGoto_ret]
           go_ret
           exact ⟨ret_bool (by rw [HF.out]; simp [e1]), HW.out⟩
         | true =>
           have HK2 := Lib.hid e1
           clear e1
           go_wp2_with fail
           go_roundw
           case rel =>
             have h0 := HK.out
             have h1 := HK2.out
             exact ⟨2, rfl, rfl, ⟨by omega, by omega⟩, Lib.hid ⟨λ _ => h0.1 (by omega), λ _ => h1, by omega, by omega⟩, HW⟩
           case measure => simp [intOf]
       · have hix : ∀ w, (Instr.index 265 (.agg #[.int .i64 r, .int .i64 u, .int .i64 l, .int .i64 t]) (.int .i64 2)).run Tryz.prog w = .ok (.int .i64 l) w := λ _ => by kernel_rfl
         go_wp2_with fail
         refine (HI.out _ _).mono ?_
         rintro e w' ⟨rfl, rfl⟩
         cases e2 : isR l with
         | false =>
           go_wp2_with fail
           try rw [Exit.noGoto_ret]
           go_ret
           exact ⟨ret_bool (by rw [HF.out]; simp [e2]), HW.out⟩
         | true =>
           have HK2 := Lib.hid e2
           clear e2
           go_wp2_with fail
           go_roundw
           case rel =>
             have h0 := HK.out
             have h1 := HK2.out
             exact ⟨3, rfl, rfl, ⟨by omega, by omega⟩, Lib.hid ⟨λ _ => h0.1 (by omega), λ _ => h0.2.1 (by omega), λ _ => h1, by omega⟩, HW⟩
           case measure => simp [intOf]
       · have hix : ∀ w, (Instr.index 265 (.agg #[.int .i64 r, .int .i64 u, .int .i64 l, .int .i64 t]) (.int .i64 3)).run Tryz.prog w = .ok (.int .i64 t) w := λ _ => by kernel_rfl
         go_wp2_with fail
         refine (HI.out _ _).mono ?_
         rintro e w' ⟨rfl, rfl⟩
         cases e3 : isR t with
         | false =>
           go_wp2_with fail
           try rw [Exit.noGoto_ret]
           go_ret
           exact ⟨ret_bool (by rw [HF.out]; simp [e3]), HW.out⟩
         | true =>
           have HK2 := Lib.hid e3
           clear e3
           go_wp2_with fail
           go_roundw
           case rel =>
             have h0 := HK.out
             have h1 := HK2.out
             exact ⟨4, rfl, rfl, ⟨by omega, by omega⟩, Lib.hid ⟨λ _ => h0.1 (by omega), λ _ => h0.2.1 (by omega), λ _ => h0.2.2.1 (by omega), λ _ => h1⟩, HW⟩
           case measure => simp [intOf]
       · have h0 := HK.out
         have g0 := Lib.hid (h0.1 (by omega))
         have g1 := Lib.hid (h0.2.1 (by omega))
         have g2 := Lib.hid (h0.2.2.1 (by omega))
         have g3 := Lib.hid (h0.2.2.2 (by omega))
         clear h0
         go_wp2_with fail
         try rw [Exit.noGoto_ret]
         go_ret
         exact ⟨ret_bool (by rw [HF.out]; simp [g0.out, g1.out, g2.out, g3.out, HF3.out]), HW.out⟩
end Go.Proofs.YtdighjgcnaajgaaGreat.gb
