import Derived.Test.YtfdfgnmgpgkknaaGreatMG1
import Derived.Deep.Cut
set_option maxRecDepth 100000
set_option maxHeartbeats 8000000
open Go.Proofs.Tryz renaming prog→zf
open Go.Lib renaming hid→zd
open Go renaming cell_of_row→ze,bodyPost_ret→zk,heap_alloc_new→zo
open Nat renaming le_refl→zg
open Go.RowKit.Below renaming heap_setCell→zn,refl→zh
open Go.Proofs.Tryz
namespace Go.Proofs.YtfdfgnmgpgkknaaGreat
namespace gb
open Go.RowKit
def JP (L n:Int):Int:=if n<0 then 0 else if L<n then L else n
theorem X4 {r u l t:Int} (h:qI r u l t=true) (now:Int):qI r u (ZJ r u l t now) (ZV r u l t now)=true:=by
 have h0:=(qY r u l t).1 h
 obtain⟨h1,h2,h3,h4,h5,h6⟩:=h0
 rw[qY]
 have hn:=qw now
 unfold ZJ ZV
 by_cases hc:qI r u l t=true∧t<qe now
 ·rw[if_pos hc,if_pos hc]
  have hp:0≤r*(qe now -t):=Int.mul_nonneg h1.1 (by omega)
  unfold lvl
  refine⟨h1,h2,?_,hn,h5,?_⟩<;>(split<;>omega)
 ·rw[if_neg hc,if_neg hc]
  exact⟨h1,h2,h3,h4,h5,h6⟩
theorem B0 {r u l t:Int} (h:qI r u l t=false) (now n:Int) (w:World):Calls zf 113 #[.agg #[.int .i64 r,.int .i64 u,.int .i64 l,.int .i64 t],.int .i64 now,.int .i64 n] w λ e w'=>e=.returned (.tuple #[.agg #[.int .i64 r,.int .i64 u,.int .i64 l,.int .i64 t],.int .i64 0])∧Below w.heap.size w w':=by
 have HRG:=zd (λ W=>show Calls zf 133 #[.agg #[.int .i64 r,.int .i64 u,.int .i64 l,.int .i64 t]] W λ e w'=>e=.returned (.bool false)∧Below W.heap.size W w' from by rw[←h];exact Xt r u l t W)
 have HB0:=zd (Xw w (.cells #[.int .i64 r,.int .i64 u,.int .i64 l,.int .i64 t] 63) (.cells #[.int .i64 0,.int .i64 0,.int .i64 0,.int .i64 0] 63))
 go_enter func113,ntmps113
 go_wp2_with fail
 refine(HRG.out _).mono ?_
 rintro e w3 ⟨rfl,hb⟩
 obtain⟨hg0,hg1,hlt⟩:=Zk hb
 have HB3:=zd (seqB HB0.out hb)
 have x0:w3.cell? ⟨w.heap.size,0,none⟩=some (.int .i64 r):=ze _ _ 0 _ _ _ hg0
 have x1:w3.cell? ⟨w.heap.size,1,none⟩=some (.int .i64 u):=ze _ _ 1 _ _ _ hg0
 have x2:w3.cell? ⟨w.heap.size,2,none⟩=some (.int .i64 l):=ze _ _ 2 _ _ _ hg0
 have x3:w3.cell? ⟨w.heap.size,3,none⟩=some (.int .i64 t):=ze _ _ 3 _ _ _ hg0
 have y0:w3.cell? ⟨w.heap.size+1,0,none⟩=some (.int .i64 0):=ze _ _ 0 _ _ _ hg1
 have y1:w3.cell? ⟨w.heap.size+1,1,none⟩=some (.int .i64 0):=ze _ _ 1 _ _ _ hg1
 have y2:w3.cell? ⟨w.heap.size+1,2,none⟩=some (.int .i64 0):=ze _ _ 2 _ _ _ hg1
 have y3:w3.cell? ⟨w.heap.size+1,3,none⟩=some (.int .i64 0):=ze _ _ 3 _ _ _ hg1
 have f0:w3.frozen? ⟨w.heap.size+1,0,none⟩=false:=qa hg1
 have f1:w3.frozen? ⟨w.heap.size+1,1,none⟩=false:=qa hg1
 have f2:w3.frozen? ⟨w.heap.size+1,2,none⟩=false:=qa hg1
 have f3:w3.frozen? ⟨w.heap.size+1,3,none⟩=false:=qa hg1
 clear hb HRG HB0
 have hz:=qF hg1 (.int .i64 r) (.int .i64 u) (.int .i64 l) (.int .i64 t)
 have HD:=zd (qu (w:=w3) (g:=w.heap.size+1) HB3.out (show w.heap.size≤w.heap.size+1 by omega) (.int .i64 r) (.int .i64 u) (.int .i64 l) (.int .i64 t))
 go_wp2_with fail
 generalize hW:Zs w3 (w.heap.size+1) (.int .i64 r) (.int .i64 u) (.int .i64 l) (.int .i64 t)=W at*
 unfold Zs at hW
 rw[hW]
 clear hW
 have z0:W.cell? ⟨w.heap.size+1,0,none⟩=some (.int .i64 r):=ze W _ 0 _ _ _ hz
 have z1:W.cell? ⟨w.heap.size+1,1,none⟩=some (.int .i64 u):=ze W _ 1 _ _ _ hz
 have z2:W.cell? ⟨w.heap.size+1,2,none⟩=some (.int .i64 l):=ze W _ 2 _ _ _ hz
 have z3:W.cell? ⟨w.heap.size+1,3,none⟩=some (.int .i64 t):=ze W _ 3 _ _ _ hz
 exact zk (v:=.tuple #[.agg #[.int .i64 r,.int .i64 u,.int .i64 l,.int .i64 t],.int .i64 0]) (by simp[results,results113,go_sem,z0,z1,z2,z3]) rfl ⟨rfl,HD.out⟩
theorem Pt {r u l t:Int} (h:qI r u l t=true) (now n:Int) {L T K D:Int} (hL:ZJ r u l t now=L) (hT:ZV r u l t now=T) (hK:JP L n=K) (hD:L -K=D) (w:World):Calls zf 113 #[.agg #[.int .i64 r,.int .i64 u,.int .i64 l,.int .i64 t],.int .i64 now,.int .i64 n] w λ e w'=>e=.returned (.tuple #[.agg #[.int .i64 r,.int .i64 u,.int .i64 D,.int .i64 T],.int .i64 K])∧Below w.heap.size w w':=by
 have hfr:=(qY _ _ _ _).1 (X4 h now)
 rw[hL]at hfr
 have hLr:=hfr.2.2.1
 have HRG:=zd (λ W=>show Calls zf 133 #[.agg #[.int .i64 r,.int .i64 u,.int .i64 l,.int .i64 t]] W λ e w'=>e=.returned (.bool true)∧Below W.heap.size W w' from by rw[←h];exact Xt r u l t W)
 have HFI:=zd (λ W=>show Calls zf 134 #[.agg #[.int .i64 r,.int .i64 u,.int .i64 l,.int .i64 t],.int .i64 now] W λ e w'=>e=.returned (.agg #[.int .i64 r,.int .i64 u,.int .i64 L,.int .i64 T])∧Below W.heap.size W w' from by rw[←hL,←hT];exact UU r u l t now W)
 have HB0:=zd (Xw w (.cells #[.int .i64 r,.int .i64 u,.int .i64 l,.int .i64 t] 63) (.cells #[.int .i64 0,.int .i64 0,.int .i64 0,.int .i64 0] 63))
 clear hfr hL hT h
 unfold JP at hK
 by_cases hn0:n<0
 ·rw[if_pos hn0]at hK
  subst hK
  have hDe:D=L:=by omega
  have hw:IntKind.i64.wrap L=L:=IntWalk.i64_in _ (by omega)
  subst hDe
  clear hD
  have HDV:=zd (show D=D from rfl)
  have HKV:=zd (show(0:Int)=0 from rfl)
  go_enter func113,ntmps113
  go_wp2_with fail
  refine(HRG.out _).mono ?_
  rintro e w1 ⟨rfl,hb1⟩
  obtain⟨hg0,hg1,hlt⟩:=Zk hb1
  have HB1:=zd (seqB HB0.out hb1)
  have HG0:=zd hg0
  have HG1:=zd hg1
  have x0:w1.cell? ⟨w.heap.size,0,none⟩=some (.int .i64 r):=ze _ _ 0 _ _ _ hg0
  have x1:w1.cell? ⟨w.heap.size,1,none⟩=some (.int .i64 u):=ze _ _ 1 _ _ _ hg0
  have x2:w1.cell? ⟨w.heap.size,2,none⟩=some (.int .i64 l):=ze _ _ 2 _ _ _ hg0
  have x3:w1.cell? ⟨w.heap.size,3,none⟩=some (.int .i64 t):=ze _ _ 3 _ _ _ hg0
  clear hb1 hg0 hg1 hlt
  go_wp2_with fail
  refine(HFI.out _).mono ?_
  rintro e w2 ⟨rfl,hb2⟩
  have hg0:=(hb2.block _ (qd HG0.out)).trans HG0.out
  have hg1:=(hb2.block _ (qd HG1.out)).trans HG1.out
  have HB2:=zd (seqB HB1.out hb2)
  have hlt2:w.heap.size+1<w2.heap.size:=qd hg1
  clear hb2 x0 x1 x2 x3
  have x0:w2.cell? ⟨w.heap.size,0,none⟩=some (.int .i64 r):=ze _ _ 0 _ _ _ hg0
  have x1:w2.cell? ⟨w.heap.size,1,none⟩=some (.int .i64 u):=ze _ _ 1 _ _ _ hg0
  have x2:w2.cell? ⟨w.heap.size,2,none⟩=some (.int .i64 l):=ze _ _ 2 _ _ _ hg0
  have x3:w2.cell? ⟨w.heap.size,3,none⟩=some (.int .i64 t):=ze _ _ 3 _ _ _ hg0
  have y0:w2.cell? ⟨w.heap.size+1,0,none⟩=some (.int .i64 0):=ze _ _ 0 _ _ _ hg1
  have y1:w2.cell? ⟨w.heap.size+1,1,none⟩=some (.int .i64 0):=ze _ _ 1 _ _ _ hg1
  have y2:w2.cell? ⟨w.heap.size+1,2,none⟩=some (.int .i64 0):=ze _ _ 2 _ _ _ hg1
  have y3:w2.cell? ⟨w.heap.size+1,3,none⟩=some (.int .i64 0):=ze _ _ 3 _ _ _ hg1
  have f0:w2.frozen? ⟨w.heap.size+1,0,none⟩=false:=qa hg1
  have f1:w2.frozen? ⟨w.heap.size+1,1,none⟩=false:=qa hg1
  have f2:w2.frozen? ⟨w.heap.size+1,2,none⟩=false:=qa hg1
  have f3:w2.frozen? ⟨w.heap.size+1,3,none⟩=false:=qa hg1
  have e0:w2.frozen? ⟨w.heap.size,0,none⟩=false:=qa hg0
  have e1:w2.frozen? ⟨w.heap.size,1,none⟩=false:=qa hg0
  have e2:w2.frozen? ⟨w.heap.size,2,none⟩=false:=qa hg0
  have e3:w2.frozen? ⟨w.heap.size,3,none⟩=false:=qa hg0
  go_upto_region 4 with fail
  have hs1:=qF hg0 (.int .i64 r) (.int .i64 u) (.int .i64 D) (.int .i64 T)
  have hd1:=qu (w:=w2) HB2.out (show w.heap.size≤w.heap.size by omega) (.int .i64 r) (.int .i64 u) (.int .i64 D) (.int .i64 T)
  have hf1:=(Jy (.int .i64 r) (.int .i64 u) (.int .i64 D) (.int .i64 T) (show w.heap.size+1≠w.heap.size by omega)).trans hg1
  generalize hW1:Zs w2 w.heap.size (.int .i64 r) (.int .i64 u) (.int .i64 D) (.int .i64 T)=W1 at*
  unfold Zs at hW1
  rw[hW1]
  clear hW1 x0 x1 x2 x3 y0 y1 y2 y3 f0 f1 f2 f3 e0 e1 e2 e3 hg0 hg1
  have hltW:w.heap.size+1<W1.heap.size:=qd hf1
  have x0:W1.cell? ⟨w.heap.size,0,none⟩=some (.int .i64 r):=ze _ _ 0 _ _ _ hs1
  have x1:W1.cell? ⟨w.heap.size,1,none⟩=some (.int .i64 u):=ze _ _ 1 _ _ _ hs1
  have x2:W1.cell? ⟨w.heap.size,2,none⟩=some (.int .i64 D):=ze _ _ 2 _ _ _ hs1
  have x3:W1.cell? ⟨w.heap.size,3,none⟩=some (.int .i64 T):=ze _ _ 3 _ _ _ hs1
  have e2:W1.frozen? ⟨w.heap.size,2,none⟩=false:=qa hs1
  go_upto_region 9 with fail
  have hs2:=qo (i:=2) hs1 (.int .i64 D)
  have hd2:=hd1.setCell (p:=⟨w.heap.size,2,none⟩) (zg _) (.int .i64 D)
  have hf2:=(zn W1 ⟨w.heap.size,2,none⟩ (.int .i64 D) (w.heap.size+1) (by simp)).trans hf1
  generalize W1.setCell ⟨w.heap.size,2,none⟩ (.int .i64 D)=W2 at*
  have hs2:W2.heap[w.heap.size]?=some (.cells #[.int .i64 r,.int .i64 u,.int .i64 D,.int .i64 T] 63 (0,0)):=hs2
  have hltV:w.heap.size+1<W2.heap.size:=qd hf2
  have hz:=qF hf2 (.int .i64 r) (.int .i64 u) (.int .i64 D) (.int .i64 T)
  have HD:=zd (qu hd2 (show w.heap.size≤w.heap.size+1 by omega) (.int .i64 r) (.int .i64 u) (.int .i64 D) (.int .i64 T))
  have v0:W2.cell? ⟨w.heap.size,0,none⟩=some (.int .i64 r):=ze _ _ 0 _ _ _ hs2
  have v1:W2.cell? ⟨w.heap.size,1,none⟩=some (.int .i64 u):=ze _ _ 1 _ _ _ hs2
  have v2:W2.cell? ⟨w.heap.size,2,none⟩=some (.int .i64 D):=ze _ _ 2 _ _ _ hs2
  have v3:W2.cell? ⟨w.heap.size,3,none⟩=some (.int .i64 T):=ze _ _ 3 _ _ _ hs2
  have y0:W2.cell? ⟨w.heap.size+1,0,none⟩=some (.int .i64 0):=ze _ _ 0 _ _ _ hf2
  have y1:W2.cell? ⟨w.heap.size+1,1,none⟩=some (.int .i64 0):=ze _ _ 1 _ _ _ hf2
  have y2:W2.cell? ⟨w.heap.size+1,2,none⟩=some (.int .i64 0):=ze _ _ 2 _ _ _ hf2
  have y3:W2.cell? ⟨w.heap.size+1,3,none⟩=some (.int .i64 0):=ze _ _ 3 _ _ _ hf2
  have f0:W2.frozen? ⟨w.heap.size+1,0,none⟩=false:=qa hf2
  have f1:W2.frozen? ⟨w.heap.size+1,1,none⟩=false:=qa hf2
  have f2:W2.frozen? ⟨w.heap.size+1,2,none⟩=false:=qa hf2
  have f3:W2.frozen? ⟨w.heap.size+1,3,none⟩=false:=qa hf2
  clear hs1 hd1 hf1 hs2 hd2 hf2 x0 x1 x2 x3 e2 hltW
  go_wp2_with fail
  generalize hW:Zs W2 (w.heap.size+1) (.int .i64 r) (.int .i64 u) (.int .i64 D) (.int .i64 T)=W at*
  unfold Zs at hW
  rw[hW]
  clear hW
  have z0:W.cell? ⟨w.heap.size+1,0,none⟩=some (.int .i64 r):=ze W _ 0 _ _ _ hz
  have z1:W.cell? ⟨w.heap.size+1,1,none⟩=some (.int .i64 u):=ze W _ 1 _ _ _ hz
  have z2:W.cell? ⟨w.heap.size+1,2,none⟩=some (.int .i64 D):=ze W _ 2 _ _ _ hz
  have z3:W.cell? ⟨w.heap.size+1,3,none⟩=some (.int .i64 T):=ze W _ 3 _ _ _ hz
  exact zk (v:=.tuple #[.agg #[.int .i64 r,.int .i64 u,.int .i64 D,.int .i64 T],.int .i64 0]) (by simp[results,results113,go_sem,z0,z1,z2,z3]) rfl ⟨by rfl,HD.out⟩
 ·rw[if_neg hn0]at hK
  by_cases hn1:L<n
  ·rw[if_pos hn1]at hK
   subst hK
   obtain rfl:D=0:=by omega
   have hw:IntKind.i64.wrap (L -L)=0:=by rw[IntWalk.i64_in _ (by omega)];omega
   clear hD
   go_enter func113,ntmps113
   go_wp2_with fail
   refine(HRG.out _).mono ?_
   rintro e w1 ⟨rfl,hb1⟩
   obtain⟨hg0,hg1,hlt⟩:=Zk hb1
   have HB1:=zd (seqB HB0.out hb1)
   have HG0:=zd hg0
   have HG1:=zd hg1
   have x0:w1.cell? ⟨w.heap.size,0,none⟩=some (.int .i64 r):=ze _ _ 0 _ _ _ hg0
   have x1:w1.cell? ⟨w.heap.size,1,none⟩=some (.int .i64 u):=ze _ _ 1 _ _ _ hg0
   have x2:w1.cell? ⟨w.heap.size,2,none⟩=some (.int .i64 l):=ze _ _ 2 _ _ _ hg0
   have x3:w1.cell? ⟨w.heap.size,3,none⟩=some (.int .i64 t):=ze _ _ 3 _ _ _ hg0
   clear hb1 hg0 hg1 hlt
   go_wp2_with fail
   refine(HFI.out _).mono ?_
   rintro e w2 ⟨rfl,hb2⟩
   have hg0:=(hb2.block _ (qd HG0.out)).trans HG0.out
   have hg1:=(hb2.block _ (qd HG1.out)).trans HG1.out
   have HB2:=zd (seqB HB1.out hb2)
   have hlt2:w.heap.size+1<w2.heap.size:=qd hg1
   clear hb2 x0 x1 x2 x3
   have x0:w2.cell? ⟨w.heap.size,0,none⟩=some (.int .i64 r):=ze _ _ 0 _ _ _ hg0
   have x1:w2.cell? ⟨w.heap.size,1,none⟩=some (.int .i64 u):=ze _ _ 1 _ _ _ hg0
   have x2:w2.cell? ⟨w.heap.size,2,none⟩=some (.int .i64 l):=ze _ _ 2 _ _ _ hg0
   have x3:w2.cell? ⟨w.heap.size,3,none⟩=some (.int .i64 t):=ze _ _ 3 _ _ _ hg0
   have y0:w2.cell? ⟨w.heap.size+1,0,none⟩=some (.int .i64 0):=ze _ _ 0 _ _ _ hg1
   have y1:w2.cell? ⟨w.heap.size+1,1,none⟩=some (.int .i64 0):=ze _ _ 1 _ _ _ hg1
   have y2:w2.cell? ⟨w.heap.size+1,2,none⟩=some (.int .i64 0):=ze _ _ 2 _ _ _ hg1
   have y3:w2.cell? ⟨w.heap.size+1,3,none⟩=some (.int .i64 0):=ze _ _ 3 _ _ _ hg1
   have f0:w2.frozen? ⟨w.heap.size+1,0,none⟩=false:=qa hg1
   have f1:w2.frozen? ⟨w.heap.size+1,1,none⟩=false:=qa hg1
   have f2:w2.frozen? ⟨w.heap.size+1,2,none⟩=false:=qa hg1
   have f3:w2.frozen? ⟨w.heap.size+1,3,none⟩=false:=qa hg1
   have e0:w2.frozen? ⟨w.heap.size,0,none⟩=false:=qa hg0
   have e1:w2.frozen? ⟨w.heap.size,1,none⟩=false:=qa hg0
   have e2:w2.frozen? ⟨w.heap.size,2,none⟩=false:=qa hg0
   have e3:w2.frozen? ⟨w.heap.size,3,none⟩=false:=qa hg0
   go_upto_region 4 with fail
   have hs1:=qF hg0 (.int .i64 r) (.int .i64 u) (.int .i64 L) (.int .i64 T)
   have hd1:=qu (w:=w2) HB2.out (show w.heap.size≤w.heap.size by omega) (.int .i64 r) (.int .i64 u) (.int .i64 L) (.int .i64 T)
   have hf1:=(Jy (.int .i64 r) (.int .i64 u) (.int .i64 L) (.int .i64 T) (show w.heap.size+1≠w.heap.size by omega)).trans hg1
   generalize hW1:Zs w2 w.heap.size (.int .i64 r) (.int .i64 u) (.int .i64 L) (.int .i64 T)=W1 at*
   unfold Zs at hW1
   rw[hW1]
   clear hW1 x0 x1 x2 x3 y0 y1 y2 y3 f0 f1 f2 f3 e0 e1 e2 e3 hg0 hg1
   have hltW:w.heap.size+1<W1.heap.size:=qd hf1
   have x0:W1.cell? ⟨w.heap.size,0,none⟩=some (.int .i64 r):=ze _ _ 0 _ _ _ hs1
   have x1:W1.cell? ⟨w.heap.size,1,none⟩=some (.int .i64 u):=ze _ _ 1 _ _ _ hs1
   have x2:W1.cell? ⟨w.heap.size,2,none⟩=some (.int .i64 L):=ze _ _ 2 _ _ _ hs1
   have x3:W1.cell? ⟨w.heap.size,3,none⟩=some (.int .i64 T):=ze _ _ 3 _ _ _ hs1
   have e2:W1.frozen? ⟨w.heap.size,2,none⟩=false:=qa hs1
   go_upto_region 9 with fail
   have hs2:=qo (i:=2) hs1 (.int .i64 0)
   have hd2:=hd1.setCell (p:=⟨w.heap.size,2,none⟩) (zg _) (.int .i64 0)
   have hf2:=(zn W1 ⟨w.heap.size,2,none⟩ (.int .i64 0) (w.heap.size+1) (by simp)).trans hf1
   generalize W1.setCell ⟨w.heap.size,2,none⟩ (.int .i64 0)=W2 at*
   have hs2:W2.heap[w.heap.size]?=some (.cells #[.int .i64 r,.int .i64 u,.int .i64 0,.int .i64 T] 63 (0,0)):=hs2
   have hltV:w.heap.size+1<W2.heap.size:=qd hf2
   have hz:=qF hf2 (.int .i64 r) (.int .i64 u) (.int .i64 0) (.int .i64 T)
   have HD:=zd (qu hd2 (show w.heap.size≤w.heap.size+1 by omega) (.int .i64 r) (.int .i64 u) (.int .i64 0) (.int .i64 T))
   have v0:W2.cell? ⟨w.heap.size,0,none⟩=some (.int .i64 r):=ze _ _ 0 _ _ _ hs2
   have v1:W2.cell? ⟨w.heap.size,1,none⟩=some (.int .i64 u):=ze _ _ 1 _ _ _ hs2
   have v2:W2.cell? ⟨w.heap.size,2,none⟩=some (.int .i64 0):=ze _ _ 2 _ _ _ hs2
   have v3:W2.cell? ⟨w.heap.size,3,none⟩=some (.int .i64 T):=ze _ _ 3 _ _ _ hs2
   have y0:W2.cell? ⟨w.heap.size+1,0,none⟩=some (.int .i64 0):=ze _ _ 0 _ _ _ hf2
   have y1:W2.cell? ⟨w.heap.size+1,1,none⟩=some (.int .i64 0):=ze _ _ 1 _ _ _ hf2
   have y2:W2.cell? ⟨w.heap.size+1,2,none⟩=some (.int .i64 0):=ze _ _ 2 _ _ _ hf2
   have y3:W2.cell? ⟨w.heap.size+1,3,none⟩=some (.int .i64 0):=ze _ _ 3 _ _ _ hf2
   have f0:W2.frozen? ⟨w.heap.size+1,0,none⟩=false:=qa hf2
   have f1:W2.frozen? ⟨w.heap.size+1,1,none⟩=false:=qa hf2
   have f2:W2.frozen? ⟨w.heap.size+1,2,none⟩=false:=qa hf2
   have f3:W2.frozen? ⟨w.heap.size+1,3,none⟩=false:=qa hf2
   clear hs1 hd1 hf1 hs2 hd2 hf2 x0 x1 x2 x3 e2 hltW
   go_wp2_with fail
   generalize hW:Zs W2 (w.heap.size+1) (.int .i64 r) (.int .i64 u) (.int .i64 0) (.int .i64 T)=W at*
   unfold Zs at hW
   rw[hW]
   clear hW
   have z0:W.cell? ⟨w.heap.size+1,0,none⟩=some (.int .i64 r):=ze W _ 0 _ _ _ hz
   have z1:W.cell? ⟨w.heap.size+1,1,none⟩=some (.int .i64 u):=ze W _ 1 _ _ _ hz
   have z2:W.cell? ⟨w.heap.size+1,2,none⟩=some (.int .i64 0):=ze W _ 2 _ _ _ hz
   have z3:W.cell? ⟨w.heap.size+1,3,none⟩=some (.int .i64 T):=ze W _ 3 _ _ _ hz
   exact zk (v:=.tuple #[.agg #[.int .i64 r,.int .i64 u,.int .i64 0,.int .i64 T],.int .i64 L]) (by simp[results,results113,go_sem,z0,z1,z2,z3]) rfl ⟨rfl,HD.out⟩
  ·rw[if_neg hn1]at hK
   subst hK
   have hw:IntKind.i64.wrap (L -n)=D:=by rw[IntWalk.i64_in _ (by omega),hD]
   clear hD
   go_enter func113,ntmps113
   go_wp2_with fail
   refine(HRG.out _).mono ?_
   rintro e w1 ⟨rfl,hb1⟩
   obtain⟨hg0,hg1,hlt⟩:=Zk hb1
   have HB1:=zd (seqB HB0.out hb1)
   have HG0:=zd hg0
   have HG1:=zd hg1
   have x0:w1.cell? ⟨w.heap.size,0,none⟩=some (.int .i64 r):=ze _ _ 0 _ _ _ hg0
   have x1:w1.cell? ⟨w.heap.size,1,none⟩=some (.int .i64 u):=ze _ _ 1 _ _ _ hg0
   have x2:w1.cell? ⟨w.heap.size,2,none⟩=some (.int .i64 l):=ze _ _ 2 _ _ _ hg0
   have x3:w1.cell? ⟨w.heap.size,3,none⟩=some (.int .i64 t):=ze _ _ 3 _ _ _ hg0
   clear hb1 hg0 hg1 hlt
   go_wp2_with fail
   refine(HFI.out _).mono ?_
   rintro e w2 ⟨rfl,hb2⟩
   have hg0:=(hb2.block _ (qd HG0.out)).trans HG0.out
   have hg1:=(hb2.block _ (qd HG1.out)).trans HG1.out
   have HB2:=zd (seqB HB1.out hb2)
   have hlt2:w.heap.size+1<w2.heap.size:=qd hg1
   clear hb2 x0 x1 x2 x3
   have x0:w2.cell? ⟨w.heap.size,0,none⟩=some (.int .i64 r):=ze _ _ 0 _ _ _ hg0
   have x1:w2.cell? ⟨w.heap.size,1,none⟩=some (.int .i64 u):=ze _ _ 1 _ _ _ hg0
   have x2:w2.cell? ⟨w.heap.size,2,none⟩=some (.int .i64 l):=ze _ _ 2 _ _ _ hg0
   have x3:w2.cell? ⟨w.heap.size,3,none⟩=some (.int .i64 t):=ze _ _ 3 _ _ _ hg0
   have y0:w2.cell? ⟨w.heap.size+1,0,none⟩=some (.int .i64 0):=ze _ _ 0 _ _ _ hg1
   have y1:w2.cell? ⟨w.heap.size+1,1,none⟩=some (.int .i64 0):=ze _ _ 1 _ _ _ hg1
   have y2:w2.cell? ⟨w.heap.size+1,2,none⟩=some (.int .i64 0):=ze _ _ 2 _ _ _ hg1
   have y3:w2.cell? ⟨w.heap.size+1,3,none⟩=some (.int .i64 0):=ze _ _ 3 _ _ _ hg1
   have f0:w2.frozen? ⟨w.heap.size+1,0,none⟩=false:=qa hg1
   have f1:w2.frozen? ⟨w.heap.size+1,1,none⟩=false:=qa hg1
   have f2:w2.frozen? ⟨w.heap.size+1,2,none⟩=false:=qa hg1
   have f3:w2.frozen? ⟨w.heap.size+1,3,none⟩=false:=qa hg1
   have e0:w2.frozen? ⟨w.heap.size,0,none⟩=false:=qa hg0
   have e1:w2.frozen? ⟨w.heap.size,1,none⟩=false:=qa hg0
   have e2:w2.frozen? ⟨w.heap.size,2,none⟩=false:=qa hg0
   have e3:w2.frozen? ⟨w.heap.size,3,none⟩=false:=qa hg0
   go_upto_region 4 with fail
   have hs1:=qF hg0 (.int .i64 r) (.int .i64 u) (.int .i64 L) (.int .i64 T)
   have hd1:=qu (w:=w2) HB2.out (show w.heap.size≤w.heap.size by omega) (.int .i64 r) (.int .i64 u) (.int .i64 L) (.int .i64 T)
   have hf1:=(Jy (.int .i64 r) (.int .i64 u) (.int .i64 L) (.int .i64 T) (show w.heap.size+1≠w.heap.size by omega)).trans hg1
   generalize hW1:Zs w2 w.heap.size (.int .i64 r) (.int .i64 u) (.int .i64 L) (.int .i64 T)=W1 at*
   unfold Zs at hW1
   rw[hW1]
   clear hW1 x0 x1 x2 x3 y0 y1 y2 y3 f0 f1 f2 f3 e0 e1 e2 e3 hg0 hg1
   have hltW:w.heap.size+1<W1.heap.size:=qd hf1
   have x0:W1.cell? ⟨w.heap.size,0,none⟩=some (.int .i64 r):=ze _ _ 0 _ _ _ hs1
   have x1:W1.cell? ⟨w.heap.size,1,none⟩=some (.int .i64 u):=ze _ _ 1 _ _ _ hs1
   have x2:W1.cell? ⟨w.heap.size,2,none⟩=some (.int .i64 L):=ze _ _ 2 _ _ _ hs1
   have x3:W1.cell? ⟨w.heap.size,3,none⟩=some (.int .i64 T):=ze _ _ 3 _ _ _ hs1
   have e2:W1.frozen? ⟨w.heap.size,2,none⟩=false:=qa hs1
   go_upto_region 9 with fail
   have hs2:=qo (i:=2) hs1 (.int .i64 D)
   have hd2:=hd1.setCell (p:=⟨w.heap.size,2,none⟩) (zg _) (.int .i64 D)
   have hf2:=(zn W1 ⟨w.heap.size,2,none⟩ (.int .i64 D) (w.heap.size+1) (by simp)).trans hf1
   generalize W1.setCell ⟨w.heap.size,2,none⟩ (.int .i64 D)=W2 at*
   have hs2:W2.heap[w.heap.size]?=some (.cells #[.int .i64 r,.int .i64 u,.int .i64 D,.int .i64 T] 63 (0,0)):=hs2
   have hltV:w.heap.size+1<W2.heap.size:=qd hf2
   have hz:=qF hf2 (.int .i64 r) (.int .i64 u) (.int .i64 D) (.int .i64 T)
   have HD:=zd (qu hd2 (show w.heap.size≤w.heap.size+1 by omega) (.int .i64 r) (.int .i64 u) (.int .i64 D) (.int .i64 T))
   have v0:W2.cell? ⟨w.heap.size,0,none⟩=some (.int .i64 r):=ze _ _ 0 _ _ _ hs2
   have v1:W2.cell? ⟨w.heap.size,1,none⟩=some (.int .i64 u):=ze _ _ 1 _ _ _ hs2
   have v2:W2.cell? ⟨w.heap.size,2,none⟩=some (.int .i64 D):=ze _ _ 2 _ _ _ hs2
   have v3:W2.cell? ⟨w.heap.size,3,none⟩=some (.int .i64 T):=ze _ _ 3 _ _ _ hs2
   have y0:W2.cell? ⟨w.heap.size+1,0,none⟩=some (.int .i64 0):=ze _ _ 0 _ _ _ hf2
   have y1:W2.cell? ⟨w.heap.size+1,1,none⟩=some (.int .i64 0):=ze _ _ 1 _ _ _ hf2
   have y2:W2.cell? ⟨w.heap.size+1,2,none⟩=some (.int .i64 0):=ze _ _ 2 _ _ _ hf2
   have y3:W2.cell? ⟨w.heap.size+1,3,none⟩=some (.int .i64 0):=ze _ _ 3 _ _ _ hf2
   have f0:W2.frozen? ⟨w.heap.size+1,0,none⟩=false:=qa hf2
   have f1:W2.frozen? ⟨w.heap.size+1,1,none⟩=false:=qa hf2
   have f2:W2.frozen? ⟨w.heap.size+1,2,none⟩=false:=qa hf2
   have f3:W2.frozen? ⟨w.heap.size+1,3,none⟩=false:=qa hf2
   clear hs1 hd1 hf1 hs2 hd2 hf2 x0 x1 x2 x3 e2 hltW
   go_wp2_with fail
   generalize hW:Zs W2 (w.heap.size+1) (.int .i64 r) (.int .i64 u) (.int .i64 D) (.int .i64 T)=W at*
   unfold Zs at hW
   rw[hW]
   clear hW
   have z0:W.cell? ⟨w.heap.size+1,0,none⟩=some (.int .i64 r):=ze W _ 0 _ _ _ hz
   have z1:W.cell? ⟨w.heap.size+1,1,none⟩=some (.int .i64 u):=ze W _ 1 _ _ _ hz
   have z2:W.cell? ⟨w.heap.size+1,2,none⟩=some (.int .i64 D):=ze W _ 2 _ _ _ hz
   have z3:W.cell? ⟨w.heap.size+1,3,none⟩=some (.int .i64 T):=ze W _ 3 _ _ _ hz
   exact zk (v:=.tuple #[.agg #[.int .i64 r,.int .i64 u,.int .i64 D,.int .i64 T],.int .i64 n]) (by simp[results,results113,go_sem,z0,z1,z2,z3]) rfl ⟨rfl,HD.out⟩
end gb
namespace gb
open Go.RowKit
end gb
namespace gb
open Go.RowKit
end gb
namespace gb
open Go.RowKit
theorem PZ {m n:Int} (h:m≤n):qe m≤qe n:=by unfold qe;(repeat' split)<;>omega
theorem EB {r u l t a b:Int} (hr:0≤r) (ha:t≤a) (hb:a≤b):lvl r u (lvl r u l t a) a b=lvl r u l t b:=by
 have h1:0≤r*(a -t):=Int.mul_nonneg hr (by omega)
 have h2:0≤r*(b -a):=Int.mul_nonneg hr (by omega)
 have h3:r*(b -t)=r*(a -t)+r*(b -a):=by rw[←Int.mul_add];congr 1;omega
 unfold lvl
 rw[h3]
 generalize r*(a -t)=P at*
 generalize r*(b -a)=Q at*
 (repeat' split)<;>omega
theorem Kn {r u l t now:Int} (h:¬t<qe now):ZJ r u l t now=l∧ZV r u l t now=t:=by
 unfold ZJ ZV
 rw[if_neg (λ h'=>h h'.2),if_neg (λ h'=>h h'.2)]
 exact⟨rfl,rfl⟩
theorem S6 {r u l t:Int} (h:qI r u l t=true) {m n:Int} (hmn:m≤n):
  ZJ r u (ZJ r u l t m) (ZV r u l t m) n=ZJ r u l t n∧ZV r u (ZJ r u l t m) (ZV r u l t m) n=ZV r u l t n:=by
 have hr:=(qY r u l t).1 h
 have hab:=PZ hmn
 have h':=X4 h m
 by_cases h0:¬t<qe m
 ·rw[(Kn h0).1,(Kn h0).2]
  exact⟨rfl,rfl⟩
 unfold ZJ ZV at h'⊢
 generalize qe m=a at*
 generalize qe n=b at*
 by_cases h1:t<a
 ·have c1:qI r u l t=true∧t<a:=⟨h,h1⟩
  have c2:qI r u l t=true∧t<b:=⟨h,by omega⟩
  simp only[if_pos c1,if_pos c2]at h'⊢
  by_cases h2:a<b
  ·have c3:qI r u (lvl r u l t a) a=true∧a<b:=⟨h',h2⟩
   rw[if_pos c3,if_pos c3]
   exact⟨EB hr.1.1 (by omega) (by omega),rfl⟩
  ·obtain rfl:a=b:=by omega
   have c3:¬(qI r u (lvl r u l t a) a=true∧a<a):=λ h=>by omega
   rw[if_neg c3,if_neg c3]
   exact⟨rfl,rfl⟩
 ·exact absurd h1 h0
theorem take_range {L n:Int} (hL:0≤L):0≤JP L n∧JP L n≤L∧(0≤n→JP L n≤n)∧(n≤0→JP L n=0)∧(n≤0∨JP L n=n∨L -JP L n=0):=by
 unfold JP
 refine⟨?_,?_,?_,?_,?_⟩<;>(repeat' split)<;>omega
theorem SQ {r u l t k:Int} (h:qI r u l t=true) (h0:0≤k) (h1:k≤l):qI r u (l -k) t=true:=by
 have hr:=(qY r u l t).1 h
 rw[qY]
 exact⟨hr.1,hr.2.1,⟨by omega,by omega⟩,hr.2.2.2.1,hr.2.2.2.2.1,by omega⟩
end gb
namespace gb
open Go.RowKit
theorem Sk {r u n:Int} (h:qI r u u n=true) (w:World):Calls zf 53 #[.int .i64 r,.int .i64 u,.int .i64 n] w λ e w'=>e=.returned (.tuple #[.agg #[.int .i64 r,.int .i64 u,.int .i64 u,.int .i64 n],.int .i64 0])∧Below w.heap.size w w':=by
 have hh:=(qY _ _ _ _).1 h
 have HR:=zd (λ W=>show Calls zf 85 #[.int .i64 r] W λ e w'=>e=.returned (.bool true)∧W=w' from by rw[←(QG r).2 hh.1];exact Tc r W)
 have HU:=zd (λ W=>show Calls zf 85 #[.int .i64 u] W λ e w'=>e=.returned (.bool true)∧W=w' from by rw[←(QG u).2 hh.2.1];exact Tc u W)
 have HN:=zd (λ W=>show Calls zf 85 #[.int .i64 n] W λ e w'=>e=.returned (.bool true)∧W=w' from by rw[←(QG n).2 hh.2.2.2.1];exact Tc n W)
 have d0:(u==0)=false:=by simpa using hh.2.2.2.2.1
 have d1:decide (u=0)=false:=by simpa using hh.2.2.2.2.1
 clear hh h
 go_enter func53,ntmps53
 go_wp2_with fail
 refine(HR.out _).mono ?_
 rintro e w' ⟨rfl,rfl⟩
 go_wp2_with fail
 refine(HU.out _).mono ?_
 rintro e w' ⟨rfl,rfl⟩
 go_wp2_with fail
 refine(HN.out _).mono ?_
 rintro e w' ⟨rfl,rfl⟩
 go_wp2_with fail
 have hz:=zo w (.cells #[.int .i64 r,.int .i64 u,.int .i64 u,.int .i64 n] 63)
 have HB:=zd (show Below w.heap.size w (w.alloc (.cells #[.int .i64 r,.int .i64 u,.int .i64 u,.int .i64 n] 63))from(zh _ _).alloc (zg _) _)
 generalize w.alloc (.cells #[.int .i64 r,.int .i64 u,.int .i64 u,.int .i64 n] 63)=W at*
 have z0:=ze W w.heap.size 0 _ _ _ hz
 have z1:=ze W w.heap.size 1 _ _ _ hz
 have z2:=ze W w.heap.size 2 _ _ _ hz
 have z3:=ze W w.heap.size 3 _ _ _ hz
 exact zk (v:=.tuple #[.agg #[.int .i64 r,.int .i64 u,.int .i64 u,.int .i64 n],.int .i64 0]) (by simp[results,results53,go_sem,z0,z1,z2,z3]) rfl ⟨rfl,HB.out⟩
theorem PR {r u l t:Int} (h:qI r u l t=true) {r2 u2 n:Int} (h2:qI r2 u2 u2 n=true) {L T:Int} (hL:ZJ r u l t n=L) (hT:ZV r u l t n=T) (hc:u2<L) (w:World):Calls zf 115 #[.agg #[.int .i64 r,.int .i64 u,.int .i64 l,.int .i64 t],.int .i64 r2,.int .i64 u2,.int .i64 n] w λ e w'=>e=.returned (.tuple #[.agg #[.int .i64 r2,.int .i64 u2,.int .i64 u2,.int .i64 T],.int .i64 0])∧Below w.heap.size w w':=by
 have hd:decide (u2<L)=true:=by simpa using hc
 have HRG:=zd (λ W=>show Calls zf 133 #[.agg #[.int .i64 r,.int .i64 u,.int .i64 l,.int .i64 t]] W λ e w'=>e=.returned (.bool true)∧Below W.heap.size W w' from by rw[←h];exact Xt r u l t W)
 have HNW:=zd (λ W=>Sk (n:=n) h2 W)
 have HFI:=zd (λ W=>show Calls zf 134 #[.agg #[.int .i64 r,.int .i64 u,.int .i64 l,.int .i64 t],.int .i64 n] W λ e w'=>e=.returned (.agg #[.int .i64 r,.int .i64 u,.int .i64 L,.int .i64 T])∧Below W.heap.size W w' from by rw[←hL,←hT];exact UU r u l t n W)
 obtain⟨W0,hW0⟩:∃W0,(w.alloc (.cells #[.int .i64 r,.int .i64 u,.int .i64 l,.int .i64 t] 63)).alloc (.cells #[.int .i64 0,.int .i64 0,.int .i64 0,.int .i64 0] 63)=W0:=⟨_,rfl⟩
 have HB0:=zd (Xw w (.cells #[.int .i64 r,.int .i64 u,.int .i64 l,.int .i64 t] 63) (.cells #[.int .i64 0,.int .i64 0,.int .i64 0,.int .i64 0] 63))
 have hg:=Zk (w:=w) (o0:=(.cells #[.int .i64 r,.int .i64 u,.int .i64 l,.int .i64 t] 63)) (o1:=(.cells #[.int .i64 0,.int .i64 0,.int .i64 0,.int .i64 0] 63)) (w1:=W0) (by rw[hW0];exact zh _ _)
 rw[hW0]at HB0
 obtain⟨hg0,hg1,hlt⟩:=hg
 have HG0:=zd hg0
 have HG1:=zd hg1
 clear h h2 hL hT hg0 hg1 hc
 go_enter func115,ntmps115
 go_wp2_with fail
 refine(HNW.out _).mono ?_
 rintro e w1 ⟨rfl,hb⟩
 have hal:Below w1.heap.size w1 (w1.alloc (.cells #[.int .i64 0,.int .i64 0,.int .i64 0,.int .i64 0] 63)):=(zh _ _).alloc (zg _) _
 have hbl:=zo w1 (.cells #[.int .i64 0,.int .i64 0,.int .i64 0,.int .i64 0] 63)
 obtain⟨W2,hW2⟩:∃W2,w1.alloc (.cells #[.int .i64 0,.int .i64 0,.int .i64 0,.int .i64 0] 63)=W2:=⟨_,rfl⟩
 rw[hW2]at hal hbl
 have hst:=qu (w:=W2) hal (zg _) (.int .i64 r2) (.int .i64 u2) (.int .i64 u2) (.int .i64 n)
 have x0:W2.cell? ⟨w1.heap.size,0,none⟩=some (.int .i64 0):=ze _ _ 0 _ _ _ hbl
 have x1:W2.cell? ⟨w1.heap.size,1,none⟩=some (.int .i64 0):=ze _ _ 1 _ _ _ hbl
 have x2:W2.cell? ⟨w1.heap.size,2,none⟩=some (.int .i64 0):=ze _ _ 2 _ _ _ hbl
 have x3:W2.cell? ⟨w1.heap.size,3,none⟩=some (.int .i64 0):=ze _ _ 3 _ _ _ hbl
 have f0:W2.frozen? ⟨w1.heap.size,0,none⟩=false:=qa hbl
 have f1:W2.frozen? ⟨w1.heap.size,1,none⟩=false:=qa hbl
 have f2:W2.frozen? ⟨w1.heap.size,2,none⟩=false:=qa hbl
 have f3:W2.frozen? ⟨w1.heap.size,3,none⟩=false:=qa hbl
 have hlt2:=qd hbl
 have HB2:=zd (seqB HB0.out (seqB hb hst))
 have hg0:=(hst.block _ (qd ((hb.block _ (qd HG0.out)).trans HG0.out))).trans ((hb.block _ (qd HG0.out)).trans HG0.out)
 have hg1:=(hst.block _ (qd ((hb.block _ (qd HG1.out)).trans HG1.out))).trans ((hb.block _ (qd HG1.out)).trans HG1.out)
 clear hb hal hbl hst HG0 HG1 HNW hlt hW0
 go_upto_region 2 with fail
 generalize hW:Zs W2 w1.heap.size (.int .i64 r2) (.int .i64 u2) (.int .i64 u2) (.int .i64 n)=W3 at*
 unfold Zs at hW
 rw[hW]
 clear hW x0 x1 x2 x3 f0 f1 f2 f3 hW2 hlt2
 have hlt:=qd hg1
 have x0:W3.cell? ⟨w.heap.size,0,none⟩=some (.int .i64 r):=ze _ _ 0 _ _ _ hg0
 have x1:W3.cell? ⟨w.heap.size,1,none⟩=some (.int .i64 u):=ze _ _ 1 _ _ _ hg0
 have x2:W3.cell? ⟨w.heap.size,2,none⟩=some (.int .i64 l):=ze _ _ 2 _ _ _ hg0
 have x3:W3.cell? ⟨w.heap.size,3,none⟩=some (.int .i64 t):=ze _ _ 3 _ _ _ hg0
 have HG0:=zd hg0
 have HG1:=zd hg1
 clear hg0 hg1
 go_wp2_with fail
 refine(HRG.out _).mono ?_
 rintro e w4 ⟨rfl,hb⟩
 have hg0:=(hb.block _ (qd HG0.out)).trans HG0.out
 have hg1:=(hb.block _ (qd HG1.out)).trans HG1.out
 have HB3:=zd (seqB HB2.out hb)
 clear hb x0 x1 x2 x3 HG0 HG1 HRG hlt HB2
 have hlt:=qd hg1
 have x0:w4.cell? ⟨w.heap.size,0,none⟩=some (.int .i64 r):=ze _ _ 0 _ _ _ hg0
 have x1:w4.cell? ⟨w.heap.size,1,none⟩=some (.int .i64 u):=ze _ _ 1 _ _ _ hg0
 have x2:w4.cell? ⟨w.heap.size,2,none⟩=some (.int .i64 l):=ze _ _ 2 _ _ _ hg0
 have x3:w4.cell? ⟨w.heap.size,3,none⟩=some (.int .i64 t):=ze _ _ 3 _ _ _ hg0
 have HG0:=zd hg0
 have HG1:=zd hg1
 clear hg0 hg1
 go_wp2_with fail
 refine(HFI.out _).mono ?_
 rintro e w5 ⟨rfl,hb⟩
 have hg0:=(hb.block _ (qd HG0.out)).trans HG0.out
 have hg1:=(hb.block _ (qd HG1.out)).trans HG1.out
 have HB4:=zd (seqB HB3.out hb)
 clear hb x0 x1 x2 x3 HG0 HG1 HFI hlt HB3
 have hlt:=qd hg1
 have x0:w5.cell? ⟨w.heap.size,0,none⟩=some (.int .i64 r):=ze _ _ 0 _ _ _ hg0
 have x1:w5.cell? ⟨w.heap.size,1,none⟩=some (.int .i64 u):=ze _ _ 1 _ _ _ hg0
 have x2:w5.cell? ⟨w.heap.size,2,none⟩=some (.int .i64 l):=ze _ _ 2 _ _ _ hg0
 have x3:w5.cell? ⟨w.heap.size,3,none⟩=some (.int .i64 t):=ze _ _ 3 _ _ _ hg0
 have e0:w5.frozen? ⟨w.heap.size,0,none⟩=false:=qa hg0
 have e1:w5.frozen? ⟨w.heap.size,1,none⟩=false:=qa hg0
 have e2:w5.frozen? ⟨w.heap.size,2,none⟩=false:=qa hg0
 have e3:w5.frozen? ⟨w.heap.size,3,none⟩=false:=qa hg0
 go_upto_region 5 with fail
 have hs:=qF hg0 (.int .i64 r) (.int .i64 u) (.int .i64 L) (.int .i64 T)
 have hd5:=qu (w:=w5) HB4.out (zg _) (.int .i64 r) (.int .i64 u) (.int .i64 L) (.int .i64 T)
 have hf:=(Jy (.int .i64 r) (.int .i64 u) (.int .i64 L) (.int .i64 T) (show w.heap.size+1≠w.heap.size by omega)).trans hg1
 generalize hW:Zs w5 w.heap.size (.int .i64 r) (.int .i64 u) (.int .i64 L) (.int .i64 T)=W6 at*
 unfold Zs at hW
 rw[hW]
 clear hW x0 x1 x2 x3 e0 e1 e2 e3 hg0 hg1 hlt HB4
 have x0:W6.cell? ⟨w.heap.size,0,none⟩=some (.int .i64 r):=ze _ _ 0 _ _ _ hs
 have x1:W6.cell? ⟨w.heap.size,1,none⟩=some (.int .i64 u):=ze _ _ 1 _ _ _ hs
 have x2:W6.cell? ⟨w.heap.size,2,none⟩=some (.int .i64 L):=ze _ _ 2 _ _ _ hs
 have x3:W6.cell? ⟨w.heap.size,3,none⟩=some (.int .i64 T):=ze _ _ 3 _ _ _ hs
 have e0:W6.frozen? ⟨w.heap.size,0,none⟩=false:=qa hs
 have e1:W6.frozen? ⟨w.heap.size,1,none⟩=false:=qa hs
 have e2:W6.frozen? ⟨w.heap.size,2,none⟩=false:=qa hs
 have e3:W6.frozen? ⟨w.heap.size,3,none⟩=false:=qa hs
 have hlt:=qd hf
 have hs2:_=some (Obj.cells #[.int .i64 r,.int .i64 u,.int .i64 u2,.int .i64 T] 63 (0,0)):=qo (i:=2) hs (.int .i64 u2)
 have hd2:=hd5.setCell (p:=⟨w.heap.size,2,none⟩) (zg _) (.int .i64 u2)
 have hf2:=(zn W6 ⟨w.heap.size,2,none⟩ (.int .i64 u2) (w.heap.size+1) (by simp)).trans hf
 have HS2:=zd hs2
 have HD2:=zd hd2
 have HF2:=zd hf2
 clear hs hd5 hf hs2 hd2 hf2
 go_upto_region 7 with fail
 generalize W6.setCell ⟨w.heap.size,2,none⟩ (.int .i64 u2)=w8 at*
 clear x0 x1 x2 x3 e0 e1 e2 e3 hlt hd
 have hs:=HS2.out
 have hg1:=HF2.out
 have hlt:=qd hg1
 have x0:w8.cell? ⟨w.heap.size,0,none⟩=some (.int .i64 r):=ze _ _ 0 _ _ _ hs
 have x1:w8.cell? ⟨w.heap.size,1,none⟩=some (.int .i64 u):=ze _ _ 1 _ _ _ hs
 have x2:w8.cell? ⟨w.heap.size,2,none⟩=some (.int .i64 u2):=ze _ _ 2 _ _ _ hs
 have x3:w8.cell? ⟨w.heap.size,3,none⟩=some (.int .i64 T):=ze _ _ 3 _ _ _ hs
 have y0:w8.cell? ⟨w.heap.size+1,0,none⟩=some (.int .i64 0):=ze _ _ 0 _ _ _ hg1
 have y1:w8.cell? ⟨w.heap.size+1,1,none⟩=some (.int .i64 0):=ze _ _ 1 _ _ _ hg1
 have y2:w8.cell? ⟨w.heap.size+1,2,none⟩=some (.int .i64 0):=ze _ _ 2 _ _ _ hg1
 have y3:w8.cell? ⟨w.heap.size+1,3,none⟩=some (.int .i64 0):=ze _ _ 3 _ _ _ hg1
 have f0:w8.frozen? ⟨w.heap.size+1,0,none⟩=false:=qa hg1
 have f1:w8.frozen? ⟨w.heap.size+1,1,none⟩=false:=qa hg1
 have f2:w8.frozen? ⟨w.heap.size+1,2,none⟩=false:=qa hg1
 have f3:w8.frozen? ⟨w.heap.size+1,3,none⟩=false:=qa hg1
 have hz:=qF hg1 (.int .i64 r2) (.int .i64 u2) (.int .i64 u2) (.int .i64 T)
 have HD:=zd (qu (w:=w8) (g:=w.heap.size+1) HD2.out (show w.heap.size≤w.heap.size+1 by omega) (.int .i64 r2) (.int .i64 u2) (.int .i64 u2) (.int .i64 T))
 clear hg1 hs
 go_wp2_with fail
 generalize hW:Zs w8 (w.heap.size+1) (.int .i64 r2) (.int .i64 u2) (.int .i64 u2) (.int .i64 T)=W9 at*
 unfold Zs at hW
 rw[hW]
 clear hW
 have z0:W9.cell? ⟨w.heap.size+1,0,none⟩=some (.int .i64 r2):=ze _ _ 0 _ _ _ hz
 have z1:W9.cell? ⟨w.heap.size+1,1,none⟩=some (.int .i64 u2):=ze _ _ 1 _ _ _ hz
 have z2:W9.cell? ⟨w.heap.size+1,2,none⟩=some (.int .i64 u2):=ze _ _ 2 _ _ _ hz
 have z3:W9.cell? ⟨w.heap.size+1,3,none⟩=some (.int .i64 T):=ze _ _ 3 _ _ _ hz
 exact zk (v:=.tuple #[.agg #[.int .i64 r2,.int .i64 u2,.int .i64 u2,.int .i64 T],.int .i64 0]) (by simp[results,results115,go_sem,z0,z1,z2,z3]) rfl ⟨rfl,HD.out⟩
theorem PU {r u l t:Int} (h:qI r u l t=true) {r2 u2 n:Int} (h2:qI r2 u2 u2 n=true) {L T:Int} (hL:ZJ r u l t n=L) (hT:ZV r u l t n=T) (hc:¬u2<L) (w:World):Calls zf 115 #[.agg #[.int .i64 r,.int .i64 u,.int .i64 l,.int .i64 t],.int .i64 r2,.int .i64 u2,.int .i64 n] w λ e w'=>e=.returned (.tuple #[.agg #[.int .i64 r2,.int .i64 u2,.int .i64 L,.int .i64 T],.int .i64 0])∧Below w.heap.size w w':=by
 have hd:decide (u2<L)=false:=by simpa using hc
 have HRG:=zd (λ W=>show Calls zf 133 #[.agg #[.int .i64 r,.int .i64 u,.int .i64 l,.int .i64 t]] W λ e w'=>e=.returned (.bool true)∧Below W.heap.size W w' from by rw[←h];exact Xt r u l t W)
 have HNW:=zd (λ W=>Sk (n:=n) h2 W)
 have HFI:=zd (λ W=>show Calls zf 134 #[.agg #[.int .i64 r,.int .i64 u,.int .i64 l,.int .i64 t],.int .i64 n] W λ e w'=>e=.returned (.agg #[.int .i64 r,.int .i64 u,.int .i64 L,.int .i64 T])∧Below W.heap.size W w' from by rw[←hL,←hT];exact UU r u l t n W)
 obtain⟨W0,hW0⟩:∃W0,(w.alloc (.cells #[.int .i64 r,.int .i64 u,.int .i64 l,.int .i64 t] 63)).alloc (.cells #[.int .i64 0,.int .i64 0,.int .i64 0,.int .i64 0] 63)=W0:=⟨_,rfl⟩
 have HB0:=zd (Xw w (.cells #[.int .i64 r,.int .i64 u,.int .i64 l,.int .i64 t] 63) (.cells #[.int .i64 0,.int .i64 0,.int .i64 0,.int .i64 0] 63))
 have hg:=Zk (w:=w) (o0:=(.cells #[.int .i64 r,.int .i64 u,.int .i64 l,.int .i64 t] 63)) (o1:=(.cells #[.int .i64 0,.int .i64 0,.int .i64 0,.int .i64 0] 63)) (w1:=W0) (by rw[hW0];exact zh _ _)
 rw[hW0]at HB0
 obtain⟨hg0,hg1,hlt⟩:=hg
 have HG0:=zd hg0
 have HG1:=zd hg1
 clear h h2 hL hT hg0 hg1 hc
 go_enter func115,ntmps115
 go_wp2_with fail
 refine(HNW.out _).mono ?_
 rintro e w1 ⟨rfl,hb⟩
 have hal:Below w1.heap.size w1 (w1.alloc (.cells #[.int .i64 0,.int .i64 0,.int .i64 0,.int .i64 0] 63)):=(zh _ _).alloc (zg _) _
 have hbl:=zo w1 (.cells #[.int .i64 0,.int .i64 0,.int .i64 0,.int .i64 0] 63)
 obtain⟨W2,hW2⟩:∃W2,w1.alloc (.cells #[.int .i64 0,.int .i64 0,.int .i64 0,.int .i64 0] 63)=W2:=⟨_,rfl⟩
 rw[hW2]at hal hbl
 have hst:=qu (w:=W2) hal (zg _) (.int .i64 r2) (.int .i64 u2) (.int .i64 u2) (.int .i64 n)
 have x0:W2.cell? ⟨w1.heap.size,0,none⟩=some (.int .i64 0):=ze _ _ 0 _ _ _ hbl
 have x1:W2.cell? ⟨w1.heap.size,1,none⟩=some (.int .i64 0):=ze _ _ 1 _ _ _ hbl
 have x2:W2.cell? ⟨w1.heap.size,2,none⟩=some (.int .i64 0):=ze _ _ 2 _ _ _ hbl
 have x3:W2.cell? ⟨w1.heap.size,3,none⟩=some (.int .i64 0):=ze _ _ 3 _ _ _ hbl
 have f0:W2.frozen? ⟨w1.heap.size,0,none⟩=false:=qa hbl
 have f1:W2.frozen? ⟨w1.heap.size,1,none⟩=false:=qa hbl
 have f2:W2.frozen? ⟨w1.heap.size,2,none⟩=false:=qa hbl
 have f3:W2.frozen? ⟨w1.heap.size,3,none⟩=false:=qa hbl
 have hlt2:=qd hbl
 have HB2:=zd (seqB HB0.out (seqB hb hst))
 have hg0:=(hst.block _ (qd ((hb.block _ (qd HG0.out)).trans HG0.out))).trans ((hb.block _ (qd HG0.out)).trans HG0.out)
 have hg1:=(hst.block _ (qd ((hb.block _ (qd HG1.out)).trans HG1.out))).trans ((hb.block _ (qd HG1.out)).trans HG1.out)
 clear hb hal hbl hst HG0 HG1 HNW hlt hW0
 go_upto_region 2 with fail
 generalize hW:Zs W2 w1.heap.size (.int .i64 r2) (.int .i64 u2) (.int .i64 u2) (.int .i64 n)=W3 at*
 unfold Zs at hW
 rw[hW]
 clear hW x0 x1 x2 x3 f0 f1 f2 f3 hW2 hlt2
 have hlt:=qd hg1
 have x0:W3.cell? ⟨w.heap.size,0,none⟩=some (.int .i64 r):=ze _ _ 0 _ _ _ hg0
 have x1:W3.cell? ⟨w.heap.size,1,none⟩=some (.int .i64 u):=ze _ _ 1 _ _ _ hg0
 have x2:W3.cell? ⟨w.heap.size,2,none⟩=some (.int .i64 l):=ze _ _ 2 _ _ _ hg0
 have x3:W3.cell? ⟨w.heap.size,3,none⟩=some (.int .i64 t):=ze _ _ 3 _ _ _ hg0
 have HG0:=zd hg0
 have HG1:=zd hg1
 clear hg0 hg1
 go_wp2_with fail
 refine(HRG.out _).mono ?_
 rintro e w4 ⟨rfl,hb⟩
 have hg0:=(hb.block _ (qd HG0.out)).trans HG0.out
 have hg1:=(hb.block _ (qd HG1.out)).trans HG1.out
 have HB3:=zd (seqB HB2.out hb)
 clear hb x0 x1 x2 x3 HG0 HG1 HRG hlt HB2
 have hlt:=qd hg1
 have x0:w4.cell? ⟨w.heap.size,0,none⟩=some (.int .i64 r):=ze _ _ 0 _ _ _ hg0
 have x1:w4.cell? ⟨w.heap.size,1,none⟩=some (.int .i64 u):=ze _ _ 1 _ _ _ hg0
 have x2:w4.cell? ⟨w.heap.size,2,none⟩=some (.int .i64 l):=ze _ _ 2 _ _ _ hg0
 have x3:w4.cell? ⟨w.heap.size,3,none⟩=some (.int .i64 t):=ze _ _ 3 _ _ _ hg0
 have HG0:=zd hg0
 have HG1:=zd hg1
 clear hg0 hg1
 go_wp2_with fail
 refine(HFI.out _).mono ?_
 rintro e w5 ⟨rfl,hb⟩
 have hg0:=(hb.block _ (qd HG0.out)).trans HG0.out
 have hg1:=(hb.block _ (qd HG1.out)).trans HG1.out
 have HB4:=zd (seqB HB3.out hb)
 clear hb x0 x1 x2 x3 HG0 HG1 HFI hlt HB3
 have hlt:=qd hg1
 have x0:w5.cell? ⟨w.heap.size,0,none⟩=some (.int .i64 r):=ze _ _ 0 _ _ _ hg0
 have x1:w5.cell? ⟨w.heap.size,1,none⟩=some (.int .i64 u):=ze _ _ 1 _ _ _ hg0
 have x2:w5.cell? ⟨w.heap.size,2,none⟩=some (.int .i64 l):=ze _ _ 2 _ _ _ hg0
 have x3:w5.cell? ⟨w.heap.size,3,none⟩=some (.int .i64 t):=ze _ _ 3 _ _ _ hg0
 have e0:w5.frozen? ⟨w.heap.size,0,none⟩=false:=qa hg0
 have e1:w5.frozen? ⟨w.heap.size,1,none⟩=false:=qa hg0
 have e2:w5.frozen? ⟨w.heap.size,2,none⟩=false:=qa hg0
 have e3:w5.frozen? ⟨w.heap.size,3,none⟩=false:=qa hg0
 go_upto_region 5 with fail
 have hs:=qF hg0 (.int .i64 r) (.int .i64 u) (.int .i64 L) (.int .i64 T)
 have hd5:=qu (w:=w5) HB4.out (zg _) (.int .i64 r) (.int .i64 u) (.int .i64 L) (.int .i64 T)
 have hf:=(Jy (.int .i64 r) (.int .i64 u) (.int .i64 L) (.int .i64 T) (show w.heap.size+1≠w.heap.size by omega)).trans hg1
 generalize hW:Zs w5 w.heap.size (.int .i64 r) (.int .i64 u) (.int .i64 L) (.int .i64 T)=W6 at*
 unfold Zs at hW
 rw[hW]
 clear hW x0 x1 x2 x3 e0 e1 e2 e3 hg0 hg1 hlt HB4
 have x0:W6.cell? ⟨w.heap.size,0,none⟩=some (.int .i64 r):=ze _ _ 0 _ _ _ hs
 have x1:W6.cell? ⟨w.heap.size,1,none⟩=some (.int .i64 u):=ze _ _ 1 _ _ _ hs
 have x2:W6.cell? ⟨w.heap.size,2,none⟩=some (.int .i64 L):=ze _ _ 2 _ _ _ hs
 have x3:W6.cell? ⟨w.heap.size,3,none⟩=some (.int .i64 T):=ze _ _ 3 _ _ _ hs
 have e0:W6.frozen? ⟨w.heap.size,0,none⟩=false:=qa hs
 have e1:W6.frozen? ⟨w.heap.size,1,none⟩=false:=qa hs
 have e2:W6.frozen? ⟨w.heap.size,2,none⟩=false:=qa hs
 have e3:W6.frozen? ⟨w.heap.size,3,none⟩=false:=qa hs
 have HS2:=zd hs
 have HD2:=zd hd5
 have HF2:=zd hf
 clear hs hd5 hf
 go_upto_region 7 with fail
 clear x0 x1 x2 x3 e0 e1 e2 e3 hd
 generalize W6=w8 at*
 have hs:=HS2.out
 have hg1:=HF2.out
 have hlt:=qd hg1
 have x0:w8.cell? ⟨w.heap.size,0,none⟩=some (.int .i64 r):=ze _ _ 0 _ _ _ hs
 have x1:w8.cell? ⟨w.heap.size,1,none⟩=some (.int .i64 u):=ze _ _ 1 _ _ _ hs
 have x2:w8.cell? ⟨w.heap.size,2,none⟩=some (.int .i64 L):=ze _ _ 2 _ _ _ hs
 have x3:w8.cell? ⟨w.heap.size,3,none⟩=some (.int .i64 T):=ze _ _ 3 _ _ _ hs
 have y0:w8.cell? ⟨w.heap.size+1,0,none⟩=some (.int .i64 0):=ze _ _ 0 _ _ _ hg1
 have y1:w8.cell? ⟨w.heap.size+1,1,none⟩=some (.int .i64 0):=ze _ _ 1 _ _ _ hg1
 have y2:w8.cell? ⟨w.heap.size+1,2,none⟩=some (.int .i64 0):=ze _ _ 2 _ _ _ hg1
 have y3:w8.cell? ⟨w.heap.size+1,3,none⟩=some (.int .i64 0):=ze _ _ 3 _ _ _ hg1
 have f0:w8.frozen? ⟨w.heap.size+1,0,none⟩=false:=qa hg1
 have f1:w8.frozen? ⟨w.heap.size+1,1,none⟩=false:=qa hg1
 have f2:w8.frozen? ⟨w.heap.size+1,2,none⟩=false:=qa hg1
 have f3:w8.frozen? ⟨w.heap.size+1,3,none⟩=false:=qa hg1
 have hz:=qF hg1 (.int .i64 r2) (.int .i64 u2) (.int .i64 L) (.int .i64 T)
 have HD:=zd (qu (w:=w8) (g:=w.heap.size+1) HD2.out (show w.heap.size≤w.heap.size+1 by omega) (.int .i64 r2) (.int .i64 u2) (.int .i64 L) (.int .i64 T))
 clear hg1 hs
 go_wp2_with fail
 generalize hW:Zs w8 (w.heap.size+1) (.int .i64 r2) (.int .i64 u2) (.int .i64 L) (.int .i64 T)=W9 at*
 unfold Zs at hW
 rw[hW]
 clear hW
 have z0:W9.cell? ⟨w.heap.size+1,0,none⟩=some (.int .i64 r2):=ze _ _ 0 _ _ _ hz
 have z1:W9.cell? ⟨w.heap.size+1,1,none⟩=some (.int .i64 u2):=ze _ _ 1 _ _ _ hz
 have z2:W9.cell? ⟨w.heap.size+1,2,none⟩=some (.int .i64 L):=ze _ _ 2 _ _ _ hz
 have z3:W9.cell? ⟨w.heap.size+1,3,none⟩=some (.int .i64 T):=ze _ _ 3 _ _ _ hz
 exact zk (v:=.tuple #[.agg #[.int .i64 r2,.int .i64 u2,.int .i64 L,.int .i64 T],.int .i64 0]) (by simp[results,results115,go_sem,z0,z1,z2,z3]) rfl ⟨rfl,HD.out⟩
theorem PQ {r u l t:Int} (h:qI r u l t=true) {r2 u2 n:Int} (h2:qI r2 u2 u2 n=true) {L T:Int} (hL:ZJ r u l t n=L) (hT:ZV r u l t n=T) (w:World):Calls zf 115 #[.agg #[.int .i64 r,.int .i64 u,.int .i64 l,.int .i64 t],.int .i64 r2,.int .i64 u2,.int .i64 n] w λ e w'=>e=.returned (.tuple #[.agg #[.int .i64 r2,.int .i64 u2,.int .i64 (if u2<L then u2 else L),.int .i64 T],.int .i64 0])∧Below w.heap.size w w':=by
 by_cases hc:u2<L
 ·rw[if_pos hc]
  exact PR h h2 hL hT hc w
 ·rw[if_neg hc]
  exact PU h h2 hL hT hc w
end gb
end Go.Proofs.YtfdfgnmgpgkknaaGreat
