import Derived.Test.YtfdfgnmgpgkknaaGreatMG19
import Derived.Deep.RegionLaw
set_option maxRecDepth 100000
set_option maxHeartbeats 8000000
open Go.Proofs.Tryz renaming prog→zf
open Go.Lib renaming hid→zd
open Go.RowKit.Below renaming refl→zh,heap_setCell→zn
open Go renaming cell_of_row→ze,bodyPost_ret→zk,heap_alloc_new→zo
open Go.Calls renaming mono→zr
open Nat renaming le_refl→zg
open Go.Proofs.Tryz
namespace Go.Proofs.YtfdfgnmgpgkknaaGreat
namespace gb
open Go.RowKit
theorem EY {r u l t now d M N T:Int} (h:qI r u l t=true) (hd:qe (qe now -qe t)=d) (hM:qe (qe r*qe d)=M) (hN:qe (qe l+qe M)=N) (hT:qe (qe t+qe d)=T):Ju u N=ZJ r u l t now∧T=ZV r u l t now:=by
 obtain⟨h1,h2,h3,h4,h5,h6⟩:=(qY r u l t).1 h
 have hx:=qw now
 obtain⟨x,hxx⟩:∃x,qe now=x:=⟨_,rfl⟩
 unfold ZJ ZV
 rw[hxx]at hx hd⊢
 rw[Xv t h4.1 h4.2]at hd hT
 by_cases hlt:t<x
 ·rw[Xv (x -t) (by omega) (by omega)]at hd
  subst hd
  rw[if_pos ⟨h,hlt⟩,if_pos ⟨h,hlt⟩]
  refine⟨by unfold Ju;exact Gr h hlt hx.2 hM hN,?_⟩
  rw[←hT,Xv (x -t) (by omega) (by omega),Xv _ (by omega) (by omega)]
  omega
 ·rw[if_neg (λ q=>hlt q.2),if_neg (λ q=>hlt q.2)]
  have e0:d=0:=by rw[←hd];unfold qe;(repeat' split)<;>omega
  subst e0
  have n0:qe 0=0:=by decide
  rw[n0,Int.mul_zero,n0]at hM
  subst hM
  rw[n0,Int.add_zero,Xv l h3.1 h3.2,Xv l h3.1 h3.2]at hN
  subst hN
  rw[n0,Int.add_zero,Xv t h4.1 h4.2]at hT
  exact⟨by unfold Ju;exact if_neg (by omega),hT.symm⟩
theorem Fe (r u l t now:Int) (w:World):Calls zf 116 #[.agg #[.int .i64 r,.int .i64 u,.int .i64 l,.int .i64 t],.int .i64 now] w λ e w'=>e=.returned (.agg #[.int .i64 r,.int .i64 u,.int .i64 (ZJ r u l t now),.int .i64 (ZV r u l t now)])∧Below w.heap.size w w':=by
 obtain⟨F,hF⟩:∃F,qI r u l t=F:=⟨_,rfl⟩
 have HRG:=zd (λ W=>show Calls zf 109 #[.agg #[.int .i64 r,.int .i64 u,.int .i64 l,.int .i64 t]] W λ e w'=>e=.returned (.bool F)∧Below W.heap.size W w' from by rw[←hF];exact QC r u l t W)
 obtain⟨W0,hW0⟩:∃W0,(w.alloc (.cells #[.int .i64 r,.int .i64 u,.int .i64 l,.int .i64 t] 111)).alloc (.cells #[.int .i64 0,.int .i64 0,.int .i64 0,.int .i64 0] 111)=W0:=⟨_,rfl⟩
 have HB0:=zd (Xw w (.cells #[.int .i64 r,.int .i64 u,.int .i64 l,.int .i64 t] 111) (.cells #[.int .i64 0,.int .i64 0,.int .i64 0,.int .i64 0] 111))
 have hg:=Zk (w:=w) (o0:=(.cells #[.int .i64 r,.int .i64 u,.int .i64 l,.int .i64 t] 111)) (o1:=(.cells #[.int .i64 0,.int .i64 0,.int .i64 0,.int .i64 0] 111)) (w1:=W0) (by rw[hW0];exact zh _ _)
 rw[hW0]at HB0
 obtain⟨hg0,hg1,hlt⟩:=hg
 have HG0:=zd hg0
 have HG1:=zd hg1
 have HF:=zd hF
 have x0:W0.cell? ⟨w.heap.size,0,none⟩=some (.int .i64 r):=ze _ _ 0 _ _ _ hg0
 have x1:W0.cell? ⟨w.heap.size,1,none⟩=some (.int .i64 u):=ze _ _ 1 _ _ _ hg0
 have x2:W0.cell? ⟨w.heap.size,2,none⟩=some (.int .i64 l):=ze _ _ 2 _ _ _ hg0
 have x3:W0.cell? ⟨w.heap.size,3,none⟩=some (.int .i64 t):=ze _ _ 3 _ _ _ hg0
 clear hg0 hg1 hF
 go_enter func116,ntmps116
 go_wp2_with fail
 refine(HRG.out _).mono ?_
 rintro e w1 ⟨rfl,hb⟩
 have hg0:=(hb.block _ (qd HG0.out)).trans HG0.out
 have hg1:=(hb.block _ (qd HG1.out)).trans HG1.out
 have HB1:=zd (seqB HB0.out hb)
 clear hb x0 x1 x2 x3 HG0 HG1 HRG hW0 hlt
 have hlt:=qd hg1
 have x0:w1.cell? ⟨w.heap.size,0,none⟩=some (.int .i64 r):=ze _ _ 0 _ _ _ hg0
 have x1:w1.cell? ⟨w.heap.size,1,none⟩=some (.int .i64 u):=ze _ _ 1 _ _ _ hg0
 have x2:w1.cell? ⟨w.heap.size,2,none⟩=some (.int .i64 l):=ze _ _ 2 _ _ _ hg0
 have x3:w1.cell? ⟨w.heap.size,3,none⟩=some (.int .i64 t):=ze _ _ 3 _ _ _ hg0
 have e2:w1.frozen? ⟨w.heap.size,2,none⟩=false:=qa hg0
 have e3:w1.frozen? ⟨w.heap.size,3,none⟩=false:=qa hg0
 have y0:w1.cell? ⟨w.heap.size+1,0,none⟩=some (.int .i64 0):=ze _ _ 0 _ _ _ hg1
 have y1:w1.cell? ⟨w.heap.size+1,1,none⟩=some (.int .i64 0):=ze _ _ 1 _ _ _ hg1
 have y2:w1.cell? ⟨w.heap.size+1,2,none⟩=some (.int .i64 0):=ze _ _ 2 _ _ _ hg1
 have y3:w1.cell? ⟨w.heap.size+1,3,none⟩=some (.int .i64 0):=ze _ _ 3 _ _ _ hg1
 have f0:w1.frozen? ⟨w.heap.size+1,0,none⟩=false:=qa hg1
 have f1:w1.frozen? ⟨w.heap.size+1,1,none⟩=false:=qa hg1
 have f2:w1.frozen? ⟨w.heap.size+1,2,none⟩=false:=qa hg1
 have f3:w1.frozen? ⟨w.heap.size+1,3,none⟩=false:=qa hg1
 cases F with
 |false=>
  have hz:=qF hg1 (.int .i64 r) (.int .i64 u) (.int .i64 l) (.int .i64 t)
  have HD:=zd (qu (w:=w1) (g:=w.heap.size+1) HB1.out (show w.heap.size≤w.heap.size+1 by omega) (.int .i64 r) (.int .i64 u) (.int .i64 l) (.int .i64 t))
  go_wp2_with fail
  generalize hW:Zs w1 (w.heap.size+1) (.int .i64 r) (.int .i64 u) (.int .i64 l) (.int .i64 t)=W9 at*
  unfold Zs at hW
  rw[hW]
  clear hW
  have z0:W9.cell? ⟨w.heap.size+1,0,none⟩=some (.int .i64 r):=ze _ _ 0 _ _ _ hz
  have z1:W9.cell? ⟨w.heap.size+1,1,none⟩=some (.int .i64 u):=ze _ _ 1 _ _ _ hz
  have z2:W9.cell? ⟨w.heap.size+1,2,none⟩=some (.int .i64 l):=ze _ _ 2 _ _ _ hz
  have z3:W9.cell? ⟨w.heap.size+1,3,none⟩=some (.int .i64 t):=ze _ _ 3 _ _ _ hz
  exact zk (v:=.agg #[.int .i64 r,.int .i64 u,.int .i64 l,.int .i64 t]) (by simp[results,results116,go_sem,z0,z1,z2,z3]) rfl ⟨by unfold ZJ ZV;simp[HF.out],HD.out⟩
 |true=>
  obtain⟨d,hd⟩:∃d,qe (qe now -qe t)=d:=⟨_,rfl⟩
  obtain⟨M,hM⟩:∃M,qe (qe r*qe d)=M:=⟨_,rfl⟩
  obtain⟨N,hN⟩:∃N,qe (qe l+qe M)=N:=⟨_,rfl⟩
  obtain⟨T,hT⟩:∃T,qe (qe t+qe d)=T:=⟨_,rfl⟩
  obtain⟨V,hV⟩:∃V,Ju u N=V:=⟨_,rfl⟩
  have hfi:=EY HF.out hd hM hN hT
  rw[hV]at hfi
  have HV:=zd hfi
  have HSU:=zd (λ W=>show Calls zf 138 #[.int .i64 now,.int .i64 t] W λ e w'=>e=.returned (.int .i64 d)∧W=w' from by rw[←hd];exact FX now t W)
  have HMU:=zd (λ W=>show Calls zf 139 #[.int .i64 r,.int .i64 d] W λ e w'=>e=.returned (.int .i64 M)∧∃n,w'=W.drewN n from by rw[←hM];exact Ey r d W)
  have HA1:=zd (λ W=>show Calls zf 97 #[.int .i64 l,.int .i64 M] W λ e w'=>e=.returned (.int .i64 N)∧W=w' from by rw[←hN];exact Yv l M W)
  have HA2:=zd (λ W=>show Calls zf 97 #[.int .i64 t,.int .i64 d] W λ e w'=>e=.returned (.int .i64 T)∧W=w' from by rw[←hT];exact Yv t d W)
  have HTR:=zd (λ W=>show Calls zf 117 #[.agg #[.int .i64 r,.int .i64 u,.int .i64 N,.int .i64 T]] W λ e w'=>e=.returned (.agg #[.int .i64 r,.int .i64 u,.int .i64 V,.int .i64 T])∧Below W.heap.size W w' from by rw[←hV];exact QN r u N T W)
  have HG0:=zd hg0
  have HG1:=zd hg1
  clear hd hM hN hT hV hfi hg0 hg1
  go_wp2_with fail
  refine(HSU.out _).mono ?_
  rintro e w2 ⟨rfl,rfl⟩
  go_wp2_with fail
  go_region_law
   (first
    |(go_simp;go_at_call 139;(with_reducible refine zr (HMU.out _) ?_);rintro e w3 ⟨rfl,n,rfl⟩)
    |(go_simp;go_at_call 97;(with_reducible refine zr (HA1.out _) ?_);rintro e w4 ⟨rfl,rfl⟩))
  all_goals (
   have hb:=MH w1 (1+n)
   have hg0:=qo (i:=2) ((hb.block _ (qd HG0.out)).trans HG0.out) (.int .i64 N)
   have hg1:=(zn (w1.drewN (1+n)) ⟨w.heap.size,2,none⟩ (.int .i64 N) (w.heap.size+1) (by simp)).trans ((hb.block _ (qd HG1.out)).trans HG1.out)
   have hd2:=(seqB HB1.out hb).setCell (p:=⟨w.heap.size,2,none⟩) (zg _) (.int .i64 N)
   generalize(w1.drewN (1+n)).setCell ⟨w.heap.size,2,none⟩ (.int .i64 N)=W2 at*
   clear hb x0 x1 x2 x3 y0 y1 y2 y3 f0 f1 f2 f3 e2 e3 hlt HG0 HG1
   have hg0:W2.heap[w.heap.size]?=some (.cells #[.int .i64 r,.int .i64 u,.int .i64 N,.int .i64 t] 111 (0,0)):=hg0
   have hlt:=qd hg1
   have x0:W2.cell? ⟨w.heap.size,0,none⟩=some (.int .i64 r):=ze _ _ 0 _ _ _ hg0
   have x1:W2.cell? ⟨w.heap.size,1,none⟩=some (.int .i64 u):=ze _ _ 1 _ _ _ hg0
   have x2:W2.cell? ⟨w.heap.size,2,none⟩=some (.int .i64 N):=ze _ _ 2 _ _ _ hg0
   have x3:W2.cell? ⟨w.heap.size,3,none⟩=some (.int .i64 t):=ze _ _ 3 _ _ _ hg0
   have e3:W2.frozen? ⟨w.heap.size,3,none⟩=false:=qa hg0
   have HG0:=zd hg0
   have HG1:=zd hg1
   have HD2:=zd hd2
   clear hg0 hg1 hd2
   go_wp2_with fail
   refine(HA2.out _).mono ?_
   rintro e w4 ⟨rfl,rfl⟩
   go_upto_region 6 with fail
   have hg0:=qo (i:=3) HG0.out (.int .i64 T)
   have hg1:=(zn W2 ⟨w.heap.size,3,none⟩ (.int .i64 T) (w.heap.size+1) (by simp)).trans HG1.out
   have hd3:=HD2.out.setCell (p:=⟨w.heap.size,3,none⟩) (zg _) (.int .i64 T)
   generalize W2.setCell ⟨w.heap.size,3,none⟩ (.int .i64 T)=W3 at*
   clear x0 x1 x2 x3 e3 hlt HG0 HG1 HD2
   have hg0:W3.heap[w.heap.size]?=some (.cells #[.int .i64 r,.int .i64 u,.int .i64 N,.int .i64 T] 111 (0,0)):=hg0
   have x0:W3.cell? ⟨w.heap.size,0,none⟩=some (.int .i64 r):=ze _ _ 0 _ _ _ hg0
   have x1:W3.cell? ⟨w.heap.size,1,none⟩=some (.int .i64 u):=ze _ _ 1 _ _ _ hg0
   have x2:W3.cell? ⟨w.heap.size,2,none⟩=some (.int .i64 N):=ze _ _ 2 _ _ _ hg0
   have x3:W3.cell? ⟨w.heap.size,3,none⟩=some (.int .i64 T):=ze _ _ 3 _ _ _ hg0
   have HG1:=zd hg1
   have HD3:=zd hd3
   clear hg0 hg1 hd3
   go_wp2_with fail
   refine(HTR.out _).mono ?_
   rintro e w5 ⟨rfl,hb⟩
   have hg1:=(hb.block _ (qd HG1.out)).trans HG1.out
   have HB5:=zd (seqB HD3.out hb)
   clear hb x0 x1 x2 x3 HG1 HD3
   have hlt:=qd hg1
   have y0:w5.cell? ⟨w.heap.size+1,0,none⟩=some (.int .i64 0):=ze _ _ 0 _ _ _ hg1
   have y1:w5.cell? ⟨w.heap.size+1,1,none⟩=some (.int .i64 0):=ze _ _ 1 _ _ _ hg1
   have y2:w5.cell? ⟨w.heap.size+1,2,none⟩=some (.int .i64 0):=ze _ _ 2 _ _ _ hg1
   have y3:w5.cell? ⟨w.heap.size+1,3,none⟩=some (.int .i64 0):=ze _ _ 3 _ _ _ hg1
   have f0:w5.frozen? ⟨w.heap.size+1,0,none⟩=false:=qa hg1
   have f1:w5.frozen? ⟨w.heap.size+1,1,none⟩=false:=qa hg1
   have f2:w5.frozen? ⟨w.heap.size+1,2,none⟩=false:=qa hg1
   have f3:w5.frozen? ⟨w.heap.size+1,3,none⟩=false:=qa hg1
   have hz:=qF hg1 (.int .i64 r) (.int .i64 u) (.int .i64 V) (.int .i64 T)
   have HD:=zd (qu (w:=w5) (g:=w.heap.size+1) HB5.out (show w.heap.size≤w.heap.size+1 by omega) (.int .i64 r) (.int .i64 u) (.int .i64 V) (.int .i64 T))
   go_wp2_with fail
   generalize hW:Zs w5 (w.heap.size+1) (.int .i64 r) (.int .i64 u) (.int .i64 V) (.int .i64 T)=W9 at*
   unfold Zs at hW
   rw[hW]
   clear hW
   have z0:W9.cell? ⟨w.heap.size+1,0,none⟩=some (.int .i64 r):=ze _ _ 0 _ _ _ hz
   have z1:W9.cell? ⟨w.heap.size+1,1,none⟩=some (.int .i64 u):=ze _ _ 1 _ _ _ hz
   have z2:W9.cell? ⟨w.heap.size+1,2,none⟩=some (.int .i64 V):=ze _ _ 2 _ _ _ hz
   have z3:W9.cell? ⟨w.heap.size+1,3,none⟩=some (.int .i64 T):=ze _ _ 3 _ _ _ hz
   exact zk (v:=.agg #[.int .i64 r,.int .i64 u,.int .i64 V,.int .i64 T]) (by simp[results,results116,go_sem,z0,z1,z2,z3]) rfl ⟨by rw[HV.out.1,HV.out.2],HD.out⟩)
end gb
namespace gb
open Go.RowKit
theorem FT {r u l t:Int} (h:qI r u l t=true) (now n:Int) {L T K D M:Int} (hL:ZJ r u l t now=L) (hT:ZV r u l t now=T) (hm1:(if L<n then L else n)=M) (hm2:(if 0<M then M else 0)=K) (hw:IntKind.i64.wrap (L -K)=D) (w:World):Calls zf 126 #[.agg #[.int .i64 r,.int .i64 u,.int .i64 l,.int .i64 t],.int .i64 now,.int .i64 n] w λ e w'=>e=.returned (.tuple #[.agg #[.int .i64 r,.int .i64 u,.int .i64 D,.int .i64 T],.int .i64 K])∧Below w.heap.size w w':=by
 have HRG:=zd (λ W=>show Calls zf 109 #[.agg #[.int .i64 r,.int .i64 u,.int .i64 l,.int .i64 t]] W λ e w'=>e=.returned (.bool true)∧Below W.heap.size W w' from by rw[←h];exact QC r u l t W)
 obtain⟨W0,hW0⟩:∃W0,(w.alloc (.cells #[.int .i64 r,.int .i64 u,.int .i64 l,.int .i64 t] 111)).alloc (.cells #[.int .i64 0,.int .i64 0,.int .i64 0,.int .i64 0] 111)=W0:=⟨_,rfl⟩
 have HB0:=zd (Xw w (.cells #[.int .i64 r,.int .i64 u,.int .i64 l,.int .i64 t] 111) (.cells #[.int .i64 0,.int .i64 0,.int .i64 0,.int .i64 0] 111))
 have hg:=Zk (w:=w) (o0:=(.cells #[.int .i64 r,.int .i64 u,.int .i64 l,.int .i64 t] 111)) (o1:=(.cells #[.int .i64 0,.int .i64 0,.int .i64 0,.int .i64 0] 111)) (w1:=W0) (by rw[hW0];exact zh _ _)
 rw[hW0]at HB0
 obtain⟨hg0,hg1,hlt⟩:=hg
 have HG0:=zd hg0
 have HG1:=zd hg1
 have x0:W0.cell? ⟨w.heap.size,0,none⟩=some (.int .i64 r):=ze _ _ 0 _ _ _ hg0
 have x1:W0.cell? ⟨w.heap.size,1,none⟩=some (.int .i64 u):=ze _ _ 1 _ _ _ hg0
 have x2:W0.cell? ⟨w.heap.size,2,none⟩=some (.int .i64 l):=ze _ _ 2 _ _ _ hg0
 have x3:W0.cell? ⟨w.heap.size,3,none⟩=some (.int .i64 t):=ze _ _ 3 _ _ _ hg0
 clear hg0 hg1
 have HFI:=zd (λ W=>show Calls zf 116 #[.agg #[.int .i64 r,.int .i64 u,.int .i64 l,.int .i64 t],.int .i64 now] W λ e w'=>e=.returned (.agg #[.int .i64 r,.int .i64 u,.int .i64 L,.int .i64 T])∧Below W.heap.size W w' from by rw[←hL,←hT];exact Fe r u l t now W)
 clear h hL hT
 go_enter func126,ntmps126
 go_wp2_with fail
 refine(HRG.out _).mono ?_
 rintro e w1 ⟨rfl,hb⟩
 have hg0:=(hb.block _ (qd HG0.out)).trans HG0.out
 have hg1:=(hb.block _ (qd HG1.out)).trans HG1.out
 have HB1:=zd (seqB HB0.out hb)
 clear hb x0 x1 x2 x3 HG0 HG1 HRG hW0 hlt
 have hlt:=qd hg1
 have x0:w1.cell? ⟨w.heap.size,0,none⟩=some (.int .i64 r):=ze _ _ 0 _ _ _ hg0
 have x1:w1.cell? ⟨w.heap.size,1,none⟩=some (.int .i64 u):=ze _ _ 1 _ _ _ hg0
 have x2:w1.cell? ⟨w.heap.size,2,none⟩=some (.int .i64 l):=ze _ _ 2 _ _ _ hg0
 have x3:w1.cell? ⟨w.heap.size,3,none⟩=some (.int .i64 t):=ze _ _ 3 _ _ _ hg0
 have HG0:=zd hg0
 have HG1:=zd hg1
 clear hg0 hg1
 go_wp2_with fail
 refine(HFI.out _).mono ?_
 rintro e w2 ⟨rfl,hb⟩
 have hg0:=(hb.block _ (qd HG0.out)).trans HG0.out
 have hg1:=(hb.block _ (qd HG1.out)).trans HG1.out
 have HB2:=zd (seqB HB1.out hb)
 clear hb x0 x1 x2 x3 HG0 HG1 HFI hlt
 have x0:w2.cell? ⟨w.heap.size,0,none⟩=some (.int .i64 r):=ze _ _ 0 _ _ _ hg0
 have x1:w2.cell? ⟨w.heap.size,1,none⟩=some (.int .i64 u):=ze _ _ 1 _ _ _ hg0
 have x2:w2.cell? ⟨w.heap.size,2,none⟩=some (.int .i64 l):=ze _ _ 2 _ _ _ hg0
 have x3:w2.cell? ⟨w.heap.size,3,none⟩=some (.int .i64 t):=ze _ _ 3 _ _ _ hg0
 have e0:w2.frozen? ⟨w.heap.size,0,none⟩=false:=qa hg0
 have e1:w2.frozen? ⟨w.heap.size,1,none⟩=false:=qa hg0
 have e2:w2.frozen? ⟨w.heap.size,2,none⟩=false:=qa hg0
 have e3:w2.frozen? ⟨w.heap.size,3,none⟩=false:=qa hg0
 have hlt:=qd hg1
 go_upto_region 4 with fail
 have hs:=qF hg0 (.int .i64 r) (.int .i64 u) (.int .i64 L) (.int .i64 T)
 have hd:=qu (w:=w2) HB2.out (zg _) (.int .i64 r) (.int .i64 u) (.int .i64 L) (.int .i64 T)
 have hf:=(Jy (.int .i64 r) (.int .i64 u) (.int .i64 L) (.int .i64 T) (show w.heap.size+1≠w.heap.size by omega)).trans hg1
 generalize hW1:Zs w2 w.heap.size (.int .i64 r) (.int .i64 u) (.int .i64 L) (.int .i64 T)=W1 at*
 unfold Zs at hW1
 rw[hW1]
 clear hW1 x0 x1 x2 x3 e0 e1 e2 e3 hg0 hg1 hlt
 have x0:W1.cell? ⟨w.heap.size,0,none⟩=some (.int .i64 r):=ze _ _ 0 _ _ _ hs
 have x1:W1.cell? ⟨w.heap.size,1,none⟩=some (.int .i64 u):=ze _ _ 1 _ _ _ hs
 have x2:W1.cell? ⟨w.heap.size,2,none⟩=some (.int .i64 L):=ze _ _ 2 _ _ _ hs
 have x3:W1.cell? ⟨w.heap.size,3,none⟩=some (.int .i64 T):=ze _ _ 3 _ _ _ hs
 have e2:W1.frozen? ⟨w.heap.size,2,none⟩=false:=qa hs
 have HS:=zd hs
 have HF:=zd hf
 have HD1:=zd hd
 clear hs hf hd
 go_upto_region 6 with fail
 have hg0:=qo (i:=2) HS.out (.int .i64 D)
 have hg1:=(zn W1 ⟨w.heap.size,2,none⟩ (.int .i64 D) (w.heap.size+1) (by simp)).trans HF.out
 have hd2:=HD1.out.setCell (p:=⟨w.heap.size,2,none⟩) (zg _) (.int .i64 D)
 generalize W1.setCell ⟨w.heap.size,2,none⟩ (.int .i64 D)=W2 at*
 clear x0 x1 x2 x3 e2 HS HF HD1
 have hg0:W2.heap[w.heap.size]?=some (.cells #[.int .i64 r,.int .i64 u,.int .i64 D,.int .i64 T] 111 (0,0)):=hg0
 have hlt:=qd hg1
 have x0:W2.cell? ⟨w.heap.size,0,none⟩=some (.int .i64 r):=ze _ _ 0 _ _ _ hg0
 have x1:W2.cell? ⟨w.heap.size,1,none⟩=some (.int .i64 u):=ze _ _ 1 _ _ _ hg0
 have x2:W2.cell? ⟨w.heap.size,2,none⟩=some (.int .i64 D):=ze _ _ 2 _ _ _ hg0
 have x3:W2.cell? ⟨w.heap.size,3,none⟩=some (.int .i64 T):=ze _ _ 3 _ _ _ hg0
 have y0:W2.cell? ⟨w.heap.size+1,0,none⟩=some (.int .i64 0):=ze _ _ 0 _ _ _ hg1
 have y1:W2.cell? ⟨w.heap.size+1,1,none⟩=some (.int .i64 0):=ze _ _ 1 _ _ _ hg1
 have y2:W2.cell? ⟨w.heap.size+1,2,none⟩=some (.int .i64 0):=ze _ _ 2 _ _ _ hg1
 have y3:W2.cell? ⟨w.heap.size+1,3,none⟩=some (.int .i64 0):=ze _ _ 3 _ _ _ hg1
 have f0:W2.frozen? ⟨w.heap.size+1,0,none⟩=false:=qa hg1
 have f1:W2.frozen? ⟨w.heap.size+1,1,none⟩=false:=qa hg1
 have f2:W2.frozen? ⟨w.heap.size+1,2,none⟩=false:=qa hg1
 have f3:W2.frozen? ⟨w.heap.size+1,3,none⟩=false:=qa hg1
 have hz:=qF hg1 (.int .i64 r) (.int .i64 u) (.int .i64 D) (.int .i64 T)
 have HD:=zd (qu (w:=W2) (g:=w.heap.size+1) hd2 (show w.heap.size≤w.heap.size+1 by omega) (.int .i64 r) (.int .i64 u) (.int .i64 D) (.int .i64 T))
 go_wp2_with fail
 generalize hW:Zs W2 (w.heap.size+1) (.int .i64 r) (.int .i64 u) (.int .i64 D) (.int .i64 T)=W9 at*
 unfold Zs at hW
 rw[hW]
 clear hW
 have z0:W9.cell? ⟨w.heap.size+1,0,none⟩=some (.int .i64 r):=ze _ _ 0 _ _ _ hz
 have z1:W9.cell? ⟨w.heap.size+1,1,none⟩=some (.int .i64 u):=ze _ _ 1 _ _ _ hz
 have z2:W9.cell? ⟨w.heap.size+1,2,none⟩=some (.int .i64 D):=ze _ _ 2 _ _ _ hz
 have z3:W9.cell? ⟨w.heap.size+1,3,none⟩=some (.int .i64 T):=ze _ _ 3 _ _ _ hz
 exact zk (v:=.tuple #[.agg #[.int .i64 r,.int .i64 u,.int .i64 D,.int .i64 T],.int .i64 K]) (by simp[results,results126,go_sem,z0,z1,z2,z3]) rfl ⟨rfl,HD.out⟩
theorem FU {r u l t:Int} (h:qI r u l t=true) (now n:Int) {L T K D:Int} (hL:ZJ r u l t now=L) (hT:ZV r u l t now=T) (hK:JP L n=K) (hD:L -K=D) (w:World):Calls zf 126 #[.agg #[.int .i64 r,.int .i64 u,.int .i64 l,.int .i64 t],.int .i64 now,.int .i64 n] w λ e w'=>e=.returned (.tuple #[.agg #[.int .i64 r,.int .i64 u,.int .i64 D,.int .i64 T],.int .i64 K])∧Below w.heap.size w w':=by
 have hr:=(qY _ _ _ _).1 (X4 h now)
 rw[hL,hT]at hr
 have h3:=hr.2.2.1
 refine FT h now n hL hT rfl ?_ ?_ w
 ·rw[←hK]
  unfold JP
  (repeat' split)<;>omega
 ·rw[IntWalk.i64_in _ ?_,hD]
  rw[←hK]
  unfold JP
  (repeat' split)<;>omega
end gb
namespace gb
open Go.RowKit
theorem Fq {r u l t:Int} (h:qI r u l t=true) {r2 u2 n:Int} (h2:qI r2 u2 u2 n=true) {L T:Int} (hL:ZJ r u l t n=L) (hT:ZV r u l t n=T) (w:World):Calls zf 92 #[.agg #[.int .i64 r,.int .i64 u,.int .i64 l,.int .i64 t],.int .i64 r2,.int .i64 u2,.int .i64 n] w λ e w'=>e=.returned (.tuple #[.agg #[.int .i64 r2,.int .i64 u2,.int .i64 (Ju u2 L),.int .i64 T],.int .i64 0])∧Below w.heap.size w w':=by
 have HRG:=zd (λ W=>show Calls zf 109 #[.agg #[.int .i64 r,.int .i64 u,.int .i64 l,.int .i64 t]] W λ e w'=>e=.returned (.bool true)∧Below W.heap.size W w' from by rw[←h];exact QC r u l t W)
 have HNW:=zd (λ W=>Ge (n:=n) h2 W)
 have HFI:=zd (λ W=>show Calls zf 116 #[.agg #[.int .i64 r,.int .i64 u,.int .i64 l,.int .i64 t],.int .i64 n] W λ e w'=>e=.returned (.agg #[.int .i64 r,.int .i64 u,.int .i64 L,.int .i64 T])∧Below W.heap.size W w' from by rw[←hL,←hT];exact Fe r u l t n W)
 have HTR:=zd (λ W=>QN r2 u2 L T W)
 obtain⟨W0,hW0⟩:∃W0,(w.alloc (.cells #[.int .i64 r,.int .i64 u,.int .i64 l,.int .i64 t] 111)).alloc (.cells #[.int .i64 0,.int .i64 0,.int .i64 0,.int .i64 0] 111)=W0:=⟨_,rfl⟩
 have HB0:=zd (Xw w (.cells #[.int .i64 r,.int .i64 u,.int .i64 l,.int .i64 t] 111) (.cells #[.int .i64 0,.int .i64 0,.int .i64 0,.int .i64 0] 111))
 have hg:=Zk (w:=w) (o0:=(.cells #[.int .i64 r,.int .i64 u,.int .i64 l,.int .i64 t] 111)) (o1:=(.cells #[.int .i64 0,.int .i64 0,.int .i64 0,.int .i64 0] 111)) (w1:=W0) (by rw[hW0];exact zh _ _)
 rw[hW0]at HB0
 obtain⟨hg0,hg1,hlt⟩:=hg
 have HG0:=zd hg0
 have HG1:=zd hg1
 clear h h2 hL hT hg0 hg1
 generalize Ju u2 L=V at*
 go_enter func92,ntmps92
 go_wp2_with fail
 refine(HNW.out _).mono ?_
 rintro e w1 ⟨rfl,hb⟩
 have hal:Below w1.heap.size w1 (w1.alloc (.cells #[.int .i64 0,.int .i64 0,.int .i64 0,.int .i64 0] 111)):=(zh _ _).alloc (zg _) _
 have hbl:=zo w1 (.cells #[.int .i64 0,.int .i64 0,.int .i64 0,.int .i64 0] 111)
 obtain⟨W2,hW2⟩:∃W2,w1.alloc (.cells #[.int .i64 0,.int .i64 0,.int .i64 0,.int .i64 0] 111)=W2:=⟨_,rfl⟩
 rw[hW2]at hal hbl
 have hst:=qu (w:=W2) hal (zg _) (.int .i64 r2) (.int .i64 u2) (.int .i64 u2) (.int .i64 n)
 have x0:W2.cell? ⟨w1.heap.size,0,none⟩=some (.int .i64 0):=ze _ _ 0 _ _ _ hbl
 have x1:W2.cell? ⟨w1.heap.size,1,none⟩=some (.int .i64 0):=ze _ _ 1 _ _ _ hbl
 have x2:W2.cell? ⟨w1.heap.size,2,none⟩=some (.int .i64 0):=ze _ _ 2 _ _ _ hbl
 have x3:W2.cell? ⟨w1.heap.size,3,none⟩=some (.int .i64 0):=ze _ _ 3 _ _ _ hbl
 have f0:W2.frozen? ⟨w1.heap.size,0,none⟩=false:=qa hbl
 have f1:W2.frozen? ⟨w1.heap.size,1,none⟩=false:=qa hbl
 have f2:W2.frozen? ⟨w1.heap.size,2,none⟩=false:=qa hbl
 have f3:W2.frozen? ⟨w1.heap.size,3,none⟩=false:=qa hbl
 have hlt2:=qd hbl
 have HB2:=zd (seqB HB0.out (seqB hb hst))
 have hg0:=(hst.block _ (qd ((hb.block _ (qd HG0.out)).trans HG0.out))).trans ((hb.block _ (qd HG0.out)).trans HG0.out)
 have hg1:=(hst.block _ (qd ((hb.block _ (qd HG1.out)).trans HG1.out))).trans ((hb.block _ (qd HG1.out)).trans HG1.out)
 clear hb hal hbl hst HG0 HG1 HNW hlt hW0
 go_upto_region 2 with fail
 generalize hW:Zs W2 w1.heap.size (.int .i64 r2) (.int .i64 u2) (.int .i64 u2) (.int .i64 n)=W3 at*
 unfold Zs at hW
 rw[hW]
 clear hW x0 x1 x2 x3 f0 f1 f2 f3 hW2 hlt2
 have hlt:=qd hg1
 have x0:W3.cell? ⟨w.heap.size,0,none⟩=some (.int .i64 r):=ze _ _ 0 _ _ _ hg0
 have x1:W3.cell? ⟨w.heap.size,1,none⟩=some (.int .i64 u):=ze _ _ 1 _ _ _ hg0
 have x2:W3.cell? ⟨w.heap.size,2,none⟩=some (.int .i64 l):=ze _ _ 2 _ _ _ hg0
 have x3:W3.cell? ⟨w.heap.size,3,none⟩=some (.int .i64 t):=ze _ _ 3 _ _ _ hg0
 have HG0:=zd hg0
 have HG1:=zd hg1
 clear hg0 hg1
 go_wp2_with fail
 refine(HRG.out _).mono ?_
 rintro e w4 ⟨rfl,hb⟩
 have hg0:=(hb.block _ (qd HG0.out)).trans HG0.out
 have hg1:=(hb.block _ (qd HG1.out)).trans HG1.out
 have HB3:=zd (seqB HB2.out hb)
 clear hb x0 x1 x2 x3 HG0 HG1 HRG hlt HB2
 have hlt:=qd hg1
 have x0:w4.cell? ⟨w.heap.size,0,none⟩=some (.int .i64 r):=ze _ _ 0 _ _ _ hg0
 have x1:w4.cell? ⟨w.heap.size,1,none⟩=some (.int .i64 u):=ze _ _ 1 _ _ _ hg0
 have x2:w4.cell? ⟨w.heap.size,2,none⟩=some (.int .i64 l):=ze _ _ 2 _ _ _ hg0
 have x3:w4.cell? ⟨w.heap.size,3,none⟩=some (.int .i64 t):=ze _ _ 3 _ _ _ hg0
 have HG0:=zd hg0
 have HG1:=zd hg1
 clear hg0 hg1
 go_wp2_with fail
 refine(HFI.out _).mono ?_
 rintro e w5 ⟨rfl,hb⟩
 have hg0:=(hb.block _ (qd HG0.out)).trans HG0.out
 have hg1:=(hb.block _ (qd HG1.out)).trans HG1.out
 have HB4:=zd (seqB HB3.out hb)
 clear hb x0 x1 x2 x3 HG0 HG1 HFI hlt HB3
 have hlt:=qd hg1
 have x0:w5.cell? ⟨w.heap.size,0,none⟩=some (.int .i64 r):=ze _ _ 0 _ _ _ hg0
 have x1:w5.cell? ⟨w.heap.size,1,none⟩=some (.int .i64 u):=ze _ _ 1 _ _ _ hg0
 have x2:w5.cell? ⟨w.heap.size,2,none⟩=some (.int .i64 l):=ze _ _ 2 _ _ _ hg0
 have x3:w5.cell? ⟨w.heap.size,3,none⟩=some (.int .i64 t):=ze _ _ 3 _ _ _ hg0
 have e0:w5.frozen? ⟨w.heap.size,0,none⟩=false:=qa hg0
 have e1:w5.frozen? ⟨w.heap.size,1,none⟩=false:=qa hg0
 have e2:w5.frozen? ⟨w.heap.size,2,none⟩=false:=qa hg0
 have e3:w5.frozen? ⟨w.heap.size,3,none⟩=false:=qa hg0
 go_upto_region 5 with fail
 have hs:=qF hg0 (.int .i64 r) (.int .i64 u) (.int .i64 L) (.int .i64 T)
 have hd:=qu (w:=w5) HB4.out (zg _) (.int .i64 r) (.int .i64 u) (.int .i64 L) (.int .i64 T)
 have hf:=(Jy (.int .i64 r) (.int .i64 u) (.int .i64 L) (.int .i64 T) (show w.heap.size+1≠w.heap.size by omega)).trans hg1
 generalize hW:Zs w5 w.heap.size (.int .i64 r) (.int .i64 u) (.int .i64 L) (.int .i64 T)=W6 at*
 unfold Zs at hW
 rw[hW]
 clear hW x0 x1 x2 x3 e0 e1 e2 e3 hg0 hg1 hlt HB4
 have x0:W6.cell? ⟨w.heap.size,0,none⟩=some (.int .i64 r):=ze _ _ 0 _ _ _ hs
 have x1:W6.cell? ⟨w.heap.size,1,none⟩=some (.int .i64 u):=ze _ _ 1 _ _ _ hs
 have x2:W6.cell? ⟨w.heap.size,2,none⟩=some (.int .i64 L):=ze _ _ 2 _ _ _ hs
 have x3:W6.cell? ⟨w.heap.size,3,none⟩=some (.int .i64 T):=ze _ _ 3 _ _ _ hs
 have e0:W6.frozen? ⟨w.heap.size,0,none⟩=false:=qa hs
 have e1:W6.frozen? ⟨w.heap.size,1,none⟩=false:=qa hs
 have e2:W6.frozen? ⟨w.heap.size,2,none⟩=false:=qa hs
 have e3:W6.frozen? ⟨w.heap.size,3,none⟩=false:=qa hs
 have hlt:=qd hf
 have hs2:=qo (i:=1) (qo (i:=0) hs (.int .i64 r2)) (.int .i64 u2)
 have hd2:=(hd.setCell (p:=⟨w.heap.size,0,none⟩) (zg _) (.int .i64 r2)).setCell (p:=⟨w.heap.size,1,none⟩) (zg _) (.int .i64 u2)
 have hf2:=((zn (W6.setCell ⟨w.heap.size,0,none⟩ (.int .i64 r2)) ⟨w.heap.size,1,none⟩ (.int .i64 u2) (w.heap.size+1) (by simp)).trans (zn W6 ⟨w.heap.size,0,none⟩ (.int .i64 r2) (w.heap.size+1) (by simp))).trans hf
 have HS2:=zd hs2
 have HD2:=zd hd2
 have HF2:=zd hf2
 clear hs hd hf hs2 hd2 hf2
 go_upto_region 6 with fail
 generalize(W6.setCell ⟨w.heap.size,0,none⟩ (.int .i64 r2)).setCell ⟨w.heap.size,1,none⟩ (.int .i64 u2)=W7 at*
 clear x0 x1 x2 x3 e0 e1 e2 e3 hlt
 have hs:W7.heap[w.heap.size]?=some (.cells #[.int .i64 r2,.int .i64 u2,.int .i64 L,.int .i64 T] 111 (0,0)):=HS2.out
 have hlt:=qd HF2.out
 have x0:W7.cell? ⟨w.heap.size,0,none⟩=some (.int .i64 r2):=ze _ _ 0 _ _ _ hs
 have x1:W7.cell? ⟨w.heap.size,1,none⟩=some (.int .i64 u2):=ze _ _ 1 _ _ _ hs
 have x2:W7.cell? ⟨w.heap.size,2,none⟩=some (.int .i64 L):=ze _ _ 2 _ _ _ hs
 have x3:W7.cell? ⟨w.heap.size,3,none⟩=some (.int .i64 T):=ze _ _ 3 _ _ _ hs
 clear hs
 go_wp2_with fail
 refine(HTR.out _).mono ?_
 rintro e w8 ⟨rfl,hb⟩
 have hg1:=(hb.block _ (qd HF2.out)).trans HF2.out
 have HB8:=zd (seqB HD2.out hb)
 clear hb x0 x1 x2 x3 HS2 HD2 HF2 hlt HTR
 have hlt:=qd hg1
 have y0:w8.cell? ⟨w.heap.size+1,0,none⟩=some (.int .i64 0):=ze _ _ 0 _ _ _ hg1
 have y1:w8.cell? ⟨w.heap.size+1,1,none⟩=some (.int .i64 0):=ze _ _ 1 _ _ _ hg1
 have y2:w8.cell? ⟨w.heap.size+1,2,none⟩=some (.int .i64 0):=ze _ _ 2 _ _ _ hg1
 have y3:w8.cell? ⟨w.heap.size+1,3,none⟩=some (.int .i64 0):=ze _ _ 3 _ _ _ hg1
 have f0:w8.frozen? ⟨w.heap.size+1,0,none⟩=false:=qa hg1
 have f1:w8.frozen? ⟨w.heap.size+1,1,none⟩=false:=qa hg1
 have f2:w8.frozen? ⟨w.heap.size+1,2,none⟩=false:=qa hg1
 have f3:w8.frozen? ⟨w.heap.size+1,3,none⟩=false:=qa hg1
 have hz:=qF hg1 (.int .i64 r2) (.int .i64 u2) (.int .i64 V) (.int .i64 T)
 have HD:=zd (qu (w:=w8) (g:=w.heap.size+1) HB8.out (show w.heap.size≤w.heap.size+1 by omega) (.int .i64 r2) (.int .i64 u2) (.int .i64 V) (.int .i64 T))
 clear hg1
 go_wp2_with fail
 generalize hW:Zs w8 (w.heap.size+1) (.int .i64 r2) (.int .i64 u2) (.int .i64 V) (.int .i64 T)=W9 at*
 unfold Zs at hW
 rw[hW]
 clear hW
 have z0:W9.cell? ⟨w.heap.size+1,0,none⟩=some (.int .i64 r2):=ze _ _ 0 _ _ _ hz
 have z1:W9.cell? ⟨w.heap.size+1,1,none⟩=some (.int .i64 u2):=ze _ _ 1 _ _ _ hz
 have z2:W9.cell? ⟨w.heap.size+1,2,none⟩=some (.int .i64 V):=ze _ _ 2 _ _ _ hz
 have z3:W9.cell? ⟨w.heap.size+1,3,none⟩=some (.int .i64 T):=ze _ _ 3 _ _ _ hz
 exact zk (v:=.tuple #[.agg #[.int .i64 r2,.int .i64 u2,.int .i64 V,.int .i64 T],.int .i64 0]) (by simp[results,results92,go_sem,z0,z1,z2,z3]) rfl ⟨rfl,HD.out⟩
end gb
end Go.Proofs.YtfdfgnmgpgkknaaGreat
