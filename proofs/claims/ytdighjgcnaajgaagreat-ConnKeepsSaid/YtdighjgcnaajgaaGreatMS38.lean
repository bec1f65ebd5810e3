import Derived.Test.YtdighjgcnaajgaaGreatMS37
import Derived.Test.YtdighjgcnaajgaaGreatMS36
namespace Go.Proofs.YtdighjgcnaajgaaGreat
open Go.RowKit
section
variable {w w':World} {g:Nat} {p:Option Addr} {cap:Nat} {q:List Nd} {c c':Ch} {M M':Nat}
def Stepd (w:World) (g:Nat) (p:Option Addr) (cap:Nat) (q:List Nd) (c:Ch) (now:Int) (M:Nat) (e:Ending) (w':World):Prop:=
 ∃c',Ch.Like c' (c.stepC now)∧Ch.Ends c'∧e=.returned (.int .i64 (c.stepC now).state)∧CPut w g p cap q c' M w'
set_option maxRecDepth 100000 in
set_option maxHeartbeats 4000000 in
theorem step_not (h:CAt w g p cap q c M) (he:Ch.Ends c) (now:Int) (hs:c.state≠0):Calls Tryz.prog 94 #[ptr g,.int .i64 now] w (Stepd w g p cap q c now M):=by
 have x2:w.cell? ⟨g,2,none⟩=some (.int .i64 c.state):=h.cell 2
 have e:c.stepC now=c:=by unfold Ch.stepC;rw[if_pos hs]
 have HE:=Lib.hid (show Stepd w g p cap q c now M (.returned (.int .i64 c.state)) w from⟨c,by rw[e];exact Ch.like_refl c,he,by rw[e],CPut.refl h⟩)
 have d1:decide (c.state=0)=false:=by simpa using hs
 have d2:(c.state==0)=false:=by simpa using hs
 have d3:(c.state !=0)=true:=by simpa using hs
 generalize c.state=X at*
 clear h he e
 go_enter Tryz.func94,Tryz.ntmps94
 go_wp2_with fail
 try rw[Exit.noGoto_ret]
 go_ret
 exact HE.out
theorem cput_on {w1:World} (h:CPut w g p cap q c M w1) (k:∀q',CAt w1 g p cap q' c M→CPut w1 g p cap q' c' M w'):CPut w g p cap q c' M w':=h.then λ q' h1 _=>k q' h1
set_option maxRecDepth 100000 in
set_option maxHeartbeats 8000000 in
theorem step_yes (h:CAt w g p cap q c M) (h2:2≤c.L.length) (he:Ch.Ends c) (now:Int) (hs:c.state=0):Calls Tryz.prog 94 #[ptr g,.int .i64 now] w (Stepd w g p cap q c now M):=by
 have x2:w.cell? ⟨g,2,none⟩=some (.int .i64 c.state):=h.cell 2
 rw[hs]at x2
 have HR:=Lib.hid (reset_c h h2 now)
 have HB:=Lib.hid (λ W i (hi:i≤c.L.length) (hp:CPut w g p cap q (c.looks now i) M W)=>(show Calls Tryz.prog 110 #[ptr g,.int .i64 now] W λ e w'=>e=.returned (.tuple #[])∧CPut w g p cap q (c.looks now i).breakC M w'∧w'.cell? ⟨g,2,none⟩=some (.int .i64 2)from by
  obtain⟨q',a1,a2,a3⟩:=hp
  refine(break_c a1 (by rw[Ch.len_looks];exact h2) now).mono ?_
  rintro e w' ⟨rfl,q2,b1,b2,b3⟩
  have hc:=b1.cell 2
  have hst:=(Ch.held_break (c.looks now i) (by rw[(Ch.looks_rest c now i).2.2,hs];decide)).2.1
  refine⟨rfl,⟨q2,b1,a2.trans b2,b3.trans a3⟩,hc.trans ?_⟩
  show some (Value.int .i64 (c.looks now i).breakC.state)=_
  rw[hst]))
 have HBE:=Lib.hid (λ W i (hi:i≤c.L.length) (hany:c.anyB now c.L.length=true) (hp:CPut w g p cap q (c.looks now i).breakC M W)=>(show Stepd w g p cap q c now M (.returned (.int .i64 2)) W from by
  have e:c.stepC now=(c.looks now c.L.length).breakC:=by unfold Ch.stepC;rw[if_neg (by rw[hs];decide),if_pos hany]
  have hb:=Ch.brk_looks c now i c.L.length hi (Nat.le_refl _) hs
  exact⟨_,Or.inr (by rw[e];exact hb),(he.looks now i hi).break,by rw[e,hb.st],hp⟩))
 have hl0:(c.looks now c.L.length).L.length=c.L.length:=Ch.len_looks _ _ _
 have hl1:((c.looks now c.L.length).flow now (c.L.length -1)).L.length=c.L.length:=by rw[Ch.len_flow,hl0]
 have HM:=Lib.hid (λ W (hp:CPut w g p cap q (c.looks now c.L.length) M W)=>(show Calls Tryz.prog 132 #[ptr g,.int .i64 now] W λ e w'=>e=.returned (.tuple #[])∧CPut w g p cap q ((c.looks now c.L.length).flow now (c.L.length -1)) M w' from by
  obtain⟨q',a1,a2,a3⟩:=hp
  refine(move_c a1 (by rw[hl0];exact h2) now).mono ?_
  rintro e w' ⟨rfl,q2,b1,b2,b3⟩
  rw[hl0]at b1
  exact⟨rfl,q2,b1,a2.trans b2,b3.trans a3⟩))
 have HD:=Lib.hid (λ W (hp:CPut w g p cap q ((c.looks now c.L.length).flow now (c.L.length -1)) M W)=>(show Calls Tryz.prog 133 #[ptr g,.int .i64 now] W λ e w'=>e=.returned (.tuple #[])∧CPut w g p cap q (c.step3 now) M w' from by
  obtain⟨q',a1,a2,a3⟩:=hp
  refine(end_c a1 (by rw[hl1];exact h2) now).mono ?_
  rintro e w' ⟨rfl,q2,b1,b2,b3⟩
  rw[hl1]at b1
  exact⟨rfl,q2,b1,a2.trans b2,b3.trans a3⟩))
 have hl3:=Ch.len_step3 c now
 have HO:=Lib.hid (λ W (hp:CPut w g p cap q (c.step3 now) M W)=>(show Calls Tryz.prog 134 #[ptr g] W λ e w'=>e=.returned (ptr (nd q (c.L.length -1)).p)∧CPut w g p cap q (c.step3 now) M w'∧w'.cell? ⟨(nd q (c.L.length -1)).p,0,none⟩=some (ptr (nd q (c.L.length -1)).g)from by
  obtain⟨q',a1,a2,a3⟩:=hp
  rw[←(a3 (c.L.length -1)).1]
  have:=outlet_c a1 (by rw[hl3];exact h2)
  rw[hl3]at this
  refine this.mono ?_
  rintro e w' ⟨rfl,hb⟩
  have hz:=((a1.on hb).pcell (k:=c.L.length -1) (by omega)).1
  rw[(a3 (c.L.length -1)).2]at hz
  exact⟨rfl,CPut.on ⟨q',a1,a2,a3⟩ hb,hz⟩))
 obtain⟨X,hX⟩:∃X,((c.step3 now).ansC (c.L.length -1) (Ch.oLook now)).n=X:=⟨_,rfl⟩
 have HS:=Lib.hid (λ W (hp:CPut w g p cap q (c.step3 now) M W)=>(show Calls Tryz.prog 123 #[ptr (nd q (c.L.length -1)).g,.int .i64 now] W λ e w'=>e=.returned (.int .i64 X)∧CPut w g p cap q ((c.step3 now).onC (c.L.length -1) (Ch.oLook now)) M w' from by
  obtain⟨q',a1,a2,a3⟩:=hp
  have hk:c.L.length -1<(c.step3 now).L.length:=by omega
  rw[←(a3 (c.L.length -1)).2,←hX]
  refine(state_i (a1.stg _ hk) now).mono ?_
  rintro e w' ⟨rfl,hst⟩
  refine⟨rfl,?_⟩
  rw[look_set]
  obtain⟨q2,b1,b2,b3⟩:=a1.putL hk hst (Nat.le_refl _)
  exact⟨q2,b1,a2.trans b2,b3.trans a3⟩))
 have hE3:=he.step3 now h2
 have hX01:X=0∨X=1:=by
  have:=hE3.outlet now (by omega)
  rw[hl3,hX]at this
  exact this
 have hst3:((c.step3 now).onC (c.L.length -1) (Ch.oLook now)).state=0:=by
  show(c.step3 now).state=0
  have h1:∀(d:Ch) i,(d.flow1 now i).state=d.state:=λ d i=>by unfold Ch.flow1;dsimp only;split<;>rfl
  have h2:∀(d:Ch) i,(d.ends1 now i).state=d.state:=λ d i=>by
   unfold Ch.ends1
   dsimp only
   split
   ·exact Ch.state_loseN _ _
   ·rfl
  have h3:∀(d:Ch) n,(d.flow now n).state=d.state:=λ d n=>by
   induction n with
   |zero=>rfl
   |succ n ih=>exact(h1 _ _).trans ih
  have h4:∀(d:Ch) n,(d.ends now n).state=d.state:=λ d n=>by
   induction n with
   |zero=>rfl
   |succ n ih=>exact(h2 _ _).trans ih
  unfold Ch.step3
  rw[h4,h3,(Ch.looks_rest c now _).2.2,hs]
 have HX2:=Lib.hid (λ W (hp:CPut w g p cap q ((c.step3 now).onC (c.L.length -1) (Ch.oLook now)) M W)=>(show W.cell? ⟨g,2,none⟩=some (.int .i64 0)∧W.frozen? ⟨g,2,none⟩=false from by
  obtain⟨q',a1,_,_⟩:=hp
  have:=a1.cell 2
  have e:(chC p ((c.step3 now).onC (c.L.length -1) (Ch.oLook now)).L.length cap ((c.step3 now).onC (c.L.length -1) (Ch.oLook now)))[2]?=some (.int .i64 ((c.step3 now).onC (c.L.length -1) (Ch.oLook now)).state):=rfl
  rw[e,hst3]at this
  exact⟨this,a1.frz 2⟩))
 have HG:=Lib.hid (λ W (hany:c.anyB now c.L.length=false) (hp:CPut w g p cap q {(c.step3 now).onC (c.L.length -1) (Ch.oLook now)with state:=X} M W)=>(show Stepd w g p cap q c now M (.returned (.int .i64 X)) W from by
  have e:c.stepC now={(c.step3 now).onC (c.L.length -1) (Ch.oLook now)with state:=X}:=by unfold Ch.stepC;rw[if_neg (by rw[hs];decide),if_neg (by rw[hany];decide),hX]
  exact⟨c.stepC now,Ch.like_refl _,by rw[e];exact(hE3.on (c.L.length -1) (by omega) _).same rfl,by rw[e],by rw[e];exact hp⟩))
 have HSET:=Lib.hid (λ W (hp:CPut w g p cap q ((c.step3 now).onC (c.L.length -1) (Ch.oLook now)) M W)=>(show CPut w g p cap q {(c.step3 now).onC (c.L.length -1) (Ch.oLook now)with state:=1} M (W.setCell ⟨g,2,none⟩ (.int .i64 1))from hp.then λ q' a1 _=>a1.putG rfl rfl a1.los))
 have HSAME:=Lib.hid (λ W (hp:CPut w g p cap q ((c.step3 now).onC (c.L.length -1) (Ch.oLook now)) M W)=>(show CPut w g p cap q {(c.step3 now).onC (c.L.length -1) (Ch.oLook now)with state:=0} M W from by
  have e:({(c.step3 now).onC (c.L.length -1) (Ch.oLook now)with state:=0}:Ch)=(c.step3 now).onC (c.L.length -1) (Ch.oLook now):=by rw[←hst3]
  rw[e]
  exact hp))
 clear h he hE3 hst3 hX hl0 hl1 hl3 hs
 generalize(nd q (c.L.length -1)).p=pk at*
 generalize(nd q (c.L.length -1)).g=gk at*
 go_enter Tryz.func94,Tryz.ntmps94
 go_wp2_with fail
 refine HR.out.mono ?_
 rintro e w1 ⟨i,hi,hcp,(⟨rfl,hany⟩|⟨rfl,hany,rfl⟩)⟩
 ·have HC1:=Lib.hid (HB.out w1 i hi hcp)
  have HI:=Lib.hid hi
  have HA:=Lib.hid hany
  clear hcp hi hany x2 HR HB HM HD HO HS HX2 HG HSET HSAME
  go_wp2_with fail
  refine HC1.out.mono ?_
  rintro e w2 ⟨rfl,hp2,y2⟩
  have HE:=Lib.hid (HBE.out w2 i HI.out HA.out hp2)
  clear hp2 HC1 HBE
  go_wp2_with fail
  try rw[Exit.noGoto_ret]
  go_ret
  exact HE.out
 ·have HC1:=Lib.hid (HM.out w1 hcp)
  have HA:=Lib.hid hany
  clear hcp hi hany x2 HR HB HBE HM
  go_wp2_with fail
  refine HC1.out.mono ?_
  rintro e w2 ⟨rfl,hp2⟩
  have HC2:=Lib.hid (HD.out w2 hp2)
  clear hp2 HC1 HD
  go_wp2_with fail
  refine HC2.out.mono ?_
  rintro e w3 ⟨rfl,hp3⟩
  have HC3:=Lib.hid (HO.out w3 hp3)
  clear hp3 HC2 HO
  go_wp2_with fail
  refine HC3.out.mono ?_
  rintro e w4 ⟨rfl,hp4,z0⟩
  have HC4:=Lib.hid (HS.out w4 hp4)
  clear hp4 HC3 HS
  go_wp2_with fail
  refine HC4.out.mono ?_
  rintro e w5 ⟨rfl,hp5⟩
  have y2:=(HX2.out w5 hp5).1
  have f2:=(HX2.out w5 hp5).2
  rcases hX01 with rfl|rfl
  ·have HE:=Lib.hid (HG.out w5 HA.out (HSAME.out w5 hp5))
   clear hp5 HC4 HX2 HSET HSAME HG
   go_wp2_with fail
   try rw[Exit.noGoto_ret]
   go_ret
   exact HE.out
  ·have HE:=Lib.hid (HG.out _ HA.out (HSET.out w5 hp5))
   clear hp5 HC4 HX2 HSET HSAME HG
   go_wp2_with fail
   try rw[Exit.noGoto_ret]
   go_ret
   exact HE.out
theorem step_c (h:CAt w g p cap q c M) (h2:2≤c.L.length) (he:Ch.Ends c) (now:Int):Calls Tryz.prog 94 #[ptr g,.int .i64 now] w (Stepd w g p cap q c now M):=by
 by_cases hs:c.state=0
 ·exact step_yes h h2 he now hs
 ·exact step_not h he now hs
end
end Go.Proofs.YtdighjgcnaajgaaGreat
