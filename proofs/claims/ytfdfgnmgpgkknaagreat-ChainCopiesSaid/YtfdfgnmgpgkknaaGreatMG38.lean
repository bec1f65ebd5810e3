import Derived.Test.YtfdfgnmgpgkknaaGreatMG34
import Derived.Test.YtfdfgnmgpgkknaaGreatMG37
set_option maxRecDepth 100000
set_option maxHeartbeats 8000000
open Go.Proofs.Tryz renaming prog→zf
open Go.Lib renaming hid→zd
open Go.Exit renaming noGoto_ret→zl
open Nat renaming le_refl→zg
open Go.Proofs.Tryz
namespace Go.Proofs.YtfdfgnmgpgkknaaGreat
open Go.RowKit
section
variable {w w':World} {g:Nat} {p:Option Addr} {cap:Nat} {q:List Nd} {c c':Ch} {M M':Nat}
def Ky (w:World) (g:Nat) (p:Option Addr) (cap:Nat) (q:List Nd) (c:Ch) (now:Int) (M:Nat) (e:Ending) (w':World):Prop:=
 ∃c',Ch.JH c' (c.ZA now)∧Ch.Ends c'∧e=.returned (.int .i64 (c.ZA now).state)∧qx w g p cap q c' M w'
theorem Oa (h:CAt w g p cap q c M) (he:Ch.Ends c) (now:Int) (hs:c.state≠0):Calls zf 15 #[ptr g,.int .i64 now] w (Ky w g p cap q c now M):=by
 have x2:w.cell? ⟨g,2,none⟩=some (.int .i64 c.state):=h.cell 2
 have e:c.ZA now=c:=by unfold Ch.ZA;rw[if_pos hs]
 have HE:=zd (show Ky w g p cap q c now M (.returned (.int .i64 c.state)) w from⟨c,by rw[e];exact Ch.VN c,he,by rw[e],qx.refl h⟩)
 have d1:decide (c.state=0)=false:=by simpa using hs
 have d2:(c.state==0)=false:=by simpa using hs
 have d3:(c.state !=0)=true:=by simpa using hs
 generalize c.state=X at*
 clear h he e
 go_enter func15,ntmps15
 go_wp2_with fail
 try rw[zl]
 go_ret
 exact HE.out
theorem L9 (h:CAt w g p cap q c M) (h2:2≤c.L.length) (he:Ch.Ends c) (now:Int) (hs:c.state=0):Calls zf 15 #[ptr g,.int .i64 now] w (Ky w g p cap q c now M):=by
 have x2:w.cell? ⟨g,2,none⟩=some (.int .i64 c.state):=h.cell 2
 rw[hs]at x2
 have HR:=zd (Eg h h2 now)
 have HB:=zd (λ W i (hi:i≤c.L.length) (hp:qx w g p cap q (c.looks now i) M W)=>(show Calls zf 28 #[ptr g,.int .i64 now] W λ e w'=>e=.returned (.tuple #[])∧qx w g p cap q (c.looks now i).qX M w'∧w'.cell? ⟨g,2,none⟩=some (.int .i64 2)from by
  obtain⟨q',a1,a2,a3⟩:=hp
  refine(NY a1 (by rw[Ch.qy];exact h2) now).mono ?_
  rintro e w' ⟨rfl,q2,b1,b2,b3⟩
  have hc:=b1.cell 2
  have hst:=(Ch.SY (c.looks now i) (by rw[(Ch.Yc c now i).2.2,hs];decide)).2.1
  refine⟨rfl,⟨q2,b1,a2.trans b2,b3.trans a3⟩,hc.trans ?_⟩
  show some (Value.int .i64 (c.looks now i).qX.state)=_
  rw[hst]))
 have HBE:=zd (λ W i (hi:i≤c.L.length) (hany:c.Vb now c.L.length=true) (hp:qx w g p cap q (c.looks now i).qX M W)=>(show Ky w g p cap q c now M (.returned (.int .i64 2)) W from by
  have e:c.ZA now=(c.looks now c.L.length).qX:=by unfold Ch.ZA;rw[if_neg (by rw[hs];decide),if_pos hany]
  have hb:=Ch.LA c now i c.L.length hi (zg _) hs
  exact⟨_,Or.inr (by rw[e];exact hb),(he.looks now i hi).break,by rw[e,hb.st],hp⟩))
 have hl0:(c.looks now c.L.length).L.length=c.L.length:=Ch.qy _ _ _
 have hl1:((c.looks now c.L.length).Xf now (c.L.length -1)).L.length=c.L.length:=by rw[Ch.ZS,hl0]
 have HM:=zd (λ W (hp:qx w g p cap q (c.looks now c.L.length) M W)=>(show Calls zf 42 #[ptr g,.int .i64 now] W λ e w'=>e=.returned (.tuple #[])∧qx w g p cap q ((c.looks now c.L.length).Xf now (c.L.length -1)) M w' from by
  obtain⟨q',a1,a2,a3⟩:=hp
  refine(Bv a1 (by rw[hl0];exact h2) now).mono ?_
  rintro e w' ⟨rfl,q2,b1,b2,b3⟩
  rw[hl0]at b1
  exact⟨rfl,q2,b1,a2.trans b2,b3.trans a3⟩))
 have HD:=zd (λ W (hp:qx w g p cap q ((c.looks now c.L.length).Xf now (c.L.length -1)) M W)=>(show Calls zf 43 #[ptr g,.int .i64 now] W λ e w'=>e=.returned (.tuple #[])∧qx w g p cap q (c.Zi now) M w' from by
  obtain⟨q',a1,a2,a3⟩:=hp
  refine(As a1 (by rw[hl1];exact h2) now).mono ?_
  rintro e w' ⟨rfl,q2,b1,b2,b3⟩
  rw[hl1]at b1
  exact⟨rfl,q2,b1,a2.trans b2,b3.trans a3⟩))
 have hl3:=Ch.VO c now
 have HO:=zd (λ W (hp:qx w g p cap q (c.Zi now) M W)=>(show Calls zf 44 #[ptr g] W λ e w'=>e=.returned (ptr (nd q (c.L.length -1)).p)∧qx w g p cap q (c.Zi now) M w'∧w'.cell? ⟨(nd q (c.L.length -1)).p,0,none⟩=some (ptr (nd q (c.L.length -1)).g)from by
  obtain⟨q',a1,a2,a3⟩:=hp
  rw[←(a3 (c.L.length -1)).1]
  have:=T1 a1 (by rw[hl3];exact h2)
  rw[hl3]at this
  refine this.mono ?_
  rintro e w' ⟨rfl,hb⟩
  have hz:=((a1.on hb).Vc (k:=c.L.length -1) (by omega)).1
  rw[(a3 (c.L.length -1)).2]at hz
  exact⟨rfl,qx.on ⟨q',a1,a2,a3⟩ hb,hz⟩))
 obtain⟨X,hX⟩:∃X,((c.Zi now).ql (c.L.length -1) (Ch.qh now)).n=X:=⟨_,rfl⟩
 have HS:=zd (λ W (hp:qx w g p cap q (c.Zi now) M W)=>(show Calls zf 45 #[ptr (nd q (c.L.length -1)).g,.int .i64 now] W λ e w'=>e=.returned (.int .i64 X)∧qx w g p cap q ((c.Zi now).onC (c.L.length -1) (Ch.qh now)) M w' from by
  obtain⟨q',a1,a2,a3⟩:=hp
  have hk:c.L.length -1<(c.Zi now).L.length:=by omega
  rw[←(a3 (c.L.length -1)).2,←hX]
  refine(QB (a1.stg _ hk) now).mono ?_
  rintro e w' ⟨rfl,hst⟩
  refine⟨rfl,?_⟩
  rw[Us]
  obtain⟨q2,b1,b2,b3⟩:=a1.Su hk hst (zg _)
  exact⟨q2,b1,a2.trans b2,b3.trans a3⟩))
 have hE3:=he.Zi now h2
 have hX01:X=0∨X=1:=by
  have:=hE3.OZ now (by omega)
  rw[hl3,hX]at this
  exact this
 have hst3:((c.Zi now).onC (c.L.length -1) (Ch.qh now)).state=0:=by
  show(c.Zi now).state=0
  have h1:∀(d:Ch) i,(d.ZI now i).state=d.state:=λ d i=>by unfold Ch.ZI;dsimp only;split<;>rfl
  have h2:∀(d:Ch) i,(d.Xd now i).state=d.state:=λ d i=>by
   unfold Ch.Xd
   dsimp only
   split
   ·exact Ch.Qp _ _
   ·rfl
  have h3:∀(d:Ch) n,(d.Xf now n).state=d.state:=λ d n=>by
   induction n with
   |zero=>rfl
   |succ n ih=>exact(h1 _ _).trans ih
  have h4:∀(d:Ch) n,(d.ends now n).state=d.state:=λ d n=>by
   induction n with
   |zero=>rfl
   |succ n ih=>exact(h2 _ _).trans ih
  unfold Ch.Zi
  rw[h4,h3,(Ch.Yc c now _).2.2,hs]
 have HX2:=zd (λ W (hp:qx w g p cap q ((c.Zi now).onC (c.L.length -1) (Ch.qh now)) M W)=>(show W.cell? ⟨g,2,none⟩=some (.int .i64 0)∧W.frozen? ⟨g,2,none⟩=false from by
  obtain⟨q',a1,_,_⟩:=hp
  have:=a1.cell 2
  have e:(chC p ((c.Zi now).onC (c.L.length -1) (Ch.qh now)).L.length cap ((c.Zi now).onC (c.L.length -1) (Ch.qh now)))[2]?=some (.int .i64 ((c.Zi now).onC (c.L.length -1) (Ch.qh now)).state):=rfl
  rw[e,hst3]at this
  exact⟨this,a1.frz 2⟩))
 have HG:=zd (λ W (hany:c.Vb now c.L.length=false) (hp:qx w g p cap q {(c.Zi now).onC (c.L.length -1) (Ch.qh now)with state:=X} M W)=>(show Ky w g p cap q c now M (.returned (.int .i64 X)) W from by
  have e:c.ZA now={(c.Zi now).onC (c.L.length -1) (Ch.qh now)with state:=X}:=by unfold Ch.ZA;rw[if_neg (by rw[hs];decide),if_neg (by rw[hany];decide),hX]
  exact⟨c.ZA now,Ch.VN _,by rw[e];exact(hE3.on (c.L.length -1) (by omega) _).same rfl,by rw[e],by rw[e];exact hp⟩))
 have HSET:=zd (λ W (hp:qx w g p cap q ((c.Zi now).onC (c.L.length -1) (Ch.qh now)) M W)=>(show qx w g p cap q {(c.Zi now).onC (c.L.length -1) (Ch.qh now)with state:=1} M (W.setCell ⟨g,2,none⟩ (.int .i64 1))from hp.then λ q' a1 _=>a1.Ep rfl rfl a1.los))
 have HSAME:=zd (λ W (hp:qx w g p cap q ((c.Zi now).onC (c.L.length -1) (Ch.qh now)) M W)=>(show qx w g p cap q {(c.Zi now).onC (c.L.length -1) (Ch.qh now)with state:=0} M W from by
  have e:({(c.Zi now).onC (c.L.length -1) (Ch.qh now)with state:=0}:Ch)=(c.Zi now).onC (c.L.length -1) (Ch.qh now):=by rw[←hst3]
  rw[e]
  exact hp))
 clear h he hE3 hst3 hX hl0 hl1 hl3 hs
 generalize(nd q (c.L.length -1)).p=pk at*
 generalize(nd q (c.L.length -1)).g=gk at*
 go_enter func15,ntmps15
 go_wp2_with fail
 refine HR.out.mono ?_
 rintro e w1 ⟨i,hi,hcp,(⟨rfl,hany⟩|⟨rfl,hany,rfl⟩)⟩
 ·have HC1:=zd (HB.out w1 i hi hcp)
  have HI:=zd hi
  have HA:=zd hany
  clear hcp hi hany x2 HR HB HM HD HO HS HX2 HG HSET HSAME
  go_wp2_with fail
  refine HC1.out.mono ?_
  rintro e w2 ⟨rfl,hp2,y2⟩
  have HE:=zd (HBE.out w2 i HI.out HA.out hp2)
  clear hp2 HC1 HBE
  go_wp2_with fail
  try rw[zl]
  go_ret
  exact HE.out
 ·have HC1:=zd (HM.out w1 hcp)
  have HA:=zd hany
  clear hcp hi hany x2 HR HB HBE HM
  go_wp2_with fail
  refine HC1.out.mono ?_
  rintro e w2 ⟨rfl,hp2⟩
  have HC2:=zd (HD.out w2 hp2)
  clear hp2 HC1 HD
  go_wp2_with fail
  refine HC2.out.mono ?_
  rintro e w3 ⟨rfl,hp3⟩
  have HC3:=zd (HO.out w3 hp3)
  clear hp3 HC2 HO
  go_wp2_with fail
  refine HC3.out.mono ?_
  rintro e w4 ⟨rfl,hp4,z0⟩
  have HC4:=zd (HS.out w4 hp4)
  clear hp4 HC3 HS
  go_wp2_with fail
  refine HC4.out.mono ?_
  rintro e w5 ⟨rfl,hp5⟩
  have y2:=(HX2.out w5 hp5).1
  have f2:=(HX2.out w5 hp5).2
  rcases hX01 with rfl|rfl
  ·have HE:=zd (HG.out w5 HA.out (HSAME.out w5 hp5))
   clear hp5 HC4 HX2 HSET HSAME HG
   go_wp2_with fail
   try rw[zl]
   go_ret
   exact HE.out
  ·have HE:=zd (HG.out _ HA.out (HSET.out w5 hp5))
   clear hp5 HC4 HX2 HSET HSAME HG
   go_wp2_with fail
   try rw[zl]
   go_ret
   exact HE.out
theorem D0 (h:CAt w g p cap q c M) (h2:2≤c.L.length) (he:Ch.Ends c) (now:Int):Calls zf 15 #[ptr g,.int .i64 now] w (Ky w g p cap q c now M):=by
 by_cases hs:c.state=0
 ·exact L9 h h2 he now hs
 ·exact Oa h he now hs
end
end Go.Proofs.YtfdfgnmgpgkknaaGreat
