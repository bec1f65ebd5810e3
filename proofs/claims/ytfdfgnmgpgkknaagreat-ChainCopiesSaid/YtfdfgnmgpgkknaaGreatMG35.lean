import Derived.Test.YtfdfgnmgpgkknaaGreatMG34
set_option maxRecDepth 100000
set_option maxHeartbeats 8000000
open Go.Proofs.Tryz renaming prog→zf
open Go.Lib renaming hid→zd
open Nat renaming le_refl→zg
open Go.Exit renaming noGoto_ret→zl
open Go.RowKit.Below renaming refl→zh
open Go renaming heap_alloc_new→zo,cell_of_row→ze
open Go.Calls renaming mono→zr
open Go.Proofs.Tryz
namespace Go.Proofs.YtfdfgnmgpgkknaaGreat
section
open Go.RowKit
section
variable {w w':World} {g:Nat} {p:Option Addr} {cap:Nat} {q:List Nd} {c c':Ch} {M M':Nat}
theorem FC (c:Ch) (now:Int) {k n:Nat} (hk:k≤n) (h:c.Vb now k=true):c.Vb now n=true:=by
 induction n with
 |zero=>
  obtain rfl:k=0:=by omega
  exact h
 |succ n ih=>
  rcases Nat.lt_or_ge k (n+1)with hl|hl
  ·show(c.Vb now n||_)=true
   rw[ih (by omega)]
   rfl
  ·obtain rfl:k=n+1:=by omega
   exact h
theorem Us (c:Ch) (k:Nat) (now:Int):c.onC k (Ch.qh now)=XR c k (qc (c.at' k).s now):=Y3 c k _ (by show((4:Int)≠3);decide)
theorem SP (c:Ch) (now:Int) (k:Nat):c.looks now (k+1)=XR (c.looks now k) k (qc ((c.looks now k).at' k).s now):=Us _ _ _
def Rst (w:World) (g:Nat) (p:Option Addr) (cap:Nat) (q:List Nd) (c:Ch) (now:Int) (M:Nat) (e:Ending) (w':World):Prop:=
 ∃i,i≤c.L.length∧qx w g p cap q (c.looks now i) M w'∧((e=.returned (.bool true)∧c.Vb now c.L.length=true)∨(e=.returned (.bool false)∧c.Vb now c.L.length=false∧i=c.L.length))
theorem Eg (h:CAt w g p cap q c M) (h2:2≤c.L.length) (now:Int):Calls zf 41 #[ptr g,.int .i64 now] w (Rst w g p cap q c now M):=by
 have h10:=h.ten
 obtain⟨b,o,rfl,hr,hnc,hmx⟩:=h.rows (by omega)
 have x0:w.cell? ⟨g,0,none⟩=some (.slice (some ⟨b,o,none⟩) c.L.length cap):=h.cell 0
 have H0:=zd (qx.refl h)
 obtain⟨n,hn⟩:∃n,c.L.length=n:=⟨_,rfl⟩
 unfold Rst
 rw[hn]at x0 hnc h2 h10⊢
 have HN:=zd hn
 clear h hr hn
 go_enter func41,ntmps41
 go_wp2_with fail
 go_loopw [12] (λ i wr=>∃k:Nat,k≤n∧i=.int .i64 k∧Hid (qx w g (some ⟨b,o,none⟩) cap q (c.looks now k) M wr∧c.Vb now k=false)) (λ i _=>n -(intOf i).toNat)
 case atStart=>exact⟨0,Nat.zero_le _,rfl,zd ⟨H0.out,rfl⟩⟩
 case round=>
  clear x0 H0
  obtain⟨k,hk,rfl,HK⟩:=hrel
  by_cases hlt:k<n
  ·obtain⟨⟨q',hc,hmv,hpp⟩,hany⟩:=HK.out
   have hkn:k<(c.looks now k).L.length:=by rw[Ch.qy,HN.out];exact hlt
   have y0:=hc.Sj hkn
   have z0:=(hc.Vc hkn).1
   have HS:=zd (QB (hc.stg k hkn) now)
   have HR:=zd (λ W (hs:Stp wr (nd q' k).U (nd q' k).g (qc ((c.looks now k).at' k).s now) (nd q' k).m W)=>(show qx w g (some ⟨b,o,none⟩) cap q (c.looks now (k+1)) M W from by
    obtain⟨q9,a1,a2,a3⟩:=hc.Su hkn hs (zg _)
    rw[SP]
    exact⟨q9,a1,hmv.trans a2,a3.trans hpp⟩))
   have hnx:c.Vb now (k+1)=decide ((qc ((c.looks now k).at' k).s now).st=2):=by
    show(c.Vb now k||_)=_
    rw[hany,Bool.false_or]
    rfl
   generalize(qc ((c.looks now k).at' k).s now).st=X at*
   generalize(nd q' k).p=pk at*
   by_cases hX:X=2
   ·subst hX
    have HA:=zd (FC c now (show k+1≤n by omega) (by rw[hnx];decide))
    clear hc hmv hpp hany hnx HK hkn
    go_wp2_with (go_at_call 45;refine HS.out.mono ?_;rintro e w1 ⟨rfl,hs⟩;(have HF:=zd (HR.out w1 hs));clear hs)
    try rw[zl]
    go_ret
    exact⟨k+1,by omega,HF.out,Or.inl ⟨rfl,HA.out⟩⟩
   ·have d1:decide (X=2)=false:=by simpa using hX
    have d2:(X==2)=false:=by simpa using hX
    rw[d1]at hnx
    have HA:=zd hnx
    clear hc hmv hpp hany hnx HK hkn
    go_wp2_with (go_at_call 45;refine HS.out.mono ?_;rintro e w1 ⟨rfl,hs⟩;(have HF:=zd (HR.out w1 hs));clear hs)
    go_roundw
    case rel=>exact⟨k+1,by omega,by go_num,zd ⟨HF.out,HA.out⟩⟩
    case measure=>simp[intOf];omega
  ·obtain rfl:k=n:=by omega
   go_wp2_with fail
   try rw[zl]
   go_ret
   exact⟨k,zg _,HK.out.1,Or.inr ⟨rfl,HK.out.2,rfl⟩⟩
def Du (c:Ch) (now:Int) (b:ByteArray):Ch:=if c.shut=true∨c.state≠0 then c else c.onC 0 (Ch.JV now b)
def Bd (c:Ch) (now:Int) (b:ByteArray):Int:=if c.shut=true∨c.state≠0 then 0 else(c.ql 0 (Ch.JV now b)).n
theorem Sp (h:CAt w g p cap q c M) (now:Int) (pb:Option Addr) (nb cb:Nat) (hs:c.shut=true):Calls zf 13 #[ptr g,.int .i64 now,.slice pb nb cb] w λ e w'=>e=.returned (.int .i64 0)∧w=w':=by
 have x3:w.cell? ⟨g,3,none⟩=some (.bool c.shut):=h.cell 3
 rw[hs]at x3
 clear h hs
 go_enter func13,ntmps13
 go_wp2_with fail
 try rw[zl]
 go_ret
 exact⟨rfl,rfl⟩
theorem TX (h:CAt w g p cap q c M) (now:Int) (pb:Option Addr) (nb cb:Nat) (hs:c.shut=false) (h0:c.state≠0):Calls zf 13 #[ptr g,.int .i64 now,.slice pb nb cb] w λ e w'=>e=.returned (.int .i64 0)∧w=w':=by
 have x3:w.cell? ⟨g,3,none⟩=some (.bool c.shut):=h.cell 3
 have x2:w.cell? ⟨g,2,none⟩=some (.int .i64 c.state):=h.cell 2
 rw[hs]at x3
 have d1:decide (c.state=0)=false:=by simpa using h0
 have d2:(c.state==0)=false:=by simpa using h0
 have d3:(c.state !=0)=true:=by simpa using h0
 generalize c.state=X at*
 clear h hs
 go_enter func13,ntmps13
 go_wp2_with fail
 try rw[zl]
 go_ret
 exact⟨rfl,rfl⟩
theorem Sq (h:CAt w g p cap q c M) (h2:2≤c.L.length) (now:Int) {pb:Option Addr} {nb cb:Nat} {b:ByteArray} (hb:b.size=nb) (hi:Lib.BytesIn w pb nb (gc.nums b)) (hnc:nb≤cb) (hM:M+b.size≤M') (hf:M'≤400000) (hs:c.shut=false) (h0:c.state=0):
  Calls zf 13 #[ptr g,.int .i64 now,.slice pb nb cb] w λ e w'=>e=.returned (.int .i64 (c.ql 0 (Ch.JV now b)).n)∧qx w g p cap q (c.onC 0 (Ch.JV now b)) M' w':=by
 have x3:w.cell? ⟨g,3,none⟩=some (.bool c.shut):=h.cell 3
 have x2:w.cell? ⟨g,2,none⟩=some (.int .i64 c.state):=h.cell 2
 rw[hs]at x3
 rw[h0]at x2
 have hk:0<c.L.length:=by omega
 have z0:=(h.Vc hk).1
 have hm:=(h.sum 0 hk)
 have HP:=zd (Ad (M':=(nd q 0).m+b.size) (h.stg 0 hk) now hb hi (zg _) (by omega) hnc)
 have HI:=zd (NN h h2)
 have HF:=zd (λ W (hst:Stp w (nd q 0).U (nd q 0).g (qU (c.at' 0).s now b).1 ((nd q 0).m+b.size) W)=>(show qx w g p cap q (c.onC 0 (Ch.JV now b)) M' W from by
  have h3:=h.Be (M':=M') hk hst (by have e1:((qU (c.at' 0).s now b).1.S.size:Int)=(c.at' 0).s.S.size+(qU (c.at' 0).s now b).2:=Ch.MX _ now b;have e2:=QK (c.at' 0).s now b;omega) (λ j _ hj=>by have:=h.sum j hj;omega) (by have:=h.los.2;omega) (by omega) hf
  rw[Y3 _ _ _ (by show(0:Int)≠3;decide)]
  exact h3))
 have HV:(c.ql 0 (Ch.JV now b)).n=(qU (c.at' 0).s now b).2:=rfl
 rw[HV]
 clear h hm hi HV
 generalize(qU (c.at' 0).s now b).2=V at*
 generalize(nd q 0).p=pk at*
 go_enter func13,ntmps13
 go_wp2_with (first
  |(go_at_call 36;refine HI.out.mono ?_;rintro e w1 ⟨rfl,rfl⟩)
  |(go_at_call 37;refine HP.out.mono ?_;rintro e w1 ⟨rfl,hst⟩;(have HE:=zd (HF.out w1 hst));clear hst))
 try rw[zl]
 go_ret
 exact⟨rfl,HE.out⟩
theorem Ae (h:CAt w g p cap q c M) (h2:2≤c.L.length) (now:Int) {pb:Option Addr} {nb cb:Nat} {b:ByteArray} (hb:b.size=nb) (hi:Lib.BytesIn w pb nb (gc.nums b)) (hnc:nb≤cb) (hM:M+b.size≤M') (hf:M'≤400000):
  Calls zf 13 #[ptr g,.int .i64 now,.slice pb nb cb] w λ e w'=>e=.returned (.int .i64 (Bd c now b))∧qx w g p cap q (Du c now b) M' w':=by
 unfold Bd Du
 have hm:=h.more (show M≤M' by omega) hf
 cases hs:c.shut with
 |true=>
  rw[if_pos (Or.inl rfl),if_pos (Or.inl rfl)]
  refine(Sp h now pb nb cb hs).mono ?_
  rintro e w' ⟨rfl,rfl⟩
  exact⟨rfl,qx.refl hm⟩
 |false=>
  by_cases h0:c.state=0
  ·rw[if_neg (by rw[h0];simp),if_neg (by rw[h0];simp)]
   exact Sq h h2 now hb hi hnc hM hf hs h0
  ·rw[if_pos (Or.inr h0),if_pos (Or.inr h0)]
   refine(TX h now pb nb cb hs h0).mono ?_
   rintro e w' ⟨rfl,rfl⟩
   exact⟨rfl,qx.refl hm⟩
def Dm (w:World) (g:Nat) (p:Option Addr) (cap:Nat) (q:List Nd) (c:Ch) (M:Nat) (T:ByteArray) (e:Ending) (w':World):Prop:=∃a d,e=.returned (.slice a T.size d)∧Lib.BytesIn w' a T.size (gc.nums T)∧T.size≤d∧d≤9223372036854775807∧qx w g p cap q c M w'
theorem Tz (h:CAt w g p cap q c M) (now most:Int) (hs:c.state=2):Calls zf 16 #[ptr g,.int .i64 now,.int .i64 most] w (Dm w g p cap q c M ⟨#[]⟩):=by
 have x2:w.cell? ⟨g,2,none⟩=some (.int .i64 c.state):=h.cell 2
 rw[hs]at x2
 have HE:=zd (show Dm w g p cap q c M ⟨#[]⟩ (.returned (.slice none 0 0)) w from⟨none,0,rfl,λ hn=>absurd hn (Nat.lt_irrefl 0),zg _,by decide,qx.refl h⟩)
 clear h hs
 go_enter func16,ntmps16
 go_wp2_with fail
 try rw[zl]
 go_ret
 exact HE.out
theorem Tx (h:CAt w g p cap q c M) (h2:2≤c.L.length) (now most:Int) (hs:c.state≠2) {T:ByteArray} (hT:(c.ql (c.L.length -1) (Ch.qH now most)).s=T):
  Calls zf 16 #[ptr g,.int .i64 now,.int .i64 most] w (Dm w g p cap q (c.onC (c.L.length -1) (Ch.qH now most)) M T):=by
 have x2:w.cell? ⟨g,2,none⟩=some (.int .i64 c.state):=h.cell 2
 have d1:decide (c.state=2)=false:=by simpa using hs
 have d2:(c.state==2)=false:=by simpa using hs
 generalize c.state=X at*
 have hk:c.L.length -1<c.L.length:=by omega
 have HZ:=zd (λ W (hb:Below w.heap.size w W)=>((h.on hb).Vc hk).1)
 have HO:=zd (T1 h h2)
 have HT:=zd (λ W (hb:Below w.heap.size w W)=>LW ((h.on hb).stg _ hk) now most (T:=T) hT)
 have HF:=zd (λ W W' e (hb:Below w.heap.size w W) (hg:Dl W (nd q (c.L.length -1)).U (nd q (c.L.length -1)).g (Zw (c.at' (c.L.length -1)).s now most).1 (nd q (c.L.length -1)).m T T.size e W')=>(show Dm w g p cap q (c.onC (c.L.length -1) (Ch.qH now most)) M T e W' from by
  obtain⟨a,d,he,hi,_,hd,hd9,hst⟩:=hg
  obtain⟨q9,h3,h4,h5⟩:=(h.on hb).Su hk hst.stp (by have e1:(Zw (c.at' (c.L.length -1)).s now most).1.S.size+(Zw (c.at' (c.L.length -1)).s now most).2.size=(c.at' (c.L.length -1)).s.S.size:=Ch.JU _ now most;omega)
  rw[Y3 _ _ _ (by show(2:Int)≠3;decide)]
  exact⟨a,d,he,hi,hd,hd9,q9,h3,((Mvd.refl w _).on hb).trans h4,h5⟩))
 generalize c.onC (c.L.length -1) (Ch.qH now most)=c1 at*
 clear h hT
 generalize(nd q (c.L.length -1)).p=pk at*
 generalize(nd q (c.L.length -1)).g=gk at*
 go_enter func16,ntmps16
 go_wp2_with fail
 refine HO.out.mono ?_
 rintro e w1 ⟨rfl,hb⟩
 have z0:=HZ.out w1 hb
 have HC:=zd (HT.out w1 hb)
 have HG:=zd (λ W' e=>HF.out w1 W' e hb)
 clear hb HZ HT HF HO x2
 go_wp2_with fail
 refine HC.out.mono ?_
 rintro e w2 hg
 have HR:=zd (HG.out _ _ hg)
 obtain⟨a,d,rfl,_⟩:=hg
 clear HG HC z0
 go_wp2_with fail
 try rw[zl]
 go_ret
 exact HR.out
theorem E9 (h:CAt w g p cap q c M) (h2:2≤c.L.length) (now:Int):Calls zf 27 #[ptr g,.int .i64 now] w λ e w'=>e=.returned (.tuple #[])∧qx w g p cap q (if c.state=0 then{c.onC 0 (Ch.qA now)with shut:=true}else c) M w':=by
 have x2:w.cell? ⟨g,2,none⟩=some (.int .i64 c.state):=h.cell 2
 by_cases h0:c.state=0
 ·rw[if_pos h0]
  rw[h0]at x2
  have x3:w.cell? ⟨g,3,none⟩=some (.bool c.shut):=h.cell 3
  have f3:w.frozen? ⟨g,3,none⟩=false:=h.frz 3
  have hk:0<c.L.length:=by omega
  have h1:CAt (w.setCell ⟨g,3,none⟩ (.bool true)) g p cap q {c with shut:=true} M:=h.set rfl rfl h.los
  have HI:=zd (NN h1 h2)
  have HP:=zd (KH (h1.part (k:=0) hk) now)
  have HF:=zd (λ e W (hs:Shut (w.setCell ⟨g,3,none⟩ (.bool true)) (nd q 0).p (nd q 0).g (nd q 0).U (qS (({c with shut:=true}:Ch).at' 0).s now) (nd q 0).m e W)=>(show qx w g p cap q {c.onC 0 (Ch.qA now)with shut:=true} M W from by
   obtain⟨q9,a1,a2,a3⟩:=h1.shut (k:=0) hk now hs
   exact⟨q9,a1,(QE w (Or.inl rfl) _ _).trans a2,a3⟩))
  clear h h1
  generalize(nd q 0).p=pk at*
  go_enter func27,ntmps27
  go_wp2_with fail
  generalize w.setCell ⟨g,3,none⟩ (.bool true)=w1 at*
  refine HI.out.mono ?_
  rintro e w2 ⟨rfl,rfl⟩
  go_wp2_with fail
  refine HP.out.mono ?_
  rintro e w2 hs
  have HE:=zd (HF.out _ _ hs)
  obtain⟨rfl,_⟩:=hs
  clear HF HP HI
  go_wp2_with fail
  go_end0
  exact⟨rfl,HE.out⟩
 ·rw[if_neg h0]
  have HE:=zd (qx.refl h)
  have d1:decide (c.state=0)=false:=by simpa using h0
  have d2:(c.state==0)=false:=by simpa using h0
  generalize c.state=X at*
  clear h
  go_enter func27,ntmps27
  go_wp2_with fail
  go_end0
  exact⟨rfl,HE.out⟩
end
end
section
open Go.RowKit
section
variable {w w':World} {g:Nat} {p:Option Addr} {cap:Nat} {q:List Nd} {c c':Ch} {M M':Nat}
abbrev Zg (t:Tox):Obj:=.cells #[.string t.s,.int .i64 t.k,.bool t.up,.int .i64 t.o,.int .i64 t.a,.int .i64 t.b] 35
theorem N4 (h:CAt w g p cap q c M) (h2:2≤c.L.length) (at':Int) (t:Tox) (now:Int) (hn:¬(0≤at'∧at'<(c.L.length:Int) -2)):
  Calls zf 30 #[ptr g,.int .i64 at',t.v,.int .i64 now] w λ e w'=>e=.returned (.int .i64 110)∧Below w.heap.size w w':=by
 have hal:Below w.heap.size w (w.alloc (Zg t)):=(zh _ _).alloc (zg _) _
 have HH:=zd (Kk (h.on hal) h2 at' (b:=false) (decide_eq_false hn))
 have HA:=zd hal
 unfold Zg at HH HA
 unfold Tox.v
 clear h hn hal
 go_enter func30,ntmps30
 go_wp2_with fail
 generalize w.alloc (.cells #[.string t.s,.int .i64 t.k,.bool t.up,.int .i64 t.o,.int .i64 t.a,.int .i64 t.b] 35)=W at*
 refine HH.out.mono ?_
 rintro e w2 ⟨rfl,rfl⟩
 go_wp2_with fail
 try rw[zl]
 go_ret
 exact⟨rfl,HA.out⟩
theorem MT (h:CAt w g p cap q c M) (h2:2≤c.L.length) (k:Nat) (t:Tox) (ht:t.s.size≤maxLen) (now:Int) (hk:k+2<c.L.length):
  Calls zf 30 #[ptr g,.int .i64 (k:Int),t.v,.int .i64 now] w λ e w'=>e=.returned (.int .i64 (Xg (c.at' (k+1)).s t now).2)∧qx w g p cap q (c.onC (k+1) (Ch.Ve now t)) M w':=by
 have h10:=h.ten
 have hal:Below w.heap.size w (w.alloc (Zg t)):=(zh _ _).alloc (zg _) _
 have hnew:=zo w (Zg t)
 have HH:=zd (Kk (h.on hal) h2 (k:Int) (b:=true) (by simp only[decide_eq_true_eq];omega))
 have hk1:k+1<c.L.length:=by omega
 have h1:=h.on hal
 obtain⟨b,o,rfl,hr,hnc,hmx⟩:=h1.rows (by omega)
 have x0:(w.alloc (Zg t)).cell? ⟨g,0,none⟩=some (.slice (some ⟨b,o,none⟩) c.L.length cap):=h1.cell 0
 have y0:=hr (k+1) hk1
 have z0:=(h1.Vc hk1).1
 have HU:=zd (LM ((h1.on (zh _ _).drew).stg (k+1) hk1) t ht now)
 have HF:=zd (λ W (hs:Stp (w.alloc (Zg t)).drew (nd q (k+1)).U (nd q (k+1)).g (Xg (c.at' (k+1)).s t now).1 (nd q (k+1)).m W)=>(show qx w g (some ⟨b,o,none⟩) cap q (c.onC (k+1) (Ch.Ve now t)) M W from by
  have a0:=(h1.on (zh _ _).drew).Su hk1 hs (by rw[Dp];exact zg _)
  rw[Y3 _ _ _ (by show(5:Int)≠3;decide)]
  obtain⟨q9,a1,a2,a3⟩:=a0
  exact⟨q9,a1,(((Mvd.refl w _).on hal).on (zh _ _).drew).trans a2,a3⟩))
 have hti:((k:Int)+1).toNat=k+1:=by omega
 have hk10:k≤10:=by omega
 have hi0:(0:Int)≤(k:Int)+1:=by omega
 have hi1:(k:Int)+1<(c.L.length:Int):=by omega
 have hiw:IntKind.i64.wrap ((k:Int)+1)=(k:Int)+1:=qs (by omega) (by omega)
 generalize(Xg (c.at' (k+1)).s t now).2=V at*
 generalize(nd q (k+1)).p=pk at*
 generalize hn:c.L.length=n at x0 hnc h2 hk hk1 HH h10 hi1
 unfold Zg at*
 unfold Tox.v at*
 clear h hal h1 hr hn
 go_enter func30,ntmps30
 go_wp2_with fail
 have u0:=ze _ w.heap.size 0 _ _ _ hnew
 have u1:=ze _ w.heap.size 1 _ _ _ hnew
 have u2:=ze _ w.heap.size 2 _ _ _ hnew
 have u3:=ze _ w.heap.size 3 _ _ _ hnew
 have u4:=ze _ w.heap.size 4 _ _ _ hnew
 have u5:=ze _ w.heap.size 5 _ _ _ hnew
 clear hnew
 generalize w.alloc (.cells #[.string t.s,.int .i64 t.k,.bool t.up,.int .i64 t.o,.int .i64 t.a,.int .i64 t.b] 35)=W at*
 generalize w.heap.size=tb at*
 refine HH.out.mono ?_
 rintro e w2 ⟨rfl,rfl⟩
 go_wp2_with fail
 go_region_law
  (go_simp;go_at_call 65;refine zr HU.out ?_;rintro e w7 ⟨rfl,hs⟩;(have HF7:=zd (HF.out w7 hs));clear hs)
 all_goals go_wp2_with fail
 all_goals try rw[zl]
 all_goals go_ret
 all_goals exact⟨rfl,HF7.out⟩
end
end
end Go.Proofs.YtfdfgnmgpgkknaaGreat
