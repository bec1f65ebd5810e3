import Derived.Test.YtfdfgnmgpgkknaaGreatMG24
import Derived.Deep.RegionLaw
import Derived.Deep.RegionHeldLaw
set_option maxRecDepth 100000
set_option maxHeartbeats 8000000
open Nat renaming le_refl→zg,lt_of_lt_of_le→zy,le_trans→zt
open List renaming getD_eq_getElem?_getD→zi,getElem?_eq_getElem→zj,length_take→zw
open Go.RowKit.Below renaming refl→zh,heap_setCell→zn
open Go.Proofs.Tryz renaming prog→zf
open Go renaming heap_alloc_new→zo,cell_of_row→ze,bodyPost_ret→zk
open Go.Exit renaming noGoto_ret→zl
open Go.Lib renaming hid→zd
open Go.Calls renaming mono→zr
open Go.Proofs.Tryz
namespace Go.Proofs.YtfdfgnmgpgkknaaGreat
section
open Go.RowKit
namespace Ch
section
variable {c:Ch}
end
end Ch
open Go.RowKit
def XS (s:St):Prop:=s.st=0∨s.st=1∨(s.st=2∧s.tx.k=5)
theorem Kh {s:St} (h:XS s) (now:Int):XS (qc s now)∧(qc s now).tx.k=s.tx.k:=by
 refine⟨?_,rfl⟩
 show XA s (qM s.clock now)=0∨XA s (qM s.clock now)=1∨(XA s (qM s.clock now)=2∧s.tx.k=5)
 unfold XA
 split
 ·exact h
 ·split
  ·rename_i h5
   exact Or.inr (Or.inr ⟨rfl,h5.1⟩)
  ·(repeat' split)<;>first|exact Or.inl rfl|exact Or.inr (Or.inl rfl)
theorem jn (s:St) (b:ByteArray):(qG s b).tx=s.tx∧(qG s b).st=s.st:=by
 unfold qG
 split
 ·exact⟨rfl,rfl⟩
 ·split<;>exact⟨rfl,rfl⟩
theorem Ta {s s':St} (h:XS s) (e:s'.tx.k=s.tx.k∧s'.st=s.st):XS s'∧s'.tx.k=s.tx.k:=⟨by unfold XS;rw[e.1,e.2];exact h,e.1⟩
theorem EL {s:St} (h:XS s) (o:Op):XS (doS s o).1∧(doS s o).1.tx.k=s.tx.k:=by
 have hl:=Kh h o.now
 unfold doS
 by_cases k0:o.kind=0
 ·rw[if_pos k0]
  show XS (qU s o.now o.s).1∧(qU s o.now o.s).1.tx.k=s.tx.k
  unfold qU
  dsimp only
  split
  ·exact hl
  ·have hf:=jn (qc s o.now) (o.s.extract 0 (if Zt (qc s o.now)<(o.s.size:Int)then Zt (qc s o.now)else(o.s.size:Int)).toNat)
   have:=Ta hl.1 (s':=qG (qc s o.now) (o.s.extract 0 (if Zt (qc s o.now)<(o.s.size:Int)then Zt (qc s o.now)else(o.s.size:Int)).toNat)) ⟨by rw[hf.1],hf.2⟩
   exact⟨this.1,this.2.trans hl.2⟩
 rw[if_neg k0]
 by_cases k1:o.kind=1
 ·rw[if_pos k1]
  show XS (Zy s o.now o.s)∧(Zy s o.now o.s).tx.k=s.tx.k
  unfold Zy
  dsimp only
  split
  ·exact hl
  ·have hf:=jn (qc s o.now) o.s
   have:=Ta hl.1 (s':=qG (qc s o.now) o.s) ⟨by rw[hf.1],hf.2⟩
   exact⟨this.1,this.2.trans hl.2⟩
 rw[if_neg k1]
 by_cases k2:o.kind=2
 ·rw[if_pos k2]
  show XS (Zw s o.now o.n).1∧(Zw s o.now o.n).1.tx.k=s.tx.k
  unfold Zw
  dsimp only
  split
  ·exact hl
  ·generalize qc s o.now=s1 at*
   have hg:=Ch.QH s1 (if o.n<((gc.qn s1.A s1.clock:Nat):Int)then o.n else((gc.qn s1.A s1.clock:Nat):Int))
   have:=Ta hl.1 (s':=VR (qC s1 (if o.n<((gc.qn s1.A s1.clock:Nat):Int)then o.n else((gc.qn s1.A s1.clock:Nat):Int))).1 (gc.Zz s1.A s1.clock (qC s1 (if o.n<((gc.qn s1.A s1.clock:Nat):Int)then o.n else((gc.qn s1.A s1.clock:Nat):Int))).2)) ⟨by show(qC s1 _).1.tx.k=_;rw[hg.2.1],hg.1⟩
   exact⟨this.1,this.2.trans hl.2⟩
 rw[if_neg k2]
 by_cases k3:o.kind=3
 ·rw[if_pos k3]
  show XS (qS s o.now)∧(qS s o.now).tx.k=s.tx.k
  unfold qS
  split<;>exact⟨h,rfl⟩
 rw[if_neg k3]
 by_cases k4:o.kind=4
 ·rw[if_pos k4]
  exact hl
 rw[if_neg k4]
 by_cases k5:o.kind=5
 ·rw[if_pos k5]
  show XS (Xg s o.t o.now).1∧(Xg s o.t o.now).1.tx.k=s.tx.k
  unfold Xg
  split
  ·exact⟨h,rfl⟩
  ·rename_i e
   split
   ·exact⟨h,rfl⟩
   ·split
    ·exact⟨h,rfl⟩
    ·refine⟨?_,?_⟩
     ·rcases hl.1 with e1|e1|e1
      ·exact Or.inl e1
      ·exact Or.inr (Or.inl e1)
      ·refine Or.inr (Or.inr ⟨e1.1,?_⟩)
       show o.t.k=5
       have:=e1.2
       omega
     ·show o.t.k=s.tx.k
      omega
 rw[if_neg k5]
 by_cases k6:o.kind=6
 ·rw[if_pos k6]
  exact⟨h,rfl⟩
 rw[if_neg k6]
 exact⟨h,rfl⟩
theorem je (t:Tox) (seed room now:Int):XS (Zh t seed room now):=Or.inl rfl
namespace Ch
structure Ends (c:Ch):Prop where
 ok:∀k,k<c.L.length→XS (c.at' k).s
 out:(c.at' (c.L.length -1)).s.tx.k=0
theorem Ends.same {c c':Ch} (h:Ends c) (e:c'.L=c.L):Ends c':=by
 have ha:∀k,c'.at' k=c.at' k:=λ k=>by unfold at';rw[e]
 exact⟨λ k hk=>by rw[ha];exact h.ok k (by rwa[e]at hk),by rw[ha,e];exact h.out⟩
section
variable {c:Ch}
theorem Ends.on (h:Ends c) (k:Nat) (hk:k<c.L.length) (o:Op):Ends (c.onC k o):=by
 have h1:=EL (h.ok k hk) o
 refine⟨λ j hj=>?_,?_⟩
 ·rw[qk]at hj
  by_cases e:k=j
  ·subst e
   rw[XB _ _ _ hk]
   exact h1.1
  ·rw[Zd _ _ _ _ e]
   exact h.ok j hj
 ·rw[qk]
  by_cases e:k=c.L.length -1
  ·subst e
   rw[XB _ _ _ hk]
   exact h1.2.trans h.out
  ·rw[Zd _ _ _ _ e]
   exact h.out
theorem Ends.qg (h:Ends c) (n:Nat) (hn:n≤c.L.length):Ends (c.qg n):=by
 induction n with
 |zero=>exact h
 |succ n ih=>exact((ih (by omega)).on n (by rw[ZH];omega) qv).same rfl
theorem Ends.Za (h:Ends c) (n:Nat) (hn:n≤c.L.length):Ends (c.Za n):=(h.qg n hn).same rfl
theorem Ends.break (h:Ends c):Ends c.qX:=by
 unfold qX
 split
 ·exact h
 ·exact(h.Za _ (zg _)).same rfl
theorem Ends.looks (h:Ends c) (now:Int) (n:Nat) (hn:n≤c.L.length):Ends (c.looks now n):=by
 induction n with
 |zero=>exact h
 |succ n ih=>exact(ih (by omega)).on n (by rw[qy];omega) _
theorem Ends.ZI (h:Ends c) (now:Int) (i:Nat) (hi:i+1<c.L.length):Ends (c.ZI now i):=by
 unfold Ch.ZI
 dsimp only
 split
 ·exact((h.on (i+1) hi _).on i (by rw[qk];omega) _).on (i+1) (by rw[qk,qk];exact hi) _
 ·exact h.on (i+1) hi _
theorem Ends.Xf (h:Ends c) (now:Int) (n:Nat) (hn:n<c.L.length):Ends (c.Xf now n):=by
 induction n with
 |zero=>exact h
 |succ n ih=>exact(ih (by omega)).ZI now n (by rw[ZS];exact hn)
theorem Ends.Xd (h:Ends c) (now:Int) (i:Nat) (hi:i+1<c.L.length):Ends (c.Xd now i):=by
 unfold Ch.Xd
 dsimp only
 split
 ·exact((h.on i (by omega) _).Za (i+1) (by rw[qk];omega)).on (i+1) (by rw[ZL,qk];exact hi) _
 ·exact h.on i (by omega) _
theorem Ends.ends (h:Ends c) (now:Int) (n:Nat) (hn:n<c.L.length):Ends (c.ends now n):=by
 induction n with
 |zero=>exact h
 |succ n ih=>exact(ih (by omega)).Xd now n (by rw[XV];exact hn)
theorem VO (c:Ch) (now:Int):(c.Zi now).L.length=c.L.length:=by unfold Zi;rw[XV,ZS,qy]
theorem Ends.Zi (h:Ends c) (now:Int) (h2:2≤c.L.length):Ends (c.Zi now):=by
 have h1:=(h.looks now c.L.length (zg _)).Xf now (c.L.length -1) (by rw[qy];omega)
 exact h1.ends now (c.L.length -1) (by rw[ZS,qy];omega)
theorem Ends.OZ (h:Ends c) (now:Int) (h2:2≤c.L.length):(c.ql (c.L.length -1) (qh now)).n=0∨(c.ql (c.L.length -1) (qh now)).n=1:=by
 have h1:=Kh (h.ok (c.L.length -1) (by omega)) now
 rcases h1.1 with e|e|e
 ·exact Or.inl e
 ·exact Or.inr e
 ·have:=e.2
  rw[h1.2,h.out]at this
  omega
theorem Ends.step (h:Ends c) (now:Int) (h2:2≤c.L.length):Ends (c.ZA now):=by
 unfold ZA
 split
 ·exact h
 ·split
  ·exact(h.looks now _ (zg _)).break
  ·exact((h.Zi now h2).on (c.L.length -1) (by rw[VO];omega) _).same rfl
theorem Ends.ins (h:Ends c) (k:Nat) (t:Tox) (seed now:Int) (hk:k+2≤c.L.length):Ends (c.X9 k t seed now):=by
 have hp:Ends ({c with L:=Zb c.L k ⟨Zh t seed c.room now,false⟩}:Ch):=by
  have g1:∀j,j≤k→({c with L:=Zb c.L k ⟨Zh t seed c.room now,false⟩}:Ch).at' j=c.at' j:=λ j hj=>Yo _ _ _ _ (by omega) hj
  have g2:({c with L:=Zb c.L k ⟨Zh t seed c.room now,false⟩}:Ch).at' (k+1)=⟨Zh t seed c.room now,false⟩:=Yp _ _ _ (by omega)
  have g3:∀j,k+1≤j→({c with L:=Zb c.L k ⟨Zh t seed c.room now,false⟩}:Ch).at' (j+1)=c.at' j:=λ j hj=>JX _ _ _ _ (by omega) hj
  have gl:({c with L:=Zb c.L k ⟨Zh t seed c.room now,false⟩}:Ch).L.length=c.L.length+1:=Xb _ _ _ (by omega)
  generalize({c with L:=Zb c.L k ⟨Zh t seed c.room now,false⟩}:Ch)=d at*
  refine⟨λ i hi=>?_,?_⟩
  ·rcases Nat.lt_trichotomy i (k+1)with e|rfl|e
   ·rw[g1 i (by omega)];exact h.ok i (by omega)
   ·rw[g2];exact je t _ _ _
   ·obtain⟨j,rfl⟩:∃j,i=j+1:=⟨i -1,by omega⟩
    rw[g3 j (by omega)];exact h.ok j (by omega)
  ·rw[gl,show c.L.length+1 -1=(c.L.length -1)+1 by omega,g3 _ (by omega)]
   exact h.out
 have hl:({c with L:=Zb c.L k ⟨Zh t seed c.room now,false⟩}:Ch).L.length=c.L.length+1:=Xb _ _ _ (by omega)
 unfold X9
 dsimp only
 split
 ·exact hp.on (k+1) (by show k+1<(Zb c.L k _).length;rw[Xb _ _ _ (by omega)];omega) _
 ·exact hp
theorem Ends.rem (h:Ends c) (k:Nat) (now:Int) (hk:k+3≤c.L.length):Ends (c.ZW k now):=by
 have hl:=Xm c k hk
 have h1:Ends (c.qK k):=by
  refine⟨λ i hi=>?_,?_⟩
  ·by_cases e:i≤k
   ·show XS ((ZO c.L k).getD i Zp).s
    rw[Vp _ _ _ (by omega) e]
    exact h.ok i (by omega)
   ·show XS ((ZO c.L k).getD i Zp).s
    rw[Ya _ _ _ (by omega) (by omega)]
    exact h.ok (i+1) (by omega)
  ·show((ZO c.L k).getD ((c.qK k).L.length -1) Zp).s.tx.k=0
   rw[Ya _ _ _ (by omega) (by omega),show(c.qK k).L.length -1+1=c.L.length -1 by omega]
   exact h.out
 have h2:Ends (c.XJ k now):=h1.on (k+1) (by omega) _
 have hl2:(c.XJ k now).L.length=(c.qK k).L.length:=qk _ _ _
 have h3:Ends (c.Xe k now)∧(c.Xe k now).L.length=(c.qK k).L.length:=by
  unfold Xe
  split
  ·refine⟨(h2.same (c':={c.XJ k now with lost:=c.lost+c.gone k now}) rfl).Za (k+1) (by show k+1≤(c.XJ k now).L.length;omega),?_⟩
   rw[ZL]
   exact hl2
  ·exact⟨h2,hl2⟩
 unfold ZW
 split
 ·exact h3.1.on (k+1) (by omega) _
 ·exact h3.1
theorem Ends.doN (h:Ends c) (o:COp) (h2:2≤c.L.length):Ends (c.doN o):=by
 unfold Ch.doN
 split
 ·split
  ·exact h
  ·exact h.on 0 (by omega) _
 split
 ·split
  ·exact(h.on 0 (by omega) _).same rfl
  ·exact h
 split
 ·exact h.break
 split
 ·exact h.step o.now h2
 split
 ·split
  ·exact h
  ·exact h.on (c.L.length -1) (by omega) _
 split
 ·split
  ·exact h
  ·rename_i he
   have hb:¬(o.n<0∨(c.L.length:Int) -2<o.n∨8≤(c.L.length:Int) -2):=λ hb=>he (by unfold JN;rw[if_pos hb];decide)
   exact h.ins _ _ _ _ (by omega)
 split
 ·split
  ·exact h.rem _ _ (by omega)
  ·exact h
 split
 ·split
  ·exact h.on _ (by omega) _
  ·exact h
 ·exact h
theorem Ends.new (room now:Int):Ends (Vf room now):=by
 refine⟨λ k hk=>?_,rfl⟩
 have hk:k<2:=hk
 match k,hk with
 |0,_=>exact je qi 0 room now
 |1,_=>exact je qi 0 room now
end
end Ch
open Go.RowKit
structure LikeP (p' p:Prt):Prop where
 closed:p'.closed=p.closed
 tx:p'.s.tx=p.s.tx
 z':p'.s.S.size=0
 z:p.s.S.size=0
namespace Ch
structure Brk (c' c:Ch):Prop where
 st':c'.state=2
 st:c.state=2
 room:c'.room=c.room
 lost:c'.lost=c.lost
 shut:c'.shut=c.shut
 len:c'.L.length=c.L.length
 ok:∀k,k<c.L.length→LikeP (c'.at' k) (c.at' k)
def JH (c' c:Ch):Prop:=c'=c∨Brk c' c
theorem VN (c:Ch):JH c c:=Or.inl rfl
section
variable {c' c:Ch}
theorem Brk.on (h:Brk c' c) (k:Nat) (hk:k<c.L.length) (o' o:Op) (_ho:o'.kind=o.kind) (h1:LikeP ⟨(doS (c'.at' k).s o').1,(c'.at' k).closed||o'.kind==3⟩ ⟨(doS (c.at' k).s o).1,(c.at' k).closed||o.kind==3⟩):Brk (c'.onC k o') (c.onC k o):=by
 refine⟨h.st',h.st,h.room,h.lost,h.shut,by rw[qk,qk];exact h.len,λ j hj=>?_⟩
 rw[qk]at hj
 by_cases e:k=j
 ·subst e
  rw[XB _ _ _ hk,XB _ _ _ (by rw[h.len];exact hk)]
  exact h1
 ·rw[Zd _ _ _ _ e,Zd _ _ _ _ e]
  exact h.ok j hj
theorem MJ (s:St) (now:Int):(qS s now).tx=s.tx:=by unfold qS;split<;>rfl
theorem Nt (s:St) (now:Int) (b:ByteArray):(Zy s now b).tx=s.tx:=by
 unfold Zy
 dsimp only
 split
 ·rfl
 ·exact(jn _ _).1
theorem Brk.close (h:Brk c' c) (k:Nat) (hk:k<c.L.length) (now:Int):Brk (c'.onC k (qA now)) (c.onC k (qA now)):=by
 have hp:=h.ok k hk
 refine h.on k hk _ _ rfl ⟨?_,?_,?_,?_⟩
 ·show((c'.at' k).closed||true)=((c.at' k).closed||true)
  rw[Bool.or_true,Bool.or_true]
 ·show(qS _ _).tx=(qS _ _).tx
  rw[MJ,MJ]
  exact hp.tx
 ·show(qS _ _).S.size=0
  rw[UJ]
  exact hp.z'
 ·show(qS _ _).S.size=0
  rw[UJ]
  exact hp.z
theorem Brk.drain (h:Brk c' c) (k:Nat) (hk:k<c.L.length):Brk (c'.onC k qv) (c.onC k qv):=by
 have hp:=h.ok k hk
 refine h.on k hk _ _ rfl ⟨?_,hp.tx,rfl,rfl⟩
 show((c'.at' k).closed||false)=((c.at' k).closed||false)
 rw[hp.closed]
theorem Brk.push (h:Brk c' c) (k:Nat) (hk:k<c.L.length) (now:Int) (b' b:ByteArray) (hb':b'.size=0) (hb:b.size=0):Brk (c'.onC k (qJ now b')) (c.onC k (qJ now b)):=by
 have hp:=h.ok k hk
 refine h.on k hk _ _ rfl ⟨?_,?_,?_,?_⟩
 ·show((c'.at' k).closed||false)=((c.at' k).closed||false)
  rw[hp.closed]
 ·show(Zy _ _ _).tx=(Zy _ _ _).tx
  rw[Nt,Nt]
  exact hp.tx
 ·rw[Jc,hp.z',hb']
  split<;>rfl
 ·rw[Jc,hp.z,hb]
  split<;>rfl
theorem LN (s s':St) (t:Tox) (now:Int) (e:s'.tx=s.tx):(Xg s' t now).1.tx=(Xg s t now).1.tx∧(Xg s' t now).2=(Xg s t now).2:=by
 unfold Xg
 rw[e]
 split
 ·exact⟨e,rfl⟩
 ·split
  ·exact⟨e,rfl⟩
  ·split
   ·exact⟨e,rfl⟩
   ·exact⟨rfl,rfl⟩
theorem Brk.upd (h:Brk c' c) (k:Nat) (hk:k<c.L.length) (now:Int) (t:Tox):Brk (c'.onC k (Ve now t)) (c.onC k (Ve now t)):=by
 have hp:=h.ok k hk
 refine h.on k hk _ _ rfl ⟨?_,(LN _ _ t now hp.tx).1,?_,?_⟩
 ·show((c'.at' k).closed||false)=((c.at' k).closed||false)
  rw[hp.closed]
 ·rw[QP]
  exact hp.z'
 ·rw[QP]
  exact hp.z
theorem Brk.qg (h:Brk c' c) (n:Nat) (hn:n≤c.L.length):Brk (c'.qg n) (c.qg n):=by
 induction n with
 |zero=>exact h
 |succ n ih=>
  have h1:=ih (by omega)
  have hk:n<(c.qg n).L.length:=by rw[ZH];omega
  have hp:=h1.ok n hk
  have h2:=h1.drain n hk
  refine⟨h2.st',h2.st,h2.room,?_,h2.shut,h2.len,h2.ok⟩
  show(c'.qg n).lost+(((c'.qg n).at' n).s.S.size:Nat)=(c.qg n).lost+(((c.qg n).at' n).s.S.size:Nat)
  rw[h1.lost,hp.z,hp.z']
theorem Brk.Za (h:Brk c' c) (n:Nat) (hn:n≤c.L.length):Brk (c'.Za n) (c.Za n):=by
 have h1:=h.qg n hn
 exact⟨h1.st',h1.st,h1.room,h1.lost,rfl,h1.len,h1.ok⟩
theorem Brk.break (h:Brk c' c):Brk c'.qX c.qX:=by
 unfold qX
 rw[if_neg (by rw[h.st'];decide),if_neg (by rw[h.st];decide),h.len]
 have h1:=h.Za c.L.length (zg _)
 exact⟨rfl,rfl,h1.room,h1.lost,h1.shut,h1.len,h1.ok⟩
theorem Brk.list {l' l:List Prt} (h:Brk c' c) (hl:l'.length=l.length) (ho:∀k,k<l.length→LikeP (l'.getD k Zp) (l.getD k Zp)):Brk {c' with L:=l'} {c with L:=l}:=⟨h.st',h.st,h.room,h.lost,h.shut,hl,ho⟩
theorem Brk.ins (h:Brk c' c) (k:Nat) (t:Tox) (seed now:Int) (hk:k+2≤c.L.length):Brk (c'.X9 k t seed now) (c.X9 k t seed now):=by
 have hk':k+2≤c'.L.length:=by rw[h.len];exact hk
 have h1:Brk {c' with L:=Zb c'.L k ⟨Zh t seed c'.room now,false⟩} {c with L:=Zb c.L k ⟨Zh t seed c.room now,false⟩}:=by
  refine h.list (by rw[Xb _ _ _ (by omega),Xb _ _ _ (by omega),h.len]) λ i hi=>?_
  rw[Xb _ _ _ (by omega)]at hi
  rcases Nat.lt_trichotomy i (k+1)with e|rfl|e
  ·rw[Yo _ _ _ _ (by omega) (by omega),Yo _ _ _ _ (by omega) (by omega)]
   exact h.ok i (by omega)
  ·rw[Yp _ _ _ (by omega),Yp _ _ _ (by omega)]
   exact⟨rfl,rfl,rfl,rfl⟩
  ·obtain⟨j,rfl⟩:∃j,i=j+1:=⟨i -1,by omega⟩
   rw[JX _ _ _ _ (by omega) (by omega),JX _ _ _ _ (by omega) (by omega)]
   exact h.ok j (by omega)
 have hl:(Zb c.L k (⟨Zh t seed c.room now,false⟩:Prt)).length=c.L.length+1:=Xb _ _ _ (by omega)
 have hc:(({c' with L:=Zb c'.L k ⟨Zh t seed c'.room now,false⟩}:Ch).at' (k+2)).closed=(({c with L:=Zb c.L k ⟨Zh t seed c.room now,false⟩}:Ch).at' (k+2)).closed:=(h1.ok (k+2) (by show k+2<(Zb c.L k _).length;omega)).closed
 have e':c'.X9 k t seed now=if(({c' with L:=Zb c'.L k ⟨Zh t seed c'.room now,false⟩}:Ch).at' (k+2)).closed=true then({c' with L:=Zb c'.L k ⟨Zh t seed c'.room now,false⟩}:Ch).onC (k+1) (qA now)else{c' with L:=Zb c'.L k ⟨Zh t seed c'.room now,false⟩}:=rfl
 have e:c.X9 k t seed now=if(({c with L:=Zb c.L k ⟨Zh t seed c.room now,false⟩}:Ch).at' (k+2)).closed=true then({c with L:=Zb c.L k ⟨Zh t seed c.room now,false⟩}:Ch).onC (k+1) (qA now)else{c with L:=Zb c.L k ⟨Zh t seed c.room now,false⟩}:=rfl
 rw[e',e,hc]
 split
 ·exact h1.close (k+1) (by show k+1<(Zb c.L k _).length;omega) now
 ·exact h1
theorem Qe {c:Ch} (k:Nat) (now:Int) (hk:k+3≤c.L.length) (h0:(c.at' (k+1)).s.S.size=0):c.gone k now=0:=by
 have hl:=Xm c k hk
 have hp:=Jc ((c.qK k).at' (k+1)).s now (c.at' (k+1)).s.S
 have h1:((c.XJ k now).at' (k+1)).s.S.size=((c.qK k).at' (k+1)).s.S.size:=by
  unfold XJ
  rw[XB _ _ _ (by omega)]
  show(doS _ _).1.S.size=_
  rw[hp,h0]
  split<;>rfl
 unfold gone
 rw[h0,h1]
 omega
theorem Brk.rem (h:Brk c' c) (k:Nat) (now:Int) (hk:k+3≤c.L.length):Brk (c'.ZW k now) (c.ZW k now):=by
 have hk':k+3≤c'.L.length:=by rw[h.len];exact hk
 have hp:=h.ok (k+1) (by omega)
 have hl:=Xm c k hk
 have h1:Brk (c'.qK k) (c.qK k):=by
  have hl':=Xm c' k hk'
  refine h.list (by have:=h.len;show(c'.qK k).L.length=(c.qK k).L.length;omega) λ i hi=>?_
  have hi:i<(c.qK k).L.length:=hi
  show LikeP ((ZO c'.L k).getD i Zp) ((ZO c.L k).getD i Zp)
  by_cases e:i≤k
  ·rw[Vp _ _ _ (by omega) e,Vp _ _ _ (by omega) e]
   exact h.ok i (by omega)
  ·rw[Ya _ _ _ (by omega) (by omega),Ya _ _ _ (by omega) (by omega)]
   exact h.ok (i+1) (by omega)
 have h2:Brk (c'.XJ k now) (c.XJ k now):=h1.push (k+1) (by omega) now _ _ hp.z' hp.z
 have e3':c'.Xe k now=c'.XJ k now:=by unfold Xe;rw[Qe k now hk' hp.z',if_neg (by decide)]
 have e3:c.Xe k now=c.XJ k now:=by unfold Xe;rw[Qe k now hk hp.z,if_neg (by decide)]
 have hl2:(c.XJ k now).L.length=(c.qK k).L.length:=qk _ _ _
 unfold ZW
 rw[e3',e3,hp.closed]
 split
 ·exact h2.close (k+1) (by omega) now
 ·exact h2
theorem BJ (h:Brk c' c) (o:COp) (h2:2≤c.L.length):Brk (c'.doN o) (c.doN o)∧c'.doA o=c.doA o:=by
 have hs':c'.state≠0:=by rw[h.st'];decide
 have hs:c.state≠0:=by rw[h.st];decide
 have hE:c'.JN o.n o.t=c.JN o.n o.t:=by unfold JN;rw[h.len,h.room]
 unfold doN doA
 by_cases k0:o.kind=0
 ·rw[if_pos k0,if_pos k0,if_pos k0,if_pos k0,if_pos (Or.inr hs'),if_pos (Or.inr hs),if_pos (Or.inr hs'),if_pos (Or.inr hs)]
  exact⟨h,rfl⟩
 rw[if_neg k0,if_neg k0,if_neg k0,if_neg k0]
 by_cases k1:o.kind=1
 ·rw[if_pos k1,if_pos k1,if_pos k1,if_pos k1,if_neg hs',if_neg hs]
  exact⟨h,rfl⟩
 rw[if_neg k1,if_neg k1,if_neg k1,if_neg k1]
 by_cases k2:o.kind=2
 ·rw[if_pos k2,if_pos k2,if_pos k2,if_pos k2]
  exact⟨h.break,rfl⟩
 rw[if_neg k2,if_neg k2,if_neg k2,if_neg k2]
 by_cases k3:o.kind=3
 ·rw[if_pos k3,if_pos k3,if_pos k3,if_pos k3]
  unfold ZA
  rw[if_pos hs',if_pos hs,h.st',h.st]
  exact⟨h,rfl⟩
 rw[if_neg k3,if_neg k3,if_neg k3,if_neg k3]
 by_cases k4:o.kind=4
 ·rw[if_pos k4,if_pos k4,if_pos k4,if_pos k4,if_pos h.st',if_pos h.st,if_pos h.st',if_pos h.st]
  exact⟨h,rfl⟩
 rw[if_neg k4,if_neg k4,if_neg k4,if_neg k4]
 by_cases k5:o.kind=5
 ·rw[if_pos k5,if_pos k5,if_pos k5,if_pos k5,hE]
  refine⟨?_,rfl⟩
  split
  ·exact h
  ·rename_i he
   have hb:¬(o.n<0∨(c.L.length:Int) -2<o.n∨8≤(c.L.length:Int) -2):=λ hb=>he (by unfold JN;rw[if_pos hb];decide)
   exact h.ins _ _ _ _ (by omega)
 rw[if_neg k5,if_neg k5,if_neg k5,if_neg k5]
 by_cases k6:o.kind=6
 ·rw[if_pos k6,if_pos k6,if_pos k6,if_pos k6,h.len]
  refine⟨?_,rfl⟩
  split
  ·exact h.rem _ _ (by omega)
  ·exact h
 rw[if_neg k6,if_neg k6,if_neg k6,if_neg k6]
 by_cases k7:o.kind=7
 ·rw[if_pos k7,if_pos k7,if_pos k7,if_pos k7,h.len]
  by_cases hn:0≤o.n∧o.n<(c.L.length:Int) -2
  ·rw[if_pos hn,if_pos hn,if_pos hn,if_pos hn]
   have hk:o.n.toNat+1<c.L.length:=by omega
   refine⟨h.upd _ hk o.now o.t,?_⟩
   show(⟨0,⟨#[]⟩,(Xg (c'.at' (o.n.toNat+1)).s o.t o.now).2⟩:Ans)=⟨0,⟨#[]⟩,(Xg (c.at' (o.n.toNat+1)).s o.t o.now).2⟩
   rw[(LN _ _ o.t o.now (h.ok _ hk).tx).2]
  ·rw[if_neg hn,if_neg hn,if_neg hn,if_neg hn]
   exact⟨h,rfl⟩
 rw[if_neg k7,if_neg k7,if_neg k7,if_neg k7]
 exact⟨h,rfl⟩
theorem Brk.held (h:Brk c' c):c'.held=0∧c.held=0:=
 ⟨QQ _ λ i hi=>(h.ok i (by rw[←h.len];exact hi)).z',QQ _ λ i hi=>(h.ok i hi).z⟩
theorem JH.held (h:JH c' c):c'.held=c.held:=by
 rcases h with rfl|h
 ·rfl
 ·rw[h.held.1,h.held.2]
theorem JH.state (h:JH c' c):c'.state=c.state:=by
 rcases h with rfl|h
 ·rfl
 ·rw[h.st,h.st']
theorem JH.lost (h:JH c' c):c'.lost=c.lost:=by
 rcases h with rfl|h
 ·rfl
 ·exact h.lost
theorem JH.len (h:JH c' c):c'.L.length=c.L.length:=by
 rcases h with rfl|h
 ·rfl
 ·exact h.len
theorem JH.tx (h:JH c' c) (k:Nat) (hk:k<c.L.length):(c'.at' k).s.tx=(c.at' k).s.tx:=by
 rcases h with rfl|h
 ·rfl
 ·exact(h.ok k hk).tx
end
theorem Y4 (c:Ch) (now:Int) (n:Nat) (hn:n≤c.L.length) (k:Nat) (hk:k<c.L.length):((c.looks now n).at' k).closed=(c.at' k).closed∧((c.looks now n).at' k).s.tx=(c.at' k).s.tx∧((c.looks now n).at' k).s.S=(c.at' k).s.S:=by
 induction n with
 |zero=>exact⟨rfl,rfl,rfl⟩
 |succ n ih=>
  have h1:=ih (by omega)
  show(((c.looks now n).onC n (qh now)).at' k).closed=_∧(((c.looks now n).onC n (qh now)).at' k).s.tx=_∧(((c.looks now n).onC n (qh now)).at' k).s.S=_
  by_cases e:n=k
  ·subst e
   rw[XB _ _ _ (by rw[qy];omega)]
   refine⟨?_,h1.2.1,h1.2.2⟩
   show(((c.looks now n).at' n).closed||false)=_
   rw[Bool.or_false]
   exact h1.1
  ·rw[Zd _ _ _ _ e]
   exact h1
theorem Yc (c:Ch) (now:Int) (n:Nat):(c.looks now n).room=c.room∧(c.looks now n).shut=c.shut∧(c.looks now n).state=c.state:=by
 induction n with
 |zero=>exact⟨rfl,rfl,rfl⟩
 |succ n ih=>exact ih
theorem U8 (c:Ch) (n:Nat) (hn:n≤c.L.length) (k:Nat) (hk:k<c.L.length):((c.qg n).at' k).closed=(c.at' k).closed∧((c.qg n).at' k).s.tx=(c.at' k).s.tx:=by
 induction n with
 |zero=>exact⟨rfl,rfl⟩
 |succ n ih=>
  have h1:=ih (by omega)
  show(((c.qg n).onC n qv).at' k).closed=_∧(((c.qg n).onC n qv).at' k).s.tx=_
  by_cases e:n=k
  ·subst e
   rw[XB _ _ _ (by rw[ZH];omega)]
   refine⟨?_,h1.2⟩
   show(((c.qg n).at' n).closed||false)=_
   rw[Bool.or_false]
   exact h1.1
  ·rw[Zd _ _ _ _ e]
   exact h1
theorem P7 {d' d:Ch} (hl:d'.lost=d.lost) (hS:∀k,k<d.L.length→(d'.at' k).s.S=(d.at' k).s.S) (n:Nat) (hn:n≤d.L.length):(d'.qg n).lost=(d.qg n).lost:=by
 induction n with
 |zero=>exact hl
 |succ n ih=>
  show(d'.qg n).lost+(((d'.qg n).at' n).s.S.size:Nat)=(d.qg n).lost+(((d.qg n).at' n).s.S.size:Nat)
  rw[ih (by omega),Vw _ _ _ (zg _),Vw _ _ _ (zg _),hS n (by omega)]
theorem ja (c:Ch) (n:Nat):(c.qg n).room=c.room:=by
 induction n with
 |zero=>rfl
 |succ n ih=>exact ih
theorem LA (c:Ch) (now:Int) (i j:Nat) (hi:i≤c.L.length) (hj:j≤c.L.length) (hs:c.state=0):Brk (c.looks now i).qX (c.looks now j).qX:=by
 have e1:=Yc c now i
 have e2:=Yc c now j
 unfold qX
 rw[if_neg (by rw[e1.2.2,hs];decide),if_neg (by rw[e2.2.2,hs];decide)]
 refine⟨rfl,rfl,?_,?_,rfl,?_,λ k hk=>?_⟩
 ·show((c.looks now i).qg _).room=((c.looks now j).qg _).room
  rw[ja,ja,e1.1,e2.1]
 ·show((c.looks now i).qg _).lost=((c.looks now j).qg _).lost
  rw[qy,qy]
  refine P7 (by rw[Jo,Jo]) (λ k hk=>?_) _ (by rw[qy];exact zg _)
  rw[qy]at hk
  rw[(Y4 c now i hi k hk).2.2,(Y4 c now j hj k hk).2.2]
 ·show((c.looks now i).qg _).L.length=((c.looks now j).qg _).L.length
  rw[ZH,ZH,qy,qy]
 ·have hk:k<c.L.length:=by
   have h:k<((c.looks now j).qg (c.looks now j).L.length).L.length:=hk
   rwa[ZH,qy]at h
  show LikeP (((c.looks now i).qg _).at' k) (((c.looks now j).qg _).at' k)
  have a1:=U8 (c.looks now i) (c.looks now i).L.length (zg _) k (by rw[qy];exact hk)
  have a2:=U8 (c.looks now j) (c.looks now j).L.length (zg _) k (by rw[qy];exact hk)
  have b1:=Y4 c now i hi k hk
  have b2:=Y4 c now j hj k hk
  exact⟨by rw[a1.1,a2.1,b1.1,b2.1],by rw[a1.2,a2.2,b1.2.1,b2.2.1],Jf _ _ (zg _) k (by rw[qy];exact hk),Jf _ _ (zg _) k (by rw[qy];exact hk)⟩
end Ch
open Go.RowKit
structure Nd where
 p:Nat
 g:Nat
 U:Own
 m:Nat
def AP:Nd:=⟨0,0,λ _=>False,0⟩
def nd (q:List Nd) (k:Nat):Nd:=q.getD k AP
theorem U0 (q:List Nd) (k:Nat) (x:Nd) (h:k<q.length):nd (q.set k x) k=x:=by
 unfold nd
 simp[zi,List.getElem?_set_self h]
theorem UZ (q:List Nd) (k j:Nat) (x:Nd) (h:k≠j):nd (q.set k x) j=nd q j:=by
 unfold nd
 simp[zi,List.getElem?_set_ne h]
theorem Gf (q:List Nd) (k:Nat) (h:k<q.length):nd q k∈q:=by
 unfold nd
 rw[zi,zj h]
 exact List.getElem_mem h
theorem Ka {q:List Nd} {x:Nd} (h:x∈q):∃k,k<q.length∧nd q k=x:=by
 obtain⟨k,hk,rfl⟩:=List.getElem_of_mem h
 exact⟨k,hk,by unfold nd;rw[zi,zj hk];rfl⟩
def Zj (l:List Prt) (k:Nat):Nat:=((l.take k).map λ p=>p.s.S.size).sum
def chC (p:Option Addr) (n cap:Nat) (c:Ch):Array Value:=#[.slice p n cap,.int .i64 c.room,.int .i64 c.state,.bool c.shut,.int .i64 c.lost]
abbrev UW (g:Nat) (b:Bool):Array Value:=#[ptr g,.bool b]
structure CAt (w:World) (g:Nat) (p:Option Addr) (cap:Nat) (q:List Nd) (c:Ch) (M:Nat):Prop where
 len:q.length=c.L.length
 ten:c.L.length≤10
 blk:w.heap[g]?=some (.cells (chC p c.L.length cap c) 58 (0,0))
 row:gc.ORow w 0 59 1 p c.L.length cap (q.map λ x=>ptr x.p)
 prt:∀k,k<c.L.length→w.heap[(nd q k).p]?=some (.cells (UW (nd q k).g (c.at' k).closed) 90 (0,0))
 stg:∀k,k<c.L.length→Rep w (nd q k).U (nd q k).g (c.at' k).s (nd q k).m
 apart:∀i j,i<c.L.length→j<c.L.length→i≠j→(nd q i).p≠(nd q j).p∧∀b,(nd q i).U b→¬(nd q j).U b
 sum:∀k,k<c.L.length→(nd q k).m+Zj c.L k≤M
 los:0≤c.lost∧c.lost+(Zj c.L c.L.length:Nat)≤M
 top:M≤400000
def ZX (g:Nat) (p:Option Addr) (q:List Nd):Own:=λ i=>i=g∨(∃a,p=some a∧a.block=i)∨∃x,x∈q∧(i=x.p∨x.U i)
def Mvd (w:World) (U:Own) (w':World) (U':Own):Prop:=Kp w U w'∧∀i,U' i→U i∨w.heap.size≤i
theorem Mvd.refl (w:World) (U:Own):Mvd w U w U:=⟨⟨zh _ _,λ _ _ _=>rfl⟩,λ _ h=>Or.inl h⟩
theorem Mvd.trans {w w' w'':World} {U U' U'':Own} (h:Mvd w U w' U') (k:Mvd w' U' w'' U''):Mvd w U w'' U'':=by
 obtain⟨⟨a1,a2⟩,a3⟩:=h
 obtain⟨⟨b1,b2⟩,b3⟩:=k
 refine⟨⟨a1.trans b1,λ i hi hu=>?_⟩,λ i hi=>?_⟩
 ·refine(b2 i (zy hi a1.size) λ hu'=>?_).trans (a2 i hi hu)
  rcases a3 i hu' with e|e
  ·exact hu e
  ·omega
 ·rcases b3 i hi with e|e
  ·exact a3 i e
  ·exact Or.inr (zt a1.size e)
theorem Mvd.on {w w' w'':World} {U U':Own} (h:Mvd w U w' U') (hb:Below w'.heap.size w' w''):Mvd w U w'' U':=
 h.trans ⟨⟨hb.mono (Nat.zero_le _),λ i hi _=>hb.block i hi⟩,λ _ h=>Or.inl h⟩
theorem Mvd.size {w w':World} {U U':Own} (h:Mvd w U w' U'):w.heap.size≤w'.heap.size:=h.1.1.size
def Fr (w0 w:World) (U:Own):Prop:=Below w0.heap.size w0 w∧∀i,U i→w0.heap.size≤i
theorem Fr.mvd {w0 w w':World} {U U':Own} (h:Fr w0 w U) (k:Mvd w U w' U'):Fr w0 w' U':=by
 obtain⟨hb,hu⟩:=h
 obtain⟨⟨kb,kk⟩,kn⟩:=k
 refine⟨⟨kb.os.trans hb.os,kb.tape.trans hb.tape,kb.output.trans hb.output,zt hb.size kb.size,λ i hi=>?_⟩,λ i hi=>?_⟩
 ·rw[kk i (zy hi hb.size) (λ hi'=>Nat.not_lt.2 (hu i hi') hi)]
  exact hb.block i hi
 ·rcases kn i hi with e|e
  ·exact hu i e
  ·exact zt hb.size e
def orU (U V:Own):Own:=λ i=>U i∨V i
theorem Mvd.mono {w w':World} {U U' V V':Own} (h:Mvd w U w' U') (h1:∀i,U i→V i) (h2:∀i,V' i→U' i∨V i):Mvd w V w' V':=
 ⟨⟨h.1.1,λ i hi hu=>h.1.2 i hi λ e=>hu (h1 i e)⟩,λ i hi=>by
  rcases h2 i hi with e|e
  ·rcases h.2 i e with e|e
   ·exact Or.inl (h1 i e)
   ·exact Or.inr e
  ·exact Or.inl e⟩
section
variable {w w':World} {g:Nat} {p:Option Addr} {cap:Nat} {q:List Nd} {c c':Ch} {M M':Nat}
theorem VQ (l:List Prt) (k:Nat) (x:Prt) (h:k<l.length):(l.set k x).getD k Zp=x:=by simp[zi,List.getElem?_set_self h]
theorem Qi (l:List Prt) (k j:Nat) (x:Prt) (h:k≠j):(l.set k x).getD j Zp=l.getD j Zp:=by simp[zi,List.getElem?_set_ne h]
theorem CAt.j7 (h:CAt w g p cap q c M) {k:Nat} (hk:k<c.L.length):¬(nd q k).U g:=Y1 (h.stg k hk) h.blk (by decide) (by decide) (by decide) (by decide)
theorem CAt.T6 (h:CAt w g p cap q c M) {k j:Nat} (hk:k<c.L.length) (hj:j<c.L.length):¬(nd q k).U (nd q j).p:=Y1 (h.stg k hk) (h.prt j hj) (by decide) (by decide) (by decide) (by decide)
theorem CAt.T5 (h:CAt w g p cap q c M) {k:Nat} (hk:k<c.L.length) {a:Addr} (ha:p=some a):¬(nd q k).U a.block:=by
 obtain⟨cur,hc⟩:=h.row.typed a ha
 exact Y1 (h.stg k hk) hc (by decide) (by decide) (by decide) (by decide)
theorem CAt.UX (h:CAt w g p cap q c M) {k:Nat} (hk:k<c.L.length):(nd q k).p≠g:=λ e=>by
 have h1:=h.prt k hk
 rw[e]at h1
 have:=gc.Zo h1 h.blk
 simp at this
theorem CAt.V3 (h:CAt w g p cap q c M) {a:Addr} (ha:p=some a):a.block≠g:=λ e=>by
 obtain⟨cur,hc⟩:=h.row.typed a ha
 rw[e]at hc
 have:=gc.Zo hc h.blk
 simp at this
theorem CAt.Q2 (h:CAt w g p cap q c M) {k:Nat} (hk:k<c.L.length) {a:Addr} (ha:p=some a):a.block≠(nd q k).p:=λ e=>by
 obtain⟨cur,hc⟩:=h.row.typed a ha
 rw[e]at hc
 have:=gc.Zo hc (h.prt k hk)
 simp at this
theorem CAt.own (_h:CAt w g p cap q c M) {i:Nat} (hi:ZX g p q i):i=g∨(∃a,p=some a∧a.block=i)∨∃k,k<q.length∧(i=(nd q k).p∨(nd q k).U i):=by
 rcases hi with e|e|⟨x,hx,e⟩
 ·exact Or.inl e
 ·exact Or.inr (Or.inl e)
 ·obtain⟨k,hk,rfl⟩:=Ka hx
  exact Or.inr (Or.inr ⟨k,hk,e⟩)
theorem VS {k:Nat} (hk:k<q.length) {i:Nat} (hi:(nd q k).U i):ZX g p q i:=Or.inr (Or.inr ⟨_,Gf q k hk,Or.inr hi⟩)
theorem Ul {k:Nat} (hk:k<q.length):ZX g p q (nd q k).p:=Or.inr (Or.inr ⟨_,Gf q k hk,Or.inl rfl⟩)
theorem CAt.lt (h:CAt w g p cap q c M) {i:Nat} (hi:ZX g p q i):i<w.heap.size:=by
 rcases h.own hi with rfl|⟨a,ha,rfl⟩|⟨k,hk,e⟩
 ·exact gb.qd h.blk
 ·exact(h.row.lt a ha).2
 ·rw[h.len]at hk
  rcases e with rfl|e
  ·exact gb.qd (h.prt k hk)
  ·exact(JK (h.stg k hk)).2 i e
theorem CAt.keep (h:CAt w g p cap q c M) (hk:∀i,ZX g p q i→w'.heap[i]?=w.heap[i]?):CAt w' g p cap q c M:=
 ⟨h.len,h.ten,(hk g (Or.inl rfl)).trans h.blk,h.row.keep λ a e=>hk _ (Or.inr (Or.inl ⟨a,e,rfl⟩)),λ k hk'=>(hk _ (Ul (by rw[h.len];exact hk'))).trans (h.prt k hk'),
  λ k hk'=>XY (h.stg k hk') λ i hi=>hk i (VS (by rw[h.len];exact hk') hi),h.apart,h.sum,h.los,h.top⟩
theorem CAt.on (h:CAt w g p cap q c M) (hb:Below w.heap.size w w'):CAt w' g p cap q c M:=h.keep λ i hi=>hb.block i (h.lt hi)
theorem CAt.more (h:CAt w g p cap q c M) (hM:M≤M') (hf:M'≤400000):CAt w g p cap q c M':=⟨h.len,h.ten,h.blk,h.row,h.prt,h.stg,h.apart,λ k hk=>zt (h.sum k hk) hM,⟨h.los.1,by have:=h.los.2;omega⟩,hf⟩
theorem CAt.set (h:CAt w g p cap q c M) {i:Nat} {v:Value} (hL:c'.L=c.L) (hc:(chC p c.L.length cap c).setIfInBounds i v=chC p c.L.length cap c') (hl:0≤c'.lost∧c'.lost+(Zj c.L c.L.length:Nat)≤M):CAt (w.setCell ⟨g,i,none⟩ v) g p cap q c' M:=by
 have ho:∀k,k≠g→(w.setCell ⟨g,i,none⟩ v).heap[k]?=w.heap[k]?:=λ k hk=>zn _ _ _ _ hk
 have ha:∀k,c'.at' k=c.at' k:=λ k=>by unfold Ch.at';rw[hL]
 refine⟨by rw[hL];exact h.len,by rw[hL];exact h.ten,?_,?_,λ k hk=>?_,λ k hk=>?_,λ i j hi hj=>h.apart i j (by rwa[hL]at hi) (by rwa[hL]at hj),λ k hk=>by rw[hL]at hk⊢;exact h.sum k hk,by rw[hL];exact hl,h.top⟩
 ·rw[hL,←hc]
  simp[World.setCell,Array.getElem?_modify,h.blk]
 ·rw[hL]
  exact h.row.keep λ a e=>ho _ (h.V3 e)
 ·rw[hL]at hk
  rw[ha]
  exact(ho _ (h.UX hk)).trans (h.prt k hk)
 ·rw[hL]at hk
  rw[ha]
  exact XY (h.stg k hk) λ i hi=>ho i λ e=>h.j7 hk (by rw[←e];exact hi)
theorem QE (w:World) {U:Own} {b:Nat} (hb:U b) (i:Nat) (v:Value):Mvd w U (w.setCell ⟨b,i,none⟩ v) U:=
 ⟨⟨⟨rfl,rfl,rfl,by simp[World.setCell],λ j hj=>absurd hj (Nat.not_lt_zero j)⟩,λ j _ hu=>zn w ⟨b,i,none⟩ v j λ e=>hu (by have e:j=b:=e;rw[e];exact hb)⟩,λ _ h=>Or.inl h⟩
theorem TC (c:Ch) (k j:Nat) (b:Bool) (hk:k<c.L.length):Zj (c.L.set k ⟨(c.at' k).s,b⟩) j=Zj c.L j:=by
 unfold Zj
 rw[List.take_set,List.map_set]
 by_cases hkj:k<j
 ·congr 1
  have hlt:k<((c.L.take j).map λ p=>p.s.S.size).length:=by rw[List.length_map,zw];omega
  have:(c.at' k).s.S.size=((c.L.take j).map λ p=>p.s.S.size)[k]:=by
   unfold Ch.at'
   rw[zi,zj hk,List.getElem_map,List.getElem_take]
   rfl
  show((c.L.take j).map λ p=>p.s.S.size).set k (c.at' k).s.S.size=_
  rw[this]
  exact List.set_getElem_self hlt
 ·rw[List.set_eq_of_length_le (by rw[List.length_map,zw];omega)]
theorem CAt.AM (h:CAt w g p cap q c M) {k:Nat} (hk:k<c.L.length) (b:Bool):CAt (w.setCell ⟨(nd q k).p,1,none⟩ (.bool b)) g p cap q {c with L:=c.L.set k ⟨(c.at' k).s,b⟩} M:=by
 have ho:∀j,j≠(nd q k).p→(w.setCell ⟨(nd q k).p,1,none⟩ (.bool b)).heap[j]?=w.heap[j]?:=λ j hj=>zn _ _ _ _ hj
 have hl:(c.L.set k ⟨(c.at' k).s,b⟩).length=c.L.length:=List.length_set
 have hs:∀j,(({c with L:=c.L.set k ⟨(c.at' k).s,b⟩}:Ch).at' j).s=(c.at' j).s:=λ j=>by
  show((c.L.set k ⟨(c.at' k).s,b⟩).getD j Zp).s=_
  by_cases e:k=j
  ·subst e
   rw[VQ _ _ _ hk]
  ·rw[Qi _ _ _ _ e]
   rfl
 refine⟨h.len.trans hl.symm,by show(c.L.set k _).length≤10;rw[hl];exact h.ten,?_,?_,λ j hj=>?_,λ j hj=>?_,λ i j hi hj=>h.apart i j (by rwa[hl]at hi) (by rwa[hl]at hj),λ j hj=>?_,?_,h.top⟩
 ·show _=some (Obj.cells (chC p (c.L.set k _).length cap c) _ _)
  rw[hl]
  exact(ho _ (λ e=>h.UX hk e.symm)).trans h.blk
 ·show gc.ORow _ 0 _ 1 p (c.L.set k _).length cap _
  rw[hl]
  exact h.row.keep λ a e=>ho _ (h.Q2 hk e)
 ·have hj:j<c.L.length:=by rwa[hl]at hj
  show _=some (Obj.cells (UW _ ((c.L.set k _).getD j Zp).closed) _ _)
  by_cases e:k=j
  ·subst e
   rw[VQ _ _ _ hk]
   simp[World.setCell,Array.getElem?_modify,h.prt k hk]
  ·rw[Qi _ _ _ _ e]
   exact(ho _ λ e'=>(h.apart k j hk hj e).1 e'.symm).trans (h.prt j hj)
 ·have hj:j<c.L.length:=by rwa[hl]at hj
  rw[hs]
  exact XY (h.stg j hj) λ i hi=>ho i λ e=>h.T6 hj hk (by rw[←e];exact hi)
 ·have hj:j<c.L.length:=by rwa[hl]at hj
  show(nd q j).m+Zj (c.L.set k ⟨(c.at' k).s,b⟩) j≤M
  rw[TC c k j b hk]
  exact h.sum j hj
 ·show 0≤c.lost∧c.lost+(Zj (c.L.set k ⟨(c.at' k).s,b⟩) (c.L.set k ⟨(c.at' k).s,b⟩).length:Nat)≤M
  rw[hl,TC c k _ b hk]
  exact h.los
def XR (c:Ch) (k:Nat) (s:St):Ch:={c with L:=c.L.set k ⟨s,(c.at' k).closed⟩}
def Yx (q:List Nd) (k:Nat) (U:Own) (m:Nat):List Nd:=q.set k ⟨(nd q k).p,(nd q k).g,U,m⟩
@[simp] theorem XM (c:Ch) (k:Nat) (s:St):(XR c k s).L.length=c.L.length:=List.length_set
theorem JL (q:List Nd) (k j:Nat) (U:Own) (m:Nat) (hk:k<q.length):(nd (Yx q k U m) j).p=(nd q j).p∧(nd (Yx q k U m) j).g=(nd q j).g:=by
 unfold Yx
 by_cases e:k=j
 ·subst e
  rw[U0 _ _ _ hk]
  exact⟨rfl,rfl⟩
 ·rw[UZ _ _ _ _ e]
  exact⟨rfl,rfl⟩
theorem Gk (q:List Nd) (k:Nat) (U:Own) (m:Nat) (hk:k<q.length):(Yx q k U m).map (λ x=>ptr x.p)=q.map λ x=>ptr x.p:=by
 unfold Yx
 rw[List.map_set]
 have:ptr (nd q k).p=(q.map λ x=>ptr x.p)[k]'(by rw[List.length_map];exact hk):=by
  unfold nd
  rw[zi,zj hk,List.getElem_map]
  rfl
 show(q.map λ x=>ptr x.p).set k (ptr (nd q k).p)=_
 rw[this]
 exact List.set_getElem_self _
theorem J4 (c:Ch) (k j:Nat) (s:St) (hk:k<c.L.length):(k<j→Zj (XR c k s).L j+(c.at' k).s.S.size=Zj c.L j+s.S.size)∧(j≤k→Zj (XR c k s).L j=Zj c.L j):=by
 refine⟨λ h=>?_,λ h=>?_⟩
 ·unfold Zj XR
  simp only
  rw[List.take_set]
  have h1:=Ch.jj (c.L.take j) k ⟨s,(c.at' k).closed⟩ (by rw[zw];omega)
  have h2:(c.L.take j).getD k Zp=c.at' k:=by
   unfold Ch.at'
   rw[zi,zi,List.getElem?_take_of_lt h]
  rw[h2]at h1
  exact h1
 ·unfold Zj XR
  simp only
  rw[List.take_set_of_le h]
theorem CAt.step (h:CAt w g p cap q c M) {k:Nat} (hk:k<c.L.length) {s':St} {m':Nat} (hs:Stp w (nd q k).U (nd q k).g s' m' w')
  (hM:∀j,j<c.L.length→(if j=k then m' else(nd q j).m)+Zj (XR c k s').L j≤M') (hL:c.lost+(Zj (XR c k s').L c.L.length:Nat)≤M') (hf:M'≤400000):
  ∃U',CAt w' g p cap (Yx q k U' m') (XR c k s') M'∧Mvd w (ZX g p q) w' (ZX g p (Yx q k U' m')):=by
 obtain⟨U',hr,⟨hb,hkp⟩,hn⟩:=hs
 have hq:k<q.length:=by rw[h.len];exact hk
 have hU:nd (Yx q k U' m') k=⟨(nd q k).p,(nd q k).g,U',m'⟩:=U0 _ _ _ hq
 have hO:∀j,k≠j→nd (Yx q k U' m') j=nd q j:=λ j e=>UZ _ _ _ _ e
 have hA:(XR c k s').at' k=⟨s',(c.at' k).closed⟩:=VQ _ _ _ hk
 have hB:∀j,k≠j→(XR c k s').at' j=c.at' j:=λ j e=>Qi _ _ _ _ e
 refine⟨U',⟨?_,by rw[XM];exact h.ten,?_,?_,λ j hj=>?_,λ j hj=>?_,λ i j hi hj hne=>?_,λ j hj=>?_,⟨h.los.1,by rw[XM];exact hL⟩,hf⟩,⟨⟨hb,λ i hi hu=>hkp i hi λ hu'=>hu (VS hq hu')⟩,λ i hi=>?_⟩⟩
 ·rw[XM]
  unfold Yx
  rw[List.length_set]
  exact h.len
 ·rw[XM]
  exact(hkp _ (gb.qd h.blk) (h.j7 hk)).trans h.blk
 ·rw[XM,Gk _ _ _ _ hq]
  exact h.row.keep λ a e=>hkp _ (h.row.lt a e).2 (h.T5 hk e)
 ·rw[XM]at hj
  rw[(JL q k j U' m' hq).1,(JL q k j U' m' hq).2]
  have hc:((XR c k s').at' j).closed=(c.at' j).closed:=by
   by_cases e:k=j
   ·subst e
    rw[hA]
   ·rw[hB j e]
  rw[hc]
  exact(hkp _ (gb.qd (h.prt j hj)) (h.T6 hk hj)).trans (h.prt j hj)
 ·rw[XM]at hj
  by_cases e:k=j
  ·subst e
   rw[hU,hA]
   exact hr
  ·rw[hO j e,hB j e]
   exact XY (h.stg j hj) λ i hi=>hkp i ((JK (h.stg j hj)).2 i hi) ((h.apart j k hj hk (λ e'=>e e'.symm)).2 i hi)
 ·rw[XM]at hi hj
  rw[(JL q k i U' m' hq).1,(JL q k j U' m' hq).1]
  refine⟨(h.apart i j hi hj hne).1,λ b hb1 hb2=>?_⟩
  by_cases e:k=i
  ·subst e
   rw[hU]at hb1
   rw[hO j hne]at hb2
   have:=(JK (h.stg j hj)).2 b hb2
   rcases hn b hb1 with e|e
   ·exact(h.apart k j hi hj hne).2 b e hb2
   ·omega
  ·rw[hO i e]at hb1
   by_cases e2:k=j
   ·subst e2
    rw[hU]at hb2
    have:=(JK (h.stg i hi)).2 b hb1
    rcases hn b hb2 with e|e
    ·exact(h.apart i k hi hj hne).2 b hb1 e
    ·omega
   ·rw[hO j e2]at hb2
    exact(h.apart i j hi hj hne).2 b hb1 hb2
 ·rw[XM]at hj
  have:=hM j hj
  by_cases e:k=j
  ·subst e
   rw[hU]
   rw[if_pos rfl]at this
   exact this
  ·rw[hO j e]
   rw[if_neg (λ e'=>e e'.symm)]at this
   exact this
 ·rcases hi with e|e|⟨x,hx,e⟩
  ·exact Or.inl (Or.inl e)
  ·exact Or.inl (Or.inr (Or.inl e))
  ·obtain⟨j,hj,rfl⟩:=Ka hx
   have hj':j<q.length:=by
    unfold Yx at hj
    rwa[List.length_set]at hj
   rcases e with e|e
   ·rw[(JL q k j U' m' hq).1]at e
    rw[e]
    exact Or.inl (Ul hj')
   ·by_cases e2:k=j
    ·subst e2
     rw[hU]at e
     rcases hn i e with e3|e3
     ·exact Or.inl (VS hq e3)
     ·exact Or.inr e3
    ·rw[hO j e2]at e
     exact Or.inl (VS hj' e)
theorem Gm (q:List Nd) (k j:Nat) (U:Own):(nd (Yx q k U (nd q k).m) j).m=(nd q j).m:=by
 unfold Yx
 by_cases e:k=j
 ·subst e
  by_cases hk:k<q.length
  ·rw[U0 _ _ _ hk]
  ·rw[List.set_eq_of_length_le (by omega)]
 ·rw[UZ _ _ _ _ e]
theorem CAt.Nq (h:CAt w g p cap q c M) {k:Nat} (hk:k<c.L.length) {s':St} (hs:Stp w (nd q k).U (nd q k).g s' (nd q k).m w') (hz:s'.S.size≤(c.at' k).s.S.size):
  ∃U',CAt w' g p cap (Yx q k U' (nd q k).m) (XR c k s') M∧Mvd w (ZX g p q) w' (ZX g p (Yx q k U' (nd q k).m)):=by
 have hle:∀j,Zj (XR c k s').L j≤Zj c.L j:=λ j=>by
  have e:=J4 c k j s' hk
  rcases Nat.lt_or_ge k j with hj|hj
  ·have:=e.1 hj
   omega
  ·exact Nat.le_of_eq (e.2 hj)
 refine h.step hk hs (λ j hj=>?_) ?_ h.top
 ·have h1:=h.sum j hj
  have h2:=hle j
  split
  ·rename_i e
   rw[e]at h1 h2⊢
   omega
  ·omega
 ·have h1:=h.los.2
  have h2:=hle c.L.length
  omega
theorem CAt.BX (h:CAt w g p cap q c M) {k:Nat} (hk:k<c.L.length) {s':St} {d:Nat} (hs:Stp w (nd q k).U (nd q k).g s' ((nd q k).m+d) w') (hz:s'.S.size≤(c.at' k).s.S.size+d)
  (hM:∀j,k≤j→j<c.L.length→(nd q j).m+Zj c.L j+d≤M') (hL:c.lost+(Zj c.L c.L.length:Nat)+d≤M') (hMM:M≤M') (hf:M'≤400000):
  ∃U',CAt w' g p cap (Yx q k U' ((nd q k).m+d)) (XR c k s') M'∧Mvd w (ZX g p q) w' (ZX g p (Yx q k U' ((nd q k).m+d))):=by
 refine h.step hk hs (λ j hj=>?_) ?_ hf
 ·have e:=J4 c k j s' hk
  have h1:=h.sum j hj
  rcases Nat.lt_or_ge k j with hkj|hkj
  ·have:=e.1 hkj
   have:=hM j (by omega) hj
   rw[if_neg (by omega)]
   omega
  ·rw[e.2 hkj]
   split
   ·rename_i e2
    have:=hM j (by omega) hj
    rw[e2]at this⊢
    omega
   ·omega
 ·have:=(J4 c k c.L.length s' hk).1 hk
  omega
theorem Y3 (c:Ch) (k:Nat) (o:Op) (h:o.kind≠3):c.onC k o=XR c k (doS (c.at' k).s o).1:=by
 unfold Ch.onC XR
 have:(o.kind==3)=false:=by simpa using h
 rw[this,Bool.or_false]
def Pg (q' q:List Nd):Prop:=∀j,(nd q' j).p=(nd q j).p∧(nd q' j).g=(nd q j).g
theorem Pg.refl (q:List Nd):Pg q q:=λ _=>⟨rfl,rfl⟩
theorem Pg.trans {q q' q'':List Nd} (h:Pg q'' q') (k:Pg q' q):Pg q'' q:=λ j=>⟨(h j).1.trans (k j).1,(h j).2.trans (k j).2⟩
def qx (w:World) (g:Nat) (p:Option Addr) (cap:Nat) (q:List Nd) (c:Ch) (M:Nat) (w':World):Prop:=∃q',CAt w' g p cap q' c M∧Mvd w (ZX g p q) w' (ZX g p q')∧Pg q' q
theorem qx.refl (h:CAt w g p cap q c M):qx w g p cap q c M w:=⟨q,h,Mvd.refl _ _,Pg.refl q⟩
theorem qx.on {w'':World} (h:qx w g p cap q c M w') (hb:Below w'.heap.size w' w''):qx w g p cap q c M w'':=by
 obtain⟨q',h1,h2,h3⟩:=h
 exact⟨q',h1.on hb,h2.on hb,h3⟩
theorem qx.then {w'':World} (h:qx w g p cap q c M w') (k:∀q',CAt w' g p cap q' c M→Pg q' q→qx w' g p cap q' c' M' w''):qx w g p cap q c' M' w'':=by
 obtain⟨q',h1,h2,h3⟩:=h
 obtain⟨q2,h4,h5,h6⟩:=k q' h1 h3
 exact⟨q2,h4,h2.trans h5,h6.trans h3⟩
theorem CAt.Su (h:CAt w g p cap q c M) {k:Nat} (hk:k<c.L.length) {s':St} (hs:Stp w (nd q k).U (nd q k).g s' (nd q k).m w') (hz:s'.S.size≤(c.at' k).s.S.size):qx w g p cap q (XR c k s') M w':=by
 obtain⟨U',h1,h2⟩:=h.Nq hk hs hz
 exact⟨_,h1,h2,λ j=>JL q k j U' _ (by rw[h.len];exact hk)⟩
theorem CAt.Be (h:CAt w g p cap q c M) {k:Nat} (hk:k<c.L.length) {s':St} {d:Nat} (hs:Stp w (nd q k).U (nd q k).g s' ((nd q k).m+d) w') (hz:s'.S.size≤(c.at' k).s.S.size+d)
  (hM:∀j,k≤j→j<c.L.length→(nd q j).m+Zj c.L j+d≤M') (hL:c.lost+(Zj c.L c.L.length:Nat)+d≤M') (hMM:M≤M') (hf:M'≤400000):qx w g p cap q (XR c k s') M' w':=by
 obtain⟨U',h1,h2⟩:=h.BX hk hs hz hM hL hMM hf
 exact⟨_,h1,h2,λ j=>JL q k j U' _ (by rw[h.len];exact hk)⟩
theorem CAt.Ep (h:CAt w g p cap q c M) {i:Nat} {v:Value} (hL:c'.L=c.L) (hc:(chC p c.L.length cap c).setIfInBounds i v=chC p c.L.length cap c') (hl:0≤c'.lost∧c'.lost+(Zj c.L c.L.length:Nat)≤M):qx w g p cap q c' M (w.setCell ⟨g,i,none⟩ v):=
 ⟨q,h.set hL hc hl,QE w (Or.inl rfl) _ _,Pg.refl q⟩
theorem Oe (q:List Nd) (k:Nat) (U:Own) (m:Nat):(Yx q k U m).length=q.length:=List.length_set
end
end
section
open Go.RowKit
section
variable {w w':World} {U:Own} {g M:Nat} {s:St}
theorem BB (h:Rep w U g s M):Calls zf 67 #[ptr g] w λ e w'=>e=.returned (.int .i64 (Zt s))∧Below w.heap.size w w':=by
 obtain⟨base,c',u,s',hr,ho,hs,rfl⟩:=h
 rw[←hs.free]
 exact MA hr ho rfl
theorem OF (h:Rep w U g s M):s.S.size≤M∧0≤s.passed:=by
 obtain⟨base,c',u,s',hr,ho,hs,rfl⟩:=h
 rw[←hs.S,←hs.passed]
 have:=ho.passed
 omega
theorem FP (h:Rep w U g s M):Calls zf 48 #[ptr g] w λ e w'=>e=.returned s.tx.v∧Below w.heap.size w w':=by
 obtain⟨base,c',u,s',hr,ho,hs,rfl⟩:=h
 rw[←hs.tx]
 have x1:w.cell? ⟨g,1,none⟩=some (.string s'.tx.s):=hr.cell 1
 have x2:w.cell? ⟨g,2,none⟩=some (.int .i64 s'.tx.k):=hr.cell 2
 have x3:w.cell? ⟨g,3,none⟩=some (.bool s'.tx.up):=hr.cell 3
 have x4:w.cell? ⟨g,4,none⟩=some (.int .i64 s'.tx.o):=hr.cell 4
 have x5:w.cell? ⟨g,5,none⟩=some (.int .i64 s'.tx.a):=hr.cell 5
 have x6:w.cell? ⟨g,6,none⟩=some (.int .i64 s'.tx.b):=hr.cell 6
 have hlt:=hr.lt
 unfold Tox.v
 clear hr ho hs
 go_enter func48,ntmps48
 go_wp2_with fail
 have hnew:=zo w (.cells #[.string s'.tx.s,.int .i64 s'.tx.k,.bool s'.tx.up,.int .i64 s'.tx.o,.int .i64 s'.tx.a,.int .i64 s'.tx.b] 35)
 have hb:Below w.heap.size w (w.alloc (.cells #[.string s'.tx.s,.int .i64 s'.tx.k,.bool s'.tx.up,.int .i64 s'.tx.o,.int .i64 s'.tx.a,.int .i64 s'.tx.b] 35)):=(zh _ _).alloc (zg _) _
 clear x1 x2 x3 x4 x5 x6
 generalize w.alloc (.cells #[.string s'.tx.s,.int .i64 s'.tx.k,.bool s'.tx.up,.int .i64 s'.tx.o,.int .i64 s'.tx.a,.int .i64 s'.tx.b] 35)=W at*
 have z0:=ze W _ 0 _ _ _ hnew
 have z1:=ze W _ 1 _ _ _ hnew
 have z2:=ze W _ 2 _ _ _ hnew
 have z3:=ze W _ 3 _ _ _ hnew
 have z4:=ze W _ 4 _ _ _ hnew
 have z5:=ze W _ 5 _ _ _ hnew
 exact zk (v:=.agg #[.string s'.tx.s,.int .i64 s'.tx.k,.bool s'.tx.up,.int .i64 s'.tx.o,.int .i64 s'.tx.a,.int .i64 s'.tx.b]) (by simp[results,results48,go_sem,z0,z1,z2,z3,z4,z5]) rfl ⟨rfl,hb⟩
end
section
variable {w w':World} {g:Nat} {p:Option Addr} {cap:Nat} {q:List Nd} {c c':Ch} {M M':Nat}
theorem CAt.cell (h:CAt w g p cap q c M) (i:Nat):w.cell? ⟨g,i,none⟩=(chC p c.L.length cap c)[i]?:=by simp[World.cell?,h.blk]
theorem CAt.frz (h:CAt w g p cap q c M) (i:Nat):w.frozen? ⟨g,i,none⟩=false:=gb.qa h.blk
theorem CAt.rows (h:CAt w g p cap q c M) (h0:0<c.L.length):∃b o,p=some ⟨b,o,none⟩∧(∀k,k<c.L.length→w.cell? ⟨b,o+k,none⟩=some (ptr (nd q k).p))∧c.L.length≤cap∧cap≤maxLen:=by
 obtain⟨b,o,hp,hc⟩:=h.row.at h0
 refine⟨b,o,hp,λ k hk=>hc k _ ?_,h.row.cap,h.row.max⟩
 have hk:k<q.length:=by rw[h.len];exact hk
 rw[List.getElem?_map,zj hk]
 unfold nd
 rw[zi,zj hk]
 rfl
theorem CAt.Vc (h:CAt w g p cap q c M) {k:Nat} (hk:k<c.L.length):w.cell? ⟨(nd q k).p,0,none⟩=some (ptr (nd q k).g)∧w.cell? ⟨(nd q k).p,1,none⟩=some (.bool (c.at' k).closed)∧w.frozen? ⟨(nd q k).p,1,none⟩=false:=by
 have h1:=h.prt k hk
 exact⟨by simp[World.cell?,h1],by simp[World.cell?,h1],gb.qa h1⟩
theorem CAt.size_le (h:CAt w g p cap q c M) {k:Nat} (hk:k<c.L.length):(c.at' k).s.S.size≤(nd q k).m∧Zj c.L k+(c.at' k).s.S.size≤M:=by
 have h1:=(OF (h.stg k hk)).1
 have h2:=h.sum k hk
 omega
theorem TB (c:Ch) {k:Nat} (hk:k<c.L.length):Zj c.L (k+1)=Zj c.L k+(c.at' k).s.S.size:=by
 unfold Zj Ch.at'
 rw[List.take_succ_eq_append_getElem hk,List.map_append,List.sum_append,zi,zj hk]
 simp
theorem KG (c:Ch):Zj c.L c.L.length=c.held:=by
 unfold Zj Ch.held
 rw[List.take_length]
theorem NN (h:CAt w g p cap q c M) (h2:2≤c.L.length):Calls zf 36 #[ptr g] w λ e w'=>e=.returned (ptr (nd q 0).p)∧w=w':=by
 have h10:=h.ten
 obtain⟨b,o,rfl,hr,hnc,hmx⟩:=h.rows (by omega)
 have x0:w.cell? ⟨g,0,none⟩=some (.slice (some ⟨b,o,none⟩) c.L.length cap):=h.cell 0
 have y0:=hr 0 (by omega)
 rw[Nat.add_zero]at y0
 generalize c.L.length=n at*
 clear h hr
 go_enter func36,ntmps36
 go_wp2_with fail
 try rw[zl]
 go_ret
 exact⟨rfl,rfl⟩
theorem T1 (h:CAt w g p cap q c M) (h2:2≤c.L.length):Calls zf 44 #[ptr g] w λ e w'=>e=.returned (ptr (nd q (c.L.length -1)).p)∧Below w.heap.size w w':=by
 have h10:=h.ten
 obtain⟨b,o,rfl,hr,hnc,hmx⟩:=h.rows (by omega)
 have x0:w.cell? ⟨g,0,none⟩=some (.slice (some ⟨b,o,none⟩) c.L.length cap):=h.cell 0
 have y0:=hr (c.L.length -1) (by omega)
 generalize c.L.length=n at*
 obtain⟨m,rfl⟩:∃m,n=m+1:=⟨n -1,by omega⟩
 rw[Nat.add_sub_cancel]at*
 have e1:((m+1:Nat):Int) -1=(m:Int):=by omega
 clear h hr
 go_enter func44,ntmps44
 go_wp2_with fail
 go_quiet (fail)
 go_wp2_with fail
 try rw[zl]
 go_ret
 exact⟨rfl,gc.below_drewN _ _⟩
theorem K7 (h:CAt w g p cap q c M) (h2:2≤c.L.length):Calls zf 38 #[ptr g] w λ e w'=>e=.returned (.int .i64 ((c.L.length:Int) -2))∧w=w':=by
 have h10:=h.ten
 have x0:w.cell? ⟨g,0,none⟩=some (.slice p c.L.length cap):=h.cell 0
 generalize c.L.length=n at*
 clear h
 go_enter func38,ntmps38
 go_wp2_with fail
 try rw[zl]
 go_ret
 exact⟨rfl,rfl⟩
theorem Kk (h:CAt w g p cap q c M) (h2:2≤c.L.length) (at':Int) {b:Bool} (hb:decide (0≤at'∧at'<(c.L.length:Int) -2)=b):Calls zf 61 #[ptr g,.int .i64 at'] w λ e w'=>e=.returned (.bool b)∧w=w':=by
 have HM:=zd (K7 h h2)
 have HB:=zd hb
 generalize(c.L.length:Int) -2=n at*
 clear h hb
 by_cases h0:0≤at'
 ·go_enter func61,ntmps61
  go_wp2_with (go_at_call 38;refine HM.out.mono ?_;rintro e w' ⟨rfl,rfl⟩)
  try rw[zl]
  go_ret
  refine⟨?_,rfl⟩
  rw[←HB.out]
  congr 2
  simp[h0]
 ·have hb':b=false:=by rw[←HB.out];simp;intro h;omega
  subst hb'
  go_enter func61,ntmps61
  go_wp2_with fail
  try rw[zl]
  go_ret
  exact⟨rfl,rfl⟩
theorem BA (h:CAt w g p cap q c M) (h2:2≤c.L.length):Calls zf 18 #[ptr g] w λ e w'=>e=.returned (.int .i64 (c.held:Int))∧w=w':=by
 have h10:=h.ten
 have ht:=h.top
 obtain⟨b,o,rfl,hr,hnc,hmx⟩:=h.rows (by omega)
 have x0:w.cell? ⟨g,0,none⟩=some (.slice (some ⟨b,o,none⟩) c.L.length cap):=h.cell 0
 have HR:=zd hr
 have HP:=zd (λ k (hk:k<c.L.length)=>(h.Vc hk).1)
 have HH:=zd (λ k (hk:k<c.L.length)=>G6 (h.stg k hk))
 have HS:=zd (λ k (hk:k<c.L.length)=>(⟨TB c hk,by have:=(h.size_le hk).2;omega⟩:Zj c.L (k+1)=Zj c.L k+(c.at' k).s.S.size∧Zj c.L k+(c.at' k).s.S.size≤400000))
 have HA:=zd (KG c)
 generalize c.L.length=n at*
 have HM:=zd (KG c)
 clear h hr ht HM
 go_enter func18,ntmps18
 go_wp2_with fail
 go_loopw [3,11] (λ s i wr=>∃(k S:Nat),k≤n∧i=.int .i64 k∧s=.int .i64 (S:Int)∧Hid (S=Zj c.L k)∧wr=w) (λ _ i _=>n -(intOf i).toNat)
 case atStart=>exact⟨0,0,Nat.zero_le _,rfl,rfl,zd rfl,rfl⟩
 case round=>
  obtain⟨k,S,hk,rfl,rfl,HSk,rfl⟩:=hrel
  by_cases hlt:k<n
  ·have y0:=HR.out k hlt
   have z0:=HP.out k hlt
   have hs:=HS.out k hlt
   have HC:=zd (HH.out k hlt)
   have hSk:=HSk.out
   obtain⟨X,hX⟩:∃X,(c.at' k).s.S.size=X:=⟨_,rfl⟩
   rw[hX]at hs HC
   have hb:S+X≤400000:=by omega
   have HN:=zd (show S+X=Zj c.L (k+1) by omega)
   clear hs hSk hX HSk
   go_wp2_with (go_at_call 47;refine HC.out.mono ?_;rintro e w' ⟨rfl,rfl⟩)
   go_roundw
   case rel=>exact⟨k+1,S+X,by omega,by go_num,by go_num,HN,by trivial⟩
   case measure=>simp[intOf];omega
  ·obtain rfl:k=n:=by omega
   have HE:=zd (show S=c.held by rw[HSk.out];exact HA.out)
   clear HSk hlt
   go_wp2_with fail
   try rw[zl]
   go_ret
   rw[←HE.out]
   exact⟨rfl,rfl⟩
theorem Bw (h:CAt w g p cap q c M):Calls zf 17 #[ptr g] w λ e w'=>e=.returned (.int .i64 c.lost)∧w=w':=by
 have x0:w.cell? ⟨g,4,none⟩=some (.int .i64 c.lost):=h.cell 4
 clear h
 go_enter func17,ntmps17
 go_wp2_with fail
 try rw[zl]
 go_ret
 exact⟨rfl,rfl⟩
theorem F0 (h:CAt w g p cap q c M):Calls zf 31 #[ptr g] w λ e w'=>e=.returned (.int .i64 c.state)∧w=w':=by
 have x0:w.cell? ⟨g,2,none⟩=some (.int .i64 c.state):=h.cell 2
 clear h
 go_enter func31,ntmps31
 go_wp2_with fail
 try rw[zl]
 go_ret
 exact⟨rfl,rfl⟩
end
end
section
open Go.RowKit
structure PAt (w:World) (pp gg:Nat) (U:Own) (s:St) (b:Bool) (m:Nat):Prop where
 prt:w.heap[pp]?=some (.cells (UW gg b) 90 (0,0))
 stg:Rep w U gg s m
def YO (pp:Nat) (U:Own):Own:=λ i=>i=pp∨U i
section
variable {w w':World} {pp gg m:Nat} {U:Own} {s:St} {b:Bool}
theorem PAt.T6 (h:PAt w pp gg U s b m):¬U pp:=Y1 h.stg h.prt (by decide) (by decide) (by decide) (by decide)
theorem PAt.keep (h:PAt w pp gg U s b m) (hk:∀i,YO pp U i→w'.heap[i]?=w.heap[i]?):PAt w' pp gg U s b m:=
 ⟨(hk pp (Or.inl rfl)).trans h.prt,XY h.stg λ i hi=>hk i (Or.inr hi)⟩
theorem PAt.lt (h:PAt w pp gg U s b m) {i:Nat} (hi:YO pp U i):i<w.heap.size:=by
 rcases hi with rfl|hi
 ·exact gb.qd h.prt
 ·exact(JK h.stg).2 i hi
theorem PAt.on (h:PAt w pp gg U s b m) (hb:Below w.heap.size w w'):PAt w' pp gg U s b m:=h.keep λ i hi=>hb.block i (h.lt hi)
def Shut (w:World) (pp gg:Nat) (U:Own) (s:St) (m:Nat) (e:Ending) (w':World):Prop:=e=.returned (.tuple #[])∧∃w1,Stp w U gg s m w1∧w'=w1.setCell ⟨pp,1,none⟩ (.bool true)
theorem KH (h:PAt w pp gg U s b m) (now:Int):Calls zf 39 #[ptr pp,.int .i64 now] w (Shut w pp gg U (qS s now) m):=by
 have x0:w.cell? ⟨pp,0,none⟩=some (ptr gg):=by simp[World.cell?,h.prt]
 have HC:=zd (E8 h.stg now)
 have HK:=zd (λ W (hs:Stp w U gg (qS s now) m W)=>(show W.heap[pp]?=some (.cells (UW gg b) 90 (0,0))from by
  obtain⟨U',_,⟨_,hk⟩,_⟩:=hs
  exact(hk pp (gb.qd h.prt) h.T6).trans h.prt))
 clear h
 go_enter func39,ntmps39
 go_wp2_with fail
 refine HC.out.mono ?_
 rintro e w1 ⟨rfl,hs⟩
 have hp:=HK.out w1 hs
 have x1:w1.cell? ⟨pp,1,none⟩=some (.bool b):=by simp[World.cell?,hp]
 have f1:w1.frozen? ⟨pp,1,none⟩=false:=gb.qa hp
 have HS:=zd hs
 clear hs hp HC HK x0
 go_wp2_with fail
 go_end0
 exact⟨rfl,w1,HS.out,rfl⟩
theorem Shut.alone (h:PAt w pp gg U s b m) {s':St} {e:Ending} (hs:Shut w pp gg U s' m e w'):∃U',PAt w' pp gg U' s' true m∧Mvd w (YO pp U) w' (YO pp U'):=by
 obtain⟨_,w1,⟨U',hr,⟨hb,hk⟩,hn⟩,rfl⟩:=hs
 have h1:w1.heap[pp]?=some (.cells (UW gg b) 90 (0,0)):=(hk pp (gb.qd h.prt) h.T6).trans h.prt
 have hp:¬U' pp:=Y1 hr h1 (by decide) (by decide) (by decide) (by decide)
 refine⟨U',⟨?_,XY hr λ i hi=>zn _ _ _ _ λ e=>hp (by have e:i=pp:=e;rw[←e];exact hi)⟩,Mvd.trans (w':=w1) (U':=YO pp U') ⟨⟨hb,λ i hi hu=>hk i hi λ e=>hu (Or.inr e)⟩,λ i hi=>?_⟩ (QE w1 (Or.inl rfl) 1 (.bool true))⟩
 ·simp[World.setCell,Array.getElem?_modify,h1]
 ·rcases hi with e|e
  ·exact Or.inl (Or.inl e)
  ·rcases hn i e with e|e
   ·exact Or.inl (Or.inr e)
   ·exact Or.inr e
end
section
variable {w w':World} {g:Nat} {p:Option Addr} {cap:Nat} {q:List Nd} {c c':Ch} {M M':Nat}
theorem CAt.part (h:CAt w g p cap q c M) {k:Nat} (hk:k<c.L.length):PAt w (nd q k).p (nd q k).g (nd q k).U (c.at' k).s (c.at' k).closed (nd q k).m:=⟨h.prt k hk,h.stg k hk⟩
theorem O2 (c:Ch) (k:Nat) (now:Int) (_hk:k<c.L.length):c.onC k (Ch.qA now)={XR c k (qS (c.at' k).s now)with L:=(XR c k (qS (c.at' k).s now)).L.set k ⟨qS (c.at' k).s now,true⟩}:=by
 unfold Ch.onC XR
 simp only[List.set_set]
 congr 3
 exact Bool.or_true _
theorem CAt.shut (h:CAt w g p cap q c M) {k:Nat} (hk:k<c.L.length) (now:Int) {e:Ending} (hs:Shut w (nd q k).p (nd q k).g (nd q k).U (qS (c.at' k).s now) (nd q k).m e w'):
  qx w g p cap q (c.onC k (Ch.qA now)) M w':=by
 obtain⟨_,w1,hs,rfl⟩:=hs
 obtain⟨U',h1,h2⟩:=h.Nq hk hs (by rw[UJ];exact zg _)
 have hk1:k<(XR c k (qS (c.at' k).s now)).L.length:=by rw[XM];exact hk
 have hq:k<q.length:=by rw[h.len];exact hk
 have h3:=h1.AM hk1 true
 have hA:(XR c k (qS (c.at' k).s now)).at' k=⟨qS (c.at' k).s now,(c.at' k).closed⟩:=VQ _ _ _ hk
 rw[hA,(JL q k k U' (nd q k).m hq).1]at h3
 rw[O2 c k now hk]
 exact⟨_,h3,h2.trans (QE w1 (by rw[←(JL q k k U' (nd q k).m hq).1];exact Ul (by rw[Oe];exact hq)) 1 (.bool true)),λ j=>JL q k j U' _ hq⟩
theorem NU {U:Own} {gg m:Nat} {s:St} (h:Rep w U gg s m):∃k,w.cell? ⟨gg,0,none⟩=some (ptr k)∧Calls zf 63 #[ptr k] w (Dl w U gg (Z1 s).1 m s.S s.S.size):=by
 obtain⟨base,c',u,s',hr,ho,hs,rfl⟩:=h
 refine⟨c',hr.cell 0,?_⟩
 rw[←hs.S]
 have hd:Ok (Z1 s').1 m:=⟨ho.tx,ho.name,ho.clock,⟨ho.passed.1,by have:=ho.passed.2;show s'.passed+((0:Nat):Int)≤m;omega⟩,ho.room,ho.bk,ho.top⟩
 exact(BH hr).mono λ _ _ hh=>G8 hh hd hs.drain
end
end
section
open Go.RowKit
section
variable {w w':World} {g:Nat} {p:Option Addr} {cap:Nat} {q:List Nd} {c c':Ch} {M M':Nat}
theorem CAt.Sj {b o:Nat} (h:CAt w g (some ⟨b,o,none⟩) cap q c M) {k:Nat} (hk:k<c.L.length):w.cell? ⟨b,o+k,none⟩=some (ptr (nd q k).p):=by
 obtain⟨b',o',e,hr,_⟩:=h.rows (by omega)
 cases e
 exact hr k hk
theorem SN {k:Nat} (h:CAt w g p cap q (c.qg k) M) (hk:k<c.L.length) {w7:World} (hs:Stp w (nd q k).U (nd q k).g (Z1 ((c.qg k).at' k).s).1 (nd q k).m w7):
  (∃q7,CAt w7 g p cap q7 (XR (c.qg k) k (Z1 ((c.qg k).at' k).s).1) M)∧qx w g p cap q (c.qg (k+1)) M (w7.setCell ⟨g,4,none⟩ (.int .i64 ((c.qg k).lost+((c.qg k).at' k).s.S.size))):=by
 have hk':k<(c.qg k).L.length:=by rw[Ch.ZH];exact hk
 have h1:=h.Su hk' hs (Nat.zero_le _)
 have e:c.qg (k+1)={XR (c.qg k) k (Z1 ((c.qg k).at' k).s).1 with lost:=(c.qg k).lost+((c.qg k).at' k).s.S.size}:=by
  show({(c.qg k).onC k Ch.qv with lost:=(c.qg k).lost+((c.qg k).at' k).s.S.size}:Ch)=_
  rw[Y3 _ _ _ (by decide)]
  rfl
 refine⟨by obtain⟨q7,h7,_⟩:=h1;exact⟨q7,h7⟩,h1.then λ q7 h7 _=>?_⟩
 rw[e]
 refine h7.Ep rfl rfl ⟨by have:=h.los.1;show 0≤(c.qg k).lost+_;omega,?_⟩
 have e1:=(J4 (c.qg k) k (c.qg k).L.length (Z1 ((c.qg k).at' k).s).1 hk').1 hk'
 have e2:=h.los.2
 have e3:(Z1 ((c.qg k).at' k).s).1.S.size=0:=rfl
 rw[e3]at e1
 rw[XM]
 show(c.qg k).lost+(((c.qg k).at' k).s.S.size:Int)+_≤_
 omega
theorem SO (h:CAt w g p cap q c M) (h2:2≤c.L.length) (N:Nat) (hN:N≤c.L.length):Calls zf 60 #[ptr g,.int .i64 (N:Int)] w λ e w'=>e=.returned (.tuple #[])∧qx w g p cap q (c.Za N) M w':=by
 have h10:=h.ten
 obtain⟨b,o,rfl,hr,hnc,hmx⟩:=h.rows (by omega)
 have x0:w.cell? ⟨g,0,none⟩=some (.slice (some ⟨b,o,none⟩) c.L.length cap):=h.cell 0
 have H0:=zd (qx.refl h)
 have HLN:=zd hN
 have hNc:N≤cap:=by omega
 have hN10:N≤10:=by omega
 generalize hn:c.L.length=n at x0 hnc h2 h10 hN
 clear h hr
 go_enter func60,ntmps60
 go_wp2_with fail
 go_loopw [13] (λ i wr=>∃k:Nat,k≤N∧i=.int .i64 k∧Hid (qx w g (some ⟨b,o,none⟩) cap q (c.qg k) M wr)) (λ i _=>N -(intOf i).toNat)
 case atStart=>exact⟨0,Nat.zero_le _,rfl,H0⟩
 case round=>
  clear x0 H0
  obtain⟨k,hk,rfl,HK⟩:=hrel
  by_cases hlt:k<N
  ·obtain⟨q',hc,hmv,hpp⟩:=HK.out
   have hkc:k<c.L.length:=by have:=HLN.out;omega
   have hkn:k<(c.qg k).L.length:=by rw[Ch.ZH];exact hkc
   have hd:=hc.on (zh _ wr).drew
   obtain⟨v,z1,hcall⟩:=NU (hd.stg k hkn)
   have y0:=hc.Sj hkn
   have z0:=(hc.Vc hkn).1
   have z1:wr.cell? ⟨(nd q' k).g,0,none⟩=some (ptr v):=z1
   have x4:wr.cell? ⟨g,4,none⟩=some (.int .i64 (c.qg k).lost):=hc.cell 4
   have hb:=hc.los
   have hsz:=(hc.size_le hkn).1
   have hb2:(c.qg k).lost+(((c.qg k).at' k).s.S.size:Int)≤400000:=by
    have:=hc.top
    have:=KG (c.qg k)
    have:=TB (c.qg k) hkn
    have e1:=(J4 (c.qg k) k (c.qg k).L.length (Z1 ((c.qg k).at' k).s).1 hkn).1 hkn
    have e3:(Z1 ((c.qg k).at' k).s).1.S.size=0:=rfl
    omega
   have hb1:=hb.1
   have HN:=zd (λ W (hs:Stp wr.drew (nd q' k).U (nd q' k).g (Z1 ((c.qg k).at' k).s).1 (nd q' k).m W)=>(show(W.cell? ⟨g,4,none⟩=some (.int .i64 (c.qg k).lost)∧W.frozen? ⟨g,4,none⟩=false)∧qx w g (some ⟨b,o,none⟩) cap q (c.qg (k+1)) M (W.setCell ⟨g,4,none⟩ (.int .i64 ((c.qg k).lost+((c.qg k).at' k).s.S.size)))from by
    obtain⟨⟨q7,h7⟩,q9,a1,a2,a3⟩:=SN hd hkc hs
    exact⟨⟨h7.cell 4,h7.frz 4⟩,q9,a1,(hmv.on (zh _ wr).drew).trans a2,a3.trans hpp⟩))
   generalize((c.qg k).at' k).s.S.size=K at*
   generalize(c.qg k).lost=X at*
   have HC:=zd hcall
   generalize(nd q' k).p=pk at*
   generalize(nd q' k).g=gk at*
   clear hcall hd hc hmv hpp hb hsz HK hkn hkc
   go_wp2_with fail
   go_region_law
    (go_simp;go_at_call 63;refine zr HC.out ?_;rintro e w7 ⟨qq,d,rfl,hi7,hs7,hd7,he7,hst⟩;(obtain⟨⟨x7,f7⟩,h8⟩:=HN.out w7 hst.stp);(have HF7:=zd h8);clear h8 hi7 hst)
   all_goals go_wp2_with fail
   all_goals go_roundw
   all_goals first
    |exact⟨k+1,by omega,by go_num,HF7⟩
    |(simp[intOf];omega)
  ·obtain rfl:k=N:=by omega
   obtain⟨q',hc,hmv,hpp⟩:=HK.out
   have x3:wr.cell? ⟨g,3,none⟩=some (.bool (c.qg k).shut):=hc.cell 3
   have f3:wr.frozen? ⟨g,3,none⟩=false:=hc.frz 3
   have HE:=zd (show qx w g (some ⟨b,o,none⟩) cap q (c.Za k) M (wr.setCell ⟨g,3,none⟩ (.bool true))from HK.out.then λ q2 h2 _=>h2.Ep rfl rfl h2.los)
   clear hc hmv hpp HK
   go_wp2_with fail
   go_end0
   exact⟨rfl,HE.out⟩
theorem NY (h:CAt w g p cap q c M) (h2:2≤c.L.length) (now:Int):Calls zf 28 #[ptr g,.int .i64 now] w λ e w'=>e=.returned (.tuple #[])∧qx w g p cap q c.qX M w':=by
 have x2:w.cell? ⟨g,2,none⟩=some (.int .i64 c.state):=h.cell 2
 have x0:w.cell? ⟨g,0,none⟩=some (.slice p c.L.length cap):=h.cell 0
 obtain⟨c1,hc1⟩:∃c1,c.qX=c1:=⟨_,rfl⟩
 rw[hc1]
 by_cases h1:c.state=1
 ·have HE:=zd (show qx w g p cap q c1 M w from by rw[←hc1];unfold Ch.qX;rw[if_pos h1];exact qx.refl h)
  rw[h1]at x2
  clear h x0 hc1
  go_enter func28,ntmps28
  go_wp2_with fail
  go_end0
  exact⟨rfl,HE.out⟩
 ·have HL:=zd (SO h h2 c.L.length (zg _))
  have hc:c1={c.Za c.L.length with state:=2}:=by rw[←hc1];unfold Ch.qX;rw[if_neg h1]
  have HC:=zd hc
  clear hc1 hc
  have d1:decide (c.state=1)=false:=by simpa using h1
  have d2:(c.state==1)=false:=by simpa using h1
  have d3:(c.state !=1)=true:=by simpa using h1
  have h10:=h.ten
  generalize c.L.length=n at*
  clear h
  go_enter func28,ntmps28
  go_wp2_with fail
  refine HL.out.mono ?_
  rintro e w1 ⟨rfl,hcp⟩
  obtain⟨q1,hc,hmv,hpp⟩:=id hcp
  have y2:w1.cell? ⟨g,2,none⟩=some (.int .i64 (c.Za n).state):=hc.cell 2
  have f2:w1.frozen? ⟨g,2,none⟩=false:=hc.frz 2
  have HE:=zd (show qx w g p cap q c1 M (w1.setCell ⟨g,2,none⟩ (.int .i64 2))from by rw[HC.out];exact hcp.then λ q2 h2 _=>h2.Ep rfl rfl h2.los)
  clear hcp hc hmv hpp HL x0 x2
  go_wp2_with fail
  go_end0
  exact⟨rfl,HE.out⟩
end
end
section
open Go.RowKit
namespace Ch
theorem Y9 {c d:Ch} (h1:c.L=d.L) (h2:c.room=d.room) (h3:c.lost=d.lost) (h4:c.shut=d.shut) (h5:c.state=d.state):c=d:=by
 cases c
 cases d
 simp only at h1 h2 h3 h4 h5
 subst h1 h2 h3 h4 h5
 rfl
theorem T2 (l:List Prt) (k j:Nat) (x:Prt) (hj:j≤k):ZO (l.set j x) k=(ZO l k).set j x:=by
 unfold ZO
 rw[List.take_set,List.drop_set_of_lt (by omega)]
 by_cases hl:j<(l.take (k+1)).length
 ·rw[List.set_append_left _ _ hl]
 ·have hl2:l.length≤j:=by rw[zw]at hl;omega
  have e1:(l.take (k+1)).set j x=l.take (k+1):=List.set_eq_of_length_le (by omega)
  have e2:l.drop (k+2)=[]:=List.drop_of_length_le (by omega)
  rw[e1,e2,List.append_nil,List.set_eq_of_length_le (by omega)]
theorem T4 (l:List Prt) (k:Nat) (x:Prt):ZO (l.set (k+1) x) k=ZO l k:=by
 unfold ZO
 rw[List.take_set_of_le (zg _),List.drop_set_of_lt (by omega)]
theorem T3 (l:List Prt) (k:Nat) (x:Prt) (hk:k+2<l.length):ZO (l.set (k+2) x) k=(ZO l k).set (k+1) x:=by
 unfold ZO
 have hl:(l.take (k+1)).length=k+1:=by rw[zw];omega
 rw[List.take_set_of_le (by omega),List.set_append_right _ _ (by omega),hl,Nat.sub_self]
 congr 1
 rw[List.drop_set,if_neg (by omega),Nat.sub_self]
theorem PJ (d:Ch) (k j:Nat) (o:Op) (hj:j≤k) (hk:k+3≤d.L.length):(d.onC j o).qK k=(d.qK k).onC j o∧(d.qK k).ql j o=d.ql j o:=by
 have e:(d.qK k).at' j=d.at' j:=Vp _ _ _ (by omega) hj
 refine⟨Y9 ?_ rfl rfl rfl rfl,by unfold ql;rw[e]⟩
 show ZO (d.L.set j _) k=(ZO d.L k).set j _
 rw[T2 _ _ _ _ hj,e]
theorem jT (d:Ch) (k:Nat) (o:Op):(d.onC (k+1) o).qK k=d.qK k:=Y9 (T4 _ _ _) rfl rfl rfl rfl
theorem VE (d:Ch) (k:Nat) (o:Op) (hk:k+3≤d.L.length):(d.onC (k+2) o).qK k=(d.qK k).onC (k+1) o:=by
 have e:(d.qK k).at' (k+1)=d.at' (k+2):=Ya _ _ _ (by omega) (zg _)
 refine Y9 ?_ rfl rfl rfl rfl
 show ZO (d.L.set (k+2) _) k=(ZO d.L k).set (k+1) _
 rw[T3 _ _ _ (by omega),e]
theorem PY (s:St) (now:Int) (b:ByteArray):Zy (qc s now) now b=Zy s now b:=by
 unfold Zy
 rw[VM]
theorem KS (d:Ch) (i:Nat) (now:Int) (b:ByteArray) (hi:i<d.L.length):(d.onC i (qh now)).onC i (qJ now b)=d.onC i (qJ now b):=by
 refine Y9 ?_ rfl rfl rfl rfl
 have e:=XB d i (qh now) hi
 show((d.L.set i _).set i _)=d.L.set i _
 rw[List.set_set]
 congr 1
 rw[e]
 show(⟨Zy (qc (d.at' i).s now) now b,((d.at' i).closed||false)||false⟩:Prt)=⟨Zy (d.at' i).s now b,(d.at' i).closed||false⟩
 rw[PY,Bool.or_false]
theorem jX (s:St) (now:Int) (b:ByteArray) (h:(qc s now).st≠0):Zy s now b=qc s now:=by
 unfold Zy
 dsimp only
 rw[if_pos h]
def OI (c d:Ch) (k:Nat) (now:Int):Ch:=
 let e:=(d.onC (k+1) qv).onC (k+2) (qJ now (d.at' (k+1)).s.S)
 if(c.at' (k+1)).closed=true then(e.onC (k+2) (qA now)).qK k else e.qK k
theorem KK {c d:Ch} {k:Nat} {now:Int} (hl:k+3≤d.L.length) (h:((d.qK k).onC (k+1) (qJ now (d.at' (k+1)).s.S))=c.Xe k now):OI c d k now=c.ZW k now:=by
 have h1:((d.onC (k+1) qv).onC (k+2) (qJ now (d.at' (k+1)).s.S)).qK k=c.Xe k now:=by
  rw[VE _ _ _ (by rw[qk];exact hl),jT]
  exact h
 unfold OI ZW
 dsimp only
 split
 ·rw[VE _ _ _ (by rw[qk,qk];exact hl),h1]
 ·exact h1
theorem NO (c:Ch) (k:Nat) (now:Int) (hk:k+3≤c.L.length):c.gone k now=((c.at' (k+1)).s.S.size:Int) -(if(qc (c.at' (k+2)).s now).st=0 then(c.at' (k+1)).s.S.size else 0:Nat):=by
 have hl:=Xm c k hk
 have g2:(c.qK k).at' (k+1)=c.at' (k+2):=Ya _ _ _ (by omega) (zg _)
 have hp:=Jc (c.at' (k+2)).s now (c.at' (k+1)).s.S
 have e:((c.XJ k now).at' (k+1)).s=(doS (c.at' (k+2)).s (qJ now (c.at' (k+1)).s.S)).1:=by
  unfold XJ
  rw[XB _ _ _ (by omega),g2]
 unfold gone
 rw[e,g2,hp]
 omega
theorem PL (c:Ch) (k:Nat) (now:Int) (hk:k+3≤c.L.length) (h0:(c.at' (k+1)).s.S.size=0):OI c c k now=c.ZW k now:=by
 refine KK hk ?_
 have e:c.Xe k now=c.XJ k now:=by unfold Xe;rw[Qe k now hk h0,if_neg (by decide)]
 rw[e]
 rfl
theorem PK (c:Ch) (k:Nat) (now:Int) (hk:k+3≤c.L.length) (h0:(qc (c.at' (k+2)).s now).st=0):OI c (c.onC (k+2) (qh now)) k now=c.ZW k now:=by
 refine KK (by rw[qk];exact hk) ?_
 have hg:=NO c k now hk
 rw[if_pos h0]at hg
 have e:c.Xe k now=c.XJ k now:=by unfold Xe;rw[if_neg (by omega)]
 have hl:=Xm c k hk
 rw[e,Zd _ _ _ _ (by omega),VE _ _ _ hk,KS _ _ _ _ (by omega)]
 rfl
theorem P6 (d:Ch) (x:Int) (n:Nat):({d with lost:=d.lost+x}:Ch).qg n={d.qg n with lost:=(d.qg n).lost+x}:=by
 induction n with
 |zero=>rfl
 |succ n ih=>
  show({(({d with lost:=d.lost+x}:Ch).qg n).onC n qv with lost:=(({d with lost:=d.lost+x}:Ch).qg n).lost+_}:Ch)=_
  rw[ih]
  refine Y9 rfl (by rfl) ?_ rfl rfl
  show(d.qg n).lost+x+(((d.qg n).ql n qv).s.size:Int)=(d.qg n).lost+(((d.qg n).ql n qv).s.size:Int)+x
  omega
theorem Gu (d:Ch) (k n:Nat) (hn:n≤k+1) (hk:k+3≤d.L.length):(d.qg n).qK k=(d.qK k).qg n:=by
 induction n with
 |zero=>rfl
 |succ n ih=>
  have h1:=ih (by omega)
  have h2:=PJ (d.qg n) k n qv (by omega) (by rw[ZH];exact hk)
  rw[h1]at h2
  refine Y9 ?_ ?_ ?_ ?_ ?_
  ·have:=congrArg Ch.L h2.1
   exact this
  ·have:=congrArg Ch.room h2.1
   exact this
  ·show(d.qg n).lost+_=((d.qK k).qg n).lost+_
   rw[h2.2,←h1]
   rfl
  ·have:=congrArg Ch.shut h2.1
   exact this
  ·have:=congrArg Ch.state h2.1
   exact this
theorem PM (c:Ch) (k:Nat) (now:Int) (hk:k+3≤c.L.length) (hz:0<(c.at' (k+1)).s.S.size) (h0:(qc (c.at' (k+2)).s now).st≠0):OI c ((c.onC (k+2) (qh now)).Za (k+2)) k now=c.ZW k now:=by
 refine KK (by rw[ZL,qk];exact hk) ?_
 have hl:=Xm c k hk
 have hg:=NO c k now hk
 rw[if_neg h0]at hg
 have g2:(c.qK k).at' (k+1)=c.at' (k+2):=Ya _ _ _ (by omega) (zg _)
 have hE:c.XJ k now=(c.qK k).onC (k+1) (qh now):=by
  refine Y9 ?_ rfl rfl rfl rfl
  show(c.qK k).L.set (k+1) _=(c.qK k).L.set (k+1) _
  congr 1
  rw[g2]
  show(⟨Zy (c.at' (k+2)).s now _,(c.at' (k+2)).closed||false⟩:Prt)=⟨qc (c.at' (k+2)).s now,(c.at' (k+2)).closed||false⟩
  rw[jX _ _ _ h0]
 have e3:c.Xe k now=({c.XJ k now with lost:=c.lost+((c.at' (k+1)).s.S.size:Int)}:Ch).Za (k+1):=by
  have e:c.gone k now=((c.at' (k+1)).s.S.size:Int):=by omega
  unfold Xe
  rw[e,if_pos (by omega)]
 rw[e3,hE]
 generalize hEE:(c.qK k).onC (k+1) (qh now)=E
 have hEl:E.L.length+1=c.L.length:=by rw[←hEE,qk];exact hl
 have hElost:E.lost=c.lost:=by rw[←hEE];rfl
 have hEat:E.at' (k+1)=⟨qc (c.at' (k+2)).s now,(c.at' (k+2)).closed||false⟩:=by rw[←hEE,XB _ _ _ (by omega),g2];rfl
 have hm:({E with lost:=c.lost+((c.at' (k+1)).s.S.size:Int)}:Ch).qg (k+1)={E.qg (k+1)with lost:=(E.qg (k+1)).lost+((c.at' (k+1)).s.S.size:Int)}:=by
  rw[←hElost]
  exact P6 E _ _
 have hrem:(c.onC (k+2) (qh now)).qK k=E:=by rw[VE _ _ _ hk];exact hEE
 have hlen:(c.onC (k+2) (qh now)).L.length=c.L.length:=qk _ _ _
 have hat1:(c.onC (k+2) (qh now)).at' (k+1)=c.at' (k+1):=Zd _ _ _ _ (by omega)
 generalize hD:c.onC (k+2) (qh now)=D at*
 have hDl:(D.qg (k+2)).qK k={E.qg (k+1)with lost:=(E.qg (k+1)).lost+((c.at' (k+1)).s.S.size:Int)}:=by
  have h1:=Gu D k (k+1) (zg _) (by omega)
  rw[hrem]at h1
  have h2:=jT (D.qg (k+1)) k qv
  rw[h1]at h2
  have ha:((D.qg (k+1)).ql (k+1) qv).s.size=(c.at' (k+1)).s.S.size:=by
   show((D.qg (k+1)).at' (k+1)).s.S.size=_
   rw[Vw _ _ _ (zg _),hat1]
  have hlo:(D.qg (k+1)).lost=(E.qg (k+1)).lost:=by
   have:=congrArg Ch.lost h1
   exact this
  refine Y9 ?_ ?_ ?_ ?_ ?_
  ·have:=congrArg Ch.L h2
   exact this
  ·have:=congrArg Ch.room h2
   exact this
  ·show(D.qg (k+1)).lost+(((D.qg (k+1)).ql (k+1) qv).s.size:Int)=_
   rw[ha,hlo]
  ·have:=congrArg Ch.shut h2
   exact this
  ·have:=congrArg Ch.state h2
   exact this
 have hT:((D.Za (k+2)).at' (k+1)).s.S.size=0:=Jf D (k+2) (by omega) (k+1) (by omega)
 have hTe:((D.Za (k+2)).at' (k+1)).s.S=⟨#[]⟩:=ByteArray.ext (Array.eq_empty_of_size_eq_zero hT)
 rw[hTe]
 have hDL:=congrArg Ch.L hDl
 have hDlost:=congrArg Ch.lost hDl
 have hDroom:=congrArg Ch.room hDl
 have hDst:=congrArg Ch.state hDl
 have hatE:(E.qg (k+1)).at' (k+1)=E.at' (k+1):=Vw _ _ _ (zg _)
 have hat:((D.Za (k+2)).qK k).at' (k+1)=⟨qc (c.at' (k+2)).s now,(c.at' (k+2)).closed||false⟩:=by
  rw[←hEat,←hatE]
  show((D.qg (k+2)).qK k).L.getD (k+1) Zp=_
  rw[hDL]
  rfl
 refine Y9 ?_ ?_ ?_ rfl ?_
 ·have e1:(((D.Za (k+2)).qK k).onC (k+1) (qJ now ⟨#[]⟩)).L=((D.Za (k+2)).qK k).L:=by
   show((D.Za (k+2)).qK k).L.set (k+1) ⟨(doS (((D.Za (k+2)).qK k).at' (k+1)).s (qJ now ⟨#[]⟩)).1,(((D.Za (k+2)).qK k).at' (k+1)).closed||(qJ now ⟨#[]⟩).kind==3⟩=_
   rw[hat]
   have e2:(⟨(doS (qc (c.at' (k+2)).s now) (qJ now ⟨#[]⟩)).1,((c.at' (k+2)).closed||false)||(qJ now ⟨#[]⟩).kind==3⟩:Prt)=⟨qc (c.at' (k+2)).s now,(c.at' (k+2)).closed||false⟩:=by
    show(⟨Zy (qc (c.at' (k+2)).s now) now ⟨#[]⟩,((c.at' (k+2)).closed||false)||false⟩:Prt)=_
    rw[jX _ _ _ (by rw[VM];exact h0),VM,Bool.or_false]
   rw[e2,←hat]
   have hl3:k+1<((D.Za (k+2)).qK k).L.length:=by
    have:=Xm (D.Za (k+2)) k (by rw[ZL];omega)
    rw[ZL]at this
    omega
   unfold at'
   rw[zi,zj hl3]
   exact List.set_getElem_self hl3
  rw[e1]
  show((D.qg (k+2)).qK k).L=(({E with lost:=c.lost+((c.at' (k+1)).s.S.size:Int)}:Ch).qg (k+1)).L
  rw[hm,hDL]
 ·show((D.qg (k+2)).qK k).room=(({E with lost:=c.lost+((c.at' (k+1)).s.S.size:Int)}:Ch).qg (k+1)).room
  rw[hm,hDroom]
 ·show((D.qg (k+2)).qK k).lost=(({E with lost:=c.lost+((c.at' (k+1)).s.S.size:Int)}:Ch).qg (k+1)).lost
  rw[hm,hDlost]
 ·show((D.qg (k+2)).qK k).state=(({E with lost:=c.lost+((c.at' (k+1)).s.S.size:Int)}:Ch).qg (k+1)).state
  rw[hm,hDst]
end Ch
end
end Go.Proofs.YtfdfgnmgpgkknaaGreat
