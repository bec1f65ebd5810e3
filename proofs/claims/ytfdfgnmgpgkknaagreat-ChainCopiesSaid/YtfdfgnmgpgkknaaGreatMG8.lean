import Derived.Test.YtfdfgnmgpgkknaaGreatMG2
import Derived.Test.YtfdfgnmgpgkknaaGreatMG5
import Derived.Test.YtfdfgnmgpgkknaaGreatMG6
import Derived.Test.YtfdfgnmgpgkknaaGreatMG7
namespace Go.Proofs.YtfdfgnmgpgkknaaGreat
section
open Go.RowKit
structure Tox where
 s:ByteArray
 k:Int
 up:Bool
 o:Int
 a:Int
 b:Int
deriving DecidableEq
def qi:Tox:=⟨⟨#[]⟩,0,false,0,0,0⟩
def Tox.chk (t:Tox):Int:=gx.Ye t.s t.k t.o t.a t.b
structure Bkt where
 r:Int
 u:Int
 l:Int
 t:Int
structure St where
 tx:Tox
 d:Int
 bk:Bkt
 S:ByteArray
 A:List Int
 last:Int
 room:Int
 began:Int
 clock:Int
 pause:Int
 passed:Int
 closed:Bool
 at':Int
 st:Int
def XC (a b:Int):Int:=gb.qe (gb.qe a+gb.qe b)
def qM (c now:Int):Int:=if c<gb.qe now then gb.qe now else c
def XA (s:St) (c:Int):Int:=
 if s.st≠0 then s.st
 else if s.tx.k=5∧XC s.began s.tx.a≤c then 2
 else if s.tx.k=4 then(if XC s.began s.tx.a≤c then 1 else 0)
 else if s.tx.k=6∧s.tx.a≤s.passed then 1
 else if s.closed=true∧s.S.size=0∧(s.tx.k≠7∨XC s.at' s.tx.a≤c)then 1 else 0
def qc (s:St) (now:Int):St:={s with clock:=qM s.clock now,st:=XA s (qM s.clock now)}
def KN (s:St) (at':Int) (b:ByteArray):St:={s with S:=s.S++b,A:=s.A++List.replicate b.size (gc.Xl s.last at'),last:=gc.Xl s.last at'}
def qG (s:St) (b:ByteArray):St:=
 if b.size=0 then s
 else if s.tx.k=1 then KN {s with d:=gd.Vo s.d (s.tx.a -s.tx.b) (s.tx.a+s.tx.b)} (XC s.clock (gd.Vn s.d (s.tx.a -s.tx.b) (s.tx.a+s.tx.b))) b
 else KN s s.clock b
def Zt (s:St):Int:=if s.room<s.S.size then 0 else s.room -s.S.size
def qC (s:St) (n:Int):St×Int:=
 if s.tx.k=2 then
  let l:=gb.ZJ s.bk.r s.bk.u s.bk.l s.bk.t s.clock
  ({s with bk:=⟨s.bk.r,s.bk.u,l -gb.JP l n,gb.ZV s.bk.r s.bk.u s.bk.l s.bk.t s.clock⟩},gb.JP l n)
 else if s.tx.k=3 then
  if n=0∨s.clock<s.pause then(s,0)
  else({s with d:=gd.XT s.d,pause:=XC s.clock s.tx.b},if gd.X6 s.d s.tx.a+1<n then gd.X6 s.d s.tx.a+1 else n)
 else if s.tx.k=4 then(s,0)
 else if s.tx.k=6∧s.tx.a -s.passed<n then(s,s.tx.a -s.passed)
 else(s,n)
def VR (s:St) (K:Nat):St:={s with S:=s.S.extract K s.S.size,A:=s.A.drop K,passed:=s.passed+K}
def Zw (s:St) (now most:Int):St×ByteArray:=
 let s1:=qc s now
 if s1.st≠0∨most<1 then(s1,⟨#[]⟩)
 else
  let n:Int:=if most<gc.qn s1.A s1.clock then most else gc.qn s1.A s1.clock
  let g:=qC s1 n
  let K:=gc.Zz s1.A s1.clock g.2
  (VR g.1 K,s1.S.extract 0 K)
def qS (s:St) (now:Int):St:=
 if s.closed=true then{s with clock:=qM s.clock now}else{s with clock:=qM s.clock now,closed:=true,at':=qM s.clock now}
def Nf (k:Bkt) (r u now:Int):Bkt:=
 let l:=gb.ZJ k.r k.u k.l k.t now
 ⟨r,u,if u<l then u else l,gb.ZV k.r k.u k.l k.t now⟩
def Xg (s:St) (t:Tox) (now:Int):St×Int:=
 if t.k≠s.tx.k then(s,91)else if t.k=0 then(s,0)else if t.chk≠0 then(s,t.chk)
 else
  let s1:=qc s now
  ({s1 with tx:=t,bk:=if t.k=2 then Nf s1.bk t.a t.b s1.clock else s1.bk},0)
def Z1 (s:St):St×ByteArray:=({s with S:=⟨#[]⟩,A:=[]},s.S)
structure Op where
 kind:Int
 now:Int
 n:Int
 s:ByteArray
 t:Tox
structure Ans where
 n:Int
 s:ByteArray
 e:Int
def qT:Ans:=⟨0,⟨#[]⟩,0⟩
def qU (s:St) (now:Int) (b:ByteArray):St×Int:=
 let s1:=qc s now
 if s1.st≠0∨s1.closed=true then(s1,0)
 else
  let n:Int:=if Zt s1<b.size then Zt s1 else b.size
  (qG s1 (b.extract 0 n.toNat),n)
def Zy (s:St) (now:Int) (b:ByteArray):St:=
 let s1:=qc s now
 if s1.st≠0 then s1 else qG s1 b
def doS (s:St) (o:Op):St×Ans:=
 if o.kind=0 then((qU s o.now o.s).1,⟨(qU s o.now o.s).2,⟨#[]⟩,0⟩)
 else if o.kind=1 then(Zy s o.now o.s,qT)
 else if o.kind=2 then((Zw s o.now o.n).1,⟨0,(Zw s o.now o.n).2,0⟩)
 else if o.kind=3 then(qS s o.now,qT)
 else if o.kind=4 then(qc s o.now,⟨(qc s o.now).st,⟨#[]⟩,0⟩)
 else if o.kind=5 then((Xg s o.t o.now).1,⟨0,⟨#[]⟩,(Xg s o.t o.now).2⟩)
 else if o.kind=6 then((Z1 s).1,⟨0,(Z1 s).2,0⟩)
 else(s,qT)
def Zh (t:Tox) (seed room now:Int):St:=
 ⟨t,seed,if t.k=2 then⟨t.a,t.b,t.b,gb.qe now⟩else⟨0,0,0,0⟩,⟨#[]⟩,[],0,room,gb.qe now,gb.qe now,0,0,false,0,0⟩
def Zx (t:Tox) (room:Int):Int:=if t≠qi∧t.chk≠0 then t.chk else if room<1∨4096<room then 1 else 0
theorem Pd (c now:Int):qM (qM c now) now=qM c now:=by
 unfold qM
 by_cases h:c<gb.qe now
 ·rw[if_pos h,if_neg (by omega)]
 ·rw[if_neg h,if_neg h]
theorem QU (s:St) (c:Int) (h:s.st≠0):XA s c=s.st:=by unfold XA;rw[if_pos h]
theorem QT {s:St} {c:Int} (h:XA s c=0):s.st=0:=by
 by_cases h0:s.st=0
 ·exact h0
 ·rw[QU s c h0]at h
  exact absurd h h0
theorem TF (s:St) (c c':Int):XA {s with clock:=c',st:=XA s c} c=XA s c:=by
 obtain⟨X,hX⟩:∃X,XA s c=X:=⟨_,rfl⟩
 rw[hX]
 by_cases h:X=0
 ·subst h
  have hs:=QT hX
  refine Eq.trans ?_ hX
  unfold XA
  simp only[hs]
 ·exact QU {s with clock:=c',st:=X} c h
theorem VM (s:St) (now:Int):qc (qc s now) now=qc s now:=by
 have h:=TF s (qM s.clock now) (qM s.clock now)
 unfold qc
 simp only[Pd]
 rw[h]
theorem extract_all (b:ByteArray):b.extract 0 b.size=b:=by simp
theorem ME (b:ByteArray) (K:Nat):b.extract 0 K++b.extract K b.size=b:=by
 rw[ByteArray.extract_append_extract]
 simp
theorem NQ (s:St) (b:ByteArray):(qG s b).S=s.S++b:=by
 unfold qG
 by_cases h:b.size=0
 ·rw[if_pos h]
  have:b=⟨#[]⟩:=ByteArray.ext (Array.eq_empty_of_size_eq_zero h)
  rw[this]
  exact(ByteArray.append_empty).symm
 ·rw[if_neg h]
  split<;>rfl
end
section
open Go.RowKit
theorem MK (a:ByteArray):a++(⟨#[]⟩:ByteArray)=a:=ByteArray.append_empty
theorem O6 (a:ByteArray):(⟨#[]⟩:ByteArray)++a=a:=ByteArray.empty_append
theorem UF (a:ByteArray):a.extract 0 0=⟨#[]⟩:=by
 apply ByteArray.ext
 apply Array.eq_empty_of_size_eq_zero
 have:(a.extract 0 0).size=0:=by rw[ByteArray.size_extract];omega
 exact this
theorem jm (s:St):0≤Zt s:=by unfold Zt;split<;>omega
theorem XN (s:St) (n:Int):(qC s n).1.S=s.S∧(qC s n).1.A=s.A∧(qC s n).1.last=s.last∧(qC s n).1.clock=s.clock∧(qC s n).1.tx=s.tx∧(qC s n).1.passed=s.passed∧(qC s n).1.began=s.began∧(qC s n).1.st=s.st∧(qC s n).1.closed=s.closed∧(qC s n).1.room=s.room:=by
 unfold qC
 (repeat' split)<;>refine⟨rfl,rfl,rfl,rfl,rfl,rfl,rfl,rfl,rfl,rfl⟩
theorem DZ (s:St) (now most:Int):(Zw s now most).2++(Zw s now most).1.S=s.S:=by
 unfold Zw
 dsimp only
 split
 ·exact O6 _
 ·show _++(qC _ _).1.S.extract _ (qC _ _).1.S.size=_
  rw[(XN _ _).1]
  exact ME _ _
theorem QK (s:St) (now:Int) (b:ByteArray):0≤(qU s now b).2∧(qU s now b).2≤b.size:=by
 unfold qU
 dsimp only
 have:=jm (qc s now)
 split
 ·exact⟨Int.le_refl _,by show(0:Int)≤_;omega⟩
 ·dsimp only
  split<;>omega
theorem Dd (s:St) (now:Int) (b:ByteArray):(qU s now b).1.S=s.S++b.extract 0 (qU s now b).2.toNat:=by
 unfold qU
 dsimp only
 split
 ·show s.S=_
  rw[show((0:Int).toNat)=0 from rfl,UF,MK]
 ·exact NQ _ _
theorem Bf (s:St) (now:Int) (b:ByteArray):(Zy s now b).S=s.S++(if(qc s now).st=0 then b else⟨#[]⟩):=by
 unfold Zy
 dsimp only
 by_cases h:(qc s now).st=0
 ·rw[if_neg (by simpa using h),if_pos h]
  exact NQ _ _
 ·rw[if_pos h,if_neg h,MK]
  rfl
theorem Dp (s:St) (t:Tox) (now:Int):(Xg s t now).1.S=s.S:=by
 unfold Xg
 (repeat' split)<;>rfl
theorem UJ (s:St) (now:Int):(qS s now).S=s.S:=by
 unfold qS
 split<;>rfl
theorem kh (s:St) (o:Op) (h:o.kind=0):0≤(doS s o).2.n∧(doS s o).2.n≤o.s.size:=by
 unfold doS
 rw[if_pos h]
 exact QK _ _ _
end
end Go.Proofs.YtfdfgnmgpgkknaaGreat
