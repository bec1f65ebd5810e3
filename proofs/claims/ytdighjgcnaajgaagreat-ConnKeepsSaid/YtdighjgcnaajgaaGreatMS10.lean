import Derived.Test.YtdighjgcnaajgaaGreatMS3
import Derived.Test.YtdighjgcnaajgaaGreatMS6
import Derived.Test.YtdighjgcnaajgaaGreatMS8
import Derived.Test.YtdighjgcnaajgaaGreatMS9
namespace Go.Proofs.YtdighjgcnaajgaaGreat
open Go.RowKit
structure Tox where
 s:ByteArray
 k:Int
 up:Bool
 o:Int
 a:Int
 b:Int
deriving DecidableEq
def noTox:Tox:=⟨⟨#[]⟩,0,false,0,0,0⟩
def Tox.chk (t:Tox):Int:=gx.checkB t.s t.k t.o t.a t.b
structure Bkt where
 r:Int
 u:Int
 l:Int
 t:Int
structure St where
 tx:Tox
 d:Int
 bk:Bkt
 S:ByteArray
 A:List Int
 last:Int
 room:Int
 began:Int
 clock:Int
 pause:Int
 passed:Int
 closed:Bool
 at':Int
 st:Int
def addT (a b:Int):Int:=gb.near (gb.near a+gb.near b)
def tickS (c now:Int):Int:=if c<gb.near now then gb.near now else c
def stateS (s:St) (c:Int):Int:=
 if s.st≠0 then s.st
 else if s.tx.k=5∧addT s.began s.tx.a≤c then 2
 else if s.tx.k=4 then(if addT s.began s.tx.a≤c then 1 else 0)
 else if s.tx.k=6∧s.tx.a≤s.passed then 1
 else if s.closed=true∧s.S.size=0∧(s.tx.k≠7∨addT s.at' s.tx.a≤c)then 1 else 0
def lookS (s:St) (now:Int):St:={s with clock:=tickS s.clock now,st:=stateS s (tickS s.clock now)}
def putS (s:St) (at':Int) (b:ByteArray):St:={s with S:=s.S++b,A:=s.A++List.replicate b.size (gc.putT s.last at'),last:=gc.putT s.last at'}
def forceS (s:St) (b:ByteArray):St:=
 if b.size=0 then s
 else if s.tx.k=1 then putS {s with d:=gd.rangeS s.d (s.tx.a -s.tx.b) (s.tx.a+s.tx.b)} (addT s.clock (gd.rangeV s.d (s.tx.a -s.tx.b) (s.tx.a+s.tx.b))) b
 else putS s s.clock b
def freeS (s:St):Int:=if s.room<s.S.size then 0 else s.room -s.S.size
def giveS (s:St) (n:Int):St×Int:=
 if s.tx.k=2 then
  let l:=gb.fillL s.bk.r s.bk.u s.bk.l s.bk.t s.clock
  ({s with bk:=⟨s.bk.r,s.bk.u,l -gb.takeB l n,gb.fillT s.bk.r s.bk.u s.bk.l s.bk.t s.clock⟩},gb.takeB l n)
 else if s.tx.k=3 then
  if n=0∨s.clock<s.pause then(s,0)
  else({s with d:=gd.stepZ s.d,pause:=addT s.clock s.tx.b},if gd.takeZ s.d s.tx.a+1<n then gd.takeZ s.d s.tx.a+1 else n)
 else if s.tx.k=4 then(s,0)
 else if s.tx.k=6∧s.tx.a -s.passed<n then(s,s.tx.a -s.passed)
 else(s,n)
def cutS (s:St) (K:Nat):St:={s with S:=s.S.extract K s.S.size,A:=s.A.drop K,passed:=s.passed+K}
def takeS (s:St) (now most:Int):St×ByteArray:=
 let s1:=lookS s now
 if s1.st≠0∨most<1 then(s1,⟨#[]⟩)
 else
  let n:Int:=if most<gc.readyN s1.A s1.clock then most else gc.readyN s1.A s1.clock
  let g:=giveS s1 n
  let K:=gc.takeK s1.A s1.clock g.2
  (cutS g.1 K,s1.S.extract 0 K)
def closeS (s:St) (now:Int):St:=
 if s.closed=true then{s with clock:=tickS s.clock now}else{s with clock:=tickS s.clock now,closed:=true,at':=tickS s.clock now}
def chgB (k:Bkt) (r u now:Int):Bkt:=
 let l:=gb.fillL k.r k.u k.l k.t now
 ⟨r,u,if u<l then u else l,gb.fillT k.r k.u k.l k.t now⟩
def updS (s:St) (t:Tox) (now:Int):St×Int:=
 if t.k≠s.tx.k then(s,91)else if t.k=0 then(s,0)else if t.chk≠0 then(s,t.chk)
 else
  let s1:=lookS s now
  ({s1 with tx:=t,bk:=if t.k=2 then chgB s1.bk t.a t.b s1.clock else s1.bk},0)
def drainS (s:St):St×ByteArray:=({s with S:=⟨#[]⟩,A:=[]},s.S)
structure Op where
 kind:Int
 now:Int
 n:Int
 s:ByteArray
 t:Tox
structure Ans where
 n:Int
 s:ByteArray
 e:Int
def noAns:Ans:=⟨0,⟨#[]⟩,0⟩
def bringS (s:St) (now:Int) (b:ByteArray):St×Int:=
 let s1:=lookS s now
 if s1.st≠0∨s1.closed=true then(s1,0)
 else
  let n:Int:=if freeS s1<b.size then freeS s1 else b.size
  (forceS s1 (b.extract 0 n.toNat),n)
def pushS (s:St) (now:Int) (b:ByteArray):St:=
 let s1:=lookS s now
 if s1.st≠0 then s1 else forceS s1 b
def doS (s:St) (o:Op):St×Ans:=
 if o.kind=0 then((bringS s o.now o.s).1,⟨(bringS s o.now o.s).2,⟨#[]⟩,0⟩)
 else if o.kind=1 then(pushS s o.now o.s,noAns)
 else if o.kind=2 then((takeS s o.now o.n).1,⟨0,(takeS s o.now o.n).2,0⟩)
 else if o.kind=3 then(closeS s o.now,noAns)
 else if o.kind=4 then(lookS s o.now,⟨(lookS s o.now).st,⟨#[]⟩,0⟩)
 else if o.kind=5 then((updS s o.t o.now).1,⟨0,⟨#[]⟩,(updS s o.t o.now).2⟩)
 else if o.kind=6 then((drainS s).1,⟨0,(drainS s).2,0⟩)
 else(s,noAns)
def newS (t:Tox) (seed room now:Int):St:=
 ⟨t,seed,if t.k=2 then⟨t.a,t.b,t.b,gb.near now⟩else⟨0,0,0,0⟩,⟨#[]⟩,[],0,room,gb.near now,gb.near now,0,0,false,0,0⟩
def newE (t:Tox) (room:Int):Int:=if t≠noTox∧t.chk≠0 then t.chk else if room<1∨4096<room then 1 else 0
theorem tick_tick (c now:Int):tickS (tickS c now) now=tickS c now:=by
 unfold tickS
 by_cases h:c<gb.near now
 ·rw[if_pos h,if_neg (by omega)]
 ·rw[if_neg h,if_neg h]
theorem state_of (s:St) (c:Int) (h:s.st≠0):stateS s c=s.st:=by unfold stateS;rw[if_pos h]
theorem state_open {s:St} {c:Int} (h:stateS s c=0):s.st=0:=by
 by_cases h0:s.st=0
 ·exact h0
 ·rw[state_of s c h0]at h
  exact absurd h h0
theorem state_state (s:St) (c c':Int):stateS {s with clock:=c',st:=stateS s c} c=stateS s c:=by
 obtain⟨X,hX⟩:∃X,stateS s c=X:=⟨_,rfl⟩
 rw[hX]
 by_cases h:X=0
 ·subst h
  have hs:=state_open hX
  refine Eq.trans ?_ hX
  unfold stateS
  simp only[hs]
 ·exact state_of {s with clock:=c',st:=X} c h
theorem look_look (s:St) (now:Int):lookS (lookS s now) now=lookS s now:=by
 have h:=state_state s (tickS s.clock now) (tickS s.clock now)
 unfold lookS
 simp only[tick_tick]
 rw[h]
theorem extract_all (b:ByteArray):b.extract 0 b.size=b:=by simp
theorem extract_cut (b:ByteArray) (K:Nat):b.extract 0 K++b.extract K b.size=b:=by
 rw[ByteArray.extract_append_extract]
 simp
theorem force_S (s:St) (b:ByteArray):(forceS s b).S=s.S++b:=by
 unfold forceS
 by_cases h:b.size=0
 ·rw[if_pos h]
  have:b=⟨#[]⟩:=ByteArray.ext (Array.eq_empty_of_size_eq_zero h)
  rw[this]
  exact(ByteArray.append_empty).symm
 ·rw[if_neg h]
  split<;>rfl
end Go.Proofs.YtdighjgcnaajgaaGreat
namespace Go.Proofs.YtdighjgcnaajgaaGreat
open Go.RowKit
theorem cat_none (a:ByteArray):a++(⟨#[]⟩:ByteArray)=a:=ByteArray.append_empty
theorem none_cat (a:ByteArray):(⟨#[]⟩:ByteArray)++a=a:=ByteArray.empty_append
theorem extract_none (a:ByteArray):a.extract 0 0=⟨#[]⟩:=by
 apply ByteArray.ext
 apply Array.eq_empty_of_size_eq_zero
 have:(a.extract 0 0).size=0:=by rw[ByteArray.size_extract];omega
 exact this
theorem free_pos (s:St):0≤freeS s:=by unfold freeS;split<;>omega
def inS (s:St) (o:Op):ByteArray:=
 if o.kind=0 then o.s.extract 0 (doS (lookS s o.now) o).2.n.toNat
 else if o.kind=1∧(lookS s o.now).st=0 then o.s else⟨#[]⟩
theorem give_keeps (s:St) (n:Int):(giveS s n).1.S=s.S∧(giveS s n).1.A=s.A∧(giveS s n).1.last=s.last∧(giveS s n).1.clock=s.clock∧(giveS s n).1.tx=s.tx∧(giveS s n).1.passed=s.passed∧(giveS s n).1.began=s.began∧(giveS s n).1.st=s.st∧(giveS s n).1.closed=s.closed∧(giveS s n).1.room=s.room:=by
 unfold giveS
 (repeat' split)<;>refine⟨rfl,rfl,rfl,rfl,rfl,rfl,rfl,rfl,rfl,rfl⟩
theorem take_S (s:St) (now most:Int):(takeS s now most).2++(takeS s now most).1.S=s.S:=by
 unfold takeS
 dsimp only
 split
 ·exact none_cat _
 ·show _++(giveS _ _).1.S.extract _ (giveS _ _).1.S.size=_
  rw[(give_keeps _ _).1]
  exact extract_cut _ _
theorem bring_n (s:St) (now:Int) (b:ByteArray):0≤(bringS s now b).2∧(bringS s now b).2≤b.size:=by
 unfold bringS
 dsimp only
 have:=free_pos (lookS s now)
 split
 ·exact⟨Int.le_refl _,by show(0:Int)≤_;omega⟩
 ·dsimp only
  split<;>omega
theorem bring_S (s:St) (now:Int) (b:ByteArray):(bringS s now b).1.S=s.S++b.extract 0 (bringS s now b).2.toNat:=by
 unfold bringS
 dsimp only
 split
 ·show s.S=_
  rw[show((0:Int).toNat)=0 from rfl,extract_none,cat_none]
 ·exact force_S _ _
theorem push_S (s:St) (now:Int) (b:ByteArray):(pushS s now b).S=s.S++(if(lookS s now).st=0 then b else⟨#[]⟩):=by
 unfold pushS
 dsimp only
 by_cases h:(lookS s now).st=0
 ·rw[if_neg (by simpa using h),if_pos h]
  exact force_S _ _
 ·rw[if_pos h,if_neg h,cat_none]
  rfl
theorem upd_S (s:St) (t:Tox) (now:Int):(updS s t now).1.S=s.S:=by
 unfold updS
 (repeat' split)<;>rfl
theorem close_S (s:St) (now:Int):(closeS s now).S=s.S:=by
 unfold closeS
 split<;>rfl
theorem do_n (s:St) (o:Op) (h:o.kind=0):0≤(doS s o).2.n∧(doS s o).2.n≤o.s.size:=by
 unfold doS
 rw[if_pos h]
 exact bring_n _ _ _
theorem do_keeps (s:St) (o:Op):(doS (lookS s o.now) o).2.s++(doS (lookS s o.now) o).1.S=s.S++inS s o:=by
 by_cases h0:o.kind=0
 ·have hn:inS s o=o.s.extract 0 (doS (lookS s o.now) o).2.n.toNat:=by unfold inS;rw[if_pos h0]
  rw[hn]
  unfold doS
  rw[if_pos h0]
  show(⟨#[]⟩:ByteArray)++_=_
  rw[none_cat]
  exact bring_S _ _ _
 by_cases h1:o.kind=1
 ·have hn:inS s o=if(lookS s o.now).st=0 then o.s else⟨#[]⟩:=by
   unfold inS
   rw[if_neg h0]
   by_cases hs:(lookS s o.now).st=0
   ·rw[if_pos ⟨h1,hs⟩,if_pos hs]
   ·rw[if_neg (λ h=>hs h.2),if_neg hs]
  rw[hn]
  unfold doS
  rw[if_neg h0,if_pos h1]
  show(⟨#[]⟩:ByteArray)++_=_
  rw[none_cat]
  show(pushS (lookS s o.now) o.now o.s).S=_
  rw[push_S,look_look]
  rfl
 have hn:inS s o=⟨#[]⟩:=by
  unfold inS
  rw[if_neg h0,if_neg (λ h=>h1 h.1)]
 rw[hn,cat_none]
 unfold doS
 rw[if_neg h0,if_neg h1]
 by_cases h2:o.kind=2
 ·rw[if_pos h2]
  exact take_S _ _ _
 rw[if_neg h2]
 by_cases h3:o.kind=3
 ·rw[if_pos h3]
  show(⟨#[]⟩:ByteArray)++(closeS _ _).S=_
  rw[none_cat,close_S]
  rfl
 rw[if_neg h3]
 by_cases h4:o.kind=4
 ·rw[if_pos h4]
  exact none_cat _
 rw[if_neg h4]
 by_cases h5:o.kind=5
 ·rw[if_pos h5]
  show(⟨#[]⟩:ByteArray)++(updS _ _ _).1.S=_
  rw[none_cat,upd_S]
  rfl
 rw[if_neg h5]
 by_cases h6:o.kind=6
 ·rw[if_pos h6]
  exact cat_none _
 rw[if_neg h6]
 exact none_cat _
end Go.Proofs.YtdighjgcnaajgaaGreat
