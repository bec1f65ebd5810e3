import Derived.Test.YtdighjgcnaajgaaGreatMS32
import Derived.Test.YtdighjgcnaajgaaGreatMS30
import Derived.Test.YtdighjgcnaajgaaGreatMS31
import Derived.Test.YtdighjgcnaajgaaGreatMS6
import Derived.Lib.SlicesS
namespace Go.Proofs.YtdighjgcnaajgaaGreat
open Go.RowKit
def KindOk (s:St):Prop:=s.st=0∨s.st=1∨(s.st=2∧s.tx.k=5)
theorem kind_look {s:St} (h:KindOk s) (now:Int):KindOk (lookS s now)∧(lookS s now).tx.k=s.tx.k:=by
 refine⟨?_,rfl⟩
 show stateS s (tickS s.clock now)=0∨stateS s (tickS s.clock now)=1∨(stateS s (tickS s.clock now)=2∧s.tx.k=5)
 unfold stateS
 split
 ·exact h
 ·split
  ·rename_i h5
   exact Or.inr (Or.inr ⟨rfl,h5.1⟩)
  ·(repeat' split)<;>first|exact Or.inl rfl|exact Or.inr (Or.inl rfl)
theorem force_tx (s:St) (b:ByteArray):(forceS s b).tx=s.tx∧(forceS s b).st=s.st:=by
 unfold forceS
 split
 ·exact⟨rfl,rfl⟩
 ·split<;>exact⟨rfl,rfl⟩
theorem kind_of {s s':St} (h:KindOk s) (e:s'.tx.k=s.tx.k∧s'.st=s.st):KindOk s'∧s'.tx.k=s.tx.k:=⟨by unfold KindOk;rw[e.1,e.2];exact h,e.1⟩
theorem kind_do {s:St} (h:KindOk s) (o:Op):KindOk (doS s o).1∧(doS s o).1.tx.k=s.tx.k:=by
 have hl:=kind_look h o.now
 unfold doS
 by_cases k0:o.kind=0
 ·rw[if_pos k0]
  show KindOk (bringS s o.now o.s).1∧(bringS s o.now o.s).1.tx.k=s.tx.k
  unfold bringS
  dsimp only
  split
  ·exact hl
  ·have hf:=force_tx (lookS s o.now) (o.s.extract 0 (if freeS (lookS s o.now)<(o.s.size:Int)then freeS (lookS s o.now)else(o.s.size:Int)).toNat)
   have:=kind_of hl.1 (s':=forceS (lookS s o.now) (o.s.extract 0 (if freeS (lookS s o.now)<(o.s.size:Int)then freeS (lookS s o.now)else(o.s.size:Int)).toNat)) ⟨by rw[hf.1],hf.2⟩
   exact⟨this.1,this.2.trans hl.2⟩
 rw[if_neg k0]
 by_cases k1:o.kind=1
 ·rw[if_pos k1]
  show KindOk (pushS s o.now o.s)∧(pushS s o.now o.s).tx.k=s.tx.k
  unfold pushS
  dsimp only
  split
  ·exact hl
  ·have hf:=force_tx (lookS s o.now) o.s
   have:=kind_of hl.1 (s':=forceS (lookS s o.now) o.s) ⟨by rw[hf.1],hf.2⟩
   exact⟨this.1,this.2.trans hl.2⟩
 rw[if_neg k1]
 by_cases k2:o.kind=2
 ·rw[if_pos k2]
  show KindOk (takeS s o.now o.n).1∧(takeS s o.now o.n).1.tx.k=s.tx.k
  unfold takeS
  dsimp only
  split
  ·exact hl
  ·generalize lookS s o.now=s1 at*
   have hg:=Ch.give_st s1 (if o.n<((gc.readyN s1.A s1.clock:Nat):Int)then o.n else((gc.readyN s1.A s1.clock:Nat):Int))
   have:=kind_of hl.1 (s':=cutS (giveS s1 (if o.n<((gc.readyN s1.A s1.clock:Nat):Int)then o.n else((gc.readyN s1.A s1.clock:Nat):Int))).1 (gc.takeK s1.A s1.clock (giveS s1 (if o.n<((gc.readyN s1.A s1.clock:Nat):Int)then o.n else((gc.readyN s1.A s1.clock:Nat):Int))).2)) ⟨by show(giveS s1 _).1.tx.k=_;rw[hg.2.1],hg.1⟩
   exact⟨this.1,this.2.trans hl.2⟩
 rw[if_neg k2]
 by_cases k3:o.kind=3
 ·rw[if_pos k3]
  show KindOk (closeS s o.now)∧(closeS s o.now).tx.k=s.tx.k
  unfold closeS
  split<;>exact⟨h,rfl⟩
 rw[if_neg k3]
 by_cases k4:o.kind=4
 ·rw[if_pos k4]
  exact hl
 rw[if_neg k4]
 by_cases k5:o.kind=5
 ·rw[if_pos k5]
  show KindOk (updS s o.t o.now).1∧(updS s o.t o.now).1.tx.k=s.tx.k
  unfold updS
  split
  ·exact⟨h,rfl⟩
  ·rename_i e
   split
   ·exact⟨h,rfl⟩
   ·split
    ·exact⟨h,rfl⟩
    ·refine⟨?_,?_⟩
     ·rcases hl.1 with e1|e1|e1
      ·exact Or.inl e1
      ·exact Or.inr (Or.inl e1)
      ·refine Or.inr (Or.inr ⟨e1.1,?_⟩)
       show o.t.k=5
       have:=e1.2
       omega
     ·show o.t.k=s.tx.k
      omega
 rw[if_neg k5]
 by_cases k6:o.kind=6
 ·rw[if_pos k6]
  exact⟨h,rfl⟩
 rw[if_neg k6]
 exact⟨h,rfl⟩
theorem kind_new (t:Tox) (seed room now:Int):KindOk (newS t seed room now):=Or.inl rfl
namespace Ch
structure Ends (c:Ch):Prop where
 ok:∀k,k<c.L.length→KindOk (c.at' k).s
 out:(c.at' (c.L.length -1)).s.tx.k=0
theorem Ends.same {c c':Ch} (h:Ends c) (e:c'.L=c.L):Ends c':=by
 have ha:∀k,c'.at' k=c.at' k:=λ k=>by unfold at';rw[e]
 exact⟨λ k hk=>by rw[ha];exact h.ok k (by rwa[e]at hk),by rw[ha,e];exact h.out⟩
section
variable {c:Ch}
theorem Ends.on (h:Ends c) (k:Nat) (hk:k<c.L.length) (o:Op):Ends (c.onC k o):=by
 have h1:=kind_do (h.ok k hk) o
 refine⟨λ j hj=>?_,?_⟩
 ·rw[len_on]at hj
  by_cases e:k=j
  ·subst e
   rw[at_on _ _ _ hk]
   exact h1.1
  ·rw[at_other _ _ _ _ e]
   exact h.ok j hj
 ·rw[len_on]
  by_cases e:k=c.L.length -1
  ·subst e
   rw[at_on _ _ _ hk]
   exact h1.2.trans h.out
  ·rw[at_other _ _ _ _ e]
   exact h.out
theorem Ends.loseN (h:Ends c) (n:Nat) (hn:n≤c.L.length):Ends (c.loseN n):=by
 induction n with
 |zero=>exact h
 |succ n ih=>exact((ih (by omega)).on n (by rw[len_loseN];omega) oDrain).same rfl
theorem Ends.lose (h:Ends c) (n:Nat) (hn:n≤c.L.length):Ends (c.lose n):=(h.loseN n hn).same rfl
theorem Ends.break (h:Ends c):Ends c.breakC:=by
 unfold breakC
 split
 ·exact h
 ·exact(h.lose _ (Nat.le_refl _)).same rfl
theorem Ends.looks (h:Ends c) (now:Int) (n:Nat) (hn:n≤c.L.length):Ends (c.looks now n):=by
 induction n with
 |zero=>exact h
 |succ n ih=>exact(ih (by omega)).on n (by rw[len_looks];omega) _
theorem Ends.flow1 (h:Ends c) (now:Int) (i:Nat) (hi:i+1<c.L.length):Ends (c.flow1 now i):=by
 unfold Ch.flow1
 dsimp only
 split
 ·exact((h.on (i+1) hi _).on i (by rw[len_on];omega) _).on (i+1) (by rw[len_on,len_on];exact hi) _
 ·exact h.on (i+1) hi _
theorem Ends.flow (h:Ends c) (now:Int) (n:Nat) (hn:n<c.L.length):Ends (c.flow now n):=by
 induction n with
 |zero=>exact h
 |succ n ih=>exact(ih (by omega)).flow1 now n (by rw[len_flow];exact hn)
theorem Ends.ends1 (h:Ends c) (now:Int) (i:Nat) (hi:i+1<c.L.length):Ends (c.ends1 now i):=by
 unfold Ch.ends1
 dsimp only
 split
 ·exact((h.on i (by omega) _).lose (i+1) (by rw[len_on];omega)).on (i+1) (by rw[len_lose,len_on];exact hi) _
 ·exact h.on i (by omega) _
theorem Ends.ends (h:Ends c) (now:Int) (n:Nat) (hn:n<c.L.length):Ends (c.ends now n):=by
 induction n with
 |zero=>exact h
 |succ n ih=>exact(ih (by omega)).ends1 now n (by rw[len_ends];exact hn)
theorem len_step3 (c:Ch) (now:Int):(c.step3 now).L.length=c.L.length:=by unfold step3;rw[len_ends,len_flow,len_looks]
theorem Ends.step3 (h:Ends c) (now:Int) (h2:2≤c.L.length):Ends (c.step3 now):=by
 have h1:=(h.looks now c.L.length (Nat.le_refl _)).flow now (c.L.length -1) (by rw[len_looks];omega)
 exact h1.ends now (c.L.length -1) (by rw[len_flow,len_looks];omega)
theorem Ends.outlet (h:Ends c) (now:Int) (h2:2≤c.L.length):(c.ansC (c.L.length -1) (oLook now)).n=0∨(c.ansC (c.L.length -1) (oLook now)).n=1:=by
 have h1:=kind_look (h.ok (c.L.length -1) (by omega)) now
 rcases h1.1 with e|e|e
 ·exact Or.inl e
 ·exact Or.inr e
 ·have:=e.2
  rw[h1.2,h.out]at this
  omega
theorem Ends.step (h:Ends c) (now:Int) (h2:2≤c.L.length):Ends (c.stepC now):=by
 unfold stepC
 split
 ·exact h
 ·split
  ·exact(h.looks now _ (Nat.le_refl _)).break
  ·exact((h.step3 now h2).on (c.L.length -1) (by rw[len_step3];omega) _).same rfl
theorem Ends.ins (h:Ends c) (k:Nat) (t:Tox) (seed now:Int) (hk:k+2≤c.L.length):Ends (c.insN k t seed now):=by
 have hp:Ends ({c with L:=insL c.L k ⟨newS t seed c.room now,false⟩}:Ch):=by
  have g1:∀j,j≤k→({c with L:=insL c.L k ⟨newS t seed c.room now,false⟩}:Ch).at' j=c.at' j:=λ j hj=>insL_lt _ _ _ _ (by omega) hj
  have g2:({c with L:=insL c.L k ⟨newS t seed c.room now,false⟩}:Ch).at' (k+1)=⟨newS t seed c.room now,false⟩:=insL_eq _ _ _ (by omega)
  have g3:∀j,k+1≤j→({c with L:=insL c.L k ⟨newS t seed c.room now,false⟩}:Ch).at' (j+1)=c.at' j:=λ j hj=>insL_gt _ _ _ _ (by omega) hj
  have gl:({c with L:=insL c.L k ⟨newS t seed c.room now,false⟩}:Ch).L.length=c.L.length+1:=len_insL _ _ _ (by omega)
  generalize({c with L:=insL c.L k ⟨newS t seed c.room now,false⟩}:Ch)=d at*
  refine⟨λ i hi=>?_,?_⟩
  ·rcases Nat.lt_trichotomy i (k+1)with e|rfl|e
   ·rw[g1 i (by omega)];exact h.ok i (by omega)
   ·rw[g2];exact kind_new t _ _ _
   ·obtain⟨j,rfl⟩:∃j,i=j+1:=⟨i -1,by omega⟩
    rw[g3 j (by omega)];exact h.ok j (by omega)
  ·rw[gl,show c.L.length+1 -1=(c.L.length -1)+1 by omega,g3 _ (by omega)]
   exact h.out
 have hl:({c with L:=insL c.L k ⟨newS t seed c.room now,false⟩}:Ch).L.length=c.L.length+1:=len_insL _ _ _ (by omega)
 unfold insN
 dsimp only
 split
 ·exact hp.on (k+1) (by show k+1<(insL c.L k _).length;rw[len_insL _ _ _ (by omega)];omega) _
 ·exact hp
theorem Ends.rem (h:Ends c) (k:Nat) (now:Int) (hk:k+3≤c.L.length):Ends (c.remC k now):=by
 have hl:=len_rem1 c k hk
 have h1:Ends (c.rem1 k):=by
  refine⟨λ i hi=>?_,?_⟩
  ·by_cases e:i≤k
   ·show KindOk ((outL c.L k).getD i noPrt).s
    rw[out_lt _ _ _ (by omega) e]
    exact h.ok i (by omega)
   ·show KindOk ((outL c.L k).getD i noPrt).s
    rw[out_ge _ _ _ (by omega) (by omega)]
    exact h.ok (i+1) (by omega)
  ·show((outL c.L k).getD ((c.rem1 k).L.length -1) noPrt).s.tx.k=0
   rw[out_ge _ _ _ (by omega) (by omega),show(c.rem1 k).L.length -1+1=c.L.length -1 by omega]
   exact h.out
 have h2:Ends (c.rem2 k now):=h1.on (k+1) (by omega) _
 have hl2:(c.rem2 k now).L.length=(c.rem1 k).L.length:=len_on _ _ _
 have h3:Ends (c.rem3 k now)∧(c.rem3 k now).L.length=(c.rem1 k).L.length:=by
  unfold rem3
  split
  ·refine⟨(h2.same (c':={c.rem2 k now with lost:=c.lost+c.gone k now}) rfl).lose (k+1) (by show k+1≤(c.rem2 k now).L.length;omega),?_⟩
   rw[len_lose]
   exact hl2
  ·exact⟨h2,hl2⟩
 unfold remC
 split
 ·exact h3.1.on (k+1) (by omega) _
 ·exact h3.1
theorem Ends.doN (h:Ends c) (o:COp) (h2:2≤c.L.length):Ends (c.doN o):=by
 unfold Ch.doN
 split
 ·split
  ·exact h
  ·exact h.on 0 (by omega) _
 split
 ·split
  ·exact(h.on 0 (by omega) _).same rfl
  ·exact h
 split
 ·exact h.break
 split
 ·exact h.step o.now h2
 split
 ·split
  ·exact h
  ·exact h.on (c.L.length -1) (by omega) _
 split
 ·split
  ·exact h
  ·rename_i he
   have hb:¬(o.n<0∨(c.L.length:Int) -2<o.n∨8≤(c.L.length:Int) -2):=λ hb=>he (by unfold insE;rw[if_pos hb];decide)
   exact h.ins _ _ _ _ (by omega)
 split
 ·split
  ·exact h.rem _ _ (by omega)
  ·exact h
 split
 ·split
  ·exact h.on _ (by omega) _
  ·exact h
 ·exact h
theorem Ends.new (room now:Int):Ends (newC room now):=by
 refine⟨λ k hk=>?_,rfl⟩
 have hk:k<2:=hk
 match k,hk with
 |0,_=>exact kind_new noTox 0 room now
 |1,_=>exact kind_new noTox 0 room now
end
end Ch
end Go.Proofs.YtdighjgcnaajgaaGreat
namespace Go.Proofs.YtdighjgcnaajgaaGreat
open Go.RowKit
structure LikeP (p' p:Prt):Prop where
 closed:p'.closed=p.closed
 tx:p'.s.tx=p.s.tx
 z':p'.s.S.size=0
 z:p.s.S.size=0
namespace Ch
structure Brk (c' c:Ch):Prop where
 st':c'.state=2
 st:c.state=2
 room:c'.room=c.room
 lost:c'.lost=c.lost
 shut:c'.shut=c.shut
 len:c'.L.length=c.L.length
 ok:∀k,k<c.L.length→LikeP (c'.at' k) (c.at' k)
def Like (c' c:Ch):Prop:=c'=c∨Brk c' c
theorem like_refl (c:Ch):Like c c:=Or.inl rfl
section
variable {c' c:Ch}
theorem Brk.on (h:Brk c' c) (k:Nat) (hk:k<c.L.length) (o' o:Op) (_ho:o'.kind=o.kind) (h1:LikeP ⟨(doS (c'.at' k).s o').1,(c'.at' k).closed||o'.kind==3⟩ ⟨(doS (c.at' k).s o).1,(c.at' k).closed||o.kind==3⟩):Brk (c'.onC k o') (c.onC k o):=by
 refine⟨h.st',h.st,h.room,h.lost,h.shut,by rw[len_on,len_on];exact h.len,λ j hj=>?_⟩
 rw[len_on]at hj
 by_cases e:k=j
 ·subst e
  rw[at_on _ _ _ hk,at_on _ _ _ (by rw[h.len];exact hk)]
  exact h1
 ·rw[at_other _ _ _ _ e,at_other _ _ _ _ e]
  exact h.ok j hj
theorem close_tx (s:St) (now:Int):(closeS s now).tx=s.tx:=by unfold closeS;split<;>rfl
theorem push_tx (s:St) (now:Int) (b:ByteArray):(pushS s now b).tx=s.tx:=by
 unfold pushS
 dsimp only
 split
 ·rfl
 ·exact(force_tx _ _).1
theorem Brk.close (h:Brk c' c) (k:Nat) (hk:k<c.L.length) (now:Int):Brk (c'.onC k (oClose now)) (c.onC k (oClose now)):=by
 have hp:=h.ok k hk
 refine h.on k hk _ _ rfl ⟨?_,?_,?_,?_⟩
 ·show((c'.at' k).closed||true)=((c.at' k).closed||true)
  rw[Bool.or_true,Bool.or_true]
 ·show(closeS _ _).tx=(closeS _ _).tx
  rw[close_tx,close_tx]
  exact hp.tx
 ·show(closeS _ _).S.size=0
  rw[close_S]
  exact hp.z'
 ·show(closeS _ _).S.size=0
  rw[close_S]
  exact hp.z
theorem Brk.drain (h:Brk c' c) (k:Nat) (hk:k<c.L.length):Brk (c'.onC k oDrain) (c.onC k oDrain):=by
 have hp:=h.ok k hk
 refine h.on k hk _ _ rfl ⟨?_,hp.tx,rfl,rfl⟩
 show((c'.at' k).closed||false)=((c.at' k).closed||false)
 rw[hp.closed]
theorem Brk.push (h:Brk c' c) (k:Nat) (hk:k<c.L.length) (now:Int) (b' b:ByteArray) (hb':b'.size=0) (hb:b.size=0):Brk (c'.onC k (oPush now b')) (c.onC k (oPush now b)):=by
 have hp:=h.ok k hk
 refine h.on k hk _ _ rfl ⟨?_,?_,?_,?_⟩
 ·show((c'.at' k).closed||false)=((c.at' k).closed||false)
  rw[hp.closed]
 ·show(pushS _ _ _).tx=(pushS _ _ _).tx
  rw[push_tx,push_tx]
  exact hp.tx
 ·rw[sz_push,hp.z',hb']
  split<;>rfl
 ·rw[sz_push,hp.z,hb]
  split<;>rfl
theorem upd_tx (s s':St) (t:Tox) (now:Int) (e:s'.tx=s.tx):(updS s' t now).1.tx=(updS s t now).1.tx∧(updS s' t now).2=(updS s t now).2:=by
 unfold updS
 rw[e]
 split
 ·exact⟨e,rfl⟩
 ·split
  ·exact⟨e,rfl⟩
  ·split
   ·exact⟨e,rfl⟩
   ·exact⟨rfl,rfl⟩
theorem Brk.upd (h:Brk c' c) (k:Nat) (hk:k<c.L.length) (now:Int) (t:Tox):Brk (c'.onC k (oUpd now t)) (c.onC k (oUpd now t)):=by
 have hp:=h.ok k hk
 refine h.on k hk _ _ rfl ⟨?_,(upd_tx _ _ t now hp.tx).1,?_,?_⟩
 ·show((c'.at' k).closed||false)=((c.at' k).closed||false)
  rw[hp.closed]
 ·rw[sz_upd]
  exact hp.z'
 ·rw[sz_upd]
  exact hp.z
theorem Brk.loseN (h:Brk c' c) (n:Nat) (hn:n≤c.L.length):Brk (c'.loseN n) (c.loseN n):=by
 induction n with
 |zero=>exact h
 |succ n ih=>
  have h1:=ih (by omega)
  have hk:n<(c.loseN n).L.length:=by rw[len_loseN];omega
  have hp:=h1.ok n hk
  have h2:=h1.drain n hk
  refine⟨h2.st',h2.st,h2.room,?_,h2.shut,h2.len,h2.ok⟩
  show(c'.loseN n).lost+(((c'.loseN n).at' n).s.S.size:Nat)=(c.loseN n).lost+(((c.loseN n).at' n).s.S.size:Nat)
  rw[h1.lost,hp.z,hp.z']
theorem Brk.lose (h:Brk c' c) (n:Nat) (hn:n≤c.L.length):Brk (c'.lose n) (c.lose n):=by
 have h1:=h.loseN n hn
 exact⟨h1.st',h1.st,h1.room,h1.lost,rfl,h1.len,h1.ok⟩
theorem Brk.break (h:Brk c' c):Brk c'.breakC c.breakC:=by
 unfold breakC
 rw[if_neg (by rw[h.st'];decide),if_neg (by rw[h.st];decide),h.len]
 have h1:=h.lose c.L.length (Nat.le_refl _)
 exact⟨rfl,rfl,h1.room,h1.lost,h1.shut,h1.len,h1.ok⟩
theorem Brk.list {l' l:List Prt} (h:Brk c' c) (hl:l'.length=l.length) (ho:∀k,k<l.length→LikeP (l'.getD k noPrt) (l.getD k noPrt)):Brk {c' with L:=l'} {c with L:=l}:=⟨h.st',h.st,h.room,h.lost,h.shut,hl,ho⟩
theorem Brk.ins (h:Brk c' c) (k:Nat) (t:Tox) (seed now:Int) (hk:k+2≤c.L.length):Brk (c'.insN k t seed now) (c.insN k t seed now):=by
 have hk':k+2≤c'.L.length:=by rw[h.len];exact hk
 have h1:Brk {c' with L:=insL c'.L k ⟨newS t seed c'.room now,false⟩} {c with L:=insL c.L k ⟨newS t seed c.room now,false⟩}:=by
  refine h.list (by rw[len_insL _ _ _ (by omega),len_insL _ _ _ (by omega),h.len]) λ i hi=>?_
  rw[len_insL _ _ _ (by omega)]at hi
  rcases Nat.lt_trichotomy i (k+1)with e|rfl|e
  ·rw[insL_lt _ _ _ _ (by omega) (by omega),insL_lt _ _ _ _ (by omega) (by omega)]
   exact h.ok i (by omega)
  ·rw[insL_eq _ _ _ (by omega),insL_eq _ _ _ (by omega)]
   exact⟨rfl,rfl,rfl,rfl⟩
  ·obtain⟨j,rfl⟩:∃j,i=j+1:=⟨i -1,by omega⟩
   rw[insL_gt _ _ _ _ (by omega) (by omega),insL_gt _ _ _ _ (by omega) (by omega)]
   exact h.ok j (by omega)
 have hl:(insL c.L k (⟨newS t seed c.room now,false⟩:Prt)).length=c.L.length+1:=len_insL _ _ _ (by omega)
 have hc:(({c' with L:=insL c'.L k ⟨newS t seed c'.room now,false⟩}:Ch).at' (k+2)).closed=(({c with L:=insL c.L k ⟨newS t seed c.room now,false⟩}:Ch).at' (k+2)).closed:=(h1.ok (k+2) (by show k+2<(insL c.L k _).length;omega)).closed
 have e':c'.insN k t seed now=if(({c' with L:=insL c'.L k ⟨newS t seed c'.room now,false⟩}:Ch).at' (k+2)).closed=true then({c' with L:=insL c'.L k ⟨newS t seed c'.room now,false⟩}:Ch).onC (k+1) (oClose now)else{c' with L:=insL c'.L k ⟨newS t seed c'.room now,false⟩}:=rfl
 have e:c.insN k t seed now=if(({c with L:=insL c.L k ⟨newS t seed c.room now,false⟩}:Ch).at' (k+2)).closed=true then({c with L:=insL c.L k ⟨newS t seed c.room now,false⟩}:Ch).onC (k+1) (oClose now)else{c with L:=insL c.L k ⟨newS t seed c.room now,false⟩}:=rfl
 rw[e',e,hc]
 split
 ·exact h1.close (k+1) (by show k+1<(insL c.L k _).length;omega) now
 ·exact h1
theorem gone_none {c:Ch} (k:Nat) (now:Int) (hk:k+3≤c.L.length) (h0:(c.at' (k+1)).s.S.size=0):c.gone k now=0:=by
 have hl:=len_rem1 c k hk
 have hp:=sz_push ((c.rem1 k).at' (k+1)).s now (c.at' (k+1)).s.S
 have h1:((c.rem2 k now).at' (k+1)).s.S.size=((c.rem1 k).at' (k+1)).s.S.size:=by
  unfold rem2
  rw[at_on _ _ _ (by omega)]
  show(doS _ _).1.S.size=_
  rw[hp,h0]
  split<;>rfl
 unfold gone
 rw[h0,h1]
 omega
theorem Brk.rem (h:Brk c' c) (k:Nat) (now:Int) (hk:k+3≤c.L.length):Brk (c'.remC k now) (c.remC k now):=by
 have hk':k+3≤c'.L.length:=by rw[h.len];exact hk
 have hp:=h.ok (k+1) (by omega)
 have hl:=len_rem1 c k hk
 have h1:Brk (c'.rem1 k) (c.rem1 k):=by
  have hl':=len_rem1 c' k hk'
  refine h.list (by have:=h.len;show(c'.rem1 k).L.length=(c.rem1 k).L.length;omega) λ i hi=>?_
  have hi:i<(c.rem1 k).L.length:=hi
  show LikeP ((outL c'.L k).getD i noPrt) ((outL c.L k).getD i noPrt)
  by_cases e:i≤k
  ·rw[out_lt _ _ _ (by omega) e,out_lt _ _ _ (by omega) e]
   exact h.ok i (by omega)
  ·rw[out_ge _ _ _ (by omega) (by omega),out_ge _ _ _ (by omega) (by omega)]
   exact h.ok (i+1) (by omega)
 have h2:Brk (c'.rem2 k now) (c.rem2 k now):=h1.push (k+1) (by omega) now _ _ hp.z' hp.z
 have e3':c'.rem3 k now=c'.rem2 k now:=by unfold rem3;rw[gone_none k now hk' hp.z',if_neg (by decide)]
 have e3:c.rem3 k now=c.rem2 k now:=by unfold rem3;rw[gone_none k now hk hp.z,if_neg (by decide)]
 have hl2:(c.rem2 k now).L.length=(c.rem1 k).L.length:=len_on _ _ _
 unfold remC
 rw[e3',e3,hp.closed]
 split
 ·exact h2.close (k+1) (by omega) now
 ·exact h2
theorem brk_do (h:Brk c' c) (o:COp) (h2:2≤c.L.length):Brk (c'.doN o) (c.doN o)∧c'.doA o=c.doA o:=by
 have hs':c'.state≠0:=by rw[h.st'];decide
 have hs:c.state≠0:=by rw[h.st];decide
 have hE:c'.insE o.n o.t=c.insE o.n o.t:=by unfold insE;rw[h.len,h.room]
 unfold doN doA
 by_cases k0:o.kind=0
 ·rw[if_pos k0,if_pos k0,if_pos k0,if_pos k0,if_pos (Or.inr hs'),if_pos (Or.inr hs),if_pos (Or.inr hs'),if_pos (Or.inr hs)]
  exact⟨h,rfl⟩
 rw[if_neg k0,if_neg k0,if_neg k0,if_neg k0]
 by_cases k1:o.kind=1
 ·rw[if_pos k1,if_pos k1,if_pos k1,if_pos k1,if_neg hs',if_neg hs]
  exact⟨h,rfl⟩
 rw[if_neg k1,if_neg k1,if_neg k1,if_neg k1]
 by_cases k2:o.kind=2
 ·rw[if_pos k2,if_pos k2,if_pos k2,if_pos k2]
  exact⟨h.break,rfl⟩
 rw[if_neg k2,if_neg k2,if_neg k2,if_neg k2]
 by_cases k3:o.kind=3
 ·rw[if_pos k3,if_pos k3,if_pos k3,if_pos k3]
  unfold stepC
  rw[if_pos hs',if_pos hs,h.st',h.st]
  exact⟨h,rfl⟩
 rw[if_neg k3,if_neg k3,if_neg k3,if_neg k3]
 by_cases k4:o.kind=4
 ·rw[if_pos k4,if_pos k4,if_pos k4,if_pos k4,if_pos h.st',if_pos h.st,if_pos h.st',if_pos h.st]
  exact⟨h,rfl⟩
 rw[if_neg k4,if_neg k4,if_neg k4,if_neg k4]
 by_cases k5:o.kind=5
 ·rw[if_pos k5,if_pos k5,if_pos k5,if_pos k5,hE]
  refine⟨?_,rfl⟩
  split
  ·exact h
  ·rename_i he
   have hb:¬(o.n<0∨(c.L.length:Int) -2<o.n∨8≤(c.L.length:Int) -2):=λ hb=>he (by unfold insE;rw[if_pos hb];decide)
   exact h.ins _ _ _ _ (by omega)
 rw[if_neg k5,if_neg k5,if_neg k5,if_neg k5]
 by_cases k6:o.kind=6
 ·rw[if_pos k6,if_pos k6,if_pos k6,if_pos k6,h.len]
  refine⟨?_,rfl⟩
  split
  ·exact h.rem _ _ (by omega)
  ·exact h
 rw[if_neg k6,if_neg k6,if_neg k6,if_neg k6]
 by_cases k7:o.kind=7
 ·rw[if_pos k7,if_pos k7,if_pos k7,if_pos k7,h.len]
  by_cases hn:0≤o.n∧o.n<(c.L.length:Int) -2
  ·rw[if_pos hn,if_pos hn,if_pos hn,if_pos hn]
   have hk:o.n.toNat+1<c.L.length:=by omega
   refine⟨h.upd _ hk o.now o.t,?_⟩
   show(⟨0,⟨#[]⟩,(updS (c'.at' (o.n.toNat+1)).s o.t o.now).2⟩:Ans)=⟨0,⟨#[]⟩,(updS (c.at' (o.n.toNat+1)).s o.t o.now).2⟩
   rw[(upd_tx _ _ o.t o.now (h.ok _ hk).tx).2]
  ·rw[if_neg hn,if_neg hn,if_neg hn,if_neg hn]
   exact⟨h,rfl⟩
 rw[if_neg k7,if_neg k7,if_neg k7,if_neg k7]
 exact⟨h,rfl⟩
theorem Brk.held (h:Brk c' c):c'.held=0∧c.held=0:=
 ⟨sum_zero _ λ i hi=>(h.ok i (by rw[←h.len];exact hi)).z',sum_zero _ λ i hi=>(h.ok i hi).z⟩
theorem Like.held (h:Like c' c):c'.held=c.held:=by
 rcases h with rfl|h
 ·rfl
 ·rw[h.held.1,h.held.2]
theorem Like.state (h:Like c' c):c'.state=c.state:=by
 rcases h with rfl|h
 ·rfl
 ·rw[h.st,h.st']
theorem Like.lost (h:Like c' c):c'.lost=c.lost:=by
 rcases h with rfl|h
 ·rfl
 ·exact h.lost
theorem Like.len (h:Like c' c):c'.L.length=c.L.length:=by
 rcases h with rfl|h
 ·rfl
 ·exact h.len
theorem Like.tx (h:Like c' c) (k:Nat) (hk:k<c.L.length):(c'.at' k).s.tx=(c.at' k).s.tx:=by
 rcases h with rfl|h
 ·rfl
 ·exact(h.ok k hk).tx
end
theorem looks_same (c:Ch) (now:Int) (n:Nat) (hn:n≤c.L.length) (k:Nat) (hk:k<c.L.length):((c.looks now n).at' k).closed=(c.at' k).closed∧((c.looks now n).at' k).s.tx=(c.at' k).s.tx∧((c.looks now n).at' k).s.S=(c.at' k).s.S:=by
 induction n with
 |zero=>exact⟨rfl,rfl,rfl⟩
 |succ n ih=>
  have h1:=ih (by omega)
  show(((c.looks now n).onC n (oLook now)).at' k).closed=_∧(((c.looks now n).onC n (oLook now)).at' k).s.tx=_∧(((c.looks now n).onC n (oLook now)).at' k).s.S=_
  by_cases e:n=k
  ·subst e
   rw[at_on _ _ _ (by rw[len_looks];omega)]
   refine⟨?_,h1.2.1,h1.2.2⟩
   show(((c.looks now n).at' n).closed||false)=_
   rw[Bool.or_false]
   exact h1.1
  ·rw[at_other _ _ _ _ e]
   exact h1
theorem looks_rest (c:Ch) (now:Int) (n:Nat):(c.looks now n).room=c.room∧(c.looks now n).shut=c.shut∧(c.looks now n).state=c.state:=by
 induction n with
 |zero=>exact⟨rfl,rfl,rfl⟩
 |succ n ih=>exact ih
theorem lose_same (c:Ch) (n:Nat) (hn:n≤c.L.length) (k:Nat) (hk:k<c.L.length):((c.loseN n).at' k).closed=(c.at' k).closed∧((c.loseN n).at' k).s.tx=(c.at' k).s.tx:=by
 induction n with
 |zero=>exact⟨rfl,rfl⟩
 |succ n ih=>
  have h1:=ih (by omega)
  show(((c.loseN n).onC n oDrain).at' k).closed=_∧(((c.loseN n).onC n oDrain).at' k).s.tx=_
  by_cases e:n=k
  ·subst e
   rw[at_on _ _ _ (by rw[len_loseN];omega)]
   refine⟨?_,h1.2⟩
   show(((c.loseN n).at' n).closed||false)=_
   rw[Bool.or_false]
   exact h1.1
  ·rw[at_other _ _ _ _ e]
   exact h1
theorem lose_lost {d' d:Ch} (hl:d'.lost=d.lost) (hS:∀k,k<d.L.length→(d'.at' k).s.S=(d.at' k).s.S) (n:Nat) (hn:n≤d.L.length):(d'.loseN n).lost=(d.loseN n).lost:=by
 induction n with
 |zero=>exact hl
 |succ n ih=>
  show(d'.loseN n).lost+(((d'.loseN n).at' n).s.S.size:Nat)=(d.loseN n).lost+(((d.loseN n).at' n).s.S.size:Nat)
  rw[ih (by omega),at_loseN _ _ _ (Nat.le_refl _),at_loseN _ _ _ (Nat.le_refl _),hS n (by omega)]
theorem loseN_room (c:Ch) (n:Nat):(c.loseN n).room=c.room:=by
 induction n with
 |zero=>rfl
 |succ n ih=>exact ih
theorem brk_looks (c:Ch) (now:Int) (i j:Nat) (hi:i≤c.L.length) (hj:j≤c.L.length) (hs:c.state=0):Brk (c.looks now i).breakC (c.looks now j).breakC:=by
 have e1:=looks_rest c now i
 have e2:=looks_rest c now j
 unfold breakC
 rw[if_neg (by rw[e1.2.2,hs];decide),if_neg (by rw[e2.2.2,hs];decide)]
 refine⟨rfl,rfl,?_,?_,rfl,?_,λ k hk=>?_⟩
 ·show((c.looks now i).loseN _).room=((c.looks now j).loseN _).room
  rw[loseN_room,loseN_room,e1.1,e2.1]
 ·show((c.looks now i).loseN _).lost=((c.looks now j).loseN _).lost
  rw[len_looks,len_looks]
  refine lose_lost (by rw[lost_looks,lost_looks]) (λ k hk=>?_) _ (by rw[len_looks];exact Nat.le_refl _)
  rw[len_looks]at hk
  rw[(looks_same c now i hi k hk).2.2,(looks_same c now j hj k hk).2.2]
 ·show((c.looks now i).loseN _).L.length=((c.looks now j).loseN _).L.length
  rw[len_loseN,len_loseN,len_looks,len_looks]
 ·have hk:k<c.L.length:=by
   have h:k<((c.looks now j).loseN (c.looks now j).L.length).L.length:=hk
   rwa[len_loseN,len_looks]at h
  show LikeP (((c.looks now i).loseN _).at' k) (((c.looks now j).loseN _).at' k)
  have a1:=lose_same (c.looks now i) (c.looks now i).L.length (Nat.le_refl _) k (by rw[len_looks];exact hk)
  have a2:=lose_same (c.looks now j) (c.looks now j).L.length (Nat.le_refl _) k (by rw[len_looks];exact hk)
  have b1:=looks_same c now i hi k hk
  have b2:=looks_same c now j hj k hk
  exact⟨by rw[a1.1,a2.1,b1.1,b2.1],by rw[a1.2,a2.2,b1.2.1,b2.2.1],held_loseAll _ _ (Nat.le_refl _) k (by rw[len_looks];exact hk),held_loseAll _ _ (Nat.le_refl _) k (by rw[len_looks];exact hk)⟩
end Ch
end Go.Proofs.YtdighjgcnaajgaaGreat
namespace Go.Proofs.YtdighjgcnaajgaaGreat
open Go.RowKit
namespace Ch
structure St3 (c:Ch):Prop where
 ends:Ends c
 st:0≤c.state∧c.state≤2
theorem loseN_state (c:Ch) (n:Nat):(c.loseN n).state=c.state:=by
 induction n with
 |zero=>rfl
 |succ n ih=>exact ih
theorem break_state (c:Ch) (h:0≤c.state∧c.state≤2):0≤c.breakC.state∧c.breakC.state≤2:=by
 unfold breakC
 split
 ·exact h
 ·exact⟨by show(0:Int)≤2;decide,by show(2:Int)≤2;decide⟩
theorem step_state (c:Ch) (now:Int) (he:Ends c) (h:0≤c.state∧c.state≤2) (h2:2≤c.L.length):0≤(c.stepC now).state∧(c.stepC now).state≤2:=by
 unfold stepC
 split
 ·exact h
 ·split
  ·exact break_state _ (by rw[(looks_rest c now _).2.2];exact h)
  ·show 0≤((c.step3 now).ansC (c.L.length -1) (oLook now)).n∧((c.step3 now).ansC (c.L.length -1) (oLook now)).n≤2
   have h3:=(he.step3 now h2).outlet now (by rw[len_step3];exact h2)
   rw[len_step3]at h3
   rcases h3 with e|e<;>rw[e]<;>decide
theorem ins_state (c:Ch) (k:Nat) (t:Tox) (seed now:Int):(c.insN k t seed now).state=c.state:=by
 unfold insN
 dsimp only
 split<;>rfl
theorem rem_state (c:Ch) (k:Nat) (now:Int):(c.remC k now).state=c.state:=by
 have h3:(c.rem3 k now).state=c.state:=by
  unfold rem3
  split
  ·show(Ch.loseN _ _).state=_
   rw[loseN_state]
   rfl
  ·rfl
 unfold remC
 split
 ·exact h3
 ·exact h3
theorem St3.do {c:Ch} (h:St3 c) (o:COp) (h2:2≤c.L.length):St3 (c.doN o):=by
 refine⟨h.ends.doN o h2,?_⟩
 have hs:=h.st
 unfold doN
 split
 ·split<;>exact hs
 split
 ·split<;>exact hs
 split
 ·exact break_state c hs
 split
 ·exact step_state c _ h.ends hs h2
 split
 ·split<;>exact hs
 split
 ·split
  ·exact hs
  ·rw[ins_state];exact hs
 split
 ·split
  ·rw[rem_state];exact hs
  ·exact hs
 split
 ·split<;>exact hs
 exact hs
theorem St3.new (room now:Int):St3 (newC room now):=⟨Ends.new room now,by show(0:Int)≤0;decide,by show(0:Int)≤2;decide⟩
theorem St3.ans {c:Ch} (h:St3 c) (o:COp) (h2:2≤c.L.length):0≤(c.doA o).n∧(o.kind=0→(c.doA o).n≤o.s.size):=by
 have hd:=(h.do o h2).st
 by_cases h0:o.kind=0
 ·unfold doA
  rw[if_pos h0]
  split
  ·exact⟨Int.le_refl _,λ _=>Int.natCast_nonneg _⟩
  ·have hb:=bring_n (c.at' 0).s o.now o.s
   refine⟨?_,λ _=>?_⟩
   ·show 0≤(bringS (c.at' 0).s o.now o.s).2
    omega
   ·show(bringS (c.at' 0).s o.now o.s).2≤o.s.size
    omega
 refine⟨?_,λ e=>absurd e h0⟩
 unfold doA
 rw[if_neg h0]
 split
 ·exact Int.le_refl _
 split
 ·exact Int.le_refl _
 split
 ·rename_i h3
  unfold doN at hd
  rw[if_neg h0,if_neg (by omega),if_neg (by omega),if_pos h3]at hd
  exact hd.1
 split
 ·split<;>exact Int.le_refl _
 split
 ·exact Int.le_refl _
 split
 ·split<;>exact Int.le_refl _
 split
 ·split<;>exact Int.le_refl _
 exact Int.le_refl _
end Ch
end Go.Proofs.YtdighjgcnaajgaaGreat
namespace Go.Proofs.YtdighjgcnaajgaaGreat
open Go.RowKit
namespace Ch
theorem kept_new (room now:Int):Kept (newC room now) ⟨#[]⟩ ⟨#[]⟩:=⟨⟨⟨#[]⟩,rfl⟩,λ _=>rfl⟩
theorem kept_pf {c:Ch} {i o:ByteArray} (h:Kept c i o):o.size≤i.size∧i.extract 0 o.size=o:=by
 obtain⟨r,hr⟩:=h.1
 rw[ByteArray.append_assoc]at hr
 rw[hr]
 refine⟨by rw[ByteArray.size_append];omega,?_⟩
 exact ByteArray.extract_append_eq_left rfl
theorem safe_new (room now:Int):Safe (newC room now):=by
 refine⟨λ k hk=>?_,λ k hk=>?_,λ k hk hc=>?_⟩
 ·have hk:k<2:=hk
  rcases(show k=0∨k=1 by omega)with rfl|rfl<;>exact stok_new noTox 0 room now (by decide)
 ·have hk:k<2:=hk
  rcases(show k=0∨k=1 by omega)with rfl|rfl<;>rfl
 ·have hk:k<2:=hk
  rcases(show k=0∨k=1 by omega)with rfl|rfl<;>exact absurd hc (by show¬(false=true);decide)
theorem St3.held2 {c:Ch} (h:St3 c) (o:COp) (hl:2≤c.L.length∧c.L.length≤10) (h0:c.state=2→c.held=0):(c.doN o).state=2→(c.doN o).held=0:=by
 by_cases hs:c.state=2
 ·exactλ _=>none_held c o hl hs (h0 hs)
 unfold doN
 split
 ·split
  ·exactλ e=>absurd e hs
  ·exactλ e=>absurd e hs
 split
 ·split
  ·exactλ e=>absurd e hs
  ·exactλ e=>absurd e hs
 split
 ·intro e
  by_cases h1:c.state=1
  ·unfold breakC at e
   rw[if_pos h1]at e
   exact absurd e hs
  ·exact(held_break c h1).1
 split
 ·unfold stepC
  split
  ·exactλ e=>absurd e hs
  ·split
   ·exactλ _=>(held_break _ (by rw[(looks_rest c o.now _).2.2];omega)).1
   ·intro e
    have h3:=(h.ends.step3 o.now hl.1).outlet o.now (by rw[len_step3];exact hl.1)
    rw[len_step3]at h3
    have e:((c.step3 o.now).ansC (c.L.length -1) (oLook o.now)).n=2:=e
    omega
 split
 ·exactλ e=>absurd e hs
 split
 ·split
  ·exactλ e=>absurd e hs
  ·intro e
   rw[ins_state]at e
   exact absurd e hs
 split
 ·split
  ·intro e
   rw[rem_state]at e
   exact absurd e hs
  ·exactλ e=>absurd e hs
 split
 ·split
  ·exactλ e=>absurd e hs
  ·exactλ e=>absurd e hs
 exactλ e=>absurd e hs
end Ch
end Go.Proofs.YtdighjgcnaajgaaGreat
namespace Go.Proofs.YtdighjgcnaajgaaGreat
open Go.RowKit
structure Lk where
 c:Ch
 names:List ByteArray
 up:Bool
 seed:Int
 drawn:Nat
 sent:Int
 got:Int
 fin:Int
structure LOp where
 kind:Int
 now:Int
 n:Int
 s:ByteArray
 t:Tox
def none0:ByteArray:=⟨#[]⟩
namespace Lk
def dice (k:Lk):Int:=gd.streamTo [(k.drawn:Int)] (gd.mixZ (gd.stepZ k.seed))
def tox (k:Lk) (t:Tox):Tox:=if gd.takeZ k.dice 100<t.o then t else noTox
def oPut (now:Int) (b:ByteArray):COp:=⟨0,now,0,b,noTox,0⟩
def oFin (now:Int):COp:=⟨1,now,0,none0,noTox,0⟩
def oCut (now:Int):COp:=⟨2,now,0,none0,noTox,0⟩
def oStep (now:Int):COp:=⟨3,now,0,none0,noTox,0⟩
def oTake (now n:Int):COp:=⟨4,now,n,none0,noTox,0⟩
def oIns (k:Lk) (t:Tox) (now:Int):COp:=⟨5,now,k.names.length,none0,k.tox t,gd.stepZ k.dice⟩
def oRem (now i:Int):COp:=⟨6,now,i,none0,noTox,0⟩
def oUpd (now i:Int) (t:Tox):COp:=⟨7,now,i,none0,t,0⟩
def sendK (k:Lk) (now:Int) (b:ByteArray):Lk:={k with c:=k.c.doN (oPut now b),sent:=k.sent+(k.c.doA (oPut now b)).n}
def finK (k:Lk) (now:Int):Lk:={k with c:=k.c.doN (oFin now)}
def cutK (k:Lk) (now:Int):Lk:={k with c:=k.c.doN (oCut now)}
def stepT (k:Lk) (now n:Int):ByteArray:=((k.c.doN (oStep now)).doA (oTake now n)).s
def stepC (k:Lk) (now n:Int):Ch:=((k.c.doN (oStep now)).doN (oTake now n)).doN (oStep now)
def stepE (k:Lk) (now n:Int):Int:=if k.fin≠0 then 0 else(k.stepC now n).state
def stepK (k:Lk) (now n:Int):Lk:={k with c:=k.stepC now n,got:=k.got+(k.stepT now n).size,fin:=if k.fin≠0 then k.fin else(k.stepC now n).state}
def drawE (k:Lk) (t:Tox) (now:Int):Int:=(k.c.doA (k.oIns t now)).e
def drawK (k:Lk) (t:Tox) (now:Int):Lk:=
 if k.drawE t now≠0 then{k with c:=k.c.doN (k.oIns t now)}else{k with c:=k.c.doN (k.oIns t now),drawn:=k.drawn+1,names:=k.names++[t.s]}
def addE (k:Lk) (t:Tox) (now:Int):Int:=if t.chk≠0∨t.up≠k.up then t.chk else if Lib.containsS k.names t.s=true then 141 else k.drawE t now
def addK (k:Lk) (t:Tox) (now:Int):Lk:=if t.chk≠0∨t.up≠k.up then k else if Lib.containsS k.names t.s=true then k else k.drawK t now
def idx (k:Lk) (s:ByteArray):Int:=Lib.idxOfS k.names s
def dropE (k:Lk) (s:ByteArray) (now:Int):Int:=if k.idx s<0 then 142 else(k.c.doA (oRem now (k.idx s))).e
def dropK (k:Lk) (s:ByteArray) (now:Int):Lk:=
 if k.idx s<0 then k else{k with c:=k.c.doN (oRem now (k.idx s)),names:=k.names.take (k.idx s).toNat++k.names.drop ((k.idx s).toNat+1)}
def chgE (k:Lk) (t:Tox) (now:Int):Int:=
 if t.chk≠0∨t.up≠k.up then t.chk else if k.idx t.s<0 then 142 else if(k.c.at' ((k.idx t.s).toNat+1)).s.tx=noTox then 0 else(k.c.doA (oUpd now (k.idx t.s) t)).e
def chgK (k:Lk) (t:Tox) (now:Int):Lk:=
 if t.chk≠0∨t.up≠k.up then k else if k.idx t.s<0 then k else if(k.c.at' ((k.idx t.s).toNat+1)).s.tx=noTox then k else{k with c:=k.c.doN (oUpd now (k.idx t.s) t)}
def doK (k:Lk) (o:LOp):Lk:=
 if o.kind=0 then k.sendK o.now o.s else if o.kind=1 then k.finK o.now else if o.kind=2 then k.cutK o.now else if o.kind=3 then k.stepK o.now o.n
 else if o.kind=4 then k.addK o.t o.now else if o.kind=5 then k.dropK o.s o.now else if o.kind=6 then k.chgK o.t o.now else k
def ansK (k:Lk) (o:LOp):Ans:=
 if o.kind=0 then⟨(k.c.doA (oPut o.now o.s)).n,none0,0⟩else if o.kind=3 then⟨k.stepE o.now o.n,k.stepT o.now o.n,0⟩
 else if o.kind=4 then⟨0,none0,k.addE o.t o.now⟩else if o.kind=5 then⟨0,none0,k.dropE o.s o.now⟩else if o.kind=6 then⟨0,none0,k.chgE o.t o.now⟩else noAns
def newK (up:Bool) (seed room now:Int):Lk:=⟨Ch.newC room now,[],up,seed,0,0,0,0⟩
def addL (k:Lk) (now:Int):List Tox→Lk
 |[]=>k
 |t::r=>(k.addK t now).addL now r
theorem addL_snoc (k:Lk) (now:Int) (l:List Tox) (t:Tox):k.addL now (l++[t])=(k.addL now l).addK t now:=by
 induction l generalizing k with
 |nil=>rfl
 |cons a r ih=>exact ih _
end Lk
def chkL:List Tox→Int
 |[]=>0
 |t::r=>if t.chk≠0 then t.chk else chkL r
def dupB (l:List Tox):Bool:=(List.range l.length).any λ j=>(l.take j).any λ x=>decide (x.s=(l.getD j noTox).s)
def checkL (l:List Tox):Int:=if 8<l.length then 1 else if chkL l≠0 then chkL l else if dupB l=true then 141 else 0
def newLE (l:List Tox) (room:Int):Int:=if newE noTox room≠0 then newE noTox room else checkL l
structure Lok (k:Lk):Prop where
 len:k.c.L.length=k.names.length+2
 few:k.names.length≤8
 room:newE noTox k.c.room=0
 st3:k.c.St3
namespace Lk
theorem idx_lt (k:Lk) (s:ByteArray) (h:¬k.idx s<0):(k.idx s).toNat<k.names.length:=by
 unfold idx at*
 have h0:0≤Lib.idxOfS k.names s:=by omega
 have gen:∀(zs:List ByteArray) (i:Nat),0≤Lib.idxFromS zs s i→Lib.idxFromS zs s i<(i:Int)+zs.length∧(i:Int)≤Lib.idxFromS zs s i:=by
  intro zs
  induction zs with
  |nil=>intro i hi;simp[Lib.idxFromS]at hi
  |cons z r ih=>
   intro i hi
   unfold Lib.idxFromS at hi⊢
   split
   ·simp only[List.length_cons];omega
   ·rename_i hz
    rw[if_neg hz]at hi
    have:=ih (i+1) hi
    simp only[List.length_cons]
    omega
 have h1:=gen k.names 0 h0
 unfold Lib.idxOfS at*
 omega
end Lk
end Go.Proofs.YtdighjgcnaajgaaGreat
namespace Go.Proofs.YtdighjgcnaajgaaGreat
open Go.RowKit
namespace Ch
theorem room_on (c:Ch) (k:Nat) (o:Op):(c.onC k o).room=c.room:=rfl
theorem room_break (c:Ch):c.breakC.room=c.room:=by
 unfold breakC
 split
 ·rfl
 ·exact loseN_room c _
theorem room_flow1 (c:Ch) (now:Int) (i:Nat):(c.flow1 now i).room=c.room:=by
 unfold flow1
 dsimp only
 split<;>rfl
theorem room_flow (c:Ch) (now:Int) (n:Nat):(c.flow now n).room=c.room:=by
 induction n with
 |zero=>rfl
 |succ n ih=>show((c.flow now n).flow1 now n).room=_;rw[room_flow1,ih]
theorem room_ends1 (c:Ch) (now:Int) (i:Nat):(c.ends1 now i).room=c.room:=by
 unfold ends1
 dsimp only
 split
 ·show(Ch.loseN _ _).room=_
  rw[loseN_room]
  rfl
 ·rfl
theorem room_ends (c:Ch) (now:Int) (n:Nat):(c.ends now n).room=c.room:=by
 induction n with
 |zero=>rfl
 |succ n ih=>show((c.ends now n).ends1 now n).room=_;rw[room_ends1,ih]
theorem room_step (c:Ch) (now:Int):(c.stepC now).room=c.room:=by
 unfold stepC
 split
 ·rfl
 ·split
  ·rw[room_break,(looks_rest c now _).1]
  ·show(c.step3 now).room=_
   unfold step3
   rw[room_ends,room_flow,(looks_rest c now _).1]
theorem room_ins (c:Ch) (k:Nat) (t:Tox) (seed now:Int):(c.insN k t seed now).room=c.room:=by
 unfold insN
 dsimp only
 split<;>rfl
theorem room_rem (c:Ch) (k:Nat) (now:Int):(c.remC k now).room=c.room:=by
 have h3:(c.rem3 k now).room=c.room:=by
  unfold rem3
  split
  ·show(Ch.loseN _ _).room=_
   rw[loseN_room]
   rfl
  ·rfl
 unfold remC
 split
 ·exact h3
 ·exact h3
theorem room_do (c:Ch) (o:COp):(c.doN o).room=c.room:=by
 unfold doN
 split
 ·split<;>rfl
 split
 ·split<;>rfl
 split
 ·exact room_break c
 split
 ·exact room_step c _
 split
 ·split<;>rfl
 split
 ·split
  ·rfl
  ·exact room_ins c _ _ _ _
 split
 ·split
  ·exact room_rem c _ _
  ·rfl
 split
 ·split<;>rfl
 rfl
theorem len_kept (c:Ch) (o:COp) (h5:o.kind≠5) (h6:o.kind≠6):(c.doN o).L.length=c.L.length:=by
 unfold doN
 split
 ·split
  ·rfl
  ·exact len_on _ _ _
 split
 ·split
  ·exact len_on _ _ _
  ·rfl
 split
 ·exact len_break c
 split
 ·exact len_step c _
 split
 ·split
  ·rfl
  ·exact len_on _ _ _
 split
 ·split
  ·exact len_on _ _ _
  ·rfl
 rfl
theorem ans_none {c:Ch} {o:COp} (h:o.kind≠4):(c.doA o).s=⟨#[]⟩:=by
 unfold doA
 split
 ·split<;>rfl
 split
 ·rfl
 split
 ·rfl
 split
 ·rfl
 split
 ·rfl
 split
 ·split<;>rfl
 split
 ·split<;>rfl
 rfl
end Ch
namespace Lk
variable {k:Lk}
theorem two (h:Lok k):2≤k.c.L.length∧k.c.L.length≤10:=by
 have:=h.len
 have:=h.few
 omega
theorem ok_chain (h:Lok k) (o:COp) (h5:o.kind≠5) (h6:o.kind≠6):Lok {k with c:=k.c.doN o}:=
 ⟨by show(k.c.doN o).L.length=_;rw[Ch.len_kept _ _ h5 h6];exact h.len,h.few,by show newE noTox (k.c.doN o).room=0;rw[Ch.room_do];exact h.room,h.st3.do o (two h).1⟩
def Bal (k:Lk):Prop:=k.sent=k.got+k.c.bal
theorem bal_chain (h:Lok k) (hb:k.Bal) (o:COp) (h0:o.kind≠0) (h4:o.kind≠4):({k with c:=k.c.doN o}:Lk).Bal:=by
 have:=Ch.bal_do k.c o (two h)
 rw[if_neg h0,Ch.ans_none h4]at this
 unfold Bal at*
 show k.sent=k.got+(k.c.doN o).bal
 have hz:((⟨#[]⟩:ByteArray).size:Int)=0:=rfl
 omega
theorem send_ok (h:Lok k) (hb:k.Bal) (now:Int) (b:ByteArray):Lok (k.sendK now b)∧(k.sendK now b).Bal∧0≤(k.c.doA (oPut now b)).n∧(k.c.doA (oPut now b)).n≤b.size:=by
 have hk:=ok_chain h (oPut now b) (by show(0:Int)≠5;decide) (by show(0:Int)≠6;decide)
 have ha:=h.st3.ans (oPut now b) (two h).1
 have:=Ch.bal_do k.c (oPut now b) (two h)
 rw[if_pos (show(oPut now b).kind=0 from rfl),Ch.ans_none (show(0:Int)≠4 by decide)]at this
 refine⟨⟨hk.len,hk.few,hk.room,hk.st3⟩,?_,ha.1,ha.2 rfl⟩
 unfold Bal at*
 show k.sent+(k.c.doA (oPut now b)).n=k.got+(k.c.doN (oPut now b)).bal
 have hz:((⟨#[]⟩:ByteArray).size:Int)=0:=rfl
 omega
theorem fin_ok (h:Lok k) (hb:k.Bal) (now:Int):Lok (k.finK now)∧(k.finK now).Bal:=
 ⟨ok_chain h (oFin now) (by show(1:Int)≠5;decide) (by show(1:Int)≠6;decide),bal_chain h hb (oFin now) (by show(1:Int)≠0;decide) (by show(1:Int)≠4;decide)⟩
theorem cut_ok (h:Lok k) (hb:k.Bal) (now:Int):Lok (k.cutK now)∧(k.cutK now).Bal:=
 ⟨ok_chain h (oCut now) (by show(2:Int)≠5;decide) (by show(2:Int)≠6;decide),bal_chain h hb (oCut now) (by show(2:Int)≠0;decide) (by show(2:Int)≠4;decide)⟩
def st1 (k:Lk) (now:Int):Lk:={k with c:=k.c.doN (oStep now)}
def st2 (k:Lk) (now n:Int):Lk:={k with c:=(k.c.doN (oStep now)).doN (oTake now n),got:=k.got+(k.stepT now n).size}
theorem st1_ok (h:Lok k) (hb:k.Bal) (now:Int):Lok (k.st1 now)∧(k.st1 now).Bal:=
 ⟨ok_chain h (oStep now) (by show(3:Int)≠5;decide) (by show(3:Int)≠6;decide),bal_chain h hb (oStep now) (by show(3:Int)≠0;decide) (by show(3:Int)≠4;decide)⟩
theorem st2_ok (h:Lok k) (hb:k.Bal) (now n:Int):Lok (k.st2 now n)∧(k.st2 now n).Bal:=by
 obtain⟨h1,hb1⟩:=st1_ok h hb now
 have hk:=ok_chain h1 (oTake now n) (by show(4:Int)≠5;decide) (by show(4:Int)≠6;decide)
 have:=Ch.bal_do (k.st1 now).c (oTake now n) (two h1)
 rw[if_neg (show¬(oTake now n).kind=0 by show¬(4:Int)=0;decide)]at this
 refine⟨⟨hk.len,hk.few,hk.room,hk.st3⟩,?_⟩
 unfold Bal at*
 show k.sent=k.got+(k.stepT now n).size+((k.c.doN (oStep now)).doN (oTake now n)).bal
 have e1:(k.st1 now).sent=k.sent∧(k.st1 now).got=k.got∧(k.st1 now).c=k.c.doN (oStep now):=⟨rfl,rfl,rfl⟩
 rw[e1.1,e1.2.1]at hb1
 rw[e1.2.2]at this hb1
 have e2:((k.c.doN (oStep now)).doA (oTake now n)).s=k.stepT now n:=rfl
 rw[e2]at this
 omega
theorem step_ok (h:Lok k) (hb:k.Bal) (now n:Int):Lok (k.stepK now n)∧(k.stepK now n).Bal∧0≤(k.stepC now n).state∧(k.stepC now n).state≤2:=by
 obtain⟨h2,hb2⟩:=st2_ok h hb now n
 obtain⟨h3,hb3⟩:=st1_ok h2 hb2 now
 exact⟨⟨h3.len,h3.few,h3.room,h3.st3⟩,hb3,h3.st3.st⟩
theorem newE_zero {t:Tox} {room:Int} (hr:newE noTox room=0) (ht:t.chk=0∨t=noTox):newE t room=0:=by
 have h1:¬(noTox≠noTox∧noTox.chk≠0):=λ h=>h.1 rfl
 unfold newE at*
 rw[if_neg h1]at hr
 rw[if_neg (by rcases ht with e|e<;>simp[e]),hr]
theorem draw_e (h:Lok k) (t:Tox) (now:Int) (ht:t.chk=0):k.drawE t now=if 8≤k.names.length then 110 else 0:=by
 have e:k.drawE t now=k.c.insE k.names.length (k.tox t):=rfl
 rw[e]
 have hl:=h.len
 have ht':(k.tox t).chk=0∨k.tox t=noTox:=by
  unfold tox
  split
  ·exact Or.inl ht
  ·exact Or.inr rfl
 unfold Ch.insE
 by_cases h8:8≤k.names.length
 ·rw[if_pos (by omega),if_pos h8]
 ·rw[if_neg (by omega),if_neg h8]
  exact newE_zero h.room ht'
theorem draw_ok (h:Lok k) (hb:k.Bal) (t:Tox) (now:Int) (ht:t.chk=0):Lok (k.drawK t now)∧(k.drawK t now).Bal∧(k.drawE t now≠0→k.drawE t now=110∧k.drawK t now=k)∧(k.drawE t now=0→k.names.length<8):=by
 have hd:=draw_e h t now ht
 have hbc:=bal_chain h hb (k.oIns t now) (by show(5:Int)≠0;decide) (by show(5:Int)≠4;decide)
 have e1:k.c.doN (k.oIns t now)=if k.drawE t now≠0 then k.c else k.c.insN k.names.length (k.tox t) (gd.stepZ k.dice) now:=rfl
 have hs3:=h.st3.do (k.oIns t now) (two h).1
 by_cases h8:8≤k.names.length
 ·rw[if_pos h8]at hd
  have h0:k.drawE t now≠0:=by omega
  have e2:k.drawK t now=k:=by
   unfold drawK
   rw[if_pos h0,e1,if_pos h0]
  rw[e2]
  exact⟨h,hb,λ _=>⟨hd,rfl⟩,λ e=>absurd e h0⟩
 ·rw[if_neg h8]at hd
  have h0:¬k.drawE t now≠0:=by omega
  have e2:k.drawK t now={k with c:=k.c.doN (k.oIns t now),drawn:=k.drawn+1,names:=k.names++[t.s]}:=by
   unfold drawK
   rw[if_neg h0]
  rw[e2]
  refine⟨⟨?_,?_,?_,hs3⟩,hbc,λ e=>absurd hd e,λ _=>by omega⟩
  ·show(k.c.doN (k.oIns t now)).L.length=(k.names++[t.s]).length+2
   rw[e1,if_neg h0,Ch.len_ins _ _ _ _ _ (by rw[h.len];omega),h.len,List.length_append]
   rfl
  ·show(k.names++[t.s]).length≤8
   rw[List.length_append]
   show k.names.length+1≤8
   omega
  ·show newE noTox (k.c.doN (k.oIns t now)).room=0
   rw[Ch.room_do]
   exact h.room
theorem drop_ok (h:Lok k) (hb:k.Bal) (s:ByteArray) (now:Int):Lok (k.dropK s now)∧(k.dropK s now).Bal∧(¬k.idx s<0→(k.c.doA (oRem now (k.idx s))).e=0):=by
 unfold dropK
 by_cases hi:k.idx s<0
 ·rw[if_pos hi]
  exact⟨h,hb,λ e=>absurd hi e⟩
 rw[if_neg hi]
 have hlt:=idx_lt k s hi
 have hl:=h.len
 have hin:0≤k.idx s∧k.idx s<(k.c.L.length:Int) -2:=by omega
 have e1:k.c.doN (oRem now (k.idx s))=k.c.remC (k.idx s).toNat now:=if_pos hin
 have e2:k.c.doA (oRem now (k.idx s))=noAns:=if_pos hin
 have hs3:=h.st3.do (oRem now (k.idx s)) (two h).1
 have hlen:=Ch.len_rem k.c (k.idx s).toNat now (by omega)
 refine⟨⟨?_,?_,?_,hs3⟩,bal_chain h hb (oRem now (k.idx s)) (by show(6:Int)≠0;decide) (by show(6:Int)≠4;decide),λ _=>by rw[e2];rfl⟩
 ·show(k.c.doN (oRem now (k.idx s))).L.length=(k.names.take (k.idx s).toNat++k.names.drop ((k.idx s).toNat+1)).length+2
  rw[e1,List.length_append,List.length_take,List.length_drop]
  omega
 ·show(k.names.take (k.idx s).toNat++k.names.drop ((k.idx s).toNat+1)).length≤8
  rw[List.length_append,List.length_take,List.length_drop]
  have:=h.few
  omega
 ·show newE noTox (k.c.doN (oRem now (k.idx s))).room=0
  rw[Ch.room_do]
  exact h.room
theorem chg_ok (h:Lok k) (hb:k.Bal) (t:Tox) (now:Int):Lok (k.chgK t now)∧(k.chgK t now).Bal:=by
 unfold chgK
 split
 ·exact⟨h,hb⟩
 split
 ·exact⟨h,hb⟩
 split
 ·exact⟨h,hb⟩
 exact⟨ok_chain h _ (by show(7:Int)≠5;decide) (by show(7:Int)≠6;decide),bal_chain h hb _ (by show(7:Int)≠0;decide) (by show(7:Int)≠4;decide)⟩
theorem new_ok {up:Bool} {seed room now:Int} (hE:newE noTox room=0):Lok (newK up seed room now)∧(newK up seed room now).Bal:=
 ⟨⟨rfl,Nat.zero_le _,hE,Ch.St3.new room now⟩,rfl⟩
theorem chk_name {t:Tox} (h:t.chk=0):1≤t.s.size∧t.s.size≤16:=by
 unfold Tox.chk gx.checkB at h
 split at h
 ·exact absurd h (by decide)
 ·rename_i hn
  have hn:gx.nameB t.s=true:=by simpa using hn
  unfold gx.nameB at hn
  simp only[Bool.and_eq_true,decide_eq_true_eq]at hn
  omega
end Lk
end Go.Proofs.YtdighjgcnaajgaaGreat
namespace Go.Proofs.YtdighjgcnaajgaaGreat
open Go.RowKit
theorem st_do {s:St} (h:s.st≠0) (o:Op):(doS s o).1.st=s.st:=by
 have hl:∀now,(lookS s now).st=s.st:=λ now=>state_of s _ h
 unfold doS
 split
 ·show(bringS s o.now o.s).1.st=s.st
  unfold bringS
  simp only[hl]
  rw[if_pos (Or.inl h)]
  exact hl _
 split
 ·show(pushS s o.now o.s).st=s.st
  unfold pushS
  simp only[hl]
  rw[if_pos h]
  exact hl _
 split
 ·show(takeS s o.now o.n).1.st=s.st
  unfold takeS
  simp only[hl]
  rw[if_pos (Or.inl h)]
  exact hl _
 split
 ·show(closeS s o.now).st=s.st
  unfold closeS
  split<;>rfl
 split
 ·exact hl _
 split
 ·show(updS s o.t o.now).1.st=s.st
  unfold updS
  split
  ·rfl
  split
  ·rfl
  split
  ·rfl
  exact hl _
 split<;>rfl
theorem take_shut {s:St} (h:s.st≠0) (now n:Int):(takeS s now n).2=⟨#[]⟩:=by
 have hl:(lookS s now).st=s.st:=state_of s _ h
 unfold takeS
 simp only[hl]
 rw[if_pos (Or.inl h)]
namespace Ch
def Sh (c:Ch):Prop:=c.state=1→(c.at' (c.L.length -1)).s.st≠0
theorem Sh.new (room now:Int):Sh (newC room now):=λ h=>by have h:(0:Int)=1:=h;omega
theorem on_st (c:Ch) (k j:Nat) (o:Op) (h:(c.at' j).s.st≠0):((c.onC k o).at' j).s.st≠0:=by
 by_cases e:k=j
 ·subst e
  by_cases hk:k<c.L.length
  ·rw[at_on _ _ _ hk]
   show(doS (c.at' k).s o).1.st≠0
   rw[st_do h]
   exact h
  ·have:c.onC k o=c:=by unfold onC;rw[List.set_eq_of_length_le (by omega)]
   rw[this]
   exact h
 ·rw[at_other _ _ _ _ e]
  exact h
theorem sh_do {c:Ch} (h:Sh c) (o:COp) (h2:2≤c.L.length):Sh (c.doN o):=by
 unfold Sh
 unfold doN
 split
 ·split
  ·exact h
  ·rename_i hs
   exactλ e=>absurd e (by show¬c.state=1;omega)
 split
 ·split
  ·rename_i hs
   exactλ e=>absurd e (by show¬c.state=1;omega)
  ·exact h
 split
 ·unfold breakC
  split
  ·exact h
  ·exactλ e=>absurd e (by show¬(2:Int)=1;decide)
 split
 ·unfold stepC
  split
  ·exact h
  ·rename_i hs
   have hs:c.state=0:=by omega
   split
   ·unfold breakC
    split
    ·rename_i e
     rw[(looks_rest c o.now _).2.2]at e
     omega
    ·exactλ e=>absurd e (by show¬(2:Int)=1;decide)
   ·intro e
    have hl3:(c.step3 o.now).L.length=c.L.length:=by unfold step3;rw[len_ends,len_flow,len_looks]
    show(((c.step3 o.now).onC (c.L.length -1) (oLook o.now)).at' (((c.step3 o.now).onC (c.L.length -1) (oLook o.now)).L.length -1)).s.st≠0
    rw[len_on,hl3,at_on _ _ _ (by omega)]
    have e:((c.step3 o.now).ansC (c.L.length -1) (oLook o.now)).n=1:=e
    have e2:((c.step3 o.now).ansC (c.L.length -1) (oLook o.now)).n=(doS ((c.step3 o.now).at' (c.L.length -1)).s (oLook o.now)).1.st:=rfl
    show(doS ((c.step3 o.now).at' (c.L.length -1)).s (oLook o.now)).1.st≠0
    omega
 split
 ·split
  ·exact h
  ·intro e
   rw[len_on]
   exact on_st _ _ _ _ (h e)
 split
 ·split
  ·exact h
  ·rename_i _ _ _ _ _ _ he
   have hb:¬(o.n<0∨(c.L.length:Int) -2<o.n∨8≤(c.L.length:Int) -2):=λ hb=>he (by unfold insE;rw[if_pos hb];decide)
   intro e
   rw[ins_state]at e
   rw[len_ins _ _ _ _ _ (by omega)]
   have hi:∀p,(({c with L:=insL c.L o.n.toNat p}:Ch).at' (c.L.length+1 -1)).s.st≠0:=λ p=>by
    show((insL c.L o.n.toNat p).getD (c.L.length+1 -1) noPrt).s.st≠0
    have:=insL_gt c.L o.n.toNat (c.L.length -1) p (by omega) (by omega)
    rw[show c.L.length+1 -1=(c.L.length -1)+1 by omega,this]
    exact h e
   unfold insN
   dsimp only
   split
   ·exact on_st _ _ _ _ (hi _)
   ·exact hi _
 split
 ·split
  ·rename_i hr
   intro e
   rw[rem_state]at e
   have hlr:=len_rem c o.n.toNat o.now (by omega)
   have h1:((c.rem1 o.n.toNat).at' (c.L.length -2)).s.st≠0:=by
    have:=out_ge c.L o.n.toNat (c.L.length -2) (by omega) (by omega)
    show((outL c.L o.n.toNat).getD (c.L.length -2) noPrt).s.st≠0
    rw[this,show c.L.length -2+1=c.L.length -1 by omega]
    exact h e
   have h2:((c.rem2 o.n.toNat o.now).at' (c.L.length -2)).s.st≠0:=on_st _ _ _ _ h1
   have h3:((c.rem3 o.n.toNat o.now).at' (c.L.length -2)).s.st≠0:=by
    unfold rem3
    split
    ·show((Ch.loseN _ (o.n.toNat+1)).at' (c.L.length -2)).s.st≠0
     rw[at_loseN _ _ _ (by omega)]
     exact h2
    ·exact h2
   have h4:((c.remC o.n.toNat o.now).at' (c.L.length -2)).s.st≠0:=by
    unfold remC
    split
    ·exact on_st _ _ _ _ h3
    ·exact h3
   rw[show(c.remC o.n.toNat o.now).L.length -1=c.L.length -2 by omega]
   exact h4
  ·exact h
 split
 ·split
  ·intro e
   rw[len_on]
   exact on_st _ _ _ _ (h e)
  ·exact h
 exact h
end Ch
namespace Lk
variable {k:Lk} {i u:ByteArray}
structure Kept (k:Lk) (i u:ByteArray):Prop where
 c:Ch.Kept k.c i u
 sent:k.sent=i.size
 got:k.got=u.size
theorem kept_new (up:Bool) (seed room now:Int):Kept (newK up seed room now) ⟨#[]⟩ ⟨#[]⟩:=⟨Ch.kept_new room now,rfl,rfl⟩
theorem none_r (x:ByteArray):x++none0=x:=cat_none x
theorem kept_chain (h:Lok k) (hk:Ch.Kept k.c i u) (o:COp) (h0:o.kind≠0) (h4:o.kind≠4):Ch.Kept (k.c.doN o) i u:=by
 have:=Ch.keeps_do k.c o i u (two h).1 hk
 rw[if_neg h0,Ch.ans_none h4,cat_none,cat_none]at this
 exact this
theorem keeps_do (h:Lok k) (hb:k.Bal) (hk:Kept k i u) (o:LOp):Kept (k.doK o) (i++(if o.kind=0 then o.s.extract 0 (k.ansK o).n.toNat else none0)) (u++(k.ansK o).s):=by
 unfold doK ansK
 by_cases k0:o.kind=0
 ·rw[if_pos k0,if_pos k0,if_pos k0]
  obtain⟨_,_,a1,a2⟩:=send_ok h hb o.now o.s
  have hc:=Ch.keeps_do k.c (oPut o.now o.s) i u (two h).1 hk.c
  rw[if_pos (show(oPut o.now o.s).kind=0 from rfl),Ch.ans_none (show(0:Int)≠4 by decide)]at hc
  refine⟨hc,?_,?_⟩
  ·show k.sent+(k.c.doA (oPut o.now o.s)).n=_
   rw[ByteArray.size_append,ByteArray.size_extract,hk.sent]
   have e:(oPut o.now o.s).s=o.s:=rfl
   simp only
   omega
  ·show k.got=_
   rw[hk.got]
   simp only
   rw[none_r]
 rw[if_neg k0,if_neg k0,if_neg k0,none_r]
 by_cases k1:o.kind=1
 ·rw[if_pos k1,if_neg (by omega),if_neg (by omega),if_neg (by omega),if_neg (by omega)]
  rw[show u++noAns.s=u from cat_none u]
  exact⟨kept_chain h hk.c _ (by show(1:Int)≠0;decide) (by show(1:Int)≠4;decide),hk.sent,hk.got⟩
 rw[if_neg k1]
 by_cases k2:o.kind=2
 ·rw[if_pos k2,if_neg (by omega),if_neg (by omega),if_neg (by omega),if_neg (by omega)]
  rw[show u++noAns.s=u from cat_none u]
  exact⟨kept_chain h hk.c _ (by show(2:Int)≠0;decide) (by show(2:Int)≠4;decide),hk.sent,hk.got⟩
 rw[if_neg k2]
 by_cases k3:o.kind=3
 ·rw[if_pos k3,if_pos k3]
  obtain⟨h1,b1⟩:=st1_ok h hb o.now
  obtain⟨h2,b2⟩:=st2_ok h hb o.now o.n
  have c1:=kept_chain h hk.c (oStep o.now) (by show(3:Int)≠0;decide) (by show(3:Int)≠4;decide)
  have c2:=Ch.keeps_do (k.st1 o.now).c (oTake o.now o.n) i u (two h1).1 c1
  rw[if_neg (show¬(oTake o.now o.n).kind=0 by show¬(4:Int)=0;decide),cat_none]at c2
  have c3:=kept_chain h2 c2 (oStep o.now) (by show(3:Int)≠0;decide) (by show(3:Int)≠4;decide)
  refine⟨c3,hk.sent,?_⟩
  show k.got+(k.stepT o.now o.n).size=_
  rw[ByteArray.size_append,hk.got]
  simp only
  omega
 rw[if_neg k3,if_neg k3]
 by_cases k4:o.kind=4
 ·rw[if_pos k4,if_pos k4]
  simp only[none_r]
  unfold addK
  split
  ·exact hk
  split
  ·exact hk
  unfold drawK
  have c1:=kept_chain h hk.c (k.oIns o.t o.now) (by show(5:Int)≠0;decide) (by show(5:Int)≠4;decide)
  split
  ·exact⟨c1,hk.sent,hk.got⟩
  ·exact⟨c1,hk.sent,hk.got⟩
 rw[if_neg k4,if_neg k4]
 by_cases k5:o.kind=5
 ·rw[if_pos k5,if_pos k5]
  simp only[none_r]
  unfold dropK
  split
  ·exact hk
  ·exact⟨kept_chain h hk.c _ (by show(6:Int)≠0;decide) (by show(6:Int)≠4;decide),hk.sent,hk.got⟩
 rw[if_neg k5,if_neg k5]
 by_cases k6:o.kind=6
 ·rw[if_pos k6,if_pos k6]
  simp only[none_r]
  unfold chgK
  split
  ·exact hk
  split
  ·exact hk
  split
  ·exact hk
  exact⟨kept_chain h hk.c _ (by show(7:Int)≠0;decide) (by show(7:Int)≠4;decide),hk.sent,hk.got⟩
 rw[if_neg k6,if_neg k6,show u++noAns.s=u from cat_none u]
 exact hk
structure Over (k:Lk):Prop where
 sh:k.c.Sh
 fin:k.fin≠0→k.c.state≠0
theorem over_new (up:Bool) (seed room now:Int):Over (newK up seed room now):=⟨Ch.Sh.new room now,λ h=>absurd rfl h⟩
theorem state_stays (h:Lok k) (o:COp) (hs:k.c.state≠0):(k.c.doN o).state=k.c.state:=by
 have:=h.st3.st
 exact(Ch.state_do k.c o (by omega)).1
theorem over_chain (h:Lok k) (ho:Over k) (o:COp):Over {k with c:=k.c.doN o}:=
 ⟨Ch.sh_do ho.sh o (two h).1,λ hf=>by show(k.c.doN o).state≠0;rw[state_stays h o (ho.fin hf)];exact ho.fin hf⟩
theorem take_over (h:Lok k) (ho:Over k) (hs:k.c.state≠0) (now n:Int):(k.c.doA (oTake now n)).s=⟨#[]⟩:=by
 have h3:=h.st3.st
 rcases(show k.c.state=1∨k.c.state=2 by omega)with e|e
 ·have e1:(k.c.doA (oTake now n)).s=(k.c.ansC (k.c.L.length -1) (Ch.oTake now n)).s:=by show(if k.c.state=2 then noAns else(⟨0,(k.c.ansC (k.c.L.length -1) (Ch.oTake now n)).s,0⟩:Ans)).s=_;rw[if_neg (by omega)]
  rw[e1]
  exact take_shut (ho.sh e) now n
 ·show(if k.c.state=2 then noAns else _:Ans).s=_
  rw[if_pos e]
  rfl
theorem over_do (h:Lok k) (hb:k.Bal) (ho:Over k) (o:LOp):Over (k.doK o)∧
  (k.fin≠0→(k.ansK o).s=⟨#[]⟩∧(o.kind=0∨o.kind=3→(k.ansK o).n=0)∧(k.doK o).fin≠0)∧
  (k.fin=0→((k.doK o).fin≠0↔(o.kind=3∧(k.ansK o).n≠0))):=by
 unfold doK ansK
 by_cases k0:o.kind=0
 ·rw[if_pos k0,if_pos k0]
  have hc:=over_chain h ho (oPut o.now o.s)
  refine⟨⟨hc.sh,hc.fin⟩,λ hf=>⟨rfl,λ _=>?_,hf⟩,λ hf=>⟨λ e=>absurd hf e,λ e=>by omega⟩⟩
  show(k.c.doA (oPut o.now o.s)).n=0
  have:=h.st3.st
  exact(Ch.state_do k.c (oPut o.now o.s) (by have:=ho.fin hf;omega)).2.1 rfl
 rw[if_neg k0,if_neg k0]
 by_cases k1:o.kind=1
 ·rw[if_pos k1,if_neg (by omega),if_neg (by omega),if_neg (by omega),if_neg (by omega)]
  exact⟨over_chain h ho (oFin o.now),λ hf=>⟨rfl,λ _=>rfl,hf⟩,λ hf=>⟨λ e=>absurd hf e,λ e=>by omega⟩⟩
 rw[if_neg k1]
 by_cases k2:o.kind=2
 ·rw[if_pos k2,if_neg (by omega),if_neg (by omega),if_neg (by omega),if_neg (by omega)]
  exact⟨over_chain h ho (oCut o.now),λ hf=>⟨rfl,λ _=>rfl,hf⟩,λ hf=>⟨λ e=>absurd hf e,λ e=>by omega⟩⟩
 rw[if_neg k2]
 by_cases k3:o.kind=3
 ·rw[if_pos k3,if_pos k3]
  obtain⟨h1,b1⟩:=st1_ok h hb o.now
  obtain⟨h2,b2⟩:=st2_ok h hb o.now o.n
  have c1:Over (k.st1 o.now):=over_chain h ho (oStep o.now)
  have c2:Over (k.st2 o.now o.n):=by
   have:=over_chain h1 c1 (oTake o.now o.n)
   exact⟨this.sh,this.fin⟩
  have c3:=over_chain h2 c2 (oStep o.now)
  refine⟨⟨c3.sh,λ hf=>?_⟩,λ hf=>⟨?_,λ _=>?_,?_⟩,λ hf=>?_⟩
  ·show(k.stepC o.now o.n).state≠0
   by_cases hf0:k.fin≠0
   ·exact c3.fin hf0
   ·have hf:(if k.fin≠0 then k.fin else(k.stepC o.now o.n).state)≠0:=hf
    rw[if_neg hf0]at hf
    exact hf
  ·exact take_over h1 c1 (by have:=c1.fin hf;exact this) o.now o.n
  ·show(if k.fin≠0 then 0 else _)=(0:Int)
   rw[if_pos hf]
  ·show(if k.fin≠0 then k.fin else _)≠(0:Int)
   rw[if_pos hf]
   exact hf
  ·show((if k.fin≠0 then k.fin else(k.stepC o.now o.n).state)≠0↔_∧(if k.fin≠0 then 0 else(k.stepC o.now o.n).state)≠0)
   rw[if_neg (by omega),if_neg (by omega)]
   exact⟨λ e=>⟨k3,e⟩,λ e=>e.2⟩
 rw[if_neg k3,if_neg k3]
 have none:∀{k':Lk} {x:Int},Over k'→k'.fin=k.fin→Over k'∧(k.fin≠0→(⟨0,none0,x⟩:Ans).s=⟨#[]⟩∧(o.kind=0∨o.kind=3→(⟨0,none0,x⟩:Ans).n=0)∧k'.fin≠0)∧(k.fin=0→(k'.fin≠0↔(o.kind=3∧(⟨0,none0,x⟩:Ans).n≠0))):=λ h1 h2=>
  ⟨h1,λ hf=>⟨rfl,λ _=>rfl,by rw[h2];exact hf⟩,λ hf=>⟨λ e=>absurd (h2.trans hf) e,λ e=>by omega⟩⟩
 by_cases k4:o.kind=4
 ·rw[if_pos k4,if_pos k4]
  unfold addK
  split
  ·exact none ho rfl
  split
  ·exact none ho rfl
  unfold drawK
  have c1:(k.c.doN (k.oIns o.t o.now)).Sh∧(k.fin≠0→(k.c.doN (k.oIns o.t o.now)).state≠0):=⟨Ch.sh_do ho.sh _ (two h).1,λ hf=>by rw[state_stays h _ (ho.fin hf)];exact ho.fin hf⟩
  split
  ·exact none ⟨c1.1,c1.2⟩ rfl
  ·exact none ⟨c1.1,c1.2⟩ rfl
 rw[if_neg k4,if_neg k4]
 by_cases k5:o.kind=5
 ·rw[if_pos k5,if_pos k5]
  unfold dropK
  split
  ·exact none ho rfl
  ·exact none ⟨Ch.sh_do ho.sh _ (two h).1,λ hf=>by show(k.c.doN _).state≠0;rw[state_stays h _ (ho.fin hf)];exact ho.fin hf⟩ rfl
 rw[if_neg k5,if_neg k5]
 by_cases k6:o.kind=6
 ·rw[if_pos k6,if_pos k6]
  unfold chgK
  split
  ·exact none ho rfl
  split
  ·exact none ho rfl
  split
  ·exact none ho rfl
  exact none ⟨Ch.sh_do ho.sh _ (two h).1,λ hf=>by show(k.c.doN _).state≠0;rw[state_stays h _ (ho.fin hf)];exact ho.fin hf⟩ rfl
 rw[if_neg k6,if_neg k6]
 exact none ho rfl
end Lk
end Go.Proofs.YtdighjgcnaajgaaGreat
namespace Go.Proofs.YtdighjgcnaajgaaGreat
open Go.RowKit
def frL (ts:List (Tox×Int)) (room now:Int):List Prt:=⟨newS noTox 0 room now,false⟩::(ts.map (λ x=>(⟨newS x.1 x.2 room now,false⟩:Prt))++[⟨newS noTox 0 room now,false⟩])
def frC (ts:List (Tox×Int)) (room now:Int):Ch:=⟨frL ts room now,room,0,false,0⟩
theorem frL_len (ts:List (Tox×Int)) (room now:Int):(frL ts room now).length=ts.length+2:=by simp[frL]
theorem fr_at {ts:List (Tox×Int)} {room now:Int} {j:Nat} (h:j<ts.length):(frC ts room now).at' (j+1)=⟨newS (ts.getD j (noTox,0)).1 (ts.getD j (noTox,0)).2 room now,false⟩:=by
 show(frL ts room now).getD (j+1) noPrt=_
 unfold frL
 rw[List.getD_cons_succ,List.getD_eq_getElem?_getD,List.getElem?_append_left (by rw[List.length_map];exact h),List.getElem?_map,List.getD_eq_getElem?_getD,List.getElem?_eq_getElem h]
 rfl
theorem fr_ends (ts:List (Tox×Int)) (room now:Int):(frC ts room now).at' 0=⟨newS noTox 0 room now,false⟩∧(frC ts room now).at' (ts.length+1)=⟨newS noTox 0 room now,false⟩:=by
 refine⟨rfl,?_⟩
 show(frL ts room now).getD (ts.length+1) noPrt=_
 unfold frL
 rw[List.getD_cons_succ,List.getD_eq_getElem?_getD,List.getElem?_append_right (by rw[List.length_map];exact Nat.le_refl _),List.length_map,Nat.sub_self]
 rfl
theorem ins_fr (ts:List (Tox×Int)) (room now:Int) (t:Tox) (sd:Int):(frC ts room now).insN ts.length t sd now=frC (ts++[(t,sd)]) room now:=by
 have hL:(frC ts room now).L.take (ts.length+1)++(⟨newS t sd room now,false⟩:Prt)::(frC ts room now).L.drop (ts.length+1)=frL (ts++[(t,sd)]) room now:=by
  show(frL ts room now).take (ts.length+1)++_::(frL ts room now).drop (ts.length+1)=_
  unfold frL
  rw[List.take_succ_cons,List.drop_succ_cons,List.take_append_of_le_length (by rw[List.length_map];exact Nat.le_refl _),List.drop_append_of_le_length (by rw[List.length_map];exact Nat.le_refl _)]
  rw[List.take_of_length_le (by rw[List.length_map];exact Nat.le_refl _),List.drop_eq_nil_of_le (by rw[List.length_map];exact Nat.le_refl _)]
  simp
 have hD:({frC ts room now with L:=(frC ts room now).L.take (ts.length+1)++(⟨newS t sd room now,false⟩:Prt)::(frC ts room now).L.drop (ts.length+1)}:Ch)=frC (ts++[(t,sd)]) room now:=by
  rw[hL]
  rfl
 have hc:((frC (ts++[(t,sd)]) room now).at' (ts.length+2)).closed=false:=by
  have:=(fr_ends (ts++[(t,sd)]) room now).2
  rw[List.length_append]at this
  rw[show ts.length+2=ts.length+[(t,sd)].length+1 from rfl,this]
 have key:∀d:Ch,d=frC (ts++[(t,sd)]) room now→(if(d.at' (ts.length+2)).closed=true then d.onC (ts.length+1) (Ch.oClose now)else d)=frC (ts++[(t,sd)]) room now:=λ d e=>by
  subst e
  rw[hc]
  rfl
 exact key _ hD
def Drw (t x:Tox):Prop:=(x=t∨x=noTox)∧(t.o=100→x=t)∧(t.o=0→x=noTox)
theorem drw_tox (k:Lk) (t:Tox):Drw t (k.tox t):=by
 have h:=gd.takeZ_range k.dice 100 (by decide)
 unfold Drw Lk.tox
 by_cases hc:gd.takeZ k.dice 100<t.o
 ·rw[if_pos hc]
  exact⟨Or.inl rfl,λ _=>rfl,λ e=>by omega⟩
 ·rw[if_neg hc]
  exact⟨Or.inr rfl,λ e=>by omega,λ _=>rfl⟩
structure MadeL (k:Lk) (l:List Tox) (ts:List (Tox×Int)) (up:Bool) (room now:Int):Prop where
 c:k.c=frC ts room now
 len:ts.length=l.length
 names:k.names=l.map (·.s)
 each:∀j,j<l.length→Drw (l.getD j noTox) (ts.getD j (noTox,0)).1
 up:k.up=up
 zero:k.sent=0∧k.got=0∧k.fin=0
theorem made_new (up:Bool) (seed room now:Int):MadeL (Lk.newK up seed room now) [] [] up room now:=⟨rfl,rfl,rfl,λ j hj=>absurd hj (Nat.not_lt_zero j),rfl,rfl,rfl,rfl⟩
theorem made_skip {k:Lk} {t:Tox} (now:Int) (h:t.up≠k.up):k.addK t now=k:=by
 unfold Lk.addK
 rw[if_pos (Or.inr h)]
theorem made_add {k:Lk} {l:List Tox} {ts:List (Tox×Int)} {up:Bool} {room now:Int} (h:MadeL k l ts up room now) (hk:Lok k) {t:Tox} (hc:t.chk=0) (hu:t.up=k.up) (hn:Lib.containsS k.names t.s=false) (h8:l.length<8):∃ts',MadeL (k.addK t now) (l++[t]) ts' up room now:=by
 have hnl:k.names.length=l.length:=by rw[h.names,List.length_map]
 have hE:k.drawE t now=0:=by
  rw[Lk.draw_e hk t now hc,if_neg (by omega)]
 have e1:k.addK t now={k with c:=k.c.doN (k.oIns t now),drawn:=k.drawn+1,names:=k.names++[t.s]}:=by
  unfold Lk.addK
  rw[if_neg (by intro h;rcases h with e|e;exact e hc;exact e hu),hn,if_neg (by decide)]
  unfold Lk.drawK
  rw[if_neg (by omega)]
 have e2:k.c.doN (k.oIns t now)=k.c.insN k.names.length (k.tox t) (gd.stepZ k.dice) now:=by
  have:k.c.doN (k.oIns t now)=if k.drawE t now≠0 then k.c else k.c.insN k.names.length (k.tox t) (gd.stepZ k.dice) now:=rfl
  rw[this,if_neg (by omega)]
 refine⟨ts++[(k.tox t,gd.stepZ k.dice)],?_⟩
 rw[e1,e2]
 refine⟨?_,?_,?_,λ j hj=>?_,h.up,h.zero⟩
 ·show k.c.insN k.names.length _ _ now=_
  rw[hnl,←h.len,h.c,ins_fr]
 ·rw[List.length_append,List.length_append,h.len]
  rfl
 ·show k.names++[t.s]=_
  rw[h.names,List.map_append]
  rfl
 ·rw[List.length_append]at hj
  have hj:j<l.length+1:=hj
  have hl:=h.len
  rcases Nat.lt_or_ge j l.length with hlt|hge
  ·have:=h.each j hlt
   rw[List.getD_eq_getElem?_getD,List.getD_eq_getElem?_getD]at this
   rw[List.getD_eq_getElem?_getD,List.getD_eq_getElem?_getD,List.getElem?_append_left hlt,List.getElem?_append_left (by omega)]
   exact this
  ·obtain rfl:j=l.length:=by omega
   rw[List.getD_eq_getElem?_getD,List.getD_eq_getElem?_getD,List.getElem?_append_right (Nat.le_refl _),List.getElem?_append_right (by omega),Nat.sub_self,hl,Nat.sub_self]
   exact drw_tox k t
theorem chkL_at {l:List Tox} (h:chkL l=0):∀t∈l,t.chk=0:=by
 induction l with
 |nil=>intro t ht;cases ht
 |cons a r ih=>
  unfold chkL at h
  split at h
  ·rename_i hc
   exact absurd h hc
  ·rename_i hc
   intro t ht
   rcases List.mem_cons.1 ht with rfl|ht
   ·exact Decidable.not_not.1 hc
   ·exact ih h t ht
theorem dup_at {l:List Tox} (h:dupB l=false) {j:Nat} (hj:j<l.length):∀x∈l.take j,x.s≠(l.getD j noTox).s:=λ x hx e=>by
 have:dupB l=true:=List.any_eq_true.2 ⟨j,List.mem_range.2 hj,List.any_eq_true.2 ⟨x,hx,decide_eq_true e⟩⟩
 rw[h]at this
 cases this
theorem check_ok {l:List Tox} (h:checkL l=0):l.length≤8∧(∀t∈l,t.chk=0)∧dupB l=false:=by
 unfold checkL at h
 split at h
 ·exact absurd h (by decide)
 split at h
 ·rename_i hc
  exact absurd h hc
 split at h
 ·exact absurd h (by decide)
 rename_i h1 h2 h3
 exact⟨by omega,chkL_at (by omega),by simpa using h3⟩
def upL (up:Bool) (l:List Tox):List Tox:=l.filter λ t=>t.up==up
theorem up_yes (up:Bool) (l:List Tox) {x:Tox} (h:x.up=up):upL up (l++[x])=upL up l++[x]:=by simp[upL,h]
theorem up_no (up:Bool) (l:List Tox) {x:Tox} (h:¬x.up=up):upL up (l++[x])=upL up l:=by simp[upL,h]
theorem getD_mem {l:List Tox} {j:Nat} (h:j<l.length):l.getD j noTox∈l:=by
 rw[List.getD_eq_getElem?_getD,List.getElem?_eq_getElem h]
 exact List.getElem_mem h
theorem take_next {l:List Tox} {j:Nat} (h:j<l.length):l.take (j+1)=l.take j++[l.getD j noTox]:=by
 rw[List.take_add_one,List.getD_eq_getElem?_getD,List.getElem?_eq_getElem h]
 rfl
structure MkL (k:Lk) (l:List Tox) (up:Bool) (room now:Int):Prop where
 made:∃ts,MadeL k (upL up l) ts up room now
 ok:Lok k
 bal:k.Bal
theorem mk_new {up:Bool} {seed room now:Int} (hE:newE noTox room=0):MkL (Lk.newK up seed room now) [] up room now:=⟨⟨[],made_new up seed room now⟩,(Lk.new_ok hE).1,(Lk.new_ok hE).2⟩
theorem add_fine {k:Lk} (h:Lok k) (hb:k.Bal) (t:Tox) (now:Int) (hc:t.chk=0):Lok (k.addK t now)∧(k.addK t now).Bal:=by
 unfold Lk.addK
 split
 ·exact⟨h,hb⟩
 split
 ·exact⟨h,hb⟩
 obtain⟨h1,h2,_⟩:=Lk.draw_ok h hb t now hc
 exact⟨h1,h2⟩
theorem mk_step {k:Lk} {l:List Tox} {up:Bool} {room now:Int} {j:Nat} (h:MkL k (l.take j) up room now) (hl:checkL l=0) (hj:j<l.length):MkL (k.addK (l.getD j noTox) now) (l.take (j+1)) up room now:=by
 obtain⟨h8,hck,hdu⟩:=check_ok hl
 obtain⟨ts,hm⟩:=h.made
 have hc:=hck _ (getD_mem hj)
 have hf:=add_fine h.ok h.bal (l.getD j noTox) now hc
 refine⟨?_,hf.1,hf.2⟩
 rw[take_next hj]
 by_cases hu:(l.getD j noTox).up=up
 ·rw[up_yes up _ hu]
  have hle:(upL up (l.take j)).length≤(l.take j).length:=List.length_filter_le _ _
  rw[List.length_take]at hle
  refine made_add hm h.ok hc (by rw[hm.up];exact hu) ?_ (by omega)
  rw[Bool.eq_false_iff]
  intro hcn
  rw[Lib.containsS_iff,hm.names,List.mem_map]at hcn
  obtain⟨x,hx,hxs⟩:=hcn
  exact dup_at hdu hj x (List.mem_filter.1 hx).1 hxs
 ·rw[up_no up _ hu,made_skip now (by rw[hm.up];exact hu)]
  exact⟨ts,hm⟩
end Go.Proofs.YtdighjgcnaajgaaGreat
