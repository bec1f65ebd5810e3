import Derived.Test.YtdighjgcnaajgaaGreatMS31
namespace Go.Proofs.YtdighjgcnaajgaaGreat
open Go.RowKit
namespace Ch
def Mv (c c':Ch):Prop:=Pf (cat c'.L) (cat c.L)∧(c'.shut=false→cat c'.L=cat c.L∧c.shut=false)
theorem Mv.refl (c:Ch):Mv c c:=⟨Pf.refl _,λ h=>⟨rfl,h⟩⟩
theorem Mv.trans {a b c:Ch} (h:Mv a b) (h':Mv b c):Mv a c:=
 ⟨h'.1.trans h.1,λ e=>⟨(h'.2 e).1.trans (h.2 (h'.2 e).2).1,(h.2 (h'.2 e).2).2⟩⟩
theorem Mv.of {c c':Ch} (h:cat c'.L=cat c.L) (hs:c'.shut=false→c.shut=false):Mv c c':=⟨by rw[h];exact Pf.refl _,λ e=>⟨h,hs e⟩⟩
theorem mv_lose (c:Ch) (n:Nat) (h:n≤c.L.length):Mv c (c.lose n):=⟨pf_loseN c n h,λ e=>by cases e⟩
theorem mv_break (c:Ch):Mv c c.breakC:=by
 unfold breakC
 split
 ·exact Mv.refl c
 ·exact⟨pf_loseN c _ (Nat.le_refl _),λ e=>by cases e⟩
theorem mv_close (c:Ch) (k:Nat) (now:Int) (h:k<c.L.length):Mv c (c.onC k (oClose now)):=Mv.of (cat_close c k now h) id
theorem mv_look (c:Ch) (k:Nat) (now:Int) (h:k<c.L.length):Mv c (c.onC k (oLook now)):=Mv.of (cat_look c k now h) id
theorem shut_looks (c:Ch) (now:Int) (n:Nat):(c.looks now n).shut=c.shut:=by
 induction n with
 |zero=>rfl
 |succ n ih=>exact ih
theorem shut_flow1 (c:Ch) (now:Int) (i:Nat):(c.flow1 now i).shut=c.shut:=by
 unfold flow1
 dsimp only
 split<;>rfl
theorem shut_flow (c:Ch) (now:Int) (n:Nat):(c.flow now n).shut=c.shut:=by
 induction n with
 |zero=>rfl
 |succ n ih=>exact(shut_flow1 _ _ _).trans ih
theorem mv_ends1 (c:Ch) (now:Int) (i:Nat) (h:i+1<c.L.length):Mv c (c.ends1 now i):=by
 have h1:=mv_look c i now (by omega)
 unfold ends1
 dsimp only
 split
 ·exact(h1.trans (mv_lose _ (i+1) (by rw[len_on];omega))).trans (mv_close _ (i+1) now (by rw[len_lose,len_on];exact h))
 ·exact h1
theorem mv_ends (c:Ch) (now:Int) (n:Nat) (h:n<c.L.length):Mv c (c.ends now n):=by
 induction n with
 |zero=>exact Mv.refl c
 |succ n ih=>exact(ih (by omega)).trans (mv_ends1 _ now n (by rw[len_ends];exact h))
theorem mv_step (c:Ch) (now:Int) (h:2≤c.L.length):Mv c (c.stepC now):=by
 have h1:Mv c (c.looks now c.L.length):=Mv.of (cat_looks c now _ (Nat.le_refl _)) (λ e=>by rwa[shut_looks]at e)
 unfold stepC
 split
 ·exact Mv.refl c
 ·split
  ·exact h1.trans (mv_break _)
  ·have hl:(c.step3 now).L.length=c.L.length:=by unfold step3;rw[len_ends,len_flow,len_looks]
   have h2:Mv (c.looks now c.L.length) ((c.looks now c.L.length).flow now (c.L.length -1)):=Mv.of (cat_flow _ now _ (by rw[len_looks];omega)) (λ e=>by rwa[shut_flow]at e)
   have h3:Mv ((c.looks now c.L.length).flow now (c.L.length -1)) (c.step3 now):=mv_ends _ now _ (by rw[len_flow,len_looks];omega)
   have h4:=mv_look (c.step3 now) (c.L.length -1) now (by omega)
   exact((h1.trans h2).trans h3).trans h4
theorem mv_ins (c:Ch) (k:Nat) (t:Tox) (seed now:Int) (h:k+2≤c.L.length):Mv c (c.insN k t seed now):=by
 have h1:Mv c ({c with L:=insL c.L k ⟨newS t seed c.room now,false⟩}:Ch):=Mv.of (by
  show cat (c.L.take (k+1)++_::c.L.drop (k+1))=cat c.L
  rw[cat_append]
  show(cat (c.L.drop (k+1))++(⟨#[]⟩:ByteArray))++_=_
  rw[cat_none,←cat_append,List.take_append_drop]) id
 unfold insN
 dsimp only
 split
 ·exact h1.trans (mv_close _ (k+1) now (by show k+1<(insL c.L k _).length;rw[len_insL _ _ _ (by omega)];omega))
 ·exact h1
theorem size_none (b:ByteArray) (h:b.size=0):b=⟨#[]⟩:=by
 apply ByteArray.ext
 exact Array.eq_empty_of_size_eq_zero h
theorem mv_rem (c:Ch) (k:Nat) (now:Int) (h:k+3≤c.L.length):Mv c (c.remC k now):=by
 have hl:=len_rem1 c k h
 have e0:=cat_at2 c.L (k+1) (by omega)
 have e1:(c.rem1 k).at' (k+1)=c.at' (k+2):=out_ge c.L k (k+1) (by omega) (Nat.le_refl _)
 have t1:(c.rem1 k).L.take (k+1)=c.L.take (k+1):=by
  show(c.L.take (k+1)++c.L.drop (k+2)).take (k+1)=_
  rw[List.take_append_of_le_length (by rw[List.length_take];omega),List.take_take,Nat.min_self]
 have t2:(c.rem1 k).L.drop (k+1)=c.L.drop (k+2):=by
  show(c.L.take (k+1)++c.L.drop (k+2)).drop (k+1)=_
  rw[List.drop_append_of_le_length (by rw[List.length_take];omega),List.drop_take]
  simp
 have t3:(c.rem1 k).L.drop (k+2)=c.L.drop (k+3):=by
  rw[←List.drop_drop (i:=1) (j:=k+1),t2,List.drop_drop]
 have e2:cat (c.rem2 k now).L=cat (c.L.drop (k+3))++((pushS (c.at' (k+2)).s now (c.at' (k+1)).s.S).S++cat (c.L.take (k+1))):=by
  show cat ((c.rem1 k).L.set (k+1) _)=_
  rw[cat_set _ _ _ (by omega),t1,t3,e1]
  rfl
 have hl2:(c.rem2 k now).L.length=(c.rem1 k).L.length:=len_on _ _ _
 have hp:=sz_push (c.at' (k+2)).s now (c.at' (k+1)).s.S
 have hg:c.gone k now=((c.at' (k+1)).s.S.size:Int) -(if(lookS (c.at' (k+2)).s now).st=0 then(c.at' (k+1)).s.S.size else 0:Nat):=by
  unfold gone rem2
  rw[at_on _ _ _ (by omega),e1]
  simp only
  rw[hp]
  omega
 have h3:Mv c (c.rem3 k now)∧(c.rem3 k now).L.length=(c.rem1 k).L.length:=by
  unfold rem3
  split
  ·rename_i hpos
   refine⟨⟨?_,λ e=>by cases e⟩,by rw[len_lose];exact hl2⟩
   have hn:¬(lookS (c.at' (k+2)).s now).st=0:=λ hn=>by rw[if_pos hn]at hg;omega
   show Pf (cat (({c.rem2 k now with lost:=c.lost+c.gone k now}:Ch).loseN (k+1)).L) (cat c.L)
   rw[cat_loseN _ _ (by show k+1≤(c.rem2 k now).L.length;omega)]
   show Pf (cat ((c.rem2 k now).L.drop (k+1))) (cat c.L)
   have e3:cat ((c.rem2 k now).L.drop (k+1))=cat (c.L.drop (k+3))++(c.at' (k+2)).s.S:=by
    show cat (((c.rem1 k).L.set (k+1) _).drop (k+1))=_
    rw[List.drop_set,if_neg (by omega),t2,Nat.sub_self,List.drop_eq_getElem_cons (by omega)]
    show cat (c.L.drop (k+3))++(pushS ((c.rem1 k).at' (k+1)).s now (c.at' (k+1)).s.S).S=_
    rw[e1,push_S,if_neg hn,cat_none]
   rw[e3,e0]
   refine⟨(c.at' (k+1)).s.S++cat (c.L.take (k+1)),?_⟩
   rw[ByteArray.append_assoc]
   rfl
  ·rename_i hpos
   refine⟨Mv.of ?_ id,hl2⟩
   rw[e2,e0,push_S]
   have e4:(if(lookS (c.at' (k+2)).s now).st=0 then(c.at' (k+1)).s.S else(⟨#[]⟩:ByteArray))=(c.at' (k+1)).s.S:=by
    split
    ·rfl
    ·rename_i hn
     rw[if_neg hn]at hg
     exact(size_none _ (by omega)).symm
   rw[e4,ByteArray.append_assoc]
   rfl
 unfold remC
 split
 ·exact h3.1.trans (mv_close _ (k+1) now (by omega))
 ·exact h3.1
def Kept (c:Ch) (i o:ByteArray):Prop:=Pf (o++cat c.L) i∧(c.shut=false→i=o++cat c.L)
theorem Kept.mv {c c':Ch} {i o:ByteArray} (h:Kept c i o) (hm:Mv c c'):Kept c' i o:=
 ⟨(hm.1.on o).trans h.1,λ e=>by rw[h.2 (hm.2 e).2,(hm.2 e).1]⟩
theorem keeps_do (c:Ch) (o:COp) (i u:ByteArray) (h:2≤c.L.length) (hk:Kept c i u):Kept (c.doN o) (i++(if o.kind=0 then o.s.extract 0 (c.doA o).n.toNat else⟨#[]⟩)) (u++(c.doA o).s):=by
 unfold doN doA
 by_cases k0:o.kind=0
 ·rw[if_pos k0,if_pos k0,if_pos k0]
  split
  ·show Kept c (i++o.s.extract 0 0) (u++⟨#[]⟩)
   rw[extract_none,cat_none,cat_none]
   exact hk
  ·rename_i hs
   have hs:c.shut=false:=by
    cases e:c.shut with
    |false=>rfl
    |true=>exact absurd (Or.inl e) hs
   have e1:cat (c.onC 0 (oPut o.now o.s)).L=cat c.L++o.s.extract 0 (c.ansC 0 (oPut o.now o.s)).n.toNat:=by
    show cat (c.L.set 0 _)=_
    rw[cat_set _ _ _ (by omega),cat_at c.L 0 (by omega)]
    show cat (c.L.drop 1)++((bringS (c.at' 0).s o.now o.s).1.S++⟨#[]⟩)=(cat (c.L.drop 1)++((c.at' 0).s.S++⟨#[]⟩))++o.s.extract 0 (bringS (c.at' 0).s o.now o.s).2.toNat
    rw[bring_S,cat_none,cat_none,ByteArray.append_assoc]
   have e2:=hk.2 hs
   show Kept (c.onC 0 (oPut o.now o.s)) (i++o.s.extract 0 (c.ansC 0 (oPut o.now o.s)).n.toNat) (u++⟨#[]⟩)
   rw[cat_none,e2]
   unfold Kept
   rw[e1,ByteArray.append_assoc]
   exact⟨Pf.refl _,λ _=>rfl⟩
 rw[if_neg k0,if_neg k0,if_neg k0,cat_none]
 by_cases k1:o.kind=1
 ·rw[if_pos k1,if_pos k1]
  show Kept _ i (u++⟨#[]⟩)
  rw[cat_none]
  split
  ·exact hk.mv ⟨by show Pf (cat (c.onC 0 (oClose o.now)).L) _;rw[cat_close _ _ _ (by omega)];exact Pf.refl _,λ e=>by cases e⟩
  ·exact hk
 rw[if_neg k1,if_neg k1]
 by_cases k2:o.kind=2
 ·rw[if_pos k2,if_pos k2]
  show Kept _ i (u++⟨#[]⟩)
  rw[cat_none]
  exact hk.mv (mv_break c)
 rw[if_neg k2,if_neg k2]
 by_cases k3:o.kind=3
 ·rw[if_pos k3,if_pos k3]
  show Kept _ i (u++⟨#[]⟩)
  rw[cat_none]
  exact hk.mv (mv_step c o.now h)
 rw[if_neg k3,if_neg k3]
 by_cases k4:o.kind=4
 ·rw[if_pos k4,if_pos k4]
  split
  ·show Kept c i (u++⟨#[]⟩)
   rw[cat_none]
   exact hk
  ·have e1:(takeS (c.at' (c.L.length -1)).s o.now o.n).2++cat (c.onC (c.L.length -1) (oTake o.now o.n)).L=cat c.L:=by
    show _++cat (c.L.set (c.L.length -1) _)=_
    rw[cat_set _ _ _ (by omega),cat_at c.L (c.L.length -1) (by omega),List.drop_of_length_le (by omega)]
    show _++((⟨#[]⟩:ByteArray)++((takeS (c.at' (c.L.length -1)).s o.now o.n).1.S++_))=(⟨#[]⟩:ByteArray)++((c.at' (c.L.length -1)).s.S++_)
    rw[none_cat,none_cat,←ByteArray.append_assoc,take_S]
   unfold Kept at*
   show Pf ((u++(takeS (c.at' (c.L.length -1)).s o.now o.n).2)++_) i∧(c.shut=false→i=(u++(takeS (c.at' (c.L.length -1)).s o.now o.n).2)++_)
   rw[ByteArray.append_assoc,e1]
   exact hk
 rw[if_neg k4,if_neg k4]
 by_cases k5:o.kind=5
 ·rw[if_pos k5,if_pos k5]
  show Kept _ i (u++⟨#[]⟩)
  rw[cat_none]
  split
  ·exact hk
  ·rename_i he
   have hb:¬(o.n<0∨(c.L.length:Int) -2<o.n∨8≤(c.L.length:Int) -2):=λ hb=>he (by unfold insE;rw[if_pos hb];decide)
   exact hk.mv (mv_ins c _ _ _ _ (by omega))
 rw[if_neg k5,if_neg k5]
 by_cases k6:o.kind=6
 ·rw[if_pos k6,if_pos k6]
  split
  ·show Kept _ i (u++⟨#[]⟩)
   rw[cat_none]
   exact hk.mv (mv_rem c _ _ (by omega))
  ·show Kept _ i (u++⟨#[]⟩)
   rw[cat_none]
   exact hk
 rw[if_neg k6,if_neg k6]
 by_cases k7:o.kind=7
 ·rw[if_pos k7,if_pos k7]
  split
  ·show Kept _ i (u++⟨#[]⟩)
   rw[cat_none]
   exact hk.mv (Mv.of (cat_upd c _ _ _ (by omega)) id)
  ·show Kept _ i (u++⟨#[]⟩)
   rw[cat_none]
   exact hk
 rw[if_neg k7,if_neg k7]
 show Kept c i (u++⟨#[]⟩)
 rw[cat_none]
 exact hk
end Ch
end Go.Proofs.YtdighjgcnaajgaaGreat
namespace Go.Proofs.YtdighjgcnaajgaaGreat
open Go.RowKit
namespace Ch
def StOk (s:St):Prop:=(s.tx.k≠4∧s.tx.k≠5∧s.tx.k≠6)∧(s.st=0∨(s.st=1∧s.closed=true∧s.S.size=0))
theorem stok_look {s:St} (h:StOk s) (now:Int):StOk (lookS s now):=by
 obtain⟨hk,hs⟩:=h
 refine⟨hk,?_⟩
 show stateS s (tickS s.clock now)=0∨(stateS s (tickS s.clock now)=1∧s.closed=true∧s.S.size=0)
 unfold stateS
 rcases hs with hs|⟨hs,hc,hz⟩
 ·rw[if_neg (by omega),if_neg (by omega),if_neg (by omega),if_neg (by omega)]
  split
  ·rename_i h
   exact Or.inr ⟨rfl,h.1,h.2.1⟩
  ·exact Or.inl rfl
 ·rw[if_pos (by omega)]
  exact Or.inr ⟨hs,hc,hz⟩
theorem stok_force {s:St} (h:StOk s) (h0:s.st=0) (b:ByteArray):StOk (forceS s b):=by
 unfold forceS
 split
 ·exact h
 ·split
  ·exact⟨h.1,Or.inl h0⟩
  ·exact⟨h.1,Or.inl h0⟩
theorem give_st (s:St) (n:Int):(giveS s n).1.st=s.st∧(giveS s n).1.tx=s.tx∧(giveS s n).1.closed=s.closed:=by
 unfold giveS
 (repeat' split)<;>exact⟨rfl,rfl,rfl⟩
theorem stok_do {s:St} (h:StOk s) (o:Op):StOk (doS s o).1:=by
 unfold doS
 by_cases k0:o.kind=0
 ·rw[if_pos k0]
  show StOk (bringS s o.now o.s).1
  unfold bringS
  dsimp only
  split
  ·exact stok_look h _
  ·exact stok_force (stok_look h _) (by omega) _
 rw[if_neg k0]
 by_cases k1:o.kind=1
 ·rw[if_pos k1]
  show StOk (pushS s o.now o.s)
  unfold pushS
  dsimp only
  split
  ·exact stok_look h _
  ·exact stok_force (stok_look h _) (by omega) _
 rw[if_neg k1]
 by_cases k2:o.kind=2
 ·rw[if_pos k2]
  show StOk (takeS s o.now o.n).1
  unfold takeS
  dsimp only
  split
  ·exact stok_look h _
  ·have hl:=stok_look h o.now
   generalize lookS s o.now=s1 at*
   refine⟨?_,Or.inl ?_⟩
   ·show(giveS s1 _).1.tx.k≠4∧(giveS s1 _).1.tx.k≠5∧(giveS s1 _).1.tx.k≠6
    rw[(give_st s1 _).2.1]
    exact hl.1
   ·show(giveS s1 _).1.st=0
    rw[(give_st s1 _).1]
    omega
 rw[if_neg k2]
 by_cases k3:o.kind=3
 ·rw[if_pos k3]
  show StOk (closeS s o.now)
  unfold closeS
  split
  ·exact h
  ·refine⟨h.1,?_⟩
   rcases h.2 with hs|⟨hs,hc,hz⟩
   ·exact Or.inl hs
   ·exact Or.inr ⟨hs,rfl,hz⟩
 rw[if_neg k3]
 by_cases k4:o.kind=4
 ·rw[if_pos k4]
  exact stok_look h _
 rw[if_neg k4]
 by_cases k5:o.kind=5
 ·rw[if_pos k5]
  show StOk (updS s o.t o.now).1
  unfold updS
  split
  ·exact h
  ·rename_i e
   split
   ·exact h
   ·split
    ·exact h
    ·have hl:=stok_look h o.now
     refine⟨?_,hl.2⟩
     show o.t.k≠4∧o.t.k≠5∧o.t.k≠6
     have:=h.1
     omega
 rw[if_neg k5]
 by_cases k6:o.kind=6
 ·rw[if_pos k6]
  refine⟨h.1,?_⟩
  rcases h.2 with hs|⟨hs,hc,hz⟩
  ·exact Or.inl hs
  ·exact Or.inr ⟨hs,hc,rfl⟩
 rw[if_neg k6]
 exact h
theorem stok_new (t:Tox) (seed room now:Int) (h:t.k≠4∧t.k≠5∧t.k≠6):StOk (newS t seed room now):=⟨h,Or.inl rfl⟩
theorem force_closed (s:St) (b:ByteArray):(forceS s b).closed=s.closed:=by
 unfold forceS
 split
 ·rfl
 ·split<;>rfl
theorem closed_do (s:St) (o:Op):(doS s o).1.closed=(s.closed||o.kind==3):=by
 unfold doS
 by_cases k0:o.kind=0
 ·rw[if_pos k0,show(o.kind==3)=false by simp[k0],Bool.or_false]
  show(bringS s o.now o.s).1.closed=_
  unfold bringS
  dsimp only
  split
  ·rfl
  ·exact force_closed _ _
 rw[if_neg k0]
 by_cases k1:o.kind=1
 ·rw[if_pos k1,show(o.kind==3)=false by simp[k1],Bool.or_false]
  show(pushS s o.now o.s).closed=_
  unfold pushS
  dsimp only
  split
  ·rfl
  ·exact force_closed _ _
 rw[if_neg k1]
 by_cases k2:o.kind=2
 ·rw[if_pos k2,show(o.kind==3)=false by simp[k2],Bool.or_false]
  show(takeS s o.now o.n).1.closed=_
  unfold takeS
  dsimp only
  split
  ·rfl
  ·exact(give_st _ _).2.2
 rw[if_neg k2]
 by_cases k3:o.kind=3
 ·rw[if_pos k3,show(o.kind==3)=true by simp[k3],Bool.or_true]
  show(closeS s o.now).closed=_
  unfold closeS
  split
  ·assumption
  ·rfl
 rw[if_neg k3,show(o.kind==3)=false by simp[k3],Bool.or_false]
 by_cases k4:o.kind=4
 ·rw[if_pos k4]
  rfl
 rw[if_neg k4]
 by_cases k5:o.kind=5
 ·rw[if_pos k5]
  show(updS s o.t o.now).1.closed=_
  unfold updS
  (repeat' split)<;>rfl
 rw[if_neg k5]
 by_cases k6:o.kind=6
 ·rw[if_pos k6]
  rfl
 rw[if_neg k6]
end Ch
end Go.Proofs.YtdighjgcnaajgaaGreat
namespace Go.Proofs.YtdighjgcnaajgaaGreat
open Go.RowKit
namespace Ch
structure Safe (c:Ch):Prop where
 ok:∀k,k<c.L.length→StOk (c.at' k).s
 flag:∀k,k<c.L.length→(c.at' k).closed=(c.at' k).s.closed
 src:∀k,k<c.L.length→(c.at' k).s.closed=true→c.shut=true∧∀j,j<k→(c.at' j).s.S.size=0
theorem Safe.same {c c':Ch} (h:Safe c) (e:c'.L=c.L) (hs:c.shut=true→c'.shut=true):Safe c':=by
 have ha:∀k,c'.at' k=c.at' k:=λ k=>by unfold at';rw[e]
 exact⟨λ k hk=>by rw[ha];exact h.ok k (by rwa[e]at hk),λ k hk=>by rw[ha];exact h.flag k (by rwa[e]at hk),λ k hk hc=>by
  rw[ha]at hc
  have:=h.src k (by rwa[e]at hk) hc
  exact⟨hs this.1,λ j hj=>by rw[ha];exact this.2 j hj⟩⟩
theorem Safe.on {c:Ch} (h:Safe c) (k:Nat) (hk:k<c.L.length) (o:Op) (h1:o.kind=3→c.shut=true∧∀j,j<k→(c.at' j).s.S.size=0)
  (h2:∀i,k<i→i<c.L.length→(c.at' i).s.closed=true→(doS (c.at' k).s o).1.S.size=0):Safe (c.onC k o):=by
 refine⟨λ i hi=>?_,λ i hi=>?_,λ i hi hc=>?_⟩<;>rw[len_on]at hi
 ·by_cases e:k=i
  ·subst e
   rw[at_on _ _ _ hk]
   exact stok_do (h.ok k hk) o
  ·rw[at_other _ _ _ _ e]
   exact h.ok i hi
 ·by_cases e:k=i
  ·subst e
   rw[at_on _ _ _ hk]
   show((c.at' k).closed||o.kind==3)=(doS (c.at' k).s o).1.closed
   rw[closed_do,h.flag k hk]
  ·rw[at_other _ _ _ _ e]
   exact h.flag i hi
 ·by_cases e:k=i
  ·subst e
   rw[at_on _ _ _ hk]at hc
   have hc:(doS (c.at' k).s o).1.closed=true:=hc
   rw[closed_do]at hc
   have hh:c.shut=true∧∀j,j<k→(c.at' j).s.S.size=0:=by
    cases hq:(c.at' k).s.closed with
    |true=>exact h.src k hk hq
    |false=>
     rw[hq,Bool.false_or]at hc
     exact h1 (by simpa using hc)
   exact⟨hh.1,λ j hj=>by rw[at_other _ _ _ _ (by omega)];exact hh.2 j hj⟩
  ·rw[at_other _ _ _ _ e]at hc
   have hh:=h.src i hi hc
   refine⟨hh.1,λ j hj=>?_⟩
   by_cases e2:k=j
   ·subst e2
    rw[at_on _ _ _ hk]
    exact h2 i hj hi hc
   ·rw[at_other _ _ _ _ e2]
    exact hh.2 j hj
section
variable {c:Ch}
theorem Safe.less (h:Safe c) (k:Nat) (hk:k<c.L.length) (o:Op) (h3:o.kind≠3) (hz:(doS (c.at' k).s o).1.S.size≤(c.at' k).s.S.size):Safe (c.onC k o):=
 h.on k hk o (λ e=>absurd e h3) (λ i hi hi' hc=>by have:=(h.src i hi' hc).2 k hi;omega)
theorem Safe.look (h:Safe c) (k:Nat) (hk:k<c.L.length) (now:Int):Safe (c.onC k (oLook now)):=h.less k hk _ (show(4:Int)≠3 by decide) (Nat.le_refl _)
theorem Safe.take (h:Safe c) (k:Nat) (hk:k<c.L.length) (now n:Int):Safe (c.onC k (oTake now n)):=
 h.less k hk _ (show(2:Int)≠3 by decide) (by have:=sz_take (c.at' k).s now n;omega)
theorem Safe.upd (h:Safe c) (k:Nat) (hk:k<c.L.length) (now:Int) (t:Tox):Safe (c.onC k (oUpd now t)):=h.less k hk _ (show(5:Int)≠3 by decide) (by rw[sz_upd];exact Nat.le_refl _)
theorem Safe.close (h:Safe c) (k:Nat) (hk:k<c.L.length) (now:Int) (h1:c.shut=true) (h2:∀j,j<k→(c.at' j).s.S.size=0):Safe (c.onC k (oClose now)):=
 h.on k hk _ (λ _=>⟨h1,h2⟩) (λ i hi hi' hc=>by rw[sz_close];exact(h.src i hi' hc).2 k hi)
theorem Safe.push (h:Safe c) (k:Nat) (hk:k<c.L.length) (now:Int) (b:ByteArray) (hb:∀i,k<i→i<c.L.length→(c.at' i).s.closed=true→b.size=0):Safe (c.onC k (oPush now b)):=
 h.on k hk _ (λ e=>absurd e (show¬(1:Int)=3 by decide)) (λ i hi hi' hc=>by
  rw[sz_push,(h.src i hi' hc).2 k hi,hb i hi hi' hc]
  split<;>rfl)
theorem Safe.put (h:Safe c) (now:Int) (b:ByteArray) (hl:0<c.L.length) (hs:c.shut=false):Safe (c.onC 0 (oPut now b)):=
 h.on 0 hl _ (λ e=>absurd e (show¬(0:Int)=3 by decide)) (λ i _ hi' hc=>by have:=(h.src i hi' hc).1;rw[hs]at this;cases this)
theorem Safe.looks (h:Safe c) (now:Int) (n:Nat) (hn:n≤c.L.length):Safe (c.looks now n):=by
 induction n with
 |zero=>exact h
 |succ n ih=>exact(ih (by omega)).look n (by rw[len_looks];omega) now
theorem Safe.flow1 (h:Safe c) (now:Int) (i:Nat) (hi:i+1<c.L.length):Safe (c.flow1 now i):=by
 have h1:=h.look (i+1) hi now
 unfold Ch.flow1
 dsimp only
 split
 ·have hl:(c.onC (i+1) (oLook now)).L.length=c.L.length:=len_on _ _ _
  generalize c.onC (i+1) (oLook now)=d at*
  generalize freeS (d.at' (i+1)).s=m at*
  have h2:=h1.take i (by omega) now m
  have e:=sz_take (d.at' i).s now m
  refine h2.push (i+1) (by rw[len_on];omega) now _ λ j hj hj' hc=>?_
  rw[len_on]at hj'
  rw[at_other _ _ _ _ (by omega)]at hc
  have:=(h1.src j hj' hc).2 i (by omega)
  unfold ansC
  omega
 ·exact h1
theorem Safe.flow (h:Safe c) (now:Int) (n:Nat) (hn:n<c.L.length):Safe (c.flow now n):=by
 induction n with
 |zero=>exact h
 |succ n ih=>exact(ih (by omega)).flow1 now n (by rw[len_flow];exact hn)
theorem Safe.loseN (h:Safe c) (n:Nat) (hn:n≤c.L.length):Safe (c.loseN n):=by
 induction n with
 |zero=>exact h
 |succ n ih=>exact((ih (by omega)).less n (by rw[len_loseN];omega) oDrain (by decide) (Nat.zero_le _)).same rfl id
theorem at_loseN (c:Ch) (n i:Nat) (hi:n≤i):(c.loseN n).at' i=c.at' i:=by
 induction n with
 |zero=>rfl
 |succ n ih=>
  show((c.loseN n).onC n oDrain).at' i=c.at' i
  rw[at_other _ _ _ _ (by omega)]
  exact ih (by omega)
theorem lost_none (n:Nat) (hn:n≤c.L.length) (hz:∀j,j<n→(c.at' j).s.S.size=0):(c.loseN n).lost=c.lost:=by
 induction n with
 |zero=>rfl
 |succ n ih=>
  show(c.loseN n).lost+(((c.loseN n).at' n).s.S.size:Nat)=c.lost
  rw[at_loseN _ _ _ (Nat.le_refl _),hz n (by omega),ih (by omega) (λ j hj=>hz j (by omega))]
  exact Int.add_zero _
theorem Safe.ends1 (h:Safe c) (now:Int) (i:Nat) (hi:i+1<c.L.length):Safe (c.ends1 now i)∧(c.ends1 now i).lost=c.lost:=by
 have h1:=h.look i (by omega) now
 unfold Ch.ends1
 dsimp only
 split
 ·rename_i hn
  have hn:(lookS (c.at' i).s now).st=1:=hn
  have hl:(c.onC i (oLook now)).L.length=c.L.length:=len_on _ _ _
  have hlo:(c.onC i (oLook now)).lost=c.lost:=rfl
  have ha:((c.onC i (oLook now)).at' i).s=lookS (c.at' i).s now:=by rw[at_on c _ _ (by omega)];rfl
  generalize c.onC i (oLook now)=d at*
  have h2:(d.at' i).s.closed=true∧(d.at' i).s.S.size=0:=by
   rcases(h1.ok i (by omega)).2 with e|e
   ·rw[ha]at e
    omega
   ·exact e.2
  have h3:=h1.src i (by omega) h2.1
  have h4:∀j,j<i+1→(d.at' j).s.S.size=0:=λ j hj=>by
   by_cases e:j=i
   ·rw[e];exact h2.2
   ·exact h3.2 j (by omega)
  have h5:=(h1.loseN (i+1) (by omega)).same (c':=d.lose (i+1)) rfl (λ _=>rfl)
  refine⟨h5.close (i+1) (by rw[len_lose];omega) now rfl (λ j hj=>held_loseAll d (i+1) (by omega) j hj),?_⟩
  rw[←hlo]
  exact lost_none (i+1) (by omega) h4
 ·exact⟨h1,rfl⟩
theorem Safe.ends (h:Safe c) (now:Int) (n:Nat) (hn:n<c.L.length):Safe (c.ends now n)∧(c.ends now n).lost=c.lost:=by
 induction n with
 |zero=>exact⟨h,rfl⟩
 |succ n ih=>
  have h1:=ih (by omega)
  have h2:=h1.1.ends1 now n (by rw[len_ends];exact hn)
  exact⟨h2.1,h2.2.trans h1.2⟩
end
end Ch
end Go.Proofs.YtdighjgcnaajgaaGreat
namespace Go.Proofs.YtdighjgcnaajgaaGreat
open Go.RowKit
namespace Ch
section
variable {c:Ch}
theorem stok_two {s:St} (h:StOk s):s.st≠2:=by
 rcases h.2 with e|e<;>omega
theorem Safe.none_broken (h:Safe c) (now:Int) (n:Nat) (hn:n≤c.L.length):c.anyB now n=false:=by
 induction n with
 |zero=>rfl
 |succ n ih=>
  have h1:=(h.looks now n (by omega)).ok n (by rw[len_looks];omega)
  have h2:(lookS ((c.looks now n).at' n).s now).st≠2:=stok_two (stok_look h1 now)
  show(c.anyB now n||decide ((lookS ((c.looks now n).at' n).s now).st=2))=false
  rw[ih (by omega),decide_eq_false h2]
  rfl
theorem Safe.step (h:Safe c) (now:Int) (hl:2≤c.L.length) (hs:c.state≠2):Safe (c.stepC now)∧(c.stepC now).lost=c.lost∧(c.stepC now).state≠2:=by
 unfold stepC
 split
 ·exact⟨h,rfl,hs⟩
 ·rw[if_neg (by rw[h.none_broken now _ (Nat.le_refl _)];decide)]
  have h1:=h.looks now c.L.length (Nat.le_refl _)
  have h2:=h1.flow now (c.L.length -1) (by rw[len_looks];omega)
  have h3:=h2.ends now (c.L.length -1) (by rw[len_flow,len_looks];omega)
  have hl3:(c.step3 now).L.length=c.L.length:=by unfold step3;rw[len_ends,len_flow,len_looks]
  have h4:Safe (c.step3 now):=h3.1
  have h5:=h4.look (c.L.length -1) (by omega) now
  refine⟨h5.same rfl id,?_,?_⟩
  ·show(c.step3 now).lost=c.lost
   have:=h3.2
   rw[lost_flow,lost_looks]at this
   exact this
  ·show(lookS ((c.step3 now).at' (c.L.length -1)).s now).st≠2
   exact stok_two (stok_look (h4.ok (c.L.length -1) (by omega)) now)
theorem Safe.ins (h:Safe c) (k:Nat) (t:Tox) (seed now:Int) (hk:k+2≤c.L.length) (ht:t.k≠4∧t.k≠5∧t.k≠6):Safe (c.insN k t seed now):=by
 have hp:Safe ({c with L:=insL c.L k ⟨newS t seed c.room now,false⟩}:Ch):=by
  have g1:∀j,j≤k→({c with L:=insL c.L k ⟨newS t seed c.room now,false⟩}:Ch).at' j=c.at' j:=λ j hj=>insL_lt _ _ _ _ (by omega) hj
  have g2:({c with L:=insL c.L k ⟨newS t seed c.room now,false⟩}:Ch).at' (k+1)=⟨newS t seed c.room now,false⟩:=insL_eq _ _ _ (by omega)
  have g3:∀j,k+1≤j→({c with L:=insL c.L k ⟨newS t seed c.room now,false⟩}:Ch).at' (j+1)=c.at' j:=λ j hj=>insL_gt _ _ _ _ (by omega) hj
  have gl:({c with L:=insL c.L k ⟨newS t seed c.room now,false⟩}:Ch).L.length=c.L.length+1:=len_insL _ _ _ (by omega)
  have gs:({c with L:=insL c.L k ⟨newS t seed c.room now,false⟩}:Ch).shut=c.shut:=rfl
  generalize({c with L:=insL c.L k ⟨newS t seed c.room now,false⟩}:Ch)=d at*
  refine⟨λ i hi=>?_,λ i hi=>?_,λ i hi hc=>?_⟩
  ·rcases Nat.lt_trichotomy i (k+1)with g|rfl|g
   ·rw[g1 i (by omega)];exact h.ok i (by omega)
   ·rw[g2];exact stok_new t _ _ _ ht
   ·obtain⟨j,rfl⟩:∃j,i=j+1:=⟨i -1,by omega⟩
    rw[g3 j (by omega)];exact h.ok j (by omega)
  ·rcases Nat.lt_trichotomy i (k+1)with g|rfl|g
   ·rw[g1 i (by omega)];exact h.flag i (by omega)
   ·rw[g2];rfl
   ·obtain⟨j,rfl⟩:∃j,i=j+1:=⟨i -1,by omega⟩
    rw[g3 j (by omega)];exact h.flag j (by omega)
  ·rw[gs]
   rcases Nat.lt_trichotomy i (k+1)with g|rfl|g
   ·rw[g1 i (by omega)]at hc
    have:=h.src i (by omega) hc
    exact⟨this.1,λ j hj=>by rw[g1 j (by omega)];exact this.2 j hj⟩
   ·rw[g2]at hc
    cases hc
   ·obtain⟨i,rfl⟩:∃j,i=j+1:=⟨i -1,by omega⟩
    rw[g3 i (by omega)]at hc
    have:=h.src i (by omega) hc
    refine⟨this.1,λ j hj=>?_⟩
    rcases Nat.lt_trichotomy j (k+1)with g'|rfl|g'
    ·rw[g1 j (by omega)];exact this.2 j (by omega)
    ·rw[g2];rfl
    ·obtain⟨j,rfl⟩:∃l,j=l+1:=⟨j -1,by omega⟩
     rw[g3 j (by omega)];exact this.2 j (by omega)
 have hl:({c with L:=insL c.L k ⟨newS t seed c.room now,false⟩}:Ch).L.length=c.L.length+1:=len_insL _ _ _ (by omega)
 unfold insN
 dsimp only
 split
 ·rename_i hc
  have hf:=hp.flag (k+2) (by omega)
  have hc:(({c with L:=insL c.L k ⟨newS t seed c.room now,false⟩}:Ch).at' (k+2)).closed=true:=hc
  rw[hf]at hc
  have hs:=hp.src (k+2) (by omega) hc
  exact hp.close (k+1) (by omega) now hs.1 (λ j hj=>hs.2 j (by omega))
 ·exact hp
theorem Safe.rem (h:Safe c) (k:Nat) (now:Int) (hk:k+3≤c.L.length):Safe (c.remC k now)∧(c.remC k now).lost=c.lost:=by
 have hl:=len_rem1 c k hk
 have g1:∀j,j≤k→(c.rem1 k).at' j=c.at' j:=λ j hj=>out_lt _ _ _ (by omega) hj
 have g2:∀j,k+1≤j→(c.rem1 k).at' j=c.at' (j+1):=λ j hj=>out_ge _ _ _ (by omega) hj
 have h1:Safe (c.rem1 k):=by
  refine⟨λ i hi=>?_,λ i hi=>?_,λ i hi hc=>?_⟩
  ·by_cases g:i≤k
   ·rw[g1 i g];exact h.ok i (by omega)
   ·rw[g2 i (by omega)];exact h.ok (i+1) (by omega)
  ·by_cases g:i≤k
   ·rw[g1 i g];exact h.flag i (by omega)
   ·rw[g2 i (by omega)];exact h.flag (i+1) (by omega)
  ·show c.shut=true∧_
   by_cases g:i≤k
   ·rw[g1 i g]at hc
    have:=h.src i (by omega) hc
    exact⟨this.1,λ j hj=>by rw[g1 j (by omega)];exact this.2 j hj⟩
   ·rw[g2 i (by omega)]at hc
    have:=h.src (i+1) (by omega) hc
    refine⟨this.1,λ j hj=>?_⟩
    by_cases g':j≤k
    ·rw[g1 j g'];exact this.2 j (by omega)
    ·rw[g2 j (by omega)];exact this.2 (j+1) (by omega)
 have h2:Safe (c.rem2 k now):=h1.push (k+1) (by omega) now _ (λ i hi hi' hc=>by
  rw[g2 i (by omega)]at hc
  exact(h.src (i+1) (by omega) hc).2 (k+1) (by omega))
 have hp:=sz_push (c.at' (k+2)).s now (c.at' (k+1)).s.S
 have hg:c.gone k now=((c.at' (k+1)).s.S.size:Int) -(if(lookS (c.at' (k+2)).s now).st=0 then(c.at' (k+1)).s.S.size else 0:Nat):=by
  unfold gone rem2
  rw[at_on _ _ _ (by omega),g2 (k+1) (Nat.le_refl _)]
  have hp':((doS (c.at' (k+1+1)).s (oPush now (c.at' (k+1)).s.S)).1.S.size:Int)=((c.at' (k+1+1)).s.S.size:Int)+((if(lookS (c.at' (k+2)).s now).st=0 then(c.at' (k+1)).s.S.size else 0:Nat):Int):=by
   rw[←Int.natCast_add]
   exact congrArg _ hp
  simp only
  rw[hp']
  omega
 have hg0:¬0<c.gone k now:=by
  rw[hg]
  split
  ·omega
  ·rename_i hn
   have:=(stok_look (h.ok (k+2) (by omega)) now).2
   rcases this with e|e
   ·exact absurd e hn
   ·have hc:(c.at' (k+2)).s.closed=true:=e.2.1
    have:=(h.src (k+2) (by omega) hc).2 (k+1) (by omega)
    omega
 have h3:c.rem3 k now=c.rem2 k now:=by
  unfold rem3
  rw[if_neg hg0]
 have hl2:(c.rem2 k now).L.length=(c.rem1 k).L.length:=len_on _ _ _
 unfold remC
 rw[h3]
 split
 ·rename_i hc
  rw[h.flag (k+1) (by omega)]at hc
  have hs:=h.src (k+1) (by omega) hc
  refine⟨h2.close (k+1) (by omega) now hs.1 (λ j hj=>?_),rfl⟩
  show(((c.rem1 k).onC (k+1) _).at' j).s.S.size=0
  rw[at_other _ _ _ _ (by omega),g1 j (by omega)]
  exact hs.2 j hj
 ·exact⟨h2,rfl⟩
theorem safe_do (h:Safe c) (o:COp) (hl:2≤c.L.length) (hs:c.state≠2) (h2:o.kind≠2) (h5:o.kind=5→o.t.k≠4∧o.t.k≠5∧o.t.k≠6):Safe (c.doN o)∧(c.doN o).lost=c.lost∧(c.doN o).state≠2:=by
 unfold Ch.doN
 split
 ·split
  ·exact⟨h,rfl,hs⟩
  ·rename_i hn
   have hsh:c.shut=false:=by
    cases e:c.shut with
    |false=>rfl
    |true=>exact absurd (Or.inl e) hn
   exact⟨h.put o.now o.s (by omega) hsh,rfl,hs⟩
 split
 ·split
  ·have h1:=(h.same (c':={c with shut:=true}) rfl (λ _=>rfl)).close 0 (by show 0<c.L.length;omega) o.now rfl (λ j hj=>by cases hj)
   exact⟨h1.same rfl (λ _=>rfl),rfl,hs⟩
  ·exact⟨h,rfl,hs⟩
 try rw[if_neg h2]
 split
 ·exact h.step o.now hl hs
 split
 ·try rw[if_neg hs]
  exact⟨h.take (c.L.length -1) (by omega) o.now o.n,rfl,hs⟩
 split
 ·rename_i hk
  split
  ·exact⟨h,rfl,hs⟩
  ·rename_i he
   have hb:¬(o.n<0∨(c.L.length:Int) -2<o.n∨8≤(c.L.length:Int) -2):=λ hb=>he (by unfold insE;rw[if_pos hb];decide)
   exact⟨h.ins _ _ _ _ (by omega) (h5 hk),lost_ins _ _ _ _ _,by rw[state_ins];exact hs⟩
 split
 ·split
  ·have h1:=h.rem o.n.toNat o.now (by omega)
   exact⟨h1.1,h1.2,by rw[state_rem];exact hs⟩
  ·exact⟨h,rfl,hs⟩
 split
 ·split
  ·exact⟨h.upd (o.n.toNat+1) (by omega) o.now o.t,rfl,hs⟩
  ·exact⟨h,rfl,hs⟩
 ·exact⟨h,rfl,hs⟩
end
end Ch
end Go.Proofs.YtdighjgcnaajgaaGreat
