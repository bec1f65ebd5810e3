import Derived.Test.YtdighjgcnaajgaaGreatMS25
namespace Go.Proofs.YtdighjgcnaajgaaGreat
open Go.RowKit
variable {M M':Nat} {s s' s'' s1 s2:St}
def Bq (k' k:Bkt) (c:Int):Prop:=k'.r=k.r∧k'.u=k.u∧∀t,c≤t→gb.fillL k'.r k'.u k'.l k'.t t=gb.fillL k.r k.u k.l k.t t∧gb.fillT k'.r k'.u k'.l k'.t t=gb.fillT k.r k.u k.l k.t t
theorem bq_refl (k:Bkt) (c:Int):Bq k k c:=⟨rfl,rfl,λ _ _=>⟨rfl,rfl⟩⟩
structure Sim (s' s:St):Prop where
 eq:s'={s with bk:=s'.bk}
 bk:s.tx.k=2→Bq s'.bk s.bk s.clock
theorem sim_refl (s:St):Sim s s:=⟨rfl,λ _=>bq_refl _ _⟩
theorem tick_ge (c now:Int):c≤tickS c now:=by unfold tickS;split<;>omega
theorem Bq.later {k' k:Bkt} {c c':Int} (h:Bq k' k c) (hc:c≤c'):Bq k' k c':=⟨h.1,h.2.1,λ t ht=>h.2.2 t (by omega)⟩
theorem sim_of {s:St} {k:Bkt} (h:s.tx.k=2→Bq k s.bk s.clock):Sim {s with bk:=k} s:=⟨rfl,h⟩
theorem Sim.look (h:Sim s' s) (now:Int):Sim (lookS s' now) (lookS s now):=by
 obtain⟨he,hb⟩:=h
 rw[he]
 exact⟨rfl,λ hk=>(hb hk).later (tick_ge _ _)⟩
theorem Sim.force (h:Sim s' s) (b:ByteArray):Sim (forceS s' b) (forceS s b):=by
 obtain⟨he,hb⟩:=h
 rw[he]
 unfold forceS
 by_cases h0:b.size=0
 ·rw[if_pos h0,if_pos h0]
  exact⟨rfl,hb⟩
 ·rw[if_neg h0,if_neg h0]
  by_cases hk:s.tx.k=1
  ·rw[if_pos (show({s with bk:=s'.bk}:St).tx.k=1 from hk),if_pos hk]
   exact⟨rfl,hb⟩
  ·rw[if_neg (show¬({s with bk:=s'.bk}:St).tx.k=1 from hk),if_neg hk]
   exact⟨rfl,hb⟩
theorem Sim.st (h:Sim s' s):s'.st=s.st:=by rw[h.eq]
theorem Sim.S (h:Sim s' s):s'.S=s.S:=by rw[h.eq]
theorem Sim.A (h:Sim s' s):s'.A=s.A:=by rw[h.eq]
theorem Sim.clock (h:Sim s' s):s'.clock=s.clock:=by rw[h.eq]
theorem Sim.closed (h:Sim s' s):s'.closed=s.closed:=by rw[h.eq]
theorem Sim.tx (h:Sim s' s):s'.tx=s.tx:=by rw[h.eq]
theorem Sim.passed (h:Sim s' s):s'.passed=s.passed:=by rw[h.eq]
theorem Sim.free (h:Sim s' s):freeS s'=freeS s:=by rw[h.eq];rfl
theorem Sim.bring (h:Sim s' s) (now:Int) (b:ByteArray):Sim (bringS s' now b).1 (bringS s now b).1∧(bringS s' now b).2=(bringS s now b).2:=by
 have hl:=h.look now
 unfold bringS
 dsimp only
 rw[hl.st,hl.closed,hl.free]
 split
 ·exact⟨hl,rfl⟩
 ·exact⟨hl.force _,rfl⟩
theorem Sim.push (h:Sim s' s) (now:Int) (b:ByteArray):Sim (pushS s' now b) (pushS s now b):=by
 have hl:=h.look now
 unfold pushS
 dsimp only
 rw[hl.st]
 split
 ·exact hl
 ·exact hl.force _
theorem Sim.close (h:Sim s' s) (now:Int):Sim (closeS s' now) (closeS s now):=by
 obtain⟨he,hb⟩:=h
 rw[he]
 unfold closeS
 by_cases hc:s.closed=true
 ·rw[if_pos (show({s with bk:=s'.bk}:St).closed=true from hc),if_pos hc]
  exact⟨rfl,λ hk=>(hb hk).later (tick_ge _ _)⟩
 ·rw[if_neg (show¬({s with bk:=s'.bk}:St).closed=true from hc),if_neg hc]
  exact⟨rfl,λ hk=>(hb hk).later (tick_ge _ _)⟩
theorem Sim.drain (h:Sim s' s):Sim (drainS s').1 (drainS s).1:=by
 obtain⟨he,hb⟩:=h
 rw[he]
 exact⟨rfl,hb⟩
theorem Sim.upd (h:Sim s' s) (t:Tox) (now:Int):Sim (updS s' t now).1 (updS s t now).1∧(updS s' t now).2=(updS s t now).2:=by
 have hl:=h.look now
 unfold updS
 rw[h.tx]
 split
 ·exact⟨h,rfl⟩
 ·split
  ·exact⟨h,rfl⟩
  ·split
   ·exact⟨h,rfl⟩
   ·rename_i h1 h2 h3
    refine⟨?_,rfl⟩
    have hk:t.k=s.tx.k:=by omega
    dsimp only
    obtain⟨he,hb⟩:=hl
    refine⟨?_,λ h2'=>?_⟩
    ·dsimp only
     rw[he]
    ·have h2':t.k=2:=h2'
     dsimp only
     rw[if_pos h2']
     have hb:=hb (by show s.tx.k=2;omega)
     have e:chgB (lookS s' now).bk t.a t.b (lookS s' now).clock=chgB (lookS s now).bk t.a t.b (lookS s now).clock:=by
      unfold chgB
      have hc:(lookS s' now).clock=(lookS s now).clock:=by rw[he]
      rw[hc]
      have:=hb.2.2 (lookS s now).clock (Int.le_refl _)
      rw[this.1,this.2]
     rw[e,if_pos h2']
     exact bq_refl _ _
theorem cut_zero (s:St):cutS s 0=s:=by
 unfold cutS
 have e1:s.S.extract 0 s.S.size=s.S:=by simp
 have e2:s.passed+((0:Nat):Int)=s.passed:=Int.add_zero _
 rw[e1,e2,List.drop_zero]
theorem Sim.cut (h:Sim s' s) (K:Nat):Sim (cutS s' K) (cutS s K):=by
 obtain⟨he,hb⟩:=h
 rw[he]
 exact⟨rfl,hb⟩
theorem Sim.give (h:Sim s' s) (n:Int):Sim (giveS s' n).1 (giveS s n).1∧(giveS s' n).2=(giveS s n).2:=by
 obtain⟨he,hb⟩:=h
 unfold giveS
 have ht:s'.tx=s.tx:=by rw[he]
 have hc:s'.clock=s.clock:=by rw[he]
 rw[ht]
 by_cases h2:s.tx.k=2
 ·rw[if_pos h2,if_pos h2]
  have hb:=hb h2
  have h3:=hb.2.2 s.clock (Int.le_refl _)
  dsimp only
  rw[hc,h3.1,h3.2,hb.1,hb.2.1]
  refine⟨⟨?_,λ _=>bq_refl _ _⟩,rfl⟩
  dsimp only
  rw[he]
 ·rw[if_neg h2,if_neg h2]
  have hS:Sim s' s:=⟨he,hb⟩
  rw[hc,hS.passed,show s'.d=s.d by rw[he],show s'.pause=s.pause by rw[he]]
  split
  ·split
   ·exact⟨hS,rfl⟩
   ·refine⟨⟨?_,λ hk=>absurd hk h2⟩,rfl⟩
    dsimp only
    rw[he]
  ·split
   ·exact⟨hS,rfl⟩
   ·split
    ·exact⟨hS,rfl⟩
    ·exact⟨hS,rfl⟩
theorem give_none (ho:Ok s M) (hl:s.tx.k=6→s.passed<s.tx.a):Sim s (giveS s 0).1∧(giveS s 0).2=0:=by
 unfold giveS
 by_cases h2:s.tx.k=2
 ·rw[if_pos h2]
  have hf:=gb.fill_right (ho.bk h2) s.clock
  have hr:=(gb.rightB_iff _ _ _ _).1 hf
  have h0:=gb.take_range (L:=gb.fillL s.bk.r s.bk.u s.bk.l s.bk.t s.clock) (n:=0) hr.2.2.1.1
  have h0:=h0.2.2.2.1 (Int.le_refl _)
  refine⟨⟨rfl,λ _=>⟨rfl,rfl,λ t ht=>?_⟩⟩,h0⟩
  dsimp only
  rw[h0,Int.sub_zero]
  have:=gb.fill_steps (ho.bk h2) ht
  exact⟨this.1.symm,this.2.symm⟩
 ·rw[if_neg h2]
  split
  ·rw[if_pos (Or.inl rfl)]
   exact⟨sim_refl _,rfl⟩
  ·split
   ·exact⟨sim_refl _,rfl⟩
   ·split
    ·rename_i h6
     have:=hl h6.1
     omega
    ·exact⟨sim_refl _,rfl⟩
theorem Sim.trans (h:Sim s s') (k:Sim s' s''):Sim s s'':=by
 obtain⟨h1,h2⟩:=h
 obtain⟨k1,k2⟩:=k
 refine⟨by rw[h1,k1],λ hk=>?_⟩
 have a:=h2 (by rw[k1];exact hk)
 have b:=k2 hk
 have hc:s'.clock=s''.clock:=by rw[k1]
 refine⟨a.1.trans b.1,a.2.1.trans b.2.1,λ t ht=>?_⟩
 have a1:=a.2.2 t (by omega)
 have b1:=b.2.2 t ht
 exact⟨a1.1.trans b1.1,a1.2.trans b1.2⟩
theorem Sim.take (h:Sim s' s) (ho:Ok s' M) (now most:Int):Sim (takeC s' now most).1 (takeS s now most).1∧(takeC s' now most).2=(takeS s now most).2:=by
 have hl:=h.look now
 have hol:=ho.look now
 unfold takeC takeS
 dsimp only
 by_cases hs:(lookS s now).st=0
 ·rw[hl.st,if_neg (show¬(lookS s now).st≠0 fromλ h=>h hs)]
  by_cases hm:most<1
  ·rw[if_pos (show(lookS s now).st≠0∨most<1 from Or.inr hm),if_pos (show min most (gc.readyN (lookS s' now).A (lookS s' now).clock:Int)<1 by omega)]
   exact⟨hl,rfl⟩
  ·rw[if_neg (show¬((lookS s now).st≠0∨most<1)fromλ h=>h.elim (λ h=>h hs) hm)]
   obtain⟨R,hR⟩:∃R,gc.readyN (lookS s now).A (lookS s now).clock=R:=⟨_,rfl⟩
   rw[hl.A,hl.clock,hl.S,hR]
   by_cases h0:R=0
   ·subst h0
    rw[if_pos (show min most ((0:Nat):Int)<1 by omega)]
    have e:(if most<((0:Nat):Int)then most else((0:Nat):Int))=0:=by split<;>omega
    rw[e]
    have hg:=hl.give 0
    have hn:=give_none hol (λ hk=>not_over (s:=s') now (by rw[hl.st];exact hs) hk)
    rw[←hg.2,hn.2]
    have hz:gc.takeK (lookS s now).A (lookS s now).clock 0=0:=by unfold gc.takeK;omega
    rw[hz,cut_zero]
    exact⟨hn.1.trans hg.1,(extract_none _).symm⟩
   ·have e:(if most<(R:Int)then most else(R:Int))=min most (R:Int):=by split<;>omega
    have h1:1≤min most (R:Int):=by omega
    rw[if_neg (show¬min most (R:Int)<1 by omega),e]
    have hg:=hl.give (min most (R:Int))
    have hgi:=give_is hol (min most (R:Int)) h1 (λ hk=>not_over (s:=s') now (by rw[hl.st];exact hs) hk)
    rw[hg.2]at hgi⊢
    have hK:gc.takeK (lookS s now).A (lookS s now).clock (giveS (lookS s now) (min most (R:Int))).2=(giveS (lookS s now) (min most (R:Int))).2.toNat:=by
     unfold gc.takeK
     rw[hR]
     omega
    rw[hK]
    exact⟨hg.1.cut _,rfl⟩
 ·rw[hl.st,if_pos hs,if_pos (show(lookS s now).st≠0∨most<1 from Or.inl hs)]
  exact⟨hl,rfl⟩
end Go.Proofs.YtdighjgcnaajgaaGreat
