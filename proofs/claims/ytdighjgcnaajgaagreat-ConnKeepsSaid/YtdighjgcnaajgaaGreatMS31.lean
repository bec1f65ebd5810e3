import Derived.Test.YtdighjgcnaajgaaGreatMS30
namespace Go.Proofs.YtdighjgcnaajgaaGreat
open Go.RowKit
namespace Ch
def pre (c:Ch) (k:Nat):Nat:=((c.L.take (k+1)).map λ p=>p.s.S.size).sum
theorem pre_lt (c:Ch) (k i:Nat) (o:Op) (h:i<k):(c.onC k o).pre i=c.pre i:=by
 unfold pre onC
 simp only
 rw[List.take_set_of_le (by omega)]
theorem pre_ge (c:Ch) (k i:Nat) (o:Op) (h:k≤i) (hk:k<c.L.length):(c.onC k o).pre i+(c.at' k).s.S.size=c.pre i+(doS (c.at' k).s o).1.S.size:=by
 unfold pre onC
 simp only
 rw[List.take_set]
 have h1:=held_set (c.L.take (i+1)) k ⟨(doS (c.at' k).s o).1,(c.at' k).closed||o.kind==3⟩ (by rw[List.length_take];omega)
 have h2:(c.L.take (i+1)).getD k noPrt=c.at' k:=by
  unfold at'
  rw[List.getD_eq_getElem?_getD,List.getD_eq_getElem?_getD,List.getElem?_take_of_lt (by omega)]
 rw[h2]at h1
 exact h1
structure Fine (c:Ch) (M:Nat):Prop where
 len:2≤c.L.length∧c.L.length≤10
 top:M≤400000
 ok:∀k,k<c.L.length→Ok (c.at' k).s M∧(c.at' k).s.A.length=(c.at' k).s.S.size
 pre:∀k,k<c.L.length→(c.at' k).s.passed+c.pre k≤M
theorem size_le_pre (c:Ch) (k:Nat) (h:k<c.L.length):(c.at' k).s.S.size≤c.pre k:=by
 have h1:=pre_ge c k k ⟨9,0,0,⟨#[]⟩,noTox⟩ (Nat.le_refl _) h
 have h2:=sum_set ((c.L.take (k+1)).map λ p=>p.s.S.size) k 0 (by rw[List.length_map,List.length_take];omega)
 have h3:((c.L.take (k+1)).map λ p=>p.s.S.size).getD k 0=(c.at' k).s.S.size:=by
  unfold at'
  rw[List.getD_eq_getElem?_getD,List.getD_eq_getElem?_getD,List.getElem?_map,List.getElem?_take_of_lt (by omega),List.getElem?_eq_getElem h]
  rfl
 rw[h3]at h2
 show _≤((c.L.take (k+1)).map λ p=>p.s.S.size).sum
 omega
theorem fine_on {c:Ch} {M M':Nat} (hc:Fine c M) (k:Nat) (hk:k<c.L.length) (o:Op) (d:Nat) (ht:o.t.s.size≤maxLen) (hf:M'≤400000) (hM:M≤M') (ho:M+o.s.size≤1000000)
  (h1:(doS (c.at' k).s o).1.passed+(doS (c.at' k).s o).1.S.size≤(c.at' k).s.passed+(c.at' k).s.S.size+d) (h2:(doS (c.at' k).s o).1.S.size≤(c.at' k).s.S.size+d)
  (hd:∀j,k≤j→j<c.L.length→(c.at' j).s.passed+c.pre j+d≤M'):Fine (c.onC k o) M':=by
 have hpre:∀j,j<c.L.length→((c.onC k o).at' j).s.passed+(c.onC k o).pre j≤M':=λ j hj=>by
  by_cases e:k=j
  ·subst e
   rw[at_on _ _ _ hk]
   have e1:=pre_ge c k k o (Nat.le_refl _) hk
   have e2:=hd k (Nat.le_refl _) hk
   show(doS (c.at' k).s o).1.passed+_≤_
   omega
  ·rw[at_other _ _ _ _ e]
   by_cases l:j<k
   ·rw[pre_lt _ _ _ _ l]
    have:=hc.pre j hj
    omega
   ·have e1:=pre_ge c k j o (by omega) hk
    have e2:=hd j (by omega) hj
    omega
 refine⟨by rw[len_on];exact hc.len,hf,λ j hj=>?_,λ j hj=>hpre j (by rwa[len_on]at hj)⟩
 rw[len_on]at hj
 have hb:=hpre j hj
 have hs:=size_le_pre (c.onC k o) j (by rw[len_on];exact hj)
 by_cases e:k=j
 ·subst e
  rw[at_on _ _ _ hk]at*
  have hok:=(hc.ok k hk).1.doS (hc.ok k hk).2 o ht (Nat.le_refl _) ho
  exact⟨⟨hok.tx,hok.name,hok.clock,⟨hok.passed.1,by
   show(doS (c.at' k).s o).1.passed+((doS (c.at' k).s o).1.S.size:Int)≤M'
   have hs':(doS (c.at' k).s o).1.S.size≤(c.onC k o).pre k:=hs
   have hb':(doS (c.at' k).s o).1.passed+((c.onC k o).pre k:Int)≤M':=hb
   omega⟩,hok.room,hok.bk,by omega⟩,len_do (hc.ok k hk).2 o⟩
 ·rw[at_other _ _ _ _ e]
  exact⟨(hc.ok j hj).1.more hM (by omega),(hc.ok j hj).2⟩
theorem passed_do (s:St) (now:Int):(doS s (oClose now)).1.passed=s.passed∧(doS s (oLook now)).1.passed=s.passed∧(doS s oDrain).1.passed=s.passed:=by
 refine⟨?_,rfl,rfl⟩
 show(closeS s now).passed=_
 unfold closeS
 split<;>rfl
theorem passed_take (s:St) (now n:Int) (hl:s.A.length=s.S.size):(doS s (oTake now n)).1.passed+(doS s (oTake now n)).1.S.size=s.passed+s.S.size∧(doS s (oTake now n)).1.S.size≤s.S.size:=by
 have h:=sz_take s now n
 refine⟨?_,by omega⟩
 show(takeS s now n).1.passed+((takeS s now n).1.S.size:Int)=_
 unfold takeS
 dsimp only
 split
 ·rfl
 ·generalize hm:(if n<((gc.readyN (lookS s now).A (lookS s now).clock:Nat):Int)then n else((gc.readyN (lookS s now).A (lookS s now).clock:Nat):Int))=m
  have hk:=give_keeps (lookS s now) m
  have hK:=gc.takeK_le (lookS s now).A (lookS s now).clock (giveS (lookS s now) m).2
  have hl':(lookS s now).A.length=(lookS s now).S.size:=hl
  show(giveS (lookS s now) m).1.passed+((gc.takeK (lookS s now).A (lookS s now).clock (giveS (lookS s now) m).2:Nat):Int)+(((giveS (lookS s now) m).1.S.extract _ (giveS (lookS s now) m).1.S.size).size:Int)=_
  rw[hk.1,hk.2.2.2.2.2.1,ByteArray.size_extract]
  have e1:(lookS s now).S=s.S:=rfl
  have e2:(lookS s now).passed=s.passed:=rfl
  rw[e1,e2]
  rw[e1]at hl'
  omega
end Ch
end Go.Proofs.YtdighjgcnaajgaaGreat
namespace Go.Proofs.YtdighjgcnaajgaaGreat
open Go.RowKit
namespace Ch
theorem Fine.same {c c':Ch} {M:Nat} (h:Fine c M) (e:c'.L=c.L):Fine c' M:=by
 have ha:∀k,c'.at' k=c.at' k:=λ k=>by unfold at';rw[e]
 have hp:∀k,c'.pre k=c.pre k:=λ k=>by unfold Ch.pre;rw[e]
 exact⟨by rw[e];exact h.len,h.top,λ k hk=>by rw[ha];exact h.ok k (by rwa[e]at hk),λ k hk=>by rw[ha,hp];exact h.pre k (by rwa[e]at hk)⟩
theorem Fine.held_le {c:Ch} {M:Nat} (h:Fine c M):c.held≤M:=by
 have h1:=h.len
 have h2:=h.pre (c.L.length -1) (by omega)
 have h3:=(h.ok (c.L.length -1) (by omega)).1.passed
 have h4:c.pre (c.L.length -1)=c.held:=by
  unfold Ch.pre held
  rw[List.take_of_length_le (by omega)]
 omega
theorem nothing:(⟨#[]⟩:ByteArray).size=0:=rfl
theorem noTox_s:noTox.s.size≤maxLen:=by decide
section
variable {c:Ch} {M:Nat}
theorem Fine.mono {M':Nat} (h:Fine c M) (hM:M≤M') (hf:M'≤400000):Fine c M':=
 ⟨h.len,hf,λ k hk=>⟨(h.ok k hk).1.more hM (by omega),(h.ok k hk).2⟩,λ k hk=>by have:=h.pre k hk;omega⟩
theorem Fine.still (h:Fine c M) (k:Nat) (hk:k<c.L.length) (o:Op) (ht:o.t.s.size≤maxLen) (ho:o.s.size=0)
  (h1:(doS (c.at' k).s o).1.passed+(doS (c.at' k).s o).1.S.size≤(c.at' k).s.passed+(c.at' k).s.S.size) (h2:(doS (c.at' k).s o).1.S.size≤(c.at' k).s.S.size):Fine (c.onC k o) M:=
 fine_on h k hk o 0 ht h.top (Nat.le_refl _) (by have:=h.top;omega) (by omega) (by omega) (λ j _ hj=>by have:=h.pre j hj;omega)
theorem Fine.close (h:Fine c M) (k:Nat) (hk:k<c.L.length) (now:Int):Fine (c.onC k (oClose now)) M:=
 h.still k hk _ noTox_s rfl (by rw[(passed_do _ now).1,sz_close];exact Int.le_refl _) (by rw[sz_close];exact Nat.le_refl _)
theorem Fine.look (h:Fine c M) (k:Nat) (hk:k<c.L.length) (now:Int):Fine (c.onC k (oLook now)) M:=
 h.still k hk _ noTox_s rfl (Int.le_refl _) (Nat.le_refl _)
theorem Fine.drain (h:Fine c M) (k:Nat) (hk:k<c.L.length):Fine (c.onC k oDrain) M:=
 h.still k hk _ noTox_s rfl (by rw[(passed_do _ 0).2.2,(sz_drain _).1];omega) (by rw[(sz_drain _).1];exact Nat.zero_le _)
theorem Fine.take (h:Fine c M) (k:Nat) (hk:k<c.L.length) (now n:Int):Fine (c.onC k (oTake now n)) M:=
 have e:=passed_take (c.at' k).s now n (h.ok k hk).2
 h.still k hk _ noTox_s rfl (by rw[e.1];exact Int.le_refl _) e.2
theorem upd_passed (s:St) (t:Tox) (now:Int):(updS s t now).1.passed=s.passed:=by
 unfold updS
 (repeat' split)<;>rfl
theorem Fine.upd (h:Fine c M) (k:Nat) (hk:k<c.L.length) (now:Int) (t:Tox) (ht:t.s.size≤maxLen):Fine (c.onC k (oUpd now t)) M:=
 h.still k hk _ ht rfl (by rw[sz_upd];show(updS (c.at' k).s t now).1.passed+_≤_;rw[upd_passed];exact Int.le_refl _) (by rw[sz_upd];exact Nat.le_refl _)
theorem Fine.loseN (h:Fine c M) (n:Nat) (hn:n≤c.L.length):Fine (c.loseN n) M:=by
 induction n with
 |zero=>exact h
 |succ n ih=>exact((ih (by omega)).drain n (by rw[len_loseN];omega)).same rfl
theorem Fine.lose (h:Fine c M) (n:Nat) (hn:n≤c.L.length):Fine (c.lose n) M:=(h.loseN n hn).same rfl
theorem Fine.break (h:Fine c M):Fine c.breakC M:=by
 unfold breakC
 split
 ·exact h
 ·exact(h.lose _ (Nat.le_refl _)).same rfl
theorem Fine.looks (h:Fine c M) (now:Int) (n:Nat) (hn:n≤c.L.length):Fine (c.looks now n) M:=by
 induction n with
 |zero=>exact h
 |succ n ih=>exact(ih (by omega)).look n (by rw[len_looks];omega) now
theorem force_passed (s:St) (b:ByteArray):(forceS s b).passed=s.passed:=by
 unfold forceS
 split
 ·rfl
 ·split<;>rfl
theorem push_passed (s:St) (now:Int) (b:ByteArray):(pushS s now b).passed=s.passed:=by
 unfold pushS
 dsimp only
 split
 ·rfl
 ·exact force_passed _ _
theorem bring_passed (s:St) (now:Int) (b:ByteArray):(bringS s now b).1.passed=s.passed:=by
 unfold bringS
 dsimp only
 split
 ·rfl
 ·exact force_passed _ _
theorem Fine.push (h:Fine c M) (k:Nat) (hk:k<c.L.length) (now:Int) (b:ByteArray) (hb:b.size≤400000) (hd:∀j,k≤j→j<c.L.length→(c.at' j).s.passed+c.pre j+b.size≤M):Fine (c.onC k (oPush now b)) M:=by
 have e:=sz_push (c.at' k).s now b
 have e2:(doS (c.at' k).s (oPush now b)).1.passed=(c.at' k).s.passed:=push_passed _ _ _
 have e3:(doS (c.at' k).s (oPush now b)).1.S.size≤(c.at' k).s.S.size+b.size:=by rw[e];split<;>omega
 exact fine_on h k hk _ b.size noTox_s h.top (Nat.le_refl _) (by have:=h.top;show M+b.size≤_;omega) (by omega) e3 hd
theorem Fine.put (h:Fine c M) (now:Int) (b:ByteArray) (hb:M+b.size≤400000):Fine (c.onC 0 (oPut now b)) (M+b.size):=by
 have h0:=h.len
 have e:=sz_put (c.at' 0).s now b
 have e1:=do_n (c.at' 0).s (oPut now b) rfl
 have e2:(doS (c.at' 0).s (oPut now b)).1.passed=(c.at' 0).s.passed:=bring_passed _ _ _
 have e4:(oPut now b).s.size=b.size:=rfl
 exact fine_on h 0 (by omega) _ b.size noTox_s hb (by omega) (by show M+b.size≤_;omega) (by omega) (by omega) (λ j _ hj=>by have:=h.pre j hj;omega)
theorem Fine.flow1 (h:Fine c M) (now:Int) (i:Nat) (hi:i+1<c.L.length):Fine (c.flow1 now i) M:=by
 have h1:=h.look (i+1) hi now
 unfold Ch.flow1
 dsimp only
 split
 ·have hl:(c.onC (i+1) (oLook now)).L.length=c.L.length:=len_on _ _ _
  generalize c.onC (i+1) (oLook now)=d at*
  generalize freeS (d.at' (i+1)).s=m at*
  have h2:=h1.take i (by omega) now m
  have e:=sz_take (d.at' i).s now m
  have hs:=size_le_pre d i (by omega)
  have hp:=h1.pre i (by omega)
  have hq:=(h1.ok i (by omega)).1.passed.1
  have ht:=h1.top
  refine h2.push (i+1) (by rw[len_on];omega) now _ (by unfold ansC;omega) λ j hj hj'=>?_
  rw[len_on]at hj'
  rw[at_other _ _ _ _ (by omega)]
  have e1:=pre_ge d i j (oTake now m) (by omega) (by omega)
  have e2:=h1.pre j hj'
  unfold ansC
  omega
 ·exact h1
theorem Fine.flow (h:Fine c M) (now:Int) (n:Nat) (hn:n<c.L.length):Fine (c.flow now n) M:=by
 induction n with
 |zero=>exact h
 |succ n ih=>exact(ih (by omega)).flow1 now n (by rw[len_flow];exact hn)
theorem Fine.ends1 (h:Fine c M) (now:Int) (i:Nat) (hi:i+1<c.L.length):Fine (c.ends1 now i) M:=by
 have h1:=h.look i (by omega) now
 unfold Ch.ends1
 dsimp only
 split
 ·exact(h1.lose (i+1) (by rw[len_on];omega)).close (i+1) (by rw[len_lose,len_on];omega) now
 ·exact h1
theorem Fine.ends (h:Fine c M) (now:Int) (n:Nat) (hn:n<c.L.length):Fine (c.ends now n) M:=by
 induction n with
 |zero=>exact h
 |succ n ih=>exact(ih (by omega)).ends1 now n (by rw[len_ends];exact hn)
theorem Fine.step (h:Fine c M) (now:Int):Fine (c.stepC now) M:=by
 have h0:=h.len
 have h1:=h.looks now c.L.length (Nat.le_refl _)
 unfold stepC
 split
 ·exact h
 ·split
  ·exact h1.break
  ·have h2:=h1.flow now (c.L.length -1) (by rw[len_looks];omega)
   have h3:=h2.ends now (c.L.length -1) (by rw[len_flow,len_looks];omega)
   exact(h3.look (c.L.length -1) (by rw[len_ends,len_flow,len_looks];omega) now).same rfl
end
end Ch
end Go.Proofs.YtdighjgcnaajgaaGreat
namespace Go.Proofs.YtdighjgcnaajgaaGreat
open Go.RowKit
namespace Ch
section
variable {c:Ch} {M:Nat}
def insL (l:List Prt) (k:Nat) (p:Prt):List Prt:=l.take (k+1)++p::l.drop (k+1)
theorem insL_lt (l:List Prt) (k j:Nat) (p:Prt) (h:k+1≤l.length) (hj:j≤k):(insL l k p).getD j noPrt=l.getD j noPrt:=by
 unfold insL
 rw[List.getD_eq_getElem?_getD,List.getD_eq_getElem?_getD,List.getElem?_append_left (by rw[List.length_take];omega),List.getElem?_take_of_lt (by omega)]
theorem insL_eq (l:List Prt) (k:Nat) (p:Prt) (h:k+1≤l.length):(insL l k p).getD (k+1) noPrt=p:=by
 unfold insL
 rw[List.getD_eq_getElem?_getD,List.getElem?_append_right (by rw[List.length_take];omega),List.length_take]
 rw[show k+1 -min (k+1) l.length=0 by omega]
 rfl
theorem insL_gt (l:List Prt) (k j:Nat) (p:Prt) (h:k+1≤l.length) (hj:k+1≤j):(insL l k p).getD (j+1) noPrt=l.getD j noPrt:=by
 unfold insL
 rw[List.getD_eq_getElem?_getD,List.getD_eq_getElem?_getD,List.getElem?_append_right (by rw[List.length_take];omega),List.length_take]
 rw[show j+1 -min (k+1) l.length=(j -(k+1))+1 by omega,List.getElem?_cons_succ,List.getElem?_drop]
 congr 2
 omega
def sumL (l:List Prt) (j:Nat):Nat:=((l.take (j+1)).map λ p=>p.s.S.size).sum
theorem sum_lt (l:List Prt) (k j:Nat) (p:Prt) (h:k+1≤l.length) (hj:j≤k):sumL (insL l k p) j=sumL l j:=by
 unfold sumL insL
 rw[List.take_append_of_le_length (by rw[List.length_take];omega),List.take_take,show min (j+1) (k+1)=j+1 by omega]
theorem sum_ge (l:List Prt) (k j:Nat) (p:Prt) (h:k+1≤l.length) (hj:k≤j):sumL (insL l k p) (j+1)=sumL l j+p.s.S.size:=by
 unfold sumL insL
 rw[List.take_append,List.length_take,List.take_of_length_le (by rw[List.length_take];omega)]
 rw[show j+1+1 -min (k+1) l.length=(j -k)+1 by omega,List.take_succ_cons]
 have e:l.take (j+1)=l.take (k+1)++(l.drop (k+1)).take (j -k):=by
  rw[←List.take_add,show k+1+(j -k)=j+1 by omega]
 rw[e]
 simp only[List.map_append,List.map_cons,List.sum_append,List.sum_cons]
 omega
theorem len_insL (l:List Prt) (k:Nat) (p:Prt) (h:k+1≤l.length):(insL l k p).length=l.length+1:=by
 unfold insL
 simp
 omega
theorem Fine.put_in (h:Fine c M) (k:Nat) (hk:k+2≤c.L.length) (h8:c.L.length<10) (p:Prt) (hp:Ok p.s 0) (hl:p.s.A.length=p.s.S.size) (hz:p.s.S.size=0) (h0:p.s.passed=0):Fine {c with L:=insL c.L k p} M:=by
 refine⟨?_,h.top,λ j hj=>?_,λ j hj=>?_⟩
 ·show 2≤(insL c.L k p).length∧(insL c.L k p).length≤10
  rw[len_insL _ _ _ (by omega)]
  omega
 ·have hj:j<(insL c.L k p).length:=hj
  rw[len_insL _ _ _ (by omega)]at hj
  show Ok ((insL c.L k p).getD j noPrt).s M∧((insL c.L k p).getD j noPrt).s.A.length=((insL c.L k p).getD j noPrt).s.S.size
  rcases Nat.lt_trichotomy j (k+1)with g|rfl|g
  ·rw[insL_lt _ _ _ _ (by omega) (by omega)]
   exact h.ok j (by omega)
  ·rw[insL_eq _ _ _ (by omega)]
   exact⟨hp.more (Nat.zero_le _) (by have:=h.top;omega),hl⟩
  ·obtain⟨i,rfl⟩:∃i,j=i+1:=⟨j -1,by omega⟩
   rw[insL_gt _ _ _ _ (by omega) (by omega)]
   exact h.ok i (by omega)
 ·have hj:j<(insL c.L k p).length:=hj
  rw[len_insL _ _ _ (by omega)]at hj
  show((insL c.L k p).getD j noPrt).s.passed+(sumL (insL c.L k p) j:Int)≤M
  rcases Nat.lt_trichotomy j (k+1)with g|rfl|g
  ·rw[insL_lt _ _ _ _ (by omega) (by omega),sum_lt _ _ _ _ (by omega) (by omega)]
   exact h.pre j (by omega)
  ·rw[insL_eq _ _ _ (by omega),sum_ge _ _ _ _ (by omega) (Nat.le_refl _),hz,h0]
   have h1:=h.pre k (by omega)
   have h2:=(h.ok k (by omega)).1.passed.1
   have h3:c.pre k=sumL c.L k:=rfl
   omega
  ·obtain⟨i,rfl⟩:∃i,j=i+1:=⟨j -1,by omega⟩
   rw[insL_gt _ _ _ _ (by omega) (by omega),sum_ge _ _ _ _ (by omega) (by omega),hz]
   have h1:=h.pre i (by omega)
   exact h1
theorem Fine.ins (h:Fine c M) (k:Nat) (t:Tox) (seed now:Int) (hk:k+2≤c.L.length) (h8:c.L.length<10) (ht:t.s.size≤maxLen) (hE:newE t c.room=0):Fine (c.insN k t seed now) M:=by
 have ho:=newE_ok hE
 have h1:=h.put_in k hk h8 ⟨newS t seed c.room now,false⟩ (ok_new ht ho.1 ho.2.1 ho.2.2) rfl rfl rfl
 unfold insN
 dsimp only
 split
 ·exact h1.close (k+1) (by show k+1<(insL c.L k _).length;rw[len_insL _ _ _ (by omega)];omega) now
 ·exact h1
def outL (l:List Prt) (k:Nat):List Prt:=l.take (k+1)++l.drop (k+2)
theorem out_in (l:List Prt) (k:Nat) (h:k+1<l.length):insL (outL l k) k (l.getD (k+1) noPrt)=l:=by
 unfold insL outL
 have e1:(l.take (k+1)++l.drop (k+2)).take (k+1)=l.take (k+1):=by
  rw[List.take_append_of_le_length (by rw[List.length_take];omega),List.take_take,Nat.min_self]
 have e2:(l.take (k+1)++l.drop (k+2)).drop (k+1)=l.drop (k+2):=by
  rw[List.drop_append_of_le_length (by rw[List.length_take];omega),List.drop_take]
  simp
 rw[e1,e2,List.getD_eq_getElem?_getD,List.getElem?_eq_getElem h]
 have e3:l.drop (k+1)=l[k+1]::l.drop (k+2):=List.drop_eq_getElem_cons h
 show l.take (k+1)++l[k+1]::l.drop (k+2)=l
 rw[←e3,List.take_append_drop]
end
end Ch
end Go.Proofs.YtdighjgcnaajgaaGreat
namespace Go.Proofs.YtdighjgcnaajgaaGreat
open Go.RowKit
namespace Ch
section
variable {c:Ch} {M:Nat}
theorem len_outL (l:List Prt) (k:Nat) (h:k+2≤l.length):(outL l k).length+1=l.length:=by
 unfold outL
 simp
 omega
theorem out_lt (l:List Prt) (k j:Nat) (h:k+2≤l.length) (hj:j≤k):(outL l k).getD j noPrt=l.getD j noPrt:=by
 have e:=insL_lt (outL l k) k j (l.getD (k+1) noPrt) (by have:=len_outL l k h;omega) hj
 rw[out_in _ _ (by omega)]at e
 exact e.symm
theorem out_ge (l:List Prt) (k j:Nat) (h:k+2≤l.length) (hj:k+1≤j):(outL l k).getD j noPrt=l.getD (j+1) noPrt:=by
 have e:=insL_gt (outL l k) k j (l.getD (k+1) noPrt) (by have:=len_outL l k h;omega) hj
 rw[out_in _ _ (by omega)]at e
 exact e.symm
theorem out_sum_lt (l:List Prt) (k j:Nat) (h:k+2≤l.length) (hj:j≤k):sumL (outL l k) j=sumL l j:=by
 have e:=sum_lt (outL l k) k j (l.getD (k+1) noPrt) (by have:=len_outL l k h;omega) hj
 rw[out_in _ _ (by omega)]at e
 exact e.symm
theorem out_sum_ge (l:List Prt) (k j:Nat) (h:k+2≤l.length) (hj:k≤j):sumL l (j+1)=sumL (outL l k) j+(l.getD (k+1) noPrt).s.S.size:=by
 have e:=sum_ge (outL l k) k j (l.getD (k+1) noPrt) (by have:=len_outL l k h;omega) hj
 rw[out_in _ _ (by omega)]at e
 exact e
theorem Fine.rem1 (h:Fine c M) (k:Nat) (hk:k+3≤c.L.length):Fine (c.rem1 k) M∧∀j,k+1≤j→j<(c.rem1 k).L.length→((c.rem1 k).at' j).s.passed+(c.rem1 k).pre j+(c.at' (k+1)).s.S.size≤M:=by
 have hl:=len_outL c.L k (by omega)
 have hc:=h.len
 have hj1:∀j,k+1≤j→j<(c.rem1 k).L.length→((c.rem1 k).at' j).s.passed+(c.rem1 k).pre j+(c.at' (k+1)).s.S.size≤M:=λ j hj hj'=>by
  have hj':j<(outL c.L k).length:=hj'
  have e1:=h.pre (j+1) (by omega)
  have e2:=out_sum_ge c.L k j (by omega) (by omega)
  have e3:=out_ge c.L k j (by omega) hj
  show((outL c.L k).getD j noPrt).s.passed+(sumL (outL c.L k) j:Int)+((c.L.getD (k+1) noPrt).s.S.size:Int)≤M
  have e1:(c.L.getD (j+1) noPrt).s.passed+(sumL c.L (j+1):Int)≤M:=e1
  rw[e3]
  omega
 refine⟨⟨?_,h.top,λ j hj=>?_,λ j hj=>?_⟩,hj1⟩
 ·show 2≤(outL c.L k).length∧(outL c.L k).length≤10
  omega
 ·have hj:j<(outL c.L k).length:=hj
  show Ok ((outL c.L k).getD j noPrt).s M∧((outL c.L k).getD j noPrt).s.A.length=((outL c.L k).getD j noPrt).s.S.size
  by_cases g:j≤k
  ·rw[out_lt _ _ _ (by omega) g]
   exact h.ok j (by omega)
  ·rw[out_ge _ _ _ (by omega) (by omega)]
   exact h.ok (j+1) (by omega)
 ·by_cases g:j≤k
  ·show((outL c.L k).getD j noPrt).s.passed+(sumL (outL c.L k) j:Int)≤M
   have hj:j<(outL c.L k).length:=hj
   rw[out_lt _ _ _ (by omega) g,out_sum_lt _ _ _ (by omega) g]
   exact h.pre j (by omega)
  ·have:=hj1 j (by omega) hj
   omega
theorem Fine.rem (h:Fine c M) (k:Nat) (now:Int) (hk:k+3≤c.L.length):Fine (c.remC k now) M:=by
 obtain⟨h1,hd⟩:=h.rem1 k hk
 have hl:=len_rem1 c k hk
 have hs:=size_le_pre c (k+1) (by omega)
 have hp:=h.pre (k+1) (by omega)
 have hq:=(h.ok (k+1) (by omega)).1.passed.1
 have ht:=h.top
 have h2:Fine (c.rem2 k now) M:=h1.push (k+1) (by omega) now _ (by omega) hd
 have hl2:(c.rem2 k now).L.length=(c.rem1 k).L.length:=len_on _ _ _
 have h3:Fine (c.rem3 k now) M∧(c.rem3 k now).L.length=(c.rem1 k).L.length:=by
  unfold rem3
  split
  ·refine⟨(h2.same (c':={c.rem2 k now with lost:=c.lost+c.gone k now}) rfl).lose (k+1) (by show k+1≤(c.rem2 k now).L.length;omega),?_⟩
   rw[len_lose]
   exact hl2
  ·exact⟨h2,hl2⟩
 unfold remC
 split
 ·exact h3.1.close (k+1) (by omega) now
 ·exact h3.1
theorem Fine.doN (h:Fine c M) (o:COp) (ht:o.t.s.size≤maxLen) (hM:M+o.s.size≤400000):Fine (c.doN o) (M+o.s.size):=by
 have hl:=h.len
 have hm:=h.mono (Nat.le_add_right M o.s.size) hM
 unfold Ch.doN
 split
 ·split
  ·exact hm
  ·exact h.put o.now o.s hM
 split
 ·split
  ·exact(hm.close 0 (by omega) o.now).same rfl
  ·exact hm
 split
 ·exact hm.break
 split
 ·exact hm.step o.now
 split
 ·split
  ·exact hm
  ·exact hm.take (c.L.length -1) (by omega) o.now o.n
 split
 ·split
  ·exact hm
  ·rename_i he
   have hb:¬(o.n<0∨(c.L.length:Int) -2<o.n∨8≤(c.L.length:Int) -2):=λ hb=>he (by unfold insE;rw[if_pos hb];decide)
   have hE:newE o.t c.room=0:=by
    have:c.insE o.n o.t=0:=by omega
    unfold insE at this
    rwa[if_neg hb]at this
   exact hm.ins o.n.toNat o.t o.seed o.now (by omega) (by omega) ht hE
 split
 ·split
  ·exact hm.rem o.n.toNat o.now (by omega)
  ·exact hm
 split
 ·split
  ·exact hm.upd (o.n.toNat+1) (by omega) o.now o.t ht
  ·exact hm
 ·exact hm
theorem Fine.new {room now:Int} (h:newE noTox room=0):Fine (newC room now) 0:=by
 have ho:=newE_ok h
 have h1:Ok (newS noTox 0 room now) 0:=ok_new noTox_s ho.1 ho.2.1 ho.2.2
 refine⟨(show 2≤2∧2≤10 by decide),by decide,λ k hk=>?_,λ k hk=>?_⟩
 ·have hk:k<2:=hk
  match k,hk with
  |0,_=>exact⟨h1,rfl⟩
  |1,_=>exact⟨h1,rfl⟩
 ·have hk:k<2:=hk
  match k,hk with
  |0,_=>exact Int.le_refl _
  |1,_=>exact Int.le_refl _
end
end Ch
end Go.Proofs.YtdighjgcnaajgaaGreat
namespace Go.Proofs.YtdighjgcnaajgaaGreat
open Go.RowKit
namespace Ch
def cat:List Prt→ByteArray
 |[]=>⟨#[]⟩
 |p::r=>cat r++p.s.S
theorem cat_append (a b:List Prt):cat (a++b)=cat b++cat a:=by
 induction a with
 |nil=>exact(cat_none _).symm
 |cons p r ih=>
  show cat (r++b)++p.s.S=cat b++(cat r++p.s.S)
  rw[ih,ByteArray.append_assoc]
theorem cat_set (l:List Prt) (k:Nat) (p:Prt) (h:k<l.length):cat (l.set k p)=cat (l.drop (k+1))++(p.s.S++cat (l.take k)):=by
 induction l generalizing k with
 |nil=>cases h
 |cons a r ih=>
  cases k with
  |zero=>show cat r++p.s.S=cat r++(p.s.S++⟨#[]⟩);rw[cat_none]
  |succ k=>
   show cat (r.set k p)++a.s.S=cat (r.drop (k+1))++(p.s.S++(cat (r.take k)++a.s.S))
   rw[ih k (by simpa using h),ByteArray.append_assoc,ByteArray.append_assoc]
theorem cat_at (l:List Prt) (k:Nat) (h:k<l.length):cat l=cat (l.drop (k+1))++((l.getD k noPrt).s.S++cat (l.take k)):=by
 rw[←cat_set l k (l.getD k noPrt) h]
 congr 1
 rw[List.getD_eq_getElem?_getD,List.getElem?_eq_getElem h]
 exact(List.set_getElem_self h).symm
theorem cat_two (l:List Prt) (k:Nat) (p q:Prt) (h:k+1<l.length):cat ((l.set k p).set (k+1) q)=cat (l.drop (k+2))++(q.s.S++(p.s.S++cat (l.take k))):=by
 rw[cat_set _ _ _ (by rw[List.length_set];exact h),List.drop_set_of_lt (by omega)]
 congr 2
 rw[List.take_set,cat_set _ _ _ (by rw[List.length_take];omega),List.take_take,Nat.min_eq_left (by omega)]
 rw[List.drop_of_length_le (by rw[List.length_take];omega)]
 exact none_cat _
theorem cat_at2 (l:List Prt) (k:Nat) (h:k+1<l.length):cat l=cat (l.drop (k+2))++((l.getD (k+1) noPrt).s.S++((l.getD k noPrt).s.S++cat (l.take k))):=by
 rw[←cat_two l k (l.getD k noPrt) (l.getD (k+1) noPrt) h]
 congr 1
 rw[List.getD_eq_getElem?_getD,List.getElem?_eq_getElem (by omega),List.getD_eq_getElem?_getD,List.getElem?_eq_getElem h]
 show l=(l.set k l[k]).set (k+1) l[k+1]
 rw[List.set_getElem_self (by omega),List.set_getElem_self h]
def Pf (a b:ByteArray):Prop:=∃r,b=a++r
theorem Pf.refl (a:ByteArray):Pf a a:=⟨⟨#[]⟩,(cat_none a).symm⟩
theorem Pf.trans {a b c:ByteArray} (h:Pf a b) (h':Pf b c):Pf a c:=by
 obtain⟨r,rfl⟩:=h
 obtain⟨r',rfl⟩:=h'
 exact⟨r++r',by rw[ByteArray.append_assoc]⟩
theorem Pf.on (x:ByteArray) {a b:ByteArray} (h:Pf a b):Pf (x++a) (x++b):=by
 obtain⟨r,rfl⟩:=h
 exact⟨r,by rw[ByteArray.append_assoc]⟩
theorem cat_same (c:Ch) (k:Nat) (o:Op) (h:k<c.L.length) (ho:(doS (c.at' k).s o).1.S=(c.at' k).s.S):cat (c.onC k o).L=cat c.L:=by
 unfold onC
 simp only
 rw[cat_set _ _ _ h,cat_at c.L k h]
 simp only
 rw[ho]
 rfl
theorem cat_close (c:Ch) (k:Nat) (now:Int) (h:k<c.L.length):cat (c.onC k (oClose now)).L=cat c.L:=cat_same c k _ h (close_S _ _)
theorem cat_look (c:Ch) (k:Nat) (now:Int) (h:k<c.L.length):cat (c.onC k (oLook now)).L=cat c.L:=cat_same c k _ h rfl
theorem cat_upd (c:Ch) (k:Nat) (now:Int) (t:Tox) (h:k<c.L.length):cat (c.onC k (oUpd now t)).L=cat c.L:=cat_same c k _ h (upd_S _ _ _)
theorem cat_looks (c:Ch) (now:Int) (n:Nat) (h:n≤c.L.length):cat (c.looks now n).L=cat c.L:=by
 induction n with
 |zero=>rfl
 |succ n ih=>
  rw[←ih (by omega)]
  exact cat_look _ _ _ (by rw[len_looks];omega)
theorem loseN_parts (c:Ch) (n:Nat) (h:n≤c.L.length):(c.loseN n).L.drop n=c.L.drop n∧cat ((c.loseN n).L.take n)=⟨#[]⟩:=by
 induction n with
 |zero=>exact⟨rfl,rfl⟩
 |succ n ih=>
  obtain⟨h1,h2⟩:=ih (by omega)
  have hl:(c.loseN n).L.length=c.L.length:=len_loseN c n
  have e:(c.loseN (n+1)).L=(c.loseN n).L.set n ⟨(doS ((c.loseN n).at' n).s oDrain).1,((c.loseN n).at' n).closed||oDrain.kind==3⟩:=rfl
  rw[e]
  refine⟨?_,?_⟩
  ·rw[List.drop_set_of_lt (by omega),←List.drop_drop,←List.drop_drop,h1]
  ·rw[List.take_set,cat_set _ _ _ (by rw[List.length_take];omega),List.drop_of_length_le (by rw[List.length_take];omega),List.take_take,Nat.min_eq_left (by omega),h2]
   rfl
theorem cat_loseN (c:Ch) (n:Nat) (h:n≤c.L.length):cat (c.loseN n).L=cat (c.L.drop n):=by
 have h1:=loseN_parts c n h
 have e:=cat_append ((c.loseN n).L.take n) ((c.loseN n).L.drop n)
 rw[List.take_append_drop,h1.1,h1.2,cat_none]at e
 exact e
theorem pf_loseN (c:Ch) (n:Nat) (h:n≤c.L.length):Pf (cat (c.loseN n).L) (cat c.L):=by
 rw[cat_loseN c n h]
 have e:=cat_append (c.L.take n) (c.L.drop n)
 rw[List.take_append_drop]at e
 exact⟨_,e⟩
theorem cat_flow1 (c:Ch) (now:Int) (i:Nat) (h:i+1<c.L.length):cat (c.flow1 now i).L=cat c.L:=by
 unfold flow1
 dsimp only
 have hb:=cat_look c (i+1) now h
 split
 ·rename_i hn
  have hn:(lookS (c.at' (i+1)).s now).st=0:=hn
  have hl:(c.onC (i+1) (oLook now)).L.length=c.L.length:=len_on _ _ _
  have ha:((c.onC (i+1) (oLook now)).at' (i+1)).s=lookS (c.at' (i+1)).s now:=by rw[at_on c _ _ h];rfl
  generalize c.onC (i+1) (oLook now)=d at*
  rw[←hb,cat_at2 d.L i (by omega)]
  generalize freeS (d.at' (i+1)).s=m at*
  have e1:((d.onC i (oTake now m)).at' (i+1))=d.at' (i+1):=at_other _ _ _ _ (by omega)
  have e2:=cat_two d.L i ⟨(doS (d.at' i).s (oTake now m)).1,(d.at' i).closed||(oTake now m).kind==3⟩ ⟨(doS (d.at' (i+1)).s (oPush now (d.ansC i (oTake now m)).s)).1,(d.at' (i+1)).closed||(oPush now (d.ansC i (oTake now m)).s).kind==3⟩ (by omega)
  have e3:((d.onC i (oTake now m)).onC (i+1) (oPush now (d.ansC i (oTake now m)).s)).L=(d.L.set i ⟨(doS (d.at' i).s (oTake now m)).1,(d.at' i).closed||(oTake now m).kind==3⟩).set (i+1) ⟨(doS (d.at' (i+1)).s (oPush now (d.ansC i (oTake now m)).s)).1,(d.at' (i+1)).closed||(oPush now (d.ansC i (oTake now m)).s).kind==3⟩:=by
   show(d.onC i (oTake now m)).L.set (i+1) _=_
   rw[e1]
   rfl
  rw[e3,e2]
  congr 1
  show(pushS (d.at' (i+1)).s now (takeS (d.at' i).s now m).2).S++((takeS (d.at' i).s now m).1.S++_)=(d.at' (i+1)).s.S++((d.at' i).s.S++_)
  rw[push_S,if_pos (by rw[ha,look_look];exact hn),←take_S (d.at' i).s now m]
  simp only[ByteArray.append_assoc]
 ·exact hb
theorem cat_flow (c:Ch) (now:Int) (n:Nat) (h:n<c.L.length):cat (c.flow now n).L=cat c.L:=by
 induction n with
 |zero=>rfl
 |succ n ih=>
  rw[←ih (by omega)]
  exact cat_flow1 _ _ _ (by rw[len_flow];exact h)
end Ch
end Go.Proofs.YtdighjgcnaajgaaGreat
