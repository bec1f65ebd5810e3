import Derived.Test.YtdighjgcnaajgaaGreatMS37
import Derived.Test.YtdighjgcnaajgaaGreatMS38
import Derived.Shelf.Spec.SlicesInsertGrow
import Derived.Lib.SlicesDelete
namespace Go.Proofs.YtdighjgcnaajgaaGreat
open Go.RowKit
namespace Ch
theorem ch_ext {c d:Ch} (h1:c.L=d.L) (h2:c.room=d.room) (h3:c.lost=d.lost) (h4:c.shut=d.shut) (h5:c.state=d.state):c=d:=by
 cases c
 cases d
 simp only at h1 h2 h3 h4 h5
 subst h1 h2 h3 h4 h5
 rfl
theorem outL_set_lt (l:List Prt) (k j:Nat) (x:Prt) (hj:j≤k):outL (l.set j x) k=(outL l k).set j x:=by
 unfold outL
 rw[List.take_set,List.drop_set_of_lt (by omega)]
 by_cases hl:j<(l.take (k+1)).length
 ·rw[List.set_append_left _ _ hl]
 ·have hl2:l.length≤j:=by rw[List.length_take]at hl;omega
  have e1:(l.take (k+1)).set j x=l.take (k+1):=List.set_eq_of_length_le (by omega)
  have e2:l.drop (k+2)=[]:=List.drop_of_length_le (by omega)
  rw[e1,e2,List.append_nil,List.set_eq_of_length_le (by omega)]
theorem outL_set_eq (l:List Prt) (k:Nat) (x:Prt):outL (l.set (k+1) x) k=outL l k:=by
 unfold outL
 rw[List.take_set_of_le (Nat.le_refl _),List.drop_set_of_lt (by omega)]
theorem outL_set_gt (l:List Prt) (k:Nat) (x:Prt) (hk:k+2<l.length):outL (l.set (k+2) x) k=(outL l k).set (k+1) x:=by
 unfold outL
 have hl:(l.take (k+1)).length=k+1:=by rw[List.length_take];omega
 rw[List.take_set_of_le (by omega),List.set_append_right _ _ (by omega),hl,Nat.sub_self]
 congr 1
 rw[List.drop_set,if_neg (by omega),Nat.sub_self]
theorem rem_on_lt (d:Ch) (k j:Nat) (o:Op) (hj:j≤k) (hk:k+3≤d.L.length):(d.onC j o).rem1 k=(d.rem1 k).onC j o∧(d.rem1 k).ansC j o=d.ansC j o:=by
 have e:(d.rem1 k).at' j=d.at' j:=out_lt _ _ _ (by omega) hj
 refine⟨ch_ext ?_ rfl rfl rfl rfl,by unfold ansC;rw[e]⟩
 show outL (d.L.set j _) k=(outL d.L k).set j _
 rw[outL_set_lt _ _ _ _ hj,e]
theorem rem_on_eq (d:Ch) (k:Nat) (o:Op):(d.onC (k+1) o).rem1 k=d.rem1 k:=ch_ext (outL_set_eq _ _ _) rfl rfl rfl rfl
theorem rem_on_gt (d:Ch) (k:Nat) (o:Op) (hk:k+3≤d.L.length):(d.onC (k+2) o).rem1 k=(d.rem1 k).onC (k+1) o:=by
 have e:(d.rem1 k).at' (k+1)=d.at' (k+2):=out_ge _ _ _ (by omega) (Nat.le_refl _)
 refine ch_ext ?_ rfl rfl rfl rfl
 show outL (d.L.set (k+2) _) k=(outL d.L k).set (k+1) _
 rw[outL_set_gt _ _ _ (by omega),e]
theorem push_look (s:St) (now:Int) (b:ByteArray):pushS (lookS s now) now b=pushS s now b:=by
 unfold pushS
 rw[look_look]
theorem on_look_push (d:Ch) (i:Nat) (now:Int) (b:ByteArray) (hi:i<d.L.length):(d.onC i (oLook now)).onC i (oPush now b)=d.onC i (oPush now b):=by
 refine ch_ext ?_ rfl rfl rfl rfl
 have e:=at_on d i (oLook now) hi
 show((d.L.set i _).set i _)=d.L.set i _
 rw[List.set_set]
 congr 1
 rw[e]
 show(⟨pushS (lookS (d.at' i).s now) now b,((d.at' i).closed||false)||false⟩:Prt)=⟨pushS (d.at' i).s now b,(d.at' i).closed||false⟩
 rw[push_look,Bool.or_false]
theorem push_shut (s:St) (now:Int) (b:ByteArray) (h:(lookS s now).st≠0):pushS s now b=lookS s now:=by
 unfold pushS
 dsimp only
 rw[if_pos h]
def remP (c d:Ch) (k:Nat) (now:Int):Ch:=
 let e:=(d.onC (k+1) oDrain).onC (k+2) (oPush now (d.at' (k+1)).s.S)
 if(c.at' (k+1)).closed=true then(e.onC (k+2) (oClose now)).rem1 k else e.rem1 k
theorem remP_of {c d:Ch} {k:Nat} {now:Int} (hl:k+3≤d.L.length) (h:((d.rem1 k).onC (k+1) (oPush now (d.at' (k+1)).s.S))=c.rem3 k now):remP c d k now=c.remC k now:=by
 have h1:((d.onC (k+1) oDrain).onC (k+2) (oPush now (d.at' (k+1)).s.S)).rem1 k=c.rem3 k now:=by
  rw[rem_on_gt _ _ _ (by rw[len_on];exact hl),rem_on_eq]
  exact h
 unfold remP remC
 dsimp only
 split
 ·rw[rem_on_gt _ _ _ (by rw[len_on,len_on];exact hl),h1]
 ·exact h1
theorem gone_is (c:Ch) (k:Nat) (now:Int) (hk:k+3≤c.L.length):c.gone k now=((c.at' (k+1)).s.S.size:Int) -(if(lookS (c.at' (k+2)).s now).st=0 then(c.at' (k+1)).s.S.size else 0:Nat):=by
 have hl:=len_rem1 c k hk
 have g2:(c.rem1 k).at' (k+1)=c.at' (k+2):=out_ge _ _ _ (by omega) (Nat.le_refl _)
 have hp:=sz_push (c.at' (k+2)).s now (c.at' (k+1)).s.S
 have e:((c.rem2 k now).at' (k+1)).s=(doS (c.at' (k+2)).s (oPush now (c.at' (k+1)).s.S)).1:=by
  unfold rem2
  rw[at_on _ _ _ (by omega),g2]
 unfold gone
 rw[e,g2,hp]
 omega
theorem remP_none (c:Ch) (k:Nat) (now:Int) (hk:k+3≤c.L.length) (h0:(c.at' (k+1)).s.S.size=0):remP c c k now=c.remC k now:=by
 refine remP_of hk ?_
 have e:c.rem3 k now=c.rem2 k now:=by unfold rem3;rw[gone_none k now hk h0,if_neg (by decide)]
 rw[e]
 rfl
theorem remP_open (c:Ch) (k:Nat) (now:Int) (hk:k+3≤c.L.length) (h0:(lookS (c.at' (k+2)).s now).st=0):remP c (c.onC (k+2) (oLook now)) k now=c.remC k now:=by
 refine remP_of (by rw[len_on];exact hk) ?_
 have hg:=gone_is c k now hk
 rw[if_pos h0]at hg
 have e:c.rem3 k now=c.rem2 k now:=by unfold rem3;rw[if_neg (by omega)]
 have hl:=len_rem1 c k hk
 rw[e,at_other _ _ _ _ (by omega),rem_on_gt _ _ _ hk,on_look_push _ _ _ _ (by omega)]
 rfl
theorem lose_more (d:Ch) (x:Int) (n:Nat):({d with lost:=d.lost+x}:Ch).loseN n={d.loseN n with lost:=(d.loseN n).lost+x}:=by
 induction n with
 |zero=>rfl
 |succ n ih=>
  show({(({d with lost:=d.lost+x}:Ch).loseN n).onC n oDrain with lost:=(({d with lost:=d.lost+x}:Ch).loseN n).lost+_}:Ch)=_
  rw[ih]
  refine ch_ext rfl (by rfl) ?_ rfl rfl
  show(d.loseN n).lost+x+(((d.loseN n).ansC n oDrain).s.size:Int)=(d.loseN n).lost+(((d.loseN n).ansC n oDrain).s.size:Int)+x
  omega
theorem lose_rem (d:Ch) (k n:Nat) (hn:n≤k+1) (hk:k+3≤d.L.length):(d.loseN n).rem1 k=(d.rem1 k).loseN n:=by
 induction n with
 |zero=>rfl
 |succ n ih=>
  have h1:=ih (by omega)
  have h2:=rem_on_lt (d.loseN n) k n oDrain (by omega) (by rw[len_loseN];exact hk)
  rw[h1]at h2
  refine ch_ext ?_ ?_ ?_ ?_ ?_
  ·have:=congrArg Ch.L h2.1
   exact this
  ·have:=congrArg Ch.room h2.1
   exact this
  ·show(d.loseN n).lost+_=((d.rem1 k).loseN n).lost+_
   rw[h2.2,←h1]
   rfl
  ·have:=congrArg Ch.shut h2.1
   exact this
  ·have:=congrArg Ch.state h2.1
   exact this
theorem remP_lost (c:Ch) (k:Nat) (now:Int) (hk:k+3≤c.L.length) (hz:0<(c.at' (k+1)).s.S.size) (h0:(lookS (c.at' (k+2)).s now).st≠0):remP c ((c.onC (k+2) (oLook now)).lose (k+2)) k now=c.remC k now:=by
 refine remP_of (by rw[len_lose,len_on];exact hk) ?_
 have hl:=len_rem1 c k hk
 have hg:=gone_is c k now hk
 rw[if_neg h0]at hg
 have g2:(c.rem1 k).at' (k+1)=c.at' (k+2):=out_ge _ _ _ (by omega) (Nat.le_refl _)
 have hE:c.rem2 k now=(c.rem1 k).onC (k+1) (oLook now):=by
  refine ch_ext ?_ rfl rfl rfl rfl
  show(c.rem1 k).L.set (k+1) _=(c.rem1 k).L.set (k+1) _
  congr 1
  rw[g2]
  show(⟨pushS (c.at' (k+2)).s now _,(c.at' (k+2)).closed||false⟩:Prt)=⟨lookS (c.at' (k+2)).s now,(c.at' (k+2)).closed||false⟩
  rw[push_shut _ _ _ h0]
 have e3:c.rem3 k now=({c.rem2 k now with lost:=c.lost+((c.at' (k+1)).s.S.size:Int)}:Ch).lose (k+1):=by
  have e:c.gone k now=((c.at' (k+1)).s.S.size:Int):=by omega
  unfold rem3
  rw[e,if_pos (by omega)]
 rw[e3,hE]
 generalize hEE:(c.rem1 k).onC (k+1) (oLook now)=E
 have hEl:E.L.length+1=c.L.length:=by rw[←hEE,len_on];exact hl
 have hElost:E.lost=c.lost:=by rw[←hEE];rfl
 have hEat:E.at' (k+1)=⟨lookS (c.at' (k+2)).s now,(c.at' (k+2)).closed||false⟩:=by rw[←hEE,at_on _ _ _ (by omega),g2];rfl
 have hm:({E with lost:=c.lost+((c.at' (k+1)).s.S.size:Int)}:Ch).loseN (k+1)={E.loseN (k+1)with lost:=(E.loseN (k+1)).lost+((c.at' (k+1)).s.S.size:Int)}:=by
  rw[←hElost]
  exact lose_more E _ _
 have hrem:(c.onC (k+2) (oLook now)).rem1 k=E:=by rw[rem_on_gt _ _ _ hk];exact hEE
 have hlen:(c.onC (k+2) (oLook now)).L.length=c.L.length:=len_on _ _ _
 have hat1:(c.onC (k+2) (oLook now)).at' (k+1)=c.at' (k+1):=at_other _ _ _ _ (by omega)
 generalize hD:c.onC (k+2) (oLook now)=D at*
 have hDl:(D.loseN (k+2)).rem1 k={E.loseN (k+1)with lost:=(E.loseN (k+1)).lost+((c.at' (k+1)).s.S.size:Int)}:=by
  have h1:=lose_rem D k (k+1) (Nat.le_refl _) (by omega)
  rw[hrem]at h1
  have h2:=rem_on_eq (D.loseN (k+1)) k oDrain
  rw[h1]at h2
  have ha:((D.loseN (k+1)).ansC (k+1) oDrain).s.size=(c.at' (k+1)).s.S.size:=by
   show((D.loseN (k+1)).at' (k+1)).s.S.size=_
   rw[at_loseN _ _ _ (Nat.le_refl _),hat1]
  have hlo:(D.loseN (k+1)).lost=(E.loseN (k+1)).lost:=by
   have:=congrArg Ch.lost h1
   exact this
  refine ch_ext ?_ ?_ ?_ ?_ ?_
  ·have:=congrArg Ch.L h2
   exact this
  ·have:=congrArg Ch.room h2
   exact this
  ·show(D.loseN (k+1)).lost+(((D.loseN (k+1)).ansC (k+1) oDrain).s.size:Int)=_
   rw[ha,hlo]
  ·have:=congrArg Ch.shut h2
   exact this
  ·have:=congrArg Ch.state h2
   exact this
 have hT:((D.lose (k+2)).at' (k+1)).s.S.size=0:=held_loseAll D (k+2) (by omega) (k+1) (by omega)
 have hTe:((D.lose (k+2)).at' (k+1)).s.S=⟨#[]⟩:=ByteArray.ext (Array.eq_empty_of_size_eq_zero hT)
 rw[hTe]
 have hDL:=congrArg Ch.L hDl
 have hDlost:=congrArg Ch.lost hDl
 have hDroom:=congrArg Ch.room hDl
 have hDst:=congrArg Ch.state hDl
 have hatE:(E.loseN (k+1)).at' (k+1)=E.at' (k+1):=at_loseN _ _ _ (Nat.le_refl _)
 have hat:((D.lose (k+2)).rem1 k).at' (k+1)=⟨lookS (c.at' (k+2)).s now,(c.at' (k+2)).closed||false⟩:=by
  rw[←hEat,←hatE]
  show((D.loseN (k+2)).rem1 k).L.getD (k+1) noPrt=_
  rw[hDL]
  rfl
 refine ch_ext ?_ ?_ ?_ rfl ?_
 ·have e1:(((D.lose (k+2)).rem1 k).onC (k+1) (oPush now ⟨#[]⟩)).L=((D.lose (k+2)).rem1 k).L:=by
   show((D.lose (k+2)).rem1 k).L.set (k+1) ⟨(doS (((D.lose (k+2)).rem1 k).at' (k+1)).s (oPush now ⟨#[]⟩)).1,(((D.lose (k+2)).rem1 k).at' (k+1)).closed||(oPush now ⟨#[]⟩).kind==3⟩=_
   rw[hat]
   have e2:(⟨(doS (lookS (c.at' (k+2)).s now) (oPush now ⟨#[]⟩)).1,((c.at' (k+2)).closed||false)||(oPush now ⟨#[]⟩).kind==3⟩:Prt)=⟨lookS (c.at' (k+2)).s now,(c.at' (k+2)).closed||false⟩:=by
    show(⟨pushS (lookS (c.at' (k+2)).s now) now ⟨#[]⟩,((c.at' (k+2)).closed||false)||false⟩:Prt)=_
    rw[push_shut _ _ _ (by rw[look_look];exact h0),look_look,Bool.or_false]
   rw[e2,←hat]
   have hl3:k+1<((D.lose (k+2)).rem1 k).L.length:=by
    have:=len_rem1 (D.lose (k+2)) k (by rw[len_lose];omega)
    rw[len_lose]at this
    omega
   unfold at'
   rw[List.getD_eq_getElem?_getD,List.getElem?_eq_getElem hl3]
   exact List.set_getElem_self hl3
  rw[e1]
  show((D.loseN (k+2)).rem1 k).L=(({E with lost:=c.lost+((c.at' (k+1)).s.S.size:Int)}:Ch).loseN (k+1)).L
  rw[hm,hDL]
 ·show((D.loseN (k+2)).rem1 k).room=(({E with lost:=c.lost+((c.at' (k+1)).s.S.size:Int)}:Ch).loseN (k+1)).room
  rw[hm,hDroom]
 ·show((D.loseN (k+2)).rem1 k).lost=(({E with lost:=c.lost+((c.at' (k+1)).s.S.size:Int)}:Ch).loseN (k+1)).lost
  rw[hm,hDlost]
 ·show((D.loseN (k+2)).rem1 k).state=(({E with lost:=c.lost+((c.at' (k+1)).s.S.size:Int)}:Ch).loseN (k+1)).state
  rw[hm,hDst]
end Ch
end Go.Proofs.YtdighjgcnaajgaaGreat
namespace Go.Proofs.YtdighjgcnaajgaaGreat
open Go.RowKit Go.Lib
theorem psize:(Tryz.prog.info? 161).map (·.size)=some 1:=by kernel_rfl
theorem pinfo:(Tryz.prog.info? 161).map (λ i=>(i.zero,i.size,i.bytes))=some (some (.pointer none),1,8):=by kernel_rfl
abbrev PT:TypeId:=161
abbrev PS:TypeId:=158
section
variable {w:World} {b o n c i vb:Nat} {cs:List Value} {x:Value}
theorem shape_of {w:World} {b:Nat} {cur:Array Value} {T:TypeId} {fr:Nat×Nat} (h:w.heap[b]?=some (.cells cur T fr)):w.shape? b=some (T,cur.size):=by simp[World.shape?,h]
theorem apart_run (hx:w.heap[vb]?=some (.cells #[x] PT (0,0))) {cur:Array Value} (hb:w.heap[b]?=some (.cells cur PT (0,0))) (h0:cur.size≠0) (hne:vb≠b) (k lb cb:Nat):
  (callFunc 183 #[.slice (some ⟨vb,0,none⟩) 1 1,.slice (some ⟨b,k,none⟩) lb cb]).run Tryz.prog w=.ok (.value (.bool false)) w:=by
 rw[run_callFunc_extern Tryz.func183 (by kernel_rfl) (by kernel_rfl) (by kernel_rfl) (e:=Extern.SlicesOverlaps.overlaps #[PS,PS] #[4]) (by kernel_rfl)]
 have hf:∀k,w.frozen? ⟨vb,k,none⟩=false:=λ k=>by simp[World.frozen?,hx]
 rw[Lib.run_overlaps_apart w PS 4 PT Tryz.underlying158 1 Tryz.sizeOf161 ⟨vb,0,none⟩ ⟨b,k,none⟩ 1 1 lb cb hne PT PT 1 cur.size (shape_of hx) (shape_of hb) h0 (hf 0) (hf 1)]
 rfl
set_option maxRecDepth 100000 in
set_option maxHeartbeats 8000000 in
theorem ins_shift (hi:i<n) (hroom:n+1≤c) (hc:c≤maxLen) (hne:vb≠b) (hcl:cs.length=n) (hcs:∀j v,cs[j]?=some v→w.cell? ⟨b,o+j,none⟩=some v) {cur:Array Value} (hb:w.heap[b]?=some (.cells cur PT (0,0))) (hsp:o+(n+1)≤cur.size)
  (hx:w.heap[vb]?=some (.cells #[x] PT (0,0))) (h1c:∀v∈cs,v.oneCell'=true) (h1x:x.oneCell'=true):
  Calls Tryz.prog 157 #[.slice (some ⟨b,o,none⟩) n c,.int .i64 (i:Int),.slice (some ⟨vb,0,none⟩) 1 1] w λ e w'=>
   e=.returned (.slice (some ⟨b,o,none⟩) (n+1) c)∧w'=(w.drew.setCells b (o+(i+1)) (cs.drop i)).setCells b (o+i) [x]:=by
 have hsome:∀k,k<n+1→(w.cell? ⟨b,o+k,none⟩).isSome=true:=λ k hk=>by
  simp only[World.cell?,hb]
  rw[Array.getElem?_eq_getElem (by omega)]
  rfl
 have hfro:∀k,w.frozen? ⟨b,k,none⟩=false:=λ k=>by simp[World.frozen?,hb]
 have hov:=λ k lb cb=>apart_run hx hb (by omega) hne k lb cb
 have hdl:(cs.drop i).length=n -i:=by rw[List.length_drop,hcl]
 have hA:∀ty dc sc,(Builtin.copy_ #[PS,PS] ty #[.slice (some ⟨b,o+(i+1),none⟩) (n+1 -(i+1)) dc,.slice (some ⟨b,o+i,none⟩) (n+1 -i) sc]).run Tryz.prog w.drew=.ok (goInt (cs.drop i).length) (w.drew.setCells b (o+(i+1)) (cs.drop i)):=λ ty dc sc=>
  run_copy_cells w.drew _ _ ty PT b (o+(i+1)) (n+1 -(i+1)) dc ⟨b,o+i,none⟩ (n+1 -i) sc (cs.drop i) Tryz.underlying158 psize (by rw[hdl];simp only[Nat.min_def];split<;>omega)
   (λ j v hj=>by
    rw[WideShapes.add_plain,Nat.add_assoc]
    exact hcs (i+j) v (by rwa[List.getElem?_drop]at hj))
   (λ j hj=>by rw[Nat.add_assoc];exact hsome _ (by omega)) (λ j _=>hfro _) (λ v hv=>h1c v (List.mem_of_mem_drop hv))
 obtain⟨W1,hW1⟩:∃W1,w.drew.setCells b (o+(i+1)) (cs.drop i)=W1:=⟨_,rfl⟩
 have hsome1:∀k,k<n+1→(W1.cell? ⟨b,o+k,none⟩).isSome=true:=λ k hk=>by
  rw[←hW1]
  exact isSome_setCells b _ _ _ (λ j hj=>by rw[Nat.add_assoc];exact hsome _ (by omega)) _ (hsome k hk)
 have hvb:W1.cell? ⟨vb,0,none⟩=some x:=by
  rw[←hW1,World.cell?_setCells_out b _ _ _ _ (λ e _=>absurd e hne)]
  exact cell_of_row _ _ 0 _ _ _ hx
 have hB:∀ty dc,(Builtin.copy_ #[PS,PS] ty #[.slice (some ⟨b,o+i,none⟩) (n+1 -i) dc,.slice (some ⟨vb,0,none⟩) 1 1]).run Tryz.prog W1=.ok (goInt [x].length) (W1.setCells b (o+i) [x]):=λ ty dc=>
  run_copy_cells W1 _ _ ty PT b (o+i) (n+1 -i) dc ⟨vb,0,none⟩ 1 1 [x] Tryz.underlying158 psize (by simp only[Nat.min_def,List.length_cons,List.length_nil];split<;>omega)
   (λ j v hj=>by
    cases j with
    |zero=>cases hj;exact hvb
    |succ j=>cases hj)
   (λ j hj=>by rw[Nat.add_assoc];exact hsome1 _ (by have:j<1:=hj;omega)) (λ j _=>by rw[←hW1,World.frozen?_setCells];exact hfro _) (λ v hv=>by simp at hv;rw[hv];exact h1x)
 rw[hW1]at hA
 have HA:=Lib.hid hA
 have HB:=Lib.hid hB
 have hbi1:¬((i:Int)=(n:Int)):=by omega
 have hiw:IntKind.i64.wrap ((i:Int)+1)=(i:Int)+1:=wrap_id (by unfold maxLen at hc;omega) (by unfold maxLen at hc;omega)
 have hnw:IntKind.i64.wrap ((n:Int)+1)=(n:Int)+1:=wrap_id (by unfold maxLen at hc;omega) (by unfold maxLen at hc;omega)
 have hti:((i:Int)+1).toNat=i+1:=by omega
 have htn:((n:Int)+1).toNat=n+1:=by omega
 have hci:¬(c=i):=by omega
 have hci1:¬(c=i+1):=by omega
 have hi0:(0:Int)≤(i:Int)+1:=by omega
 have hi1:(i:Int)+1≤(n:Int)+1:=by omega
 have hin:(i:Int)≤(n:Int):=by omega
 have hin1:(i:Int)≤(n:Int)+1:=by omega
 have hrc:(n:Int)+1≤(c:Int):=by omega
 have hc63:c≤9223372036854775807:=by unfold maxLen at hc;omega
 clear hA hB hcs hsome hsome1 hfro hvb hb hx h1c h1x hcl hdl hsp
 go_enter Tryz.func157,Tryz.ntmps157
 go_wp2_with (simp only[hov])
 go_region_law (refine step_copy_runI rfl _ _ PS PS rfl (.slice (some ⟨b,o+(i+1),none⟩) (n+1 -(i+1)) (c -(i+1))) (.slice (some ⟨b,o+i,none⟩) (n+1 -i) (c -i)) (by simp[Act.eval,Act.put]) (by simp[Act.eval,Act.put]) (HA.out _ _ _) ?_)
 all_goals go_wp2_with (simp only[HB.out])
 all_goals go_ret
 all_goals exact⟨rfl,by rw[hW1]⟩
end
end Go.Proofs.YtdighjgcnaajgaaGreat
namespace Go.Proofs.YtdighjgcnaajgaaGreat
open Go.RowKit Go.Lib
section
variable {w:World} {b o n c i vb:Nat} {cs:List Value} {x:Value}
set_option maxRecDepth 100000 in
set_option maxHeartbeats 8000000 in
theorem ins_grow (hi:i<n) (hnc:n≤c) (hroom:c<n+1) (hn:n≤10) (hcl:cs.length=n) (hcs:∀j v,cs[j]?=some v→w.cell? ⟨b,o+j,none⟩=some v) {cur:Array Value} (hb:w.heap[b]?=some (.cells cur PT (0,0)))
  (hx:w.heap[vb]?=some (.cells #[x] PT (0,0))) (h1c:∀v∈cs,v.oneCell'=true) (h1x:x.oneCell'=true):
  Calls Tryz.prog 157 #[.slice (some ⟨b,o,none⟩) n c,.int .i64 (i:Int),.slice (some ⟨vb,0,none⟩) 1 1] w λ e w'=>
   ∃(G:Nat) (ROW:Array Value),n+1≤G∧G≤maxLen∧ROW.size=G∧(∀(j:Nat) (v:Value),(cs.take i)[j]?=some v→ROW[j]?=some v)∧e=.returned (.slice (some ⟨w.heap.size,0,none⟩) (n+1) G)∧
    w'=(((w.drew.alloc (.cells ROW PT)).setCells w.heap.size i [x]).drew).setCells w.heap.size (i+1) (cs.drop i):=by
 obtain⟨i0,hi0,hz0,hzs,hzb⟩:=info_parts pinfo
 have hbw:=gb.blk_lt hb
 have hvw:=gb.blk_lt hx
 have hik:i+(n+1 -i)=n+1:=by omega
 have hold:(Builtin.firstCells i0.size i (.slice (some ⟨b,o,none⟩) i c)).run Tryz.prog w.drew=.ok (cs.take i).toArray w.drew:=by
  rw[hzs]
  exact run_firstCells_some w.drew 1 i ⟨b,o,none⟩ i c (cs.take i) (by rw[List.length_take];omega) (λ j v hj=>by
   rw[WideShapes.add_plain]
   rw[List.getElem?_take]at hj
   split at hj
   ·exact hcs j v hj
   ·cases hj)
 have hgr:=Lib.run_append_grow_zeros w PS 3 0 PT i0 (.pointer none) .i64 .i64 Tryz.underlying158 Tryz.underlying3 hi0 hz0 (some ⟨b,o,none⟩) i c (cs.take i) hold (n+1 -i) (by omega) (by omega) (by omega) (by omega) (by rw[hzb];omega) (by rw[hzb,hik];exact growslice_fits hroom (by omega))
 rw[hik]at hgr
 obtain⟨G,hG⟩:∃G,grownCap w (n+1) c PT=G:=⟨_,rfl⟩
 have hG1:n+1≤G:=by rw[←hG];exact grownCap_ge w _ _ _
 have hG2:G≤maxLen:=by rw[←hG];exact grownCap_le_maxLen w (n+1) c PT (by unfold maxLen;omega)
 rw[hG]at hgr
 obtain⟨ROW,hROW⟩:∃ROW:Array Value,(cs.take i).toArray++Builtin.zeroCells (Value.pointer none).cells (n+1 -i)++Builtin.zeroCells (Value.pointer none).cells (G -(n+1))=ROW:=⟨_,rfl⟩
 rw[hROW]at hgr
 have hlt:(cs.take i).length=i:=by rw[List.length_take];omega
 have hRs:ROW.size=G:=by
  rw[←hROW]
  simp[Builtin.zeroCells,Value.cells]
  omega
 have hRt:∀(j:Nat) (v:Value),(cs.take i)[j]?=some v→ROW[j]?=some v:=λ j v hj=>by
  have hj':=(List.getElem?_eq_some_iff.1 hj).1
  rw[←hROW,Array.getElem?_append_left (by simp[Builtin.zeroCells,Value.cells];omega),Array.getElem?_append_left (by simp;omega)]
  simpa using hj
 obtain⟨W1,hW1⟩:∃W1,w.drew.alloc (.cells ROW PT)=W1:=⟨_,rfl⟩
 have hgr':∀ty,(Builtin.append_ #[PS,3] ty #[.slice (some ⟨b,o,none⟩) i c,.int .i64 ((n:Int)+1 -(i:Int))]).run Tryz.prog w=.ok (.slice (some ⟨w.heap.size,0,none⟩) (n+1) G) W1:=λ ty=>by
  have e:(n:Int)+1 -(i:Int)=((n+1 -i:Nat):Int):=by omega
  rw[e,←hW1]
  exact hgr
 have hs1:W1.heap.size=w.heap.size+1:=by rw[←hW1];exact World.size_alloc _ _
 have hnew:W1.heap[w.heap.size]?=some (.cells ROW PT (0,0)):=by rw[←hW1];exact heap_alloc_new w.drew _
 have hbl:Below w.heap.size w W1:=by rw[←hW1];exact(Below.refl _ _).drew.alloc (Nat.le_refl _) _
 have hsome:∀k,k<n+1→(W1.cell? ⟨w.heap.size,k,none⟩).isSome=true:=λ k hk=>by
  simp only[World.cell?,hnew]
  rw[Array.getElem?_eq_getElem (by omega)]
  rfl
 have hfro:∀k,W1.frozen? ⟨w.heap.size,k,none⟩=false:=λ k=>by simp[World.frozen?,hnew]
 have hdl:(cs.drop i).length=n -i:=by rw[List.length_drop,hcl]
 have hA:∀ty dc,(Builtin.copy_ #[PS,PS] ty #[.slice (some ⟨w.heap.size,i,none⟩) (n+1 -i) dc,.slice (some ⟨vb,0,none⟩) 1 1]).run Tryz.prog W1=.ok (goInt [x].length) (W1.setCells w.heap.size i [x]):=λ ty dc=>
  run_copy_cells W1 _ _ ty PT w.heap.size i (n+1 -i) dc ⟨vb,0,none⟩ 1 1 [x] Tryz.underlying158 psize (by simp only[Nat.min_def,List.length_cons,List.length_nil];split<;>omega)
   (λ j v hj=>by
    cases j with
    |zero=>
     cases hj
     exact(hbl.cell (p:=⟨vb,0,none⟩) hvw).trans (cell_of_row _ _ 0 _ _ _ hx)
    |succ j=>cases hj)
   (λ j hj=>hsome _ (by have:j<1:=hj;omega)) (λ j _=>hfro _) (λ v hv=>by simp at hv;rw[hv];exact h1x)
 obtain⟨W2,hW2⟩:∃W2,W1.setCells w.heap.size i [x]=W2:=⟨_,rfl⟩
 have hB:∀ty dc sc,(Builtin.copy_ #[PS,PS] ty #[.slice (some ⟨w.heap.size,i+1,none⟩) (n+1 -(i+1)) dc,.slice (some ⟨b,o+i,none⟩) (n -i) sc]).run Tryz.prog W2.drew=.ok (goInt (cs.drop i).length) (W2.drew.setCells w.heap.size (i+1) (cs.drop i)):=λ ty dc sc=>
  run_copy_cells W2.drew _ _ ty PT w.heap.size (i+1) (n+1 -(i+1)) dc ⟨b,o+i,none⟩ (n -i) sc (cs.drop i) Tryz.underlying158 psize (by rw[hdl];simp only[Nat.min_def];split<;>omega)
   (λ j v hj=>by
    rw[WideShapes.add_plain,Nat.add_assoc]
    show W2.cell? _=_
    rw[←hW2,World.cell?_setCells_out _ _ _ _ _ (λ e _=>absurd e (by show b≠w.heap.size;omega))]
    exact(hbl.cell (p:=⟨b,o+(i+j),none⟩) hbw).trans (hcs (i+j) v (by rwa[List.getElem?_drop]at hj)))
   (λ j hj=>by
    show(W2.cell? _).isSome=true
    rw[←hW2]
    exact isSome_setCells _ _ _ _ (λ t ht=>hsome _ (by have:t<1:=ht;omega)) _ (hsome _ (by omega)))
   (λ j _=>by
    show W2.frozen? _=false
    rw[←hW2,World.frozen?_setCells]
    exact hfro _) (λ v hv=>h1c v (List.mem_of_mem_drop hv))
 rw[hW2]at hA
 have HGR:=Lib.hid hgr'
 have HA:=Lib.hid hA
 have HB:=Lib.hid hB
 have HEND:=Lib.hid (show W2.drew.setCells w.heap.size (i+1) (cs.drop i)=(((w.drew.alloc (.cells ROW PT)).setCells w.heap.size i [x]).drew).setCells w.heap.size (i+1) (cs.drop i) by rw[hW1,hW2])
 have HR:=Lib.hid (⟨hG1,hG2,hRs,hRt⟩:n+1≤G∧G≤maxLen∧ROW.size=G∧(∀(j:Nat) (v:Value),(cs.take i)[j]?=some v→ROW[j]?=some v))
 have hbi1:¬((i:Int)=(n:Int)):=by omega
 have hcl2:(c:Int)<(n:Int)+1:=by omega
 have hiw:IntKind.i64.wrap ((i:Int)+1)=(i:Int)+1:=wrap_id (by omega) (by omega)
 have hnw:IntKind.i64.wrap ((n:Int)+1)=(n:Int)+1:=wrap_id (by omega) (by omega)
 have hnw2:IntKind.i64.wrap ((n:Int)+1 -(i:Int))=(n:Int)+1 -(i:Int):=wrap_id (by omega) (by omega)
 have hti:((i:Int)+1).toNat=i+1:=by omega
 have hci:¬(c=i):=by omega
 have hGi:¬(G=i):=by omega
 have hGi1:¬(G=i+1):=by omega
 have hi0':(0:Int)≤(i:Int)+1:=by omega
 have hi1:(i:Int)+1≤(n:Int)+1:=by omega
 have hin:(i:Int)≤(n:Int):=by omega
 have hin1:(i:Int)≤(n:Int)+1:=by omega
 have hic:(i:Int)≤(c:Int):=by omega
 have hG63:G≤9223372036854775807:=by unfold maxLen at hG2;omega
 have hc63:c≤9223372036854775807:=by omega
 clear hgr hgr' hA hB hsome hfro hdl hbl hnew hs1 hRt hRs hlt hROW hG hG2 hold hi0 hz0 hzs hzb hcs hb hx h1c h1x hbw hvw hW1 hW2 hik
 generalize w.heap.size=N at*
 go_enter Tryz.func157,Tryz.ntmps157
 go_wp2_with (first
  |(at_builtin;refine Lib.wpList_append_run _ rfl _ _ _ _ rfl (.slice (some ⟨b,o,none⟩) i c) (.int .i64 ((n:Int)+1 -(i:Int))) rfl rfl _ _ (HGR.out _) ?_)
  |(simp only[HA.out]))
 go_region_law (refine step_copy_runI rfl _ _ PS PS rfl (.slice (some ⟨N,i+1,none⟩) (n+1 -(i+1)) (G -(i+1))) (.slice (some ⟨b,o+i,none⟩) (n -i) (c -i)) (by simp[Act.eval,Act.put]) (by simp[Act.eval,Act.put]) (HB.out _ _ _) ?_)
 all_goals go_wp2_with fail
 all_goals go_ret
 all_goals exact⟨G,ROW,HR.out.1,HR.out.2.1,HR.out.2.2.1,HR.out.2.2.2,rfl,HEND.out⟩
set_option maxRecDepth 100000 in
set_option maxHeartbeats 8000000 in
theorem del_run {K:Nat} (hK:1≤K) (hnc:i+1+K≤c) (hc:c≤maxLen) (hcl:cs.length=i+1+K) (hcs:∀j v,cs[j]?=some v→w.cell? ⟨b,o+j,none⟩=some v) {cur:Array Value} (hb:w.heap[b]?=some (.cells cur PT (0,0))) (hsp:o+(i+1+K)≤cur.size)
  (h1c:∀v∈cs,v.oneCell'=true):
  Calls Tryz.prog 128 #[.slice (some ⟨b,o,none⟩) (i+1+K) c,.int .i64 (i:Int),.int .i64 ((i:Int)+1)] w λ e w'=>
   e=.returned (.slice (some ⟨b,o,none⟩) (i+K) c)∧w'=((w.drew.setCells b (o+i*1) (cs.drop (i+1))).setCells b (o+(i+K)) [.pointer none]):=by
 obtain⟨i0,hi0,hz0,hzs,hzb⟩:=info_parts pinfo
 have hdl:(cs.drop (i+1)).length=K:=by rw[List.length_drop,hcl];omega
 have hsome:∀k,k<i+1+K→(w.cell? ⟨b,o+k,none⟩).isSome=true:=λ k hk=>by
  simp only[World.cell?,hb]
  rw[Array.getElem?_eq_getElem (by omega)]
  rfl
 have hfro:∀k,w.frozen? ⟨b,k,none⟩=false:=λ k=>by simp[World.frozen?,hb]
 have s1:Hid ((cs.drop (i+1)).length=K*1):=Lib.hid (by rw[Nat.mul_one];exact hdl)
 have s2:Hid (∀t u,(cs.drop (i+1))[t]?=some u→w.drew.cell? ((⟨b,o+(i+1),none⟩:Addr).add t)=some u):=Lib.hid (λ t u hu=>by
  rw[WideShapes.add_plain,Nat.add_assoc]
  exact hcs (i+1+t) u (by rwa[List.getElem?_drop]at hu))
 have s3:Hid (∀u∈cs.drop (i+1),u.oneCell'=true):=Lib.hid (λ u hu=>h1c u (List.mem_of_mem_drop hu))
 have s4:Hid (∀t,t<(cs.drop (i+1)).length→(w.drew.cell? ⟨b,o+i*1+t,none⟩).isSome=true∧w.drew.frozen? ⟨b,o+i*1+t,none⟩=false):=Lib.hid (λ t ht=>by
  rw[Nat.mul_one,Nat.add_assoc]
  exact⟨hsome _ (by omega),hfro _⟩)
 have HI:=Lib.hid (⟨hi0,hzs⟩:Tryz.prog.info? PT=some i0∧i0.size=1)
 obtain⟨W1,hW1⟩:∃W1,w.drew.setCells b (o+i*1) (cs.drop (i+1))=W1:=⟨_,rfl⟩
 have hcell1:(W1.cell? ⟨b,o+(i+K),none⟩).isSome=true:=by
  rw[←hW1]
  have hs':∀j,j<(cs.drop (i+1)).length→(w.drew.cell? ⟨b,o+i*1+j,none⟩).isSome=true:=λ j hj=>(s4.out j hj).1
  exact isSome_setCells b _ _ _ hs' _ (hsome _ (by omega))
 have hC:∀ty n1 c1,n1=1→(Builtin.clear_ #[PS] ty #[.slice (some ⟨b,o+(i+K),none⟩) n1 c1]).run Tryz.prog W1=.ok (.tuple #[]) (W1.setCells b (o+(i+K)) [.pointer none]):=λ ty n1 c1 h1=>by
  subst h1
  refine Lib.run_clear_slice W1 PS PT ty (.pointer none) Tryz.underlying158 Tryz.zeroValue161 rfl rfl b (o+(i+K)) 1 c1 (by omega) (λ j hj=>?_) (λ j _=>by rw[←hW1,World.frozen?_setCells];exact hfro _)
  have e:j=0:=by omega
  rw[e,Nat.add_zero]
  exact hcell1
 have HC:=Lib.hid (λ ty c1=>hC ty (i+1+K -(i+K)) c1 (by omega))
 have HC2:=Lib.hid (λ ty c1=>hC ty 1 c1 rfl)
 have HW:=Lib.hid hW1
 have hij:¬((i:Int)=(i:Int)+1):=by omega
 have hti:((i:Int)+1).toNat=i+1:=by omega
 have hic:¬(c=i):=by omega
 have hjc:¬(c=i+1):=by omega
 have hkc:¬(c=i+K):=by omega
 have hkc2:¬(i+1+K=i):=by omega
 have hi0':(0:Int)≤(i:Int)+1:=by omega
 have hin:(i:Int)+1≤(i:Int)+1+(K:Int):=by omega
 have hin2:(i:Int)+(K:Int)≤(i:Int)+1+(K:Int):=by omega
 have hin3:(i:Int)+1+(K:Int)≤(c:Int):=by omega
 have hK1:i+1+K -(i+1)=K:=by omega
 have hicc:i≤c:=by omega
 have hicc2:(i:Int)≤(c:Int):=by omega
 have hin4:(i:Int)≤(i:Int)+1+(K:Int):=by omega
 have hc63:c≤9223372036854775807:=by unfold maxLen at hc;omega
 clear hcs hsome hfro hcell1 hC hb hsp hdl hi0 hz0 hzs hzb hcl h1c hW1
 go_enter Tryz.func128,Tryz.ntmps128
 go_wp2_with fail
 go_region_law (refine step_append_room rfl (.tmp 22) (.tmp 25) PS rfl PT i0 1 Tryz.underlying158 HI.out.1 HI.out.2 b o i c (by simp[Act.eval,Act.put]) ⟨b,o+(i+1),none⟩ K (c -(i+1)) (cs.drop (i+1)) (by simp[Act.eval,Act.put]) s1.out s2.out s3.out (by omega) s4.out ?_;rw[HW.out])
 all_goals go_wp2_with (first|simp only[HC.out]|simp only[HC2.out])
 all_goals go_ret
 all_goals exact⟨rfl,by rw[HW.out]⟩
end
end Go.Proofs.YtdighjgcnaajgaaGreat
namespace Go.Proofs.YtdighjgcnaajgaaGreat
open Go.RowKit Go.Lib
section
variable {w w':World} {b o n c i vb:Nat} {zs:List Value} {x:Value}
theorem orow_of {m:Nat} {zs':List Value} {cur:Array Value} (hb:w'.heap[b]?=some (.cells cur PT (0,0))) (hsz:o+c≤cur.size) (hl:zs'.length=m) (hm:m≤c) (hmx:c≤maxLen) (hc:∀j v,zs'[j]?=some v→w'.cell? ⟨b,o+j,none⟩=some v):gc.ORow w' 0 PT 1 (some ⟨b,o,none⟩) m c zs':=by
 refine⟨by rw[hl,Nat.mul_one],hm,hmx,(λ e=>by cases e),λ a e=>?_⟩
 cases e
 refine⟨b,o,cur,rfl,Nat.zero_le _,hb,by rw[Nat.mul_one];exact hsz,λ j v hj=>?_⟩
 have:=hc j v hj
 simp only[World.cell?,hb]at this
 exact this
theorem ins_get {α:Type} (zs:List α) (x:α) {i:Nat} (hi:i≤zs.length):(∀j,j<i→(zs.take i++x::zs.drop i)[j]?=zs[j]?)∧(zs.take i++x::zs.drop i)[i]?=some x∧(∀t,(zs.take i++x::zs.drop i)[i+1+t]?=(zs.drop i)[t]?)∧(zs.take i++x::zs.drop i).length=zs.length+1:=by
 have hl:(zs.take i).length=i:=by rw[List.length_take];omega
 refine⟨λ j hj=>?_,?_,λ t=>?_,?_⟩
 ·rw[List.getElem?_append_left (by omega),List.getElem?_take_of_lt hj]
 ·rw[List.getElem?_append_right (by omega),hl,Nat.sub_self]
  rfl
 ·rw[List.getElem?_append_right (by omega),hl,show i+1+t -i=t+1 by omega]
  rfl
 ·rw[List.length_append,hl,List.length_cons,List.length_drop]
  omega
theorem del_get {α:Type} (zs:List α) {i:Nat} (hi:i+1≤zs.length):(∀j,j<i→(zs.take i++zs.drop (i+1))[j]?=zs[j]?)∧(∀t,(zs.take i++zs.drop (i+1))[i+t]?=(zs.drop (i+1))[t]?)∧(zs.take i++zs.drop (i+1)).length+1=zs.length:=by
 have hl:(zs.take i).length=i:=by rw[List.length_take];omega
 refine⟨λ j hj=>?_,λ t=>?_,?_⟩
 ·rw[List.getElem?_append_left (by omega),List.getElem?_take_of_lt hj]
 ·rw[List.getElem?_append_right (by omega),hl,Nat.add_sub_cancel_left]
 ·rw[List.length_append,hl,List.length_drop]
  omega
theorem row_cells {cur:Array Value} (hb:w.heap[b]?=some (.cells cur PT (0,0))) (k:Nat) (hk:k<cur.size):(w.cell? ⟨b,k,none⟩).isSome=true:=by
 simp only[World.cell?,hb]
 rw[Array.getElem?_eq_getElem hk]
 rfl
theorem grown_two {b1 o1 o2:Nat} {v1 v2:List Value} {W:World} (hr:∀k,k<w.heap.size→some k≠some b1→W.heap[k]?=w.heap[k]?) (hs:w.heap.size≤W.heap.size) (ho:W.os=w.os) (ht:W.tape=w.tape) (hu:W.output=w.output):
  w.grownBy ((W.setCells b1 o1 v1).drew.setCells b1 o2 v2) (some b1)∧w.grownBy ((W.drew.setCells b1 o1 v1).setCells b1 o2 v2) (some b1):=by
 have g1:=gc.setCells_grown W b1 o1 v1
 have g2:=gc.setCells_grown (W.setCells b1 o1 v1).drew b1 o2 v2
 have g3:=gc.setCells_grown W.drew b1 o1 v1
 have g4:=gc.setCells_grown (W.drew.setCells b1 o1 v1) b1 o2 v2
 refine⟨⟨?_,?_,?_,?_,λ k hk hne=>?_⟩,⟨?_,?_,?_,?_,λ k hk hne=>?_⟩⟩
 ·exact g2.os.trans (g1.os.trans ho)
 ·exact g2.tape.trans (g1.tape.trans ht)
 ·exact g2.output.trans (g1.output.trans hu)
 ·exact Nat.le_trans hs (Nat.le_trans g1.size g2.size)
 ·refine(g2.block k (Nat.lt_of_lt_of_le hk (Nat.le_trans hs g1.size)) hne).trans ((g1.block k (Nat.lt_of_lt_of_le hk hs) hne).trans (hr k hk hne))
 ·exact g4.os.trans (g3.os.trans ho)
 ·exact g4.tape.trans (g3.tape.trans ht)
 ·exact g4.output.trans (g3.output.trans hu)
 ·exact Nat.le_trans hs (Nat.le_trans g3.size g4.size)
 ·refine(g4.block k (Nat.lt_of_lt_of_le hk (Nat.le_trans hs g3.size)) hne).trans ((g3.block k (Nat.lt_of_lt_of_le hk hs) hne).trans (hr k hk hne))
def Rowed (w:World) (b:Nat) (m:Nat) (zs:List Value) (e:Ending) (w':World):Prop:=∃a c,e=.returned (.slice (some a) m c)∧gc.ORow w' 0 PT 1 (some a) m c zs∧(w.grownBy w' (some b)∧(a.block=b∨w.heap.size≤a.block))
theorem ins_row (h:gc.ORow w 0 PT 1 (some ⟨b,o,none⟩) n c zs) (hi:i<n) (hn:n≤10) (hx:w.heap[vb]?=some (.cells #[x] PT (0,0))) (hne:vb≠b) (h1c:∀v∈zs,v.oneCell'=true) (h1x:x.oneCell'=true):
  Calls Tryz.prog 157 #[.slice (some ⟨b,o,none⟩) n c,.int .i64 (i:Int),.slice (some ⟨vb,0,none⟩) 1 1] w (Rowed w b (n+1) (zs.take i++x::zs.drop i)):=by
 have hl:zs.length=n:=by have:=h.len;omega
 have hnc:=h.cap
 have hmx:=h.max
 obtain⟨b',o',cur,e,_,hb,hsz,hcur⟩:=h.som _ rfl
 cases e
 rw[Nat.mul_one]at hsz
 have hcs:∀j v,zs[j]?=some v→w.cell? ⟨b,o+j,none⟩=some v:=λ j v hj=>by
  simp only[World.cell?,hb]
  exact hcur j v hj
 obtain⟨g1,g2,g3,g4⟩:=ins_get zs x (i:=i) (by omega)
 have hdl:(zs.drop i).length=n -i:=by rw[List.length_drop,hl]
 by_cases hroom:n+1≤c
 ·refine(ins_shift hi hroom hmx hne hl hcs hb (by omega) hx h1c h1x).mono ?_
  rintro e w' ⟨rfl,rfl⟩
  obtain⟨cur1,hb1,hs1⟩:=gc.setCells_blk (zs.drop i) (o+(i+1)) w.drew cur hb
  obtain⟨cur2,hb2,hs2⟩:=gc.setCells_blk [x] (o+i) (w.drew.setCells b (o+(i+1)) (zs.drop i)) cur1 hb1
  have i1:∀j,j<(zs.drop i).length→(w.drew.cell? ⟨b,o+(i+1)+j,none⟩).isSome=true:=λ j hj=>row_cells (w:=w) hb _ (by omega)
  refine⟨⟨b,o,none⟩,c,rfl,orow_of hb2 (by omega) (by rw[g4,hl]) hroom hmx λ j v hj=>?_,(grown_two (w:=w) (W:=w) (λ _ _ _=>rfl) (Nat.le_refl _) rfl rfl rfl).2,Or.inl rfl⟩
  rcases Nat.lt_trichotomy j i with hlt|rfl|hgt
  ·rw[World.cell?_setCells_out b _ _ _ _ (λ _ _=>Or.inl (by show o+j<o+i;omega)),World.cell?_setCells_out b _ _ _ _ (λ _ _=>Or.inl (by show o+j<o+(i+1);omega))]
   rw[g1 j hlt]at hj
   exact hcs j v hj
  ·rw[g2]at hj
   cases hj
   have:=World.cell?_setCells_in b [x] (o+j) (w.drew.setCells b (o+(j+1)) (zs.drop j)) (λ t ht=>row_cells hb1 _ (by have:t<1:=ht;omega)) 0 Nat.zero_lt_one
   exact this
  ·obtain⟨t,rfl⟩:∃t,j=i+1+t:=⟨j -(i+1),by omega⟩
   rw[g3 t]at hj
   have ht:=(List.getElem?_eq_some_iff.1 hj).1
   rw[World.cell?_setCells_out b _ _ _ _ (λ _ _=>Or.inr (by show o+i+1≤o+(i+1+t);omega))]
   have:=World.cell?_setCells_in b (zs.drop i) (o+(i+1)) w.drew i1 t ht
   rw[show o+(i+1)+t=o+(i+1+t) by omega]at this
   rw[this,←hj,List.getElem?_eq_getElem ht]
 ·refine(ins_grow hi hnc (by omega) hn hl hcs hb hx h1c h1x).mono ?_
  rintro e w' ⟨G,ROW,hG1,hG2,hRs,hRt,rfl,rfl⟩
  have hN:(w.drew.alloc (.cells ROW PT)).heap[w.heap.size]?=some (.cells ROW PT (0,0)):=heap_alloc_new w.drew _
  have hbel:Below w.heap.size w (w.drew.alloc (.cells ROW PT)):=(Below.refl _ _).drew.alloc (Nat.le_refl _) _
  generalize w.drew.alloc (.cells ROW PT)=W at*
  obtain⟨cur1,hb1,hs1⟩:=gc.setCells_blk [x] i W ROW hN
  obtain⟨cur2,hb2,hs2⟩:=gc.setCells_blk (zs.drop i) (i+1) (W.setCells w.heap.size i [x]).drew cur1 hb1
  have hgr:=(grown_two (w:=w) (W:=W) (b1:=w.heap.size) (o1:=i) (o2:=i+1) (v1:=[x]) (v2:=zs.drop i) (λ k hk _=>hbel.block k hk) hbel.size hbel.os hbel.tape hbel.output).1
  refine⟨⟨w.heap.size,0,none⟩,G,rfl,orow_of hb2 (by omega) (by rw[g4,hl]) hG1 hG2 λ j v hj=>?_,⟨hgr.os,hgr.tape,hgr.output,hgr.size,λ k hk _=>hgr.block k hk (λ e=>by cases e;exact absurd hk (Nat.lt_irrefl _))⟩,Or.inr (Nat.le_refl _)⟩
  rw[Nat.zero_add]
  rcases Nat.lt_trichotomy j i with hlt|rfl|hgt
  ·rw[World.cell?_setCells_out _ _ _ _ _ (λ _ _=>Or.inl (by show j<i+1;omega))]
   show(W.setCells w.heap.size i [x]).cell? _=_
   rw[World.cell?_setCells_out _ _ _ _ _ (λ _ _=>Or.inl (by show j<i;omega))]
   rw[g1 j hlt]at hj
   simp only[World.cell?,hN]
   exact hRt j v (by rw[List.getElem?_take_of_lt hlt];exact hj)
  ·rw[g2]at hj
   cases hj
   rw[World.cell?_setCells_out _ _ _ _ _ (λ _ _=>Or.inl (by show j<j+1;omega))]
   have:=World.cell?_setCells_in w.heap.size [x] j W (λ t ht=>row_cells hN _ (by have:t<1:=ht;omega)) 0 Nat.zero_lt_one
   exact this
  ·obtain⟨t,rfl⟩:∃t,j=i+1+t:=⟨j -(i+1),by omega⟩
   rw[g3 t]at hj
   have ht:=(List.getElem?_eq_some_iff.1 hj).1
   have:=World.cell?_setCells_in w.heap.size (zs.drop i) (i+1) (W.setCells w.heap.size i [x]).drew (λ u hu=>row_cells (w:=(W.setCells w.heap.size i [x]).drew) hb1 _ (by omega)) t ht
   rw[this,←hj,List.getElem?_eq_getElem ht]
theorem del_row (h:gc.ORow w 0 PT 1 (some ⟨b,o,none⟩) n c zs) (hi:i+2≤n) (h1c:∀v∈zs,v.oneCell'=true):
  Calls Tryz.prog 128 #[.slice (some ⟨b,o,none⟩) n c,.int .i64 (i:Int),.int .i64 ((i:Int)+1)] w (Rowed w b (n -1) (zs.take i++zs.drop (i+1))):=by
 obtain⟨K,rfl⟩:∃K,n=i+1+K:=⟨n -(i+1),by omega⟩
 have hl:zs.length=i+1+K:=by have:=h.len;omega
 have hnc:=h.cap
 have hmx:=h.max
 obtain⟨b',o',cur,e,_,hb,hsz,hcur⟩:=h.som _ rfl
 cases e
 rw[Nat.mul_one]at hsz
 have hcs:∀j v,zs[j]?=some v→w.cell? ⟨b,o+j,none⟩=some v:=λ j v hj=>by
  simp only[World.cell?,hb]
  exact hcur j v hj
 obtain⟨g1,g2,g3⟩:=del_get zs (i:=i) (by omega)
 have hdl:(zs.drop (i+1)).length=K:=by rw[List.length_drop,hl];omega
 rw[show i+1+K -1=i+K by omega]
 refine(del_run (by omega) hnc hmx hl hcs hb (by omega) h1c).mono ?_
 rintro e w' ⟨rfl,rfl⟩
 rw[Nat.mul_one]
 obtain⟨cur1,hb1,hs1⟩:=gc.setCells_blk (zs.drop (i+1)) (o+i) w.drew cur hb
 obtain⟨cur2,hb2,hs2⟩:=gc.setCells_blk [.pointer none] (o+(i+K)) (w.drew.setCells b (o+i) (zs.drop (i+1))) cur1 hb1
 refine⟨⟨b,o,none⟩,c,rfl,orow_of hb2 (by omega) (by omega) (by omega) hmx λ j v hj=>?_,(grown_two (w:=w) (W:=w) (λ _ _ _=>rfl) (Nat.le_refl _) rfl rfl rfl).2,Or.inl rfl⟩
 have hjl:=(List.getElem?_eq_some_iff.1 hj).1
 rw[World.cell?_setCells_out b _ _ _ _ (λ _ _=>Or.inl (by show o+j<o+(i+K);omega))]
 rcases Nat.lt_or_ge j i with hlt|hge
 ·rw[World.cell?_setCells_out b _ _ _ _ (λ _ _=>Or.inl (by show o+j<o+i;omega))]
  rw[g1 j hlt]at hj
  exact hcs j v hj
 ·obtain⟨t,rfl⟩:∃t,j=i+t:=⟨j -i,by omega⟩
  rw[g2 t]at hj
  have ht:=(List.getElem?_eq_some_iff.1 hj).1
  have:=World.cell?_setCells_in b (zs.drop (i+1)) (o+i) w.drew (λ u hu=>row_cells (w:=w) hb _ (by omega)) t ht
  rw[show o+i+t=o+(i+t) by omega]at this
  rw[this,←hj,List.getElem?_eq_getElem ht]
end
end Go.Proofs.YtdighjgcnaajgaaGreat
