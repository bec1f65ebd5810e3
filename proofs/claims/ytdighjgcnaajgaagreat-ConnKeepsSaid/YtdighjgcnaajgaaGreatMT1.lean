import Derived.Test.YtdighjgcnaajgaaGreatMS47
namespace Go.Proofs.YtdighjgcnaajgaaGreat
open Go.RowKit
structure Cn where
 A:Lk
 B:Lk
 names:List ByteArray
structure YOp where
 kind:Int
 way:Int
 now:Int
 n0:Int
 n1:Int
 s:ByteArray
 t:Tox
structure YOut where
 b:ByteArray
 e:Int
structure YAns where
 n:Int
 x:YOut
 y:YOut
 e:Int
def noOut:YOut:=⟨⟨#[]⟩,0⟩
def noYA:YAns:=⟨0,noOut,noOut,0⟩
structure Told where
 k:Cn
 x:YOut
 y:YOut
namespace Cn
def lk (k:Cn) (i:Nat):Lk:=if i=0 then k.A else k.B
def on (k:Cn) (i:Nat) (f:Lk→Lk):Cn:=if i=0 then{k with A:=f k.A}else{k with B:=f k.B}
def sendK (k:Cn) (way now:Int) (b:ByteArray):Cn:=if way=0∨way=1 then k.on way.toNat (λ l=>l.sendK now b)else k
def sendN (k:Cn) (way now:Int) (b:ByteArray):Int:=if way=0∨way=1 then((k.lk way.toNat).c.doA (Lk.oPut now b)).n else 0
def finK (k:Cn) (way now:Int):Cn:=if way=0∨way=1 then k.on way.toNat (λ l=>l.finK now)else k
def cutL (now:Int) (k:Cn) (l:List Nat):Cn:=l.foldl (λ k i=>k.on i λ l=>l.cutK now) k
def cutK (k:Cn) (now:Int):Cn:=cutL now k [0,1]
def stp (now n0 n1:Int) (s:Told) (i:Nat):Told:=
 if i=0 then⟨{s.k with A:=s.k.A.stepK now n0},⟨s.k.A.stepT now n0,s.k.A.stepE now n0⟩,s.y⟩
 else⟨{s.k with B:=s.k.B.stepK now n1},s.x,⟨s.k.B.stepT now n1,s.k.B.stepE now n1⟩⟩
def rst (now:Int) (s:Told) (i:Nat):Told:=
 if(s.k.lk i).fin≠0 then s else if i=0 then⟨{s.k with A:=(s.k.A.cutK now).stepK now 0},⟨s.x.b,(s.k.A.cutK now).stepE now 0⟩,s.y⟩
 else⟨{s.k with B:=(s.k.B.cutK now).stepK now 0},s.x,⟨s.y.b,(s.k.B.cutK now).stepE now 0⟩⟩
def stpL (now n0 n1:Int) (s:Told) (l:List Nat):Told:=l.foldl (stp now n0 n1) s
def rstL (now:Int) (s:Told) (l:List Nat):Told:=l.foldl (rst now) s
def step1 (k:Cn) (now n0 n1:Int):Told:=stpL now n0 n1 ⟨k,noOut,noOut⟩ [0,1]
def stepS (k:Cn) (now n0 n1:Int):Told:=
 if(k.step1 now n0 n1).x.e=2∨(k.step1 now n0 n1).y.e=2 then rstL now (k.step1 now n0 n1) [0,1]else k.step1 now n0 n1
def wayT (t:Tox):Nat:=if t.up=true then 0 else 1
def addE (k:Cn) (t:Tox) (now:Int):Int:=if t.chk≠0 then t.chk else if Lib.containsS k.names t.s=true then 141 else(k.lk (wayT t)).addE t now
def addK (k:Cn) (t:Tox) (now:Int):Cn:=
 if t.chk≠0 then k else if Lib.containsS k.names t.s=true then k
 else if(k.lk (wayT t)).addE t now=0 then{k.on (wayT t) (λ l=>l.addK t now)with names:=k.names++[t.s]}else k.on (wayT t) (λ l=>l.addK t now)
def out (l:List ByteArray) (s:ByteArray):List ByteArray:=l.take (Lib.idxOfS l s).toNat++l.drop ((Lib.idxOfS l s).toNat+1)
def dropE (k:Cn) (s:ByteArray):Int:=if¬k.A.idx s<0 then 0 else if¬k.B.idx s<0 then 0 else 142
def dropK (k:Cn) (s:ByteArray) (now:Int):Cn:=
 if¬k.A.idx s<0 then{k.on 0 (λ l=>l.dropK s now)with names:=out k.names s}else if¬k.B.idx s<0 then{k.on 1 (λ l=>l.dropK s now)with names:=out k.names s}else k
def chgE (k:Cn) (t:Tox) (now:Int):Int:=(k.lk (wayT t)).chgE t now
def chgK (k:Cn) (t:Tox) (now:Int):Cn:=k.on (wayT t) (λ l=>l.chgK t now)
def doK (k:Cn) (o:YOp):Cn:=
 if o.kind=0 then k.sendK o.way o.now o.s else if o.kind=1 then k.finK o.way o.now else if o.kind=2 then k.cutK o.now else if o.kind=3 then(k.stepS o.now o.n0 o.n1).k
 else if o.kind=4 then k.addK o.t o.now else if o.kind=5 then k.dropK o.s o.now else if o.kind=6 then k.chgK o.t o.now else k
def ansK (k:Cn) (o:YOp):YAns:=
 if o.kind=0 then⟨k.sendN o.way o.now o.s,noOut,noOut,0⟩else if o.kind=3 then⟨0,(k.stepS o.now o.n0 o.n1).x,(k.stepS o.now o.n0 o.n1).y,0⟩
 else if o.kind=4 then⟨0,noOut,noOut,k.addE o.t o.now⟩else if o.kind=5 then⟨0,noOut,noOut,k.dropE o.s⟩else if o.kind=6 then⟨0,noOut,noOut,k.chgE o.t o.now⟩else noYA
def Prm (k:Cn):Prop:=k.names.Perm (k.A.names++k.B.names)
abbrev ers (l:List ByteArray) (s:ByteArray):List ByteArray:=@List.erase ByteArray instBEqOfDecidableEq l s
theorem out_from (zs:List ByteArray) (s:ByteArray) (i:Nat):(¬Lib.idxFromS zs s i<0→(i:Int)≤Lib.idxFromS zs s i∧s∈zs∧zs.take (Lib.idxFromS zs s i -i).toNat++zs.drop ((Lib.idxFromS zs s i -i).toNat+1)=ers zs s)∧(Lib.idxFromS zs s i<0→s∉zs):=by
 induction zs generalizing i with
 |nil=>exact⟨λ h=>absurd (show Lib.idxFromS [] s i<0 by simp[Lib.idxFromS]) h,λ _=>by simp⟩
 |cons z r ih=>
  by_cases hz:z=s
  ·subst hz
   have e:Lib.idxFromS (z::r) z i=(i:Int):=by simp[Lib.idxFromS]
   rw[e]
   refine⟨λ _=>⟨Int.le_refl _,by simp,?_⟩,λ h=>by omega⟩
   rw[show((i:Int) -i).toNat=0 by omega]
   show r=ers (z::r) z
   exact(@List.erase_cons_head ByteArray instBEqOfDecidableEq _ z r).symm
  ·have e:Lib.idxFromS (z::r) s i=Lib.idxFromS r s (i+1):=by simp[Lib.idxFromS,hz]
   rw[e]
   obtain⟨h1,h2⟩:=ih (i+1)
   refine⟨λ h=>?_,λ h=>?_⟩
   ·obtain⟨a,b,c⟩:=h1 h
    refine⟨by omega,List.mem_cons_of_mem _ b,?_⟩
    rw[show(Lib.idxFromS r s (i+1) -(i:Int)).toNat=(Lib.idxFromS r s (i+1) -((i+1:Nat):Int)).toNat+1 by omega]
    rw[List.take_succ_cons,List.drop_succ_cons,List.cons_append,c,show ers (z::r) s=z::ers r s from @List.erase_cons_tail ByteArray instBEqOfDecidableEq s z r (by simpa using hz)]
   ·have:=h2 h
    simp only[List.mem_cons,not_or]
    exact⟨λ e=>hz e.symm,this⟩
theorem out_erase {l:List ByteArray} {s:ByteArray} (h:¬Lib.idxOfS l s<0):out l s=ers l s∧s∈l:=by
 have h1:=(out_from l s 0).1 (by unfold Lib.idxOfS at h;exact h)
 unfold out Lib.idxOfS
 rw[show((0:Nat):Int)=0 from rfl,Int.sub_zero]at h1
 exact⟨h1.2.2,h1.2.1⟩
theorem out_none {l:List ByteArray} {s:ByteArray} (h:Lib.idxOfS l s<0):s∉l:=(out_from l s 0).2 h
theorem out_iff (l:List ByteArray) (s:ByteArray):Lib.idxOfS l s<0↔s∉l:=by
 refine⟨out_none,λ h=>?_⟩
 by_cases hn:Lib.idxOfS l s<0
 ·exact hn
 ·exact absurd (out_erase hn).2 h
theorem lk_on (k:Cn) {i:Nat} (hi:i<2) (f:Lk→Lk):(k.on i f).lk i=f (k.lk i):=by
 unfold on lk
 rcases(show i=0∨i=1 by omega)with rfl|rfl
 ·rfl
 ·rfl
theorem way_lt (t:Tox):wayT t<2:=by
 unfold wayT
 split<;>omega
end Cn
namespace Lk
variable {k:Lk}
theorem drop_names (s:ByteArray) (now:Int) (h:¬k.idx s<0):(k.dropK s now).names=Cn.ers k.names s:=by
 unfold dropK
 rw[if_neg h]
 exact(Cn.out_erase h).1
theorem drop_e (h:Lok k) (hb:k.Bal) (s:ByteArray) (now:Int):k.dropE s now=if k.idx s<0 then 142 else 0:=by
 unfold dropE
 split
 ·rfl
 ·rename_i hi
  exact(drop_ok h hb s now).2.2 hi
theorem drop_no (s:ByteArray) (now:Int) (h:k.idx s<0):k.dropK s now=k:=by
 unfold dropK
 rw[if_pos h]
theorem add_names (h:Lok k) (hb:k.Bal) (t:Tox) (now:Int):(k.addE t now=0→t.chk=0→t.up=k.up→(k.addK t now).names=k.names++[t.s])∧(k.addE t now≠0→(k.addK t now).names=k.names):=by
 unfold addE addK
 split
 ·rename_i hc
  refine⟨λ e1 e2 e3=>?_,λ _=>rfl⟩
  rcases hc with hc|hc
  ·exact absurd e2 hc
  ·exact absurd e3 hc
 ·rename_i hc
  have hck:t.chk=0:=by
   rcases Decidable.em (t.chk=0)with e|e
   ·exact e
   ·exact absurd (Or.inl e) hc
  split
  ·exact⟨λ e=>absurd e (by decide),λ _=>rfl⟩
  ·obtain⟨_,_,h1,_⟩:=draw_ok h hb t now hck
   refine⟨λ e _ _=>?_,λ e=>by rw[(h1 e).2]⟩
   unfold drawK
   rw[if_neg (by omega)]
end Lk
namespace Cn
variable {k:Cn}
theorem prm_on (h:k.Prm) (i:Nat) (f:Lk→Lk) (hf:∀l,(f l).names=l.names):(k.on i f).Prm:=by
 unfold on Prm at*
 split
 ·simp only[hf];exact h
 ·simp only[hf];exact h
theorem send_names (l:Lk) (now:Int) (b:ByteArray):(l.sendK now b).names=l.names:=rfl
theorem chg_names (l:Lk) (t:Tox) (now:Int):(l.chgK t now).names=l.names:=by
 unfold Lk.chgK
 repeat' split
 all_goals rfl
theorem chg_up (l:Lk) (t:Tox) (now:Int):(l.chgK t now).up=l.up:=by
 unfold Lk.chgK
 repeat' split
 all_goals rfl
theorem drop_up (l:Lk) (s:ByteArray) (now:Int):(l.dropK s now).up=l.up:=by
 unfold Lk.dropK
 split<;>rfl
theorem add_up (l:Lk) (t:Tox) (now:Int):(l.addK t now).up=l.up:=by
 unfold Lk.addK Lk.drawK
 repeat' split
 all_goals rfl
theorem prm_add {t:Tox} {now:Int} (h:k.Prm) (i:Nat) (ho:Lok (k.lk i)) (hb:(k.lk i).Bal) (hi:i<2) (hc:t.chk=0) (hu:t.up=(k.lk i).up):
  (if(k.lk i).addE t now=0 then({k.on i (λ l=>l.addK t now)with names:=k.names++[t.s]}:Cn)else k.on i (λ l=>l.addK t now)).Prm:=by
 have ha:=Lk.add_names ho hb t now
 split
 ·rename_i he
  have h1:=ha.1 he hc hu
  unfold on lk Prm at*
  rcases(show i=0∨i=1 by omega)with rfl|rfl
  ·simp only[if_true]at h1⊢
   rw[h1,List.append_assoc]
   have h3:=h.append_right [t.s]
   rw[List.append_assoc]at h3
   exact h3.trans (List.Perm.append_left _ List.perm_append_comm)
  ·simp only[Nat.one_ne_zero,if_false]at h1⊢
   rw[h1,←List.append_assoc]
   exact h.append_right [t.s]
 ·rename_i he
  have h1:=ha.2 he
  unfold on lk Prm at*
  rcases(show i=0∨i=1 by omega)with rfl|rfl
  ·simp only[if_true]at h1⊢
   rw[h1]
   exact h
  ·simp only[Nat.one_ne_zero,if_false]at h1⊢
   rw[h1]
   exact h
theorem prm_mem (h:k.Prm) {i:Nat} {s:ByteArray} (hs:¬(k.lk i).idx s<0):¬Lib.idxOfS k.names s<0:=by
 rw[out_iff]
 intro hn
 refine hn (h.symm.subset ?_)
 have:=(out_erase hs).2
 unfold lk at this
 split at this
 ·exact List.mem_append_left _ this
 ·exact List.mem_append_right _ this
theorem prm_drop {s:ByteArray} {now:Int} (h:k.Prm) (i:Nat) (hi:i<2) (hs:¬(k.lk i).idx s<0) (h0:i=1→k.A.idx s<0):({k.on i (λ l=>l.dropK s now)with names:=out k.names s}:Cn).Prm:=by
 have h1:=prm_mem h hs
 have h2:=Lk.drop_names (k:=k.lk i) s now hs
 have h3:=(out_erase hs).2
 unfold on lk Prm at*
 rcases(show i=0∨i=1 by omega)with rfl|rfl
 ·simp only[if_true]at h2 h3⊢
  rw[(out_erase h1).1,h2,show ers k.A.names s++k.B.names=ers (k.A.names++k.B.names) s from(@List.erase_append_left ByteArray instBEqOfDecidableEq s _ k.A.names k.B.names h3).symm]
  exact @List.Perm.erase ByteArray instBEqOfDecidableEq _ s _ _ h
 ·simp only[Nat.one_ne_zero,if_false]at h2 h3⊢
  rw[(out_erase h1).1,h2,show k.A.names++ers k.B.names s=ers (k.A.names++k.B.names) s from(@List.erase_append_right ByteArray instBEqOfDecidableEq _ s k.A.names k.B.names (out_none (h0 rfl))).symm]
  exact @List.Perm.erase ByteArray instBEqOfDecidableEq _ s _ _ h
end Cn
end Go.Proofs.YtdighjgcnaajgaaGreat
namespace Go.Proofs.YtdighjgcnaajgaaGreat
open Go.RowKit
abbrev sel {α:Type} (i:Nat) (x y:α):α:=if i=0 then x else y
abbrev knC (a b:Nat) (p:Option Addr) (cap:Nat) (k:Cn):Array Value:=#[ptr a,ptr b,.slice p k.names.length cap]
structure KAt (w:World) (V1 V2:Own) (g a b:Nat) (p:Option Addr) (cap:Nat) (k:Cn) (M:Nat):Prop where
 blk:w.heap[g]?=some (.cells (knC a b p cap k) 93 (0,0))
 row:gc.ORow w 0 9 1 p k.names.length cap (k.names.map Value.string)
 la:LRep w V1 a k.A M
 lb:LRep w V2 b k.B M
 apart:∀i,V1 i→¬V2 i
 gg:¬V1 g∧¬V2 g
 rr:∀x,p=some x→¬V1 x.block∧¬V2 x.block
 few:k.names.length≤16
 ups:k.A.up=true∧k.B.up=false
def blkK (g:Nat) (p:Option Addr) (V1 V2:Own):Own:=λ i=>i=g∨(∃a,p=some a∧a.block=i)∨V1 i∨V2 i
theorem crep_cells {w:World} {U:Own} {g:Nat} {c:Ch} {M:Nat} (h:CRep w U g c M) {i:Nat} (hi:U i):∃cs T fr,w.heap[i]?=some (.cells cs T fr):=by
 obtain⟨c',p,cap,q,hc,_,_,_,rfl⟩:=h
 exact hc.cells hi
theorem lrep_cells {w:World} {V:Own} {g:Nat} {k:Lk} {M:Nat} (h:LRep w V g k M) {i:Nat} (hi:V i):∃cs T fr,w.heap[i]?=some (.cells cs T fr):=by
 obtain⟨U,ch,p,cap,h1,rfl⟩:=h
 rcases hi with rfl|⟨a,e,rfl⟩|e
 ·exact⟨_,_,_,h1.blk⟩
 ·obtain⟨cur,hc⟩:=h1.row.typed a e
  exact⟨_,_,_,hc⟩
 ·exact crep_cells h1.chn e
theorem lrep_ok {w:World} {V:Own} {g:Nat} {k:Lk} {M:Nat} (h:LRep w V g k M):Lok k∧k.Bal:=by
 obtain⟨U,ch,p,cap,h1,rfl⟩:=h
 exact⟨h1.ok,h1.bal⟩
theorem lrep_mono {w:World} {V:Own} {g:Nat} {k:Lk} {M M':Nat} (h:LRep w V g k M) (hM:M≤M') (hf:M'≤400000):LRep w V g k M':=by
 obtain⟨U,ch,p,cap,h1,rfl⟩:=h
 exact⟨U,ch,p,cap,h1.more hM hf,rfl⟩
section
variable {w w':World} {V V1 V2:Own} {g a b:Nat} {p:Option Addr} {cap:Nat} {k k':Cn} {M M':Nat}
theorem KAt.lt (h:KAt w V1 V2 g a b p cap k M) {i:Nat} (hi:blkK g p V1 V2 i):i<w.heap.size:=by
 rcases hi with rfl|⟨x,hx,rfl⟩|e|e
 ·exact gb.blk_lt h.blk
 ·exact(h.row.lt x hx).2
 ·exact(lrep_lt h.la).2 i e
 ·exact(lrep_lt h.lb).2 i e
theorem KAt.cells (h:KAt w V1 V2 g a b p cap k M) {i:Nat} (hi:blkK g p V1 V2 i):∃cs T fr,w.heap[i]?=some (.cells cs T fr):=by
 rcases hi with rfl|⟨x,hx,rfl⟩|e|e
 ·exact⟨_,_,_,h.blk⟩
 ·obtain⟨cur,hc⟩:=h.row.typed x hx
  exact⟨_,_,_,hc⟩
 ·exact lrep_cells h.la e
 ·exact lrep_cells h.lb e
theorem KAt.keep (h:KAt w V1 V2 g a b p cap k M) (hk:∀i,blkK g p V1 V2 i→w'.heap[i]?=w.heap[i]?):KAt w' V1 V2 g a b p cap k M:=
 ⟨(hk g (Or.inl rfl)).trans h.blk,h.row.keep λ x e=>hk _ (Or.inr (Or.inl ⟨x,e,rfl⟩)),lrep_keep h.la λ i hi=>hk i (Or.inr (Or.inr (Or.inl hi))),lrep_keep h.lb λ i hi=>hk i (Or.inr (Or.inr (Or.inr hi))),h.apart,h.gg,h.rr,h.few,h.ups⟩
theorem KAt.on (h:KAt w V1 V2 g a b p cap k M) (hb:Below w.heap.size w w'):KAt w' V1 V2 g a b p cap k M:=h.keep λ i hi=>hb.block i (h.lt hi)
theorem KAt.more (h:KAt w V1 V2 g a b p cap k M) (hM:M≤M') (hf:M'≤400000):KAt w V1 V2 g a b p cap k M':=⟨h.blk,h.row,lrep_mono h.la hM hf,lrep_mono h.lb hM hf,h.apart,h.gg,h.rr,h.few,h.ups⟩
theorem KAt.cell (h:KAt w V1 V2 g a b p cap k M) (i:Nat):w.cell? ⟨g,i,none⟩=(knC a b p cap k)[i]?:=by simp[World.cell?,h.blk]
theorem KAt.frz (h:KAt w V1 V2 g a b p cap k M) (i:Nat):w.frozen? ⟨g,i,none⟩=false:=gb.frozen_at h.blk
theorem KAt.lk (h:KAt w V1 V2 g a b p cap k M) (i:Nat):LRep w (sel i V1 V2) (sel i a b) (k.lk i) M:=by
 unfold sel Cn.lk
 split
 ·exact h.la
 ·exact h.lb
theorem KAt.step (h:KAt w V1 V2 g a b p cap k M) {i:Nat} {f:Lk→Lk} (hs:LStp w (sel i V1 V2) (sel i a b) (f (k.lk i)) M' w') (hM:M≤M') (hf:M'≤400000) (hu:(f (k.lk i)).up=(k.lk i).up):
  ∃V3 V4,KAt w' V3 V4 g a b p cap (k.on i f) M'∧Mvd w (blkK g p V1 V2) w' (blkK g p V3 V4):=by
 obtain⟨V',hr,hm⟩:=hs
 have hn:(k.on i f).names=k.names:=by unfold Cn.on;split<;>rfl
 have hg:=gb.blk_lt h.blk
 unfold sel Cn.lk at*
 by_cases hi:i=0
 ·simp only[if_pos hi]at hm hr hu
  have e:k.on i f={k with A:=f k.A}:=by unfold Cn.on;rw[if_pos hi]
  rw[e]
  have hk:∀j,j<w.heap.size→¬V1 j→w'.heap[j]?=w.heap[j]?∧¬V' j:=λ j hj hv=>⟨hm.1.2 j hj hv,λ hv'=>by
   rcases hm.2 j hv' with x|x
   ·exact hv x
   ·omega⟩
  refine⟨V',V2,⟨(hk g hg h.gg.1).1.trans h.blk,h.row.keep λ x hx=>(hk _ (h.row.lt x hx).2 (h.rr x hx).1).1,hr,lrep_mono (lrep_keep h.lb λ j hj=>(hk j ((lrep_lt h.lb).2 j hj) λ x=>h.apart j x hj).1) hM hf,λ j hj hj2=>?_,⟨(hk g hg h.gg.1).2,h.gg.2⟩,λ x hx=>⟨(hk _ (h.row.lt x hx).2 (h.rr x hx).1).2,(h.rr x hx).2⟩,h.few,⟨hu.trans h.ups.1,h.ups.2⟩⟩,hm.mono (λ j hj=>Or.inr (Or.inr (Or.inl hj))) λ j hj=>?_⟩
  ·exact(hk j ((lrep_lt h.lb).2 j hj2) λ x=>h.apart j x hj2).2 hj
  ·rcases hj with x|x|x|x
   ·exact Or.inr (Or.inl x)
   ·exact Or.inr (Or.inr (Or.inl x))
   ·exact Or.inl x
   ·exact Or.inr (Or.inr (Or.inr (Or.inr x)))
 ·simp only[if_neg hi]at hm hr hu
  have e:k.on i f={k with B:=f k.B}:=by unfold Cn.on;rw[if_neg hi]
  rw[e]
  have hk:∀j,j<w.heap.size→¬V2 j→w'.heap[j]?=w.heap[j]?∧¬V' j:=λ j hj hv=>⟨hm.1.2 j hj hv,λ hv'=>by
   rcases hm.2 j hv' with x|x
   ·exact hv x
   ·omega⟩
  refine⟨V1,V',⟨(hk g hg h.gg.2).1.trans h.blk,h.row.keep λ x hx=>(hk _ (h.row.lt x hx).2 (h.rr x hx).2).1,lrep_mono (lrep_keep h.la λ j hj=>(hk j ((lrep_lt h.la).2 j hj) (h.apart j hj)).1) hM hf,hr,λ j hj hj2=>?_,⟨h.gg.1,(hk g hg h.gg.2).2⟩,λ x hx=>⟨(h.rr x hx).1,(hk _ (h.row.lt x hx).2 (h.rr x hx).2).2⟩,h.few,⟨h.ups.1,hu.trans h.ups.2⟩⟩,hm.mono (λ j hj=>Or.inr (Or.inr (Or.inr hj))) λ j hj=>?_⟩
  ·exact(hk j ((lrep_lt h.la).2 j hj) (h.apart j hj)).2 hj2
  ·rcases hj with x|x|x|x
   ·exact Or.inr (Or.inl x)
   ·exact Or.inr (Or.inr (Or.inl x))
   ·exact Or.inr (Or.inr (Or.inr (Or.inl x)))
   ·exact Or.inl x
theorem Mvd.not {V':Own} (h:Mvd w V w' V') {j:Nat} (hj:j<w.heap.size) (hn:¬V j):¬V' j:=λ hv=>by
 rcases h.2 j hv with e|e
 ·exact hn e
 ·omega
def KMv (w:World) (V:Own) (g a b:Nat) (p:Option Addr) (cap:Nat) (k:Cn) (M:Nat) (W:World):Prop:=∃V1 V2,KAt W V1 V2 g a b p cap k M∧Mvd w V W (blkK g p V1 V2)
theorem KMv.refl (h:KAt w V1 V2 g a b p cap k M):KMv w (blkK g p V1 V2) g a b p cap k M w:=⟨V1,V2,h,Mvd.refl _ _⟩
theorem KMv.on {W:World} (h:KMv w V g a b p cap k M W) (hb:Below W.heap.size W w'):KMv w V g a b p cap k M w':=by
 obtain⟨V1,V2,h1,h2⟩:=h
 exact⟨V1,V2,h1.on hb,h2.on hb⟩
theorem KMv.more {W:World} (h:KMv w V g a b p cap k M W) (hM:M≤M') (hf:M'≤400000):KMv w V g a b p cap k M' W:=by
 obtain⟨V1,V2,h1,h2⟩:=h
 exact⟨V1,V2,h1.more hM hf,h2⟩
theorem kmv_turn {W W':World} {row:Option Nat} (h:KMv w V g a b p cap k M W) (hg:W.grownBy W' row) (hr:∀r,row=some r→w.heap.size≤r∧∃o:Obj,W.heap[r]?=some o∧o.isCells=false):KMv w V g a b p cap k M W':=by
 obtain⟨V1,V2,h1,⟨hb,hk⟩,hn⟩:=h
 refine⟨V1,V2,h1.keep λ i hi=>hg.block i (h1.lt hi) λ e=>?_,⟨⟨hg.os.trans hb.os,hg.tape.trans hb.tape,hg.output.trans hb.output,Nat.le_trans hb.size hg.size,λ i hi=>absurd hi (Nat.not_lt_zero i)⟩,λ i hi hu=>?_⟩,hn⟩
 ·obtain⟨_,o,ho,hc⟩:=hr i e.symm
  obtain⟨cs,T,fr,hx⟩:=h1.cells hi
  rw[hx]at ho
  cases ho
  cases hc
 ·refine(hg.block i (Nat.lt_of_lt_of_le hi hb.size) λ e=>?_).trans (hk i hi hu)
  have:=(hr i e.symm).1
  omega
theorem KMv.step {W:World} (h:KMv w V g a b p cap k M W) {i:Nat} {f:Lk→Lk} (hM:M≤M') (hf:M'≤400000) (hu:(f (k.lk i)).up=(k.lk i).up)
  {P:Ending→Prop} {fn:Nat} {args:Array Value} (hc:∀V',LRep W V' (sel i a b) (k.lk i) M→Calls Tryz.prog fn args W λ e W'=>P e∧LStp W V' (sel i a b) (f (k.lk i)) M' W'):
  Calls Tryz.prog fn args W λ e W'=>P e∧KMv w V g a b p cap (k.on i f) M' W'∧(∀j o,j<w.heap.size→¬V j→W.heap[j]?=some o→W'.heap[j]?=some o)∧KeepsFrom 0 W W':=by
 obtain⟨V1,V2,h1,h2⟩:=h
 refine(hc _ (h1.lk i)).mono ?_
 rintro e W' ⟨he,hs⟩
 obtain⟨V3,V4,h3,h4⟩:=h1.step hs hM hf hu
 refine⟨he,⟨V3,V4,h3,h2.trans h4⟩,λ j o hj hn ho=>h4.kept ho (h2.not hj hn),⟨h4.size,λ j o _ hj ho=>h4.kept hj λ hu=>?_⟩⟩
 obtain⟨cs,T,fr,hx⟩:=h1.cells hu
 rw[hx]at hj
 cases hj
 cases ho
theorem KMv.base {W0 W:World} (h:KMv W0 V g a b p cap k M W) (hb:Below w.heap.size w W0):KMv w V g a b p cap k M W:=by
 obtain⟨V1,V2,h1,h2⟩:=h
 exact⟨V1,V2,h1,((Mvd.refl w V).on hb).trans h2⟩
theorem keeps_from {B:Nat} {A C:World} (h:KeepsFrom 0 A C):KeepsFrom B A C:=⟨h.1,λ k o _=>h.2 k o (Nat.zero_le _)⟩
def KRep (w:World) (V:Own) (g:Nat) (k:Cn) (M:Nat):Prop:=∃V1 V2 a b p cap,KAt w V1 V2 g a b p cap k M∧k.Prm∧V=blkK g p V1 V2
def KStp (w:World) (V:Own) (g:Nat) (k:Cn) (M:Nat) (w':World):Prop:=∃V',KRep w' V' g k M∧Mvd w V w' V'
theorem KMv.stp {W:World} (h:KMv w V g a b p cap k M W) (hp:k.Prm):KStp w V g k M W:=by
 obtain⟨V1,V2,h1,h2⟩:=h
 exact⟨_,⟨V1,V2,a,b,p,cap,h1,hp,rfl⟩,h2⟩
end
end Go.Proofs.YtdighjgcnaajgaaGreat
namespace Go.Proofs.YtdighjgcnaajgaaGreat
open Go.RowKit
theorem way_is (x:Int) (w:World):Calls Tryz.prog 46 #[.int .i64 x] w λ e w'=>e=.returned (.bool (decide (x=0∨x=1)))∧w=w':=by
 by_cases h0:x=0
 ·subst h0
  go_enter Tryz.func46,Tryz.ntmps46
  go_wp2_with fail
  go_ret
  exact⟨rfl,rfl⟩
 ·by_cases h1:x=1
  ·subst h1
   go_enter Tryz.func46,Tryz.ntmps46
   go_wp2_with fail
   go_ret
   exact⟨rfl,rfl⟩
  ·have d0:(x==0)=false:=by simpa using h0
   have d1:(x==1)=false:=by simpa using h1
   have d2:decide (x=0)=false:=by simpa using h0
   have d3:decide (x=1)=false:=by simpa using h1
   have d4:decide (x=0∨x=1)=false:=by simp[h0,h1]
   rw[d4]
   go_enter Tryz.func46,Tryz.ntmps46
   go_wp2_with fail
   go_ret
   exact⟨rfl,rfl⟩
theorem way_of (t:Tox) (w:World):Calls Tryz.prog 52 #[t.v] w λ e w'=>e=.returned (.int .i64 (Cn.wayT t:Int))∧w'=w.alloc (toxObj t):=by
 unfold Cn.wayT
 obtain⟨s,kd,u,o,a,b⟩:=t
 unfold Tox.v toxObj
 dsimp only
 cases u with
 |true=>
  go_enter Tryz.func52,Tryz.ntmps52
  go_wp2_with fail
  go_ret
  exact⟨rfl,rfl⟩
 |false=>
  go_enter Tryz.func52,Tryz.ntmps52
  go_wp2_with fail
  go_ret
  exact⟨rfl,rfl⟩
abbrev cntV (k:Lk):Value:=.agg #[.int .i64 k.sent,.int .i64 k.got,.int .i64 (k.c.held:Int),.int .i64 k.c.lost]
abbrev noCnt:Value:=.agg #[.int .i64 0,.int .i64 0,.int .i64 0,.int .i64 0]
def Cn.cnt (k:Cn) (way:Int):Value:=if way=0∨way=1 then cntV (k.lk way.toNat)else noCnt
theorem lrep_top {w:World} {V:Own} {g:Nat} {k:Lk} {M:Nat} (h:LRep w V g k M):M≤400000:=by
 obtain⟨U,ch,p,cap,h1,rfl⟩:=h
 exact h1.top
section
variable {w w':World} {V V1 V2:Own} {g a b:Nat} {p:Option Addr} {cap:Nat} {k k':Cn} {M M':Nat}
theorem KAt.loads (h:KAt w V1 V2 g a b p cap k M):w.cell? ⟨g,0,none⟩=some (ptr a)∧w.cell? ⟨g,1,none⟩=some (ptr b)∧w.cell? ⟨g,2,none⟩=some (.slice p k.names.length cap):=⟨h.cell 0,h.cell 1,h.cell 2⟩
theorem knames_c (h:KAt w V1 V2 g a b p cap k M):Calls Tryz.prog 20 #[ptr g] w (NamesOut k.names w):=by
 obtain⟨_,_,x2⟩:=h.loads
 have HC:=Lib.hid (clone_r h.row h.few)
 unfold NamesOut at*
 generalize k.names.length=n at*
 clear h
 go_enter Tryz.func20,Tryz.ntmps20
 go_wp2_with fail
 refine HC.out.mono ?_
 rintro e w1 ⟨q,d,rfl,hr,hb⟩
 have HR:=Lib.hid (And.intro hr hb)
 clear HC hr hb x2
 go_wp2_with fail
 go_ret
 exact⟨q,d,rfl,HR.out.1,HR.out.2⟩
theorem kcounts_no (g:Nat) {way:Int} (hw:¬(way=0∨way=1)):Calls Tryz.prog 18 #[ptr g,.int .i64 way] w λ e w'=>e=.returned noCnt∧Below w.heap.size w w':=by
 have HY:=Lib.hid (λ W=>way_is way W)
 rw[show decide (way=0∨way=1)=false from by simpa using hw]at HY
 clear hw
 go_enter Tryz.func18,Tryz.ntmps18
 go_wp2_with fail
 refine(HY.out _).mono ?_
 rintro e w1 ⟨rfl,rfl⟩
 go_wp2_with fail
 have hn:=heap_alloc_new w (.cells #[.int .i64 0,.int .i64 0,.int .i64 0,.int .i64 0] 60)
 have z0:=cell_of_row _ _ 0 _ _ _ hn
 have z1:=cell_of_row _ _ 1 _ _ _ hn
 have z2:=cell_of_row _ _ 2 _ _ _ hn
 have z3:=cell_of_row _ _ 3 _ _ _ hn
 exact bodyPost_ret (v:=noCnt) (by simp[results,Tryz.results18,go_sem,z0,z1,z2,z3]) rfl ⟨rfl,(Below.refl _ _).alloc (Nat.le_refl _) _⟩
theorem kcounts_yes (h:KAt w V1 V2 g a b p cap k M) {way:Int} (hw:way=0∨way=1):Calls Tryz.prog 18 #[ptr g,.int .i64 way] w λ e w'=>e=.returned (cntV (k.lk way.toNat))∧Below w.heap.size w w':=by
 obtain⟨w1,hw1⟩:∃w1,w.alloc (.cells #[.int .i64 0,.int .i64 0,.int .i64 0,.int .i64 0] 60)=w1:=⟨_,rfl⟩
 have hal:Below w.heap.size w w1:=by rw[←hw1];exact(Below.refl _ _).alloc (Nat.le_refl _) _
 have hnew:w1.heap[w.heap.size]?=some (.cells #[.int .i64 0,.int .i64 0,.int .i64 0,.int .i64 0] 60 (0,0)):=by rw[←hw1];exact heap_alloc_new w _
 have h1:=h.on hal
 obtain⟨x0,x1,_⟩:=h1.loads
 have HC:=Lib.hid (lcounts (h1.lk way.toNat))
 have HY:=Lib.hid (λ W=>way_is way W)
 rw[show decide (way=0∨way=1)=true from by simpa using hw]at HY
 have HB:=Lib.hid hal
 have HN:=Lib.hid hnew
 have HW:=Lib.hid (Nat.le_refl w.heap.size)
 unfold cntV
 generalize k.lk way.toNat=l at*
 generalize l.sent=a0 at*
 generalize l.got=a1 at*
 generalize(l.c.held:Int)=a2 at*
 generalize l.c.lost=a3 at*
 clear h h1 hal hnew
 rcases hw with rfl|rfl
 all_goals
  go_enter Tryz.func18,Tryz.ntmps18
  go_wp2_with fail
  refine(HY.out _).mono ?_
  rintro e w2 ⟨rfl,rfl⟩
  go_wp2_with fail
  refine HC.out.mono ?_
  rintro e w3 ⟨rfl,hb⟩
  have hn:=(hb.block _ (gb.blk_lt HN.out)).trans HN.out
  have HB3:=Lib.hid (HB.out.trans (hb.mono HB.out.size))
  have HN3:=Lib.hid hn
  have f0:w3.frozen? ⟨w.heap.size,0,none⟩=false:=gb.frozen_at hn
  have f1:w3.frozen? ⟨w.heap.size,1,none⟩=false:=gb.frozen_at hn
  have f2:w3.frozen? ⟨w.heap.size,2,none⟩=false:=gb.frozen_at hn
  have f3:w3.frozen? ⟨w.heap.size,3,none⟩=false:=gb.frozen_at hn
  have y0:=cell_of_row _ _ 0 _ _ _ hn
  have y1:=cell_of_row _ _ 1 _ _ _ hn
  have y2:=cell_of_row _ _ 2 _ _ _ hn
  have y3:=cell_of_row _ _ 3 _ _ _ hn
  have hlt:=gb.blk_lt hn
  clear hb hn HC x0 x1
  go_wp2_with fail
  have hn:((((w3.setCell ⟨w.heap.size,0,none⟩ (.int .i64 a0)).setCell ⟨w.heap.size,1,none⟩ (.int .i64 a1)).setCell ⟨w.heap.size,2,none⟩ (.int .i64 a2)).setCell ⟨w.heap.size,3,none⟩ (.int .i64 a3)).heap[w.heap.size]?=some (.cells #[.int .i64 a0,.int .i64 a1,.int .i64 a2,.int .i64 a3] 60 (0,0)):=by
   simp[World.setCell,Array.getElem?_modify,HN3.out]
  have z0:=cell_of_row _ _ 0 _ _ _ hn
  have z1:=cell_of_row _ _ 1 _ _ _ hn
  have z2:=cell_of_row _ _ 2 _ _ _ hn
  have z3:=cell_of_row _ _ 3 _ _ _ hn
  exact bodyPost_ret (v:=.agg #[.int .i64 a0,.int .i64 a1,.int .i64 a2,.int .i64 a3]) (by simp[results,Tryz.results18,go_sem,z0,z1,z2,z3]) rfl ⟨rfl,(((HB3.out.setCell (p:=⟨w.heap.size,0,none⟩) HW.out _).setCell (p:=⟨w.heap.size,1,none⟩) HW.out _).setCell (p:=⟨w.heap.size,2,none⟩) HW.out _).setCell (p:=⟨w.heap.size,3,none⟩) HW.out _⟩
theorem kcounts_c (h:KAt w V1 V2 g a b p cap k M) (way:Int):Calls Tryz.prog 18 #[ptr g,.int .i64 way] w λ e w'=>e=.returned (k.cnt way)∧Below w.heap.size w w':=by
 unfold Cn.cnt
 split
 ·rename_i hw
  exact kcounts_yes h hw
 ·rename_i hw
  exact kcounts_no g hw
theorem ksend_c (h:KAt w V1 V2 g a b p cap k M) (way now:Int) {pb:Option Addr} {nb cb:Nat} {s:ByteArray} (hb:s.size=nb) (hi:Lib.BytesIn w pb nb (gc.nums s)) (hnc:nb≤cb) (hM:M+s.size≤M') (hf:M'≤400000):
  Calls Tryz.prog 30 #[ptr g,.int .i64 way,.int .i64 now,.slice pb nb cb] w λ e w'=>e=.returned (.int .i64 (k.sendN way now s))∧KMv w (blkK g p V1 V2) g a b p cap (k.sendK way now s) M' w':=by
 unfold Cn.sendN Cn.sendK
 have HY:=Lib.hid (λ W=>way_is way W)
 by_cases hw:way=0∨way=1
 ·rw[if_pos hw,if_pos hw]
  rw[show decide (way=0∨way=1)=true from by simpa using hw]at HY
  obtain⟨x0,x1,_⟩:=h.loads
  have HC:=Lib.hid ((KMv.refl h).step (i:=way.toNat) (f:=λ l=>l.sendK now s) (M':=M') (P:=λ e=>e=.returned (.int .i64 ((k.lk way.toNat).c.doA (Lk.oPut now s)).n)) (by omega) hf rfl λ V' hr=>lsend hr now hb hi hnc hM hf)
  generalize(k.lk way.toNat).c.doA (Lk.oPut now s)=A at*
  generalize k.on way.toNat (λ l=>l.sendK now s)=K at*
  clear h hi hb
  rcases hw with rfl|rfl
  all_goals
   go_enter Tryz.func30,Tryz.ntmps30
   go_wp2_with fail
   refine(HY.out _).mono ?_
   rintro e w2 ⟨rfl,rfl⟩
   go_wp2_with fail
   refine HC.out.mono ?_
   rintro e w3 ⟨rfl,hk,_⟩
   have HK:=Lib.hid hk
   clear hk HC x0 x1
   go_wp2_with fail
   go_ret
   exact⟨rfl,HK.out⟩
 ·rw[if_neg hw,if_neg hw]
  rw[show decide (way=0∨way=1)=false from by simpa using hw]at HY
  have HK:=Lib.hid ((KMv.refl h).more (M':=M') (by omega) hf)
  clear h hi hb hw
  go_enter Tryz.func30,Tryz.ntmps30
  go_wp2_with fail
  refine(HY.out _).mono ?_
  rintro e w2 ⟨rfl,rfl⟩
  go_wp2_with fail
  go_ret
  exact⟨rfl,HK.out⟩
theorem kfin_c (h:KAt w V1 V2 g a b p cap k M) (way now:Int):
  Calls Tryz.prog 41 #[ptr g,.int .i64 way,.int .i64 now] w λ e w'=>e=.returned (.tuple #[])∧KMv w (blkK g p V1 V2) g a b p cap (k.finK way now) M w':=by
 unfold Cn.finK
 have HY:=Lib.hid (λ W=>way_is way W)
 have hf:=(lrep_ok h.la).1
 by_cases hw:way=0∨way=1
 ·rw[if_pos hw]
  rw[show decide (way=0∨way=1)=true from by simpa using hw]at HY
  obtain⟨x0,x1,_⟩:=h.loads
  have HC:=Lib.hid ((KMv.refl h).step (i:=way.toNat) (f:=λ l=>l.finK now) (M':=M) (P:=λ e=>e=.returned (.tuple #[])) (Nat.le_refl _) (lrep_top h.la) rfl λ V' hr=>lfin hr now)
  generalize k.on way.toNat (λ l=>l.finK now)=K at*
  clear h hf
  rcases hw with rfl|rfl
  all_goals
   go_enter Tryz.func41,Tryz.ntmps41
   go_wp2_with fail
   refine(HY.out _).mono ?_
   rintro e w2 ⟨rfl,rfl⟩
   go_wp2_with fail
   refine HC.out.mono ?_
   rintro e w3 ⟨rfl,hk,_⟩
   have HK:=Lib.hid hk
   clear hk HC x0 x1
   go_wp2_with fail
   go_end0
   exact⟨rfl,HK.out⟩
 ·rw[if_neg hw]
  rw[show decide (way=0∨way=1)=false from by simpa using hw]at HY
  have HK:=Lib.hid (KMv.refl h)
  clear h hw hf
  go_enter Tryz.func41,Tryz.ntmps41
  go_wp2_with fail
  refine(HY.out _).mono ?_
  rintro e w2 ⟨rfl,rfl⟩
  go_wp2_with fail
  go_end0
  exact⟨rfl,HK.out⟩
end
end Go.Proofs.YtdighjgcnaajgaaGreat
namespace Go.Proofs.YtdighjgcnaajgaaGreat
open Go.RowKit
attribute [local go_sem] Oper.semAt_some
abbrev Two2:={k:Nat//k<2}
theorem both_c (g:Nat) (w:World):Calls Tryz.prog 44 #[ptr g] w λ e w'=>e=.returned (.func (.func 84) #[] #[ptr w.heap.size])∧w'=w.alloc (.cells #[ptr g] 29):=by
 go_enter Tryz.func44,Tryz.ntmps44
 go_wp2_with fail
 try rw[Exit.noGoto_ret]
 go_ret
 exact⟨rfl,rfl⟩
set_option maxRecDepth 100000 in
set_option maxHeartbeats 8000000 in
theorem both_stop (n:Nat) (B g a b:Nat) (w:World) (h0:w.cell? ⟨B,0,none⟩=some (ptr g)) (h1:w.cell? ⟨g,0,none⟩=some (ptr a)) (h2:w.cell? ⟨g,1,none⟩=some (ptr b)):
  SeqStopsK Fence.wide n Tryz.prog 84 #[ptr B] (λ x:Two2=>#[.int .i64 (x.1:Int),ptr (sel x.1 a b)]) (λ _ _=>True) (λ xs=>xs.map (·.1)=List.range 2) (λ pre=>pre.map (·.1)=List.range pre.length) 2 w:=λ l J Jx W hW _ _ hY hj=>by
 have x0:W.cell? ⟨B,0,none⟩=some (ptr g):=(hW.cell (World.block_lt_of_cell? w _ h0)).trans h0
 have x1:W.cell? ⟨g,0,none⟩=some (ptr a):=(hW.cell (World.block_lt_of_cell? w _ h1)).trans h1
 have x2:W.cell? ⟨g,1,none⟩=some (ptr b):=(hW.cell (World.block_lt_of_cell? w _ h2)).trans h2
 clear hW h0 h1 h2
 refine callsIn_of_wp Tryz.func84 rfl trivial ?_ rfl
 simp only[Tryz.ntmps84,List.size_toArray,List.length_cons,List.length_nil,Nat.reduceAdd,Nat.reduceSub,Array.replicate_succ,Array.replicate_zero,List.push_toArray,List.append_toArray,List.nil_append,List.cons_append]
 have HIX:=Lib.hid (show∀(k:Nat) W,k<2→(Instr.index 91 (.agg #[ptr a,ptr b]) (.int .i64 (k:Int))).run Tryz.prog W=.ok (ptr (sel k a b)) W fromλ k W hk=>by
  rcases(show k=0∨k=1 by omega)with rfl|rfl<;>kernel_rfl)
 gi_wp2
 generalize Value.agg #[ptr a,ptr b]=av at*
 gi_loopw [9] (λ i wr=>∃(k:Nat) (pre:List Two2),k≤2∧i=.int .i64 k∧Hid (pre.map (·.1)=List.range k)∧J pre wr) (λ i _=>2 -(intOf i).toNat)
 case atStart=>exact⟨0,[],Nat.zero_le _,rfl,Lib.hid rfl,hj⟩
 case round=>
  clear x0 x1 x2
  obtain⟨k,pre,hk,rfl,HP,hJ⟩:=hrel
  have hlen:pre.length=k:=by
   have:=congrArg List.length HP.out
   simpa using this
  by_cases hlt:k<2
  ·obtain⟨fn,tmps,assign,body,hy,hR⟩:=hY pre ⟨k,hlt⟩ wr hJ (by omega)
   have HP2:=Lib.hid (show(pre++[(⟨k,hlt⟩:Two2)]).map (·.1)=List.range (k+1) by rw[List.map_append,HP.out,List.range_succ];rfl)
   have HL:=Lib.hid hlen
   dsimp only at hy
   clear hlen
   have hi:=λ W=>HIX.out k W hlt
   generalize sel k a b=pk at*
   gi_wp2
   refine⟨λ e=>absurd e (by simp[Fence.wide]),hR.mono ?_⟩
   rintro e W3 (⟨rfl,hJ3,_⟩|⟨rfl,hJx3⟩)
   ·gi_wp2
    go_roundw
    case rel=>exact⟨k+1,_,by omega,by first|go_num|simp,HP2,hJ3⟩
    case measure=>simp[intOf];omega
   ·gi_wp2
    refine bodyPost_ret (results_none rfl _ _ _) rfl ?_
    exact⟨⟨_,rfl⟩,.inr ⟨_,by rw[HP2.out,List.length_append,HL.out];rfl,hJx3⟩⟩
  ·obtain rfl:k=2:=by omega
   gi_wp2
   go_end0
   exact⟨⟨_,rfl⟩,.inl ⟨_,HP.out,hJ⟩⟩
section
variable {w w':World} {V V1 V2:Own} {g a b:Nat} {p:Option Addr} {cap:Nat} {k k':Cn} {M M':Nat}
theorem two_allocs (w:World) (o0 o1:Obj):∃W,(w.alloc o0).alloc o1=W∧Below w.heap.size w W∧W.heap[w.heap.size]?=some o0∧W.heap[w.heap.size+1]?=some o1∧W.heap.size=w.heap.size+2:=by
 have s1:(w.alloc o0).heap.size=w.heap.size+1:=by simp
 have b1:Below w.heap.size w (w.alloc o0):=(Below.refl _ _).alloc (Nat.le_refl _) _
 have b2:Below (w.alloc o0).heap.size (w.alloc o0) ((w.alloc o0).alloc o1):=(Below.refl _ _).alloc (Nat.le_refl _) _
 have h0:=heap_alloc_new w o0
 have h1:=heap_alloc_new (w.alloc o0) o1
 rw[s1]at h1
 exact⟨_,rfl,b1.trans (b2.mono (by omega)),(b2.block _ (by omega)).trans h0,h1,by simp⟩
theorem below_turn {w0 W W':World} {n:Nat} {row:Option Nat} (h:Below w0.heap.size w0 W) (hg:W.grownBy W' row) (hr:∀r,row=some r→n≤r∧∃o:Obj,W.heap[r]?=some o∧o.isCells=false) (hn:w0.heap.size≤n):Below w0.heap.size w0 W':=
 h.grown hg (Nat.le_trans h.size (Nat.le_refl _)) (λ r e=>Nat.le_trans hn (hr r e).1)
set_option maxRecDepth 100000 in
set_option maxHeartbeats 8000000 in
theorem kover_c (h:KAt w V1 V2 g a b p cap k M):Calls Tryz.prog 17 #[ptr g] w λ e w'=>e=.returned (.bool (decide (k.A.fin≠0∧k.B.fin≠0)))∧Below w.heap.size w w':=by
 obtain⟨W0,hW0,hal,hn0,hn1,hsz⟩:=two_allocs w (.cells #[.bool false] 4) (.cells #[ptr g] 29)
 have h0:=h.on hal
 obtain⟨y0,y1,_⟩:=h0.loads
 have HD:=Lib.hid (λ (W:World) (x:Nat) (hb:Below W0.heap.size W0 W)=>ldone ((h0.on hb).lk x))
 have HAL:=Lib.hid hal
 have HN0:=Lib.hid hn0
 have z0:=cell_of_row _ _ 0 _ _ _ hn1
 have HS:=Lib.hid (both_stop 2 _ g a b W0 z0 y0 y1)
 clear h h0 hal hn0 hn1 y0 y1 z0
 refine(callsIn_wide (n:=3)).1 ?_
 refine callsIn_of_wp_marks Tryz.func17 rfl trivial ?_ rfl
 simp only[Tryz.ntmps17,List.size_toArray,List.length_cons,List.length_nil,Nat.reduceAdd,Nat.reduceSub,Array.replicate_succ,Array.replicate_zero,List.push_toArray,List.append_toArray,List.nil_append,List.cons_append]
 gi_wp2_with (refine⟨trivial,?_⟩;gi_at_call 44;refine(callsIn_wide.2 (both_c _ _)).mono ?_;rintro e w' ⟨rfl,rfl⟩)
 clear hW0
 refine wpIn_rangeFunc_ownG rfl (by omega) (gf:=84) (lb:=#[ptr (w.heap.size+1)]) rfl trivial (enters_of Tryz.func84 (by kernel_rfl) rfl)
  HS.out (λ _ _=>trivial) (λ _ _ _ _ _ _ _ _=>trivial) (Below.refl _ _) (λ _=>rfl)
  (λ pre W=>Below W0.heap.size W0 W∧∀x∈pre,(k.lk x.1).fin≠0)
  (λ c _ W=>c=.ret∧Below w.heap.size w W∧W.heap[w.heap.size]?=some (.cells #[.bool false] 4 (0,0))∧∃x,x<2∧(k.lk x).fin=0)
  (λ _ _ _ _ hs hg hr=>⟨below_turn hs.1 hg hr (Nat.le_refl _),hs.2⟩)
  (λ _ _ _ _ _ hs hg hr=>⟨hs.1,below_turn hs.2.1 hg hr (by omega),obj_turn (w0:=W0) hs.2.2.1 hg hr,hs.2.2.2⟩)
  ⟨Below.refl _ _,λ x hx=>by cases hx⟩
  (λ x=>{tmps:=#[ptr g,undef,ptr w.heap.size,undef,ptr (sel x.1 a b),ptr g,.func (.func 84) #[] #[ptr (w.heap.size+1)],.int .i64 (x.1:Int),ptr (sel x.1 a b),undef,undef,undef],defers:=[]}) ?assign ?body ?done ?stop
 case assign=>
  intro l x W K hK
  gi_wp2
  exact hK
 case done=>
  rintro D xs W hD hxs ⟨hb,hI⟩ hK
  have hr:=(hb.block _ (gb.blk_lt HN0.out)).trans HN0.out
  have x0:=cell_of_row _ _ 0 _ _ _ hr
  have f0:W.frozen? ⟨w.heap.size,0,none⟩=false:=gb.frozen_at hr
  have hlt:=gb.blk_lt hr
  have hne:D≠w.heap.size:=by omega
  have hK2:=Lib.hid ((Below.heap_setCell W ⟨w.heap.size,0,none⟩ (.bool true) D hne).trans hK)
  have HR:=Lib.hid (gb.set_heap hr (i:=0) (.bool true))
  have HB:=Lib.hid ((HAL.out.trans (hb.mono (by omega))).setCell (p:=⟨w.heap.size,0,none⟩) (Nat.le_refl _) (.bool true))
  have HE:=Lib.hid (show decide (k.A.fin≠0∧k.B.fin≠0)=true from decide_eq_true (by
   have h0:∀x,x∈[0,1]→(k.lk x).fin≠0:=λ x hx=>by
    have:x∈xs.map (·.1):=by rw[hxs];exact hx
    obtain⟨y,hy,rfl⟩:=List.mem_map.1 this
    exact hI y hy
   exact⟨h0 0 (by simp),h0 1 (by simp)⟩))
  clear hb hI hr hK
  gi_wp2
  refine⟨by simp,.inl ⟨_,_,rfl,run_takeDeferred hK2.out,?_⟩⟩
  have hn:=cell_of_row _ _ 0 _ _ _ ((World.putObj_heap_other (w:=W.setCell ⟨w.heap.size,0,none⟩ (.bool true)) (r:=D) (o:=.deferred none) (Ne.symm hne)).trans HR.out)
  rw[HE.out]
  exact⟨.bool true,by simp[results,Tryz.results17,go_sem,hn],rfl,HB.out.grown (grownBy_putObj' _ D (.deferred none)) (by simp[World.setCell];omega) (λ r e=>by cases e;omega)⟩
 case stop=>
  rintro D c pre W hD _ ⟨rfl,hb,hr,x,hx,hf⟩ hK
  have HE:Hid (decide (k.A.fin≠0∧k.B.fin≠0)=false):=decide_eq_false λ he=>by
   rcases(show x=0∨x=1 by omega)with rfl|rfl
   ·exact he.1 hf
   ·exact he.2 hf
  have hlt:=gb.blk_lt hr
  have hne:D≠w.heap.size:=by omega
  have hn:=cell_of_row _ _ 0 _ _ _ ((World.putObj_heap_other (w:=W) (r:=D) (o:=.deferred none) (Ne.symm hne)).trans hr)
  gi_wp2
  refine⟨by simp,.inl ⟨_,_,rfl,run_takeDeferred hK,?_⟩⟩
  rw[HE.out]
  exact⟨.bool false,by simp[results,Tryz.results17,go_sem,hn],rfl,hb.grown (grownBy_putObj' _ D (.deferred none)) (by omega) (λ r e=>by cases e;omega)⟩
 case body=>
  rintro l pre ⟨x,hx⟩ W ⟨hb,hI⟩ hlt
  have HX:=Lib.hid (HD.out W x hb)
  have hr:=(hb.block _ (gb.blk_lt HN0.out)).trans HN0.out
  have x0:=cell_of_row _ _ 0 _ _ _ hr
  have f0:W.frozen? ⟨w.heap.size,0,none⟩=false:=gb.frozen_at hr
  have hrl:=gb.blk_lt hr
  have HR:=Lib.hid hr
  have HB:=Lib.hid hb
  dsimp only
  generalize sel x a b=pk at*
  clear hr hb
  by_cases hf:(k.lk x).fin=0
  ·rw[show decide ((k.lk x).fin≠0)=false from by simpa using hf]at HX
   gi_wp2_with (refine⟨trivial,?_⟩;gi_at_call 45;refine(CallsIn.inRound l (callsIn_wide.2 HX.out)).mono ?_;rintro e w2 ⟨rfl,rfl⟩)
   exact⟨(KeepsOthers.setCell W ⟨w.heap.size,0,none⟩ (.bool false)).from _,rfl,(HAL.out.trans (HB.out.mono (by omega))).setCell (p:=⟨w.heap.size,0,none⟩) (Nat.le_refl _) _,gb.set_heap HR.out (i:=0) (.bool false),x,hx,hf⟩
  ·rw[show decide ((k.lk x).fin≠0)=true from by simpa using hf]at HX
   gi_wp2_with (refine⟨trivial,?_⟩;gi_at_call 45;refine(CallsIn.inRound l (callsIn_wide.2 HX.out)).mono ?_;rintro e w2 ⟨rfl,rfl⟩)
   exact⟨KeepsFrom.refl _ _,trivial,HB.out,λ y hy=>by
    rcases List.mem_append.1 hy with h|h
    ·exact hI y h
    ·obtain rfl:=List.mem_singleton.1 h
     exact hf⟩
set_option maxRecDepth 100000 in
set_option maxHeartbeats 8000000 in
theorem kcut_c (h:KAt w V1 V2 g a b p cap k M) (now:Int):Calls Tryz.prog 42 #[ptr g,.int .i64 now] w λ e w'=>e=.returned (.tuple #[])∧KMv w (blkK g p V1 V2) g a b p cap (k.cutK now) M w':=by
 obtain⟨W0,hW0,hal,hn0,hn1,hsz⟩:=two_allocs w (.cells #[.int .i64 now] 3) (.cells #[ptr g] 29)
 have h0:=h.on hal
 obtain⟨y0,y1,_⟩:=h0.loads
 have hnv:¬blkK g p V1 V2 w.heap.size:=λ hv=>by have:=h.lt hv;omega
 have htop:=lrep_top h.la
 have HAL:=Lib.hid hal
 have HN0:=Lib.hid hn0
 have z0:=cell_of_row _ _ 0 _ _ _ hn1
 have HS:=Lib.hid (both_stop 2 _ g a b W0 z0 y0 y1)
 have HI:=Lib.hid (KMv.refl h0)
 generalize blkK g p V1 V2=V at*
 have HC:=Lib.hid (λ (W:World) (K:Cn) (x:Nat) (hk:KMv W0 V g a b p cap K M W)=>hk.step (i:=x) (f:=λ l=>l.cutK now) (P:=λ e=>e=.returned (.tuple #[])) (Nat.le_refl _) htop rfl λ V' hr=>lcut hr now)
 clear h h0 hal hn0 hn1 y0 y1 z0 htop
 refine(callsIn_wide (n:=3)).1 ?_
 refine callsIn_of_wp_marks Tryz.func42 rfl trivial ?_ rfl
 simp only[Tryz.ntmps42,List.size_toArray,List.length_cons,List.length_nil,Nat.reduceAdd,Nat.reduceSub,Array.replicate_succ,Array.replicate_zero,List.push_toArray,List.append_toArray,List.nil_append,List.cons_append]
 gi_wp2_with (refine⟨trivial,?_⟩;gi_at_call 44;refine(callsIn_wide.2 (both_c _ _)).mono ?_;rintro e w' ⟨rfl,rfl⟩)
 clear hW0
 refine wpIn_rangeFunc_ownG rfl (by omega) (gf:=84) (lb:=#[ptr (w.heap.size+1)]) rfl trivial (enters_of Tryz.func84 (by kernel_rfl) rfl)
  HS.out (λ _ _=>trivial) (λ _ _ _ _ _ _ _ _=>trivial) (Below.refl _ _) (λ _=>rfl)
  (λ (pre:List Two2) W=>KMv W0 V g a b p cap (Cn.cutL now k (pre.map Subtype.val)) M W∧W.heap[w.heap.size]?=some (.cells #[.int .i64 now] 3 (0,0)))
  (λ _ _ _=>False)
  (λ _ _ _ _ hs hg hr=>⟨kmv_turn hs.1 hg hr,obj_turn (w0:=W0) hs.2 hg hr⟩)
  (λ _ _ _ _ _ hs _ _=>hs)
  ⟨HI.out,HN0.out⟩
  (λ x=>{tmps:=#[ptr g,.int .i64 now,undef,ptr w.heap.size,undef,ptr (sel x.1 a b),ptr g,.func (.func 84) #[] #[ptr (w.heap.size+1)],.int .i64 (x.1:Int),ptr (sel x.1 a b),undef,undef,undef],defers:=[]}) ?assign ?body ?done ?stop
 case assign=>
  intro l x W K hK
  gi_wp2
  exact hK
 case done=>
  rintro D xs W hD hxs ⟨hI,_⟩ hK
  rw[hxs]at hI
  have HF:=Lib.hid (hI.base HAL.out)
  clear hI
  gi_wp2
  refine⟨by simp,.inl ⟨_,_,rfl,run_takeDeferred hK,?_⟩⟩
  exact⟨_,results_none rfl _ _ _,rfl,kmv_turn HF.out (grownBy_putObj' _ D (.deferred none)) (λ r e=>by cases e;exact⟨by omega,_,hK,rfl⟩)⟩
 case stop=>
  rintro D c pre W _ _ h _
  exact h.elim
 case body=>
  rintro l pre ⟨x,hx⟩ W ⟨hI,hr⟩ hlt
  have HX:=Lib.hid (HC.out W _ x hI)
  have HL:=Lib.hid (show Cn.cutL now k ((pre++[(⟨x,hx⟩:Two2)]).map Subtype.val)=(Cn.cutL now k (pre.map Subtype.val)).on x (λ l=>l.cutK now)from by unfold Cn.cutL;rw[List.map_append,List.foldl_append];rfl)
  have x0:=cell_of_row _ _ 0 _ _ _ hr
  have HR:=Lib.hid hr
  dsimp only
  generalize Cn.cutL now k (pre.map Subtype.val)=K at*
  generalize sel x a b=pk at*
  clear hr hI
  gi_wp2_with (refine⟨trivial,?_⟩;gi_at_call 75;refine(CallsIn.inRound l (callsIn_wide.2 HX.out)).mono ?_;rintro e w2 ⟨rfl,hk2,hs2,hf2⟩)
  refine⟨keeps_from hf2,trivial,?_,hs2 _ _ (by omega) hnv HR.out⟩
  rw[HL.out]
  exact hk2
end
end Go.Proofs.YtdighjgcnaajgaaGreat
