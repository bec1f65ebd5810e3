import Derived.Test.YtdighjgcnaajgaaGreatMS8
import Derived.ArgAppend
import Derived.Deep.Upon
import Derived.Test.YtdighjgcnaajgaaGreatMS7
namespace Go.Proofs.YtdighjgcnaajgaaGreat.gc
open Go.RowKit
structure ORow (w:World) (base T K:Nat) (p:Option Addr) (n c:Nat) (zs:List Value):Prop where
 len:zs.length=n*K
 cap:n≤c
 max:c≤maxLen
 non:p=none→c=0
 som:∀a,p=some a→∃b o cur,a=⟨b,o,none⟩∧base≤b∧w.heap[b]?=some (.cells cur T (0,0))∧o+c*K≤cur.size∧∀j v,zs[j]?=some v→cur[o+j]?=some v
theorem orow_nil (w:World) (base T K:Nat):ORow w base T K none 0 0 []:=⟨by simp,Nat.le_refl _,Nat.zero_le _,λ _=>rfl,λ _ h=>by cases h⟩
section
variable {w w':World} {base T K n c:Nat} {p:Option Addr} {zs:List Value}
theorem ORow.lt (h:ORow w base T K p n c zs):∀a,p=some a→base≤a.block∧a.block<w.heap.size:=λ a e=>by
 obtain⟨b,o,cur,rfl,hb,hh,_⟩:=h.som a e
 exact⟨hb,blk_lt hh⟩
theorem ORow.keep (h:ORow w base T K p n c zs) (hk:∀a,p=some a→w'.heap[a.block]?=w.heap[a.block]?):ORow w' base T K p n c zs:=
 ⟨h.len,h.cap,h.max,h.non,λ a e=>by
  obtain⟨b,o,cur,rfl,hb,hh,hc⟩:=h.som a e
  exact⟨b,o,cur,rfl,hb,(hk _ e).trans hh,hc⟩⟩
theorem ORow.on (h:ORow w base T K p n c zs) (hb:Below w.heap.size w w'):ORow w' base T K p n c zs:=h.keep λ a e=>hb.block _ (h.lt a e).2
theorem ORow.typed (h:ORow w base T K p n c zs):∀a,p=some a→∃cur,w.heap[a.block]?=some (.cells cur T (0,0)):=λ a e=>by
 obtain⟨b,o,cur,rfl,_,hh,_⟩:=h.som a e
 exact⟨cur,hh⟩
theorem ORow.other (h:ORow w base T K p n c zs) {g:Nat} {cs:Array Value} {T':TypeId} {fr:Nat×Nat} (hg:w.heap[g]?=some (.cells cs T' fr)) (hT:T'≠T) (hw:∀k,k≠g→w'.heap[k]?=w.heap[k]?):ORow w' base T K p n c zs:=
 h.keep λ a e=>hw _ λ eg=>by
  obtain⟨cur,hh⟩:=h.typed a e
  rw[eg,hg]at hh
  injection hh with hh
  injection hh with _ hT2
  exact hT hT2
theorem ORow.set (h:ORow w base T K p n c zs) {g:Nat} {cs:Array Value} {T':TypeId} {fr:Nat×Nat} (hg:w.heap[g]?=some (.cells cs T' fr)) (hT:T'≠T) (i:Nat) (v:Value):ORow (w.setCell ⟨g,i,none⟩ v) base T K p n c zs:=
 h.other hg hT λ _ hk=>Below.heap_setCell _ _ _ _ hk
theorem ORow.at (h:ORow w base T K p n c zs) (hn:0<n):∃b o,p=some ⟨b,o,none⟩∧∀j v,zs[j]?=some v→w.cell? ⟨b,o+j,none⟩=some v:=by
 cases p with
 |none=>have:=h.non rfl;have:=h.cap;omega
 |some a=>
  obtain⟨b,o,cur,rfl,_,hh,_,hc⟩:=h.som a rfl
  exact⟨b,o,rfl,λ j v hj=>by simp only[World.cell?,hh];exact hc j v hj⟩
theorem ORow.take (h:ORow w base T K p n c zs) (m:Nat) (hm:m≤n):ORow w base T K p m c (zs.take (m*K)):=by
 have h1:m*K≤n*K:=Nat.mul_le_mul_right K hm
 refine⟨by rw[List.length_take,h.len];omega,Nat.le_trans hm h.cap,h.max,h.non,λ a e=>?_⟩
 obtain⟨b,o,cur,rfl,hb,hh,hs,hc⟩:=h.som a e
 refine⟨b,o,cur,rfl,hb,hh,hs,λ j v hj=>hc j v ?_⟩
 rw[List.getElem?_take]at hj
 split at hj
 ·exact hj
 ·cases hj
theorem ORow.drop (h:ORow w base T K p n c zs) (m:Nat) (hm:m≤n):ORow w base T K (if c=m then p else p.map (·.add (m*K))) (n -m) (c -m) (zs.drop (m*K)):=by
 have hmc:=Nat.le_trans hm h.cap
 have h1:(n -m)*K=n*K -m*K:=Nat.sub_mul n m K
 have h2:(c -m)*K=c*K -m*K:=Nat.sub_mul c m K
 have h3:m*K≤c*K:=Nat.mul_le_mul_right K hmc
 refine⟨by rw[List.length_drop,h.len,h1],by have:=h.cap;omega,Nat.le_trans (Nat.sub_le _ _) h.max,λ e=>?_,λ a e=>?_⟩
 ·by_cases hc:c=m
  ·omega
  ·rw[if_neg hc]at e
   cases p with
   |none=>rw[h.non rfl];omega
   |some a=>cases e
 ·by_cases hc:c=m
  ·rw[if_pos hc]at e
   obtain⟨b,o,cur,rfl,hb,hh,hs,hc'⟩:=h.som a e
   refine⟨b,o,cur,rfl,hb,hh,by rw[hc,Nat.sub_self,Nat.zero_mul];omega,λ j v hj=>?_⟩
   rw[List.drop_eq_nil_of_le (by rw[h.len,show n=m by have:=h.cap;omega];exact Nat.le_refl _)]at hj
   cases hj
  ·rw[if_neg hc]at e
   cases p with
   |none=>cases e
   |some a'=>
    obtain⟨b,o,cur,rfl,hb,hh,hs,hc'⟩:=h.som a' rfl
    rw[Option.map_some,WideShapes.add_plain]at e
    cases e
    refine⟨b,o+m*K,cur,rfl,hb,hh,by omega,λ j v hj=>?_⟩
    rw[List.getElem?_drop]at hj
    rw[Nat.add_assoc]
    exact hc' _ v hj
end
theorem orow_of_own {w:World} {base T K n d:Nat} {q:Option Addr} {zs:List Value} (h:w.ownsRow base T K (.slice q n d) n zs):ORow w base T K q n d zs:=by
 obtain⟨hl,⟨e,h0⟩|⟨g,cap,cur,e,hb,hh,h1,h2,h3,h4⟩⟩:=h
 ·cases e
  exact⟨hl,Nat.le_refl _,Nat.zero_le _,λ _=>rfl,λ _ h=>by cases h⟩
 ·cases e
  refine⟨hl,h1,h2,(λ e=>by cases e),λ a e=>?_⟩
  cases e
  refine⟨g,0,cur,rfl,hb,hh,by omega,λ j v hj=>?_⟩
  rw[←h4,List.getElem?_take]at hj
  split at hj
  ·rw[Nat.zero_add];simpa using hj
  ·cases hj
theorem own_slice {w:World} {base T K n:Nat} {v:Value} {zs:List Value} (h:w.ownsRow base T K v n zs):∃q d,v=.slice q n d∧∀a,q=some a→base≤a.block∧a.block<w.heap.size:=by
 obtain⟨hl,⟨rfl,rfl⟩|⟨g,cap,cur,rfl,hb,hh,h1,h2,h3,h4⟩⟩:=h
 ·exact⟨none,0,rfl,λ _ h=>by cases h⟩
 ·exact⟨_,cap,rfl,λ a e=>by cases e;exact⟨hb,blk_lt hh⟩⟩
theorem setCells_blk {b:Nat} {T:TypeId} {fr:Nat×Nat} (vs:List Value):∀(o:Nat) (w:World) (cur:Array Value),w.heap[b]?=some (.cells cur T fr)→∃cur':Array Value,(w.setCells b o vs).heap[b]?=some (.cells cur' T fr)∧cur'.size=cur.size:=by
 induction vs with
 |nil=>exactλ o w cur h=>⟨cur,h,rfl⟩
 |cons v r ih=>
  intro o w cur h
  obtain⟨cur',h1,h2⟩:=ih (o+1) (w.setCell ⟨b,o,none⟩ v) _ (set_heap h v)
  exact⟨cur',h1,by simpa using h2⟩
theorem setCells_grown (w:World) (b o:Nat) (vs:List Value):w.grownBy (w.setCells b o vs) (some b):=by
 have hs:∀(vs:List Value) (o:Nat) (w:World),(w.setCells b o vs).tape=w.tape∧(w.setCells b o vs).heap.size=w.heap.size:=by
  intro vs
  induction vs with
  |nil=>exactλ _ _=>⟨rfl,rfl⟩
  |cons v r ih=>exactλ o w=>⟨(ih (o+1) _).1,(ih (o+1) _).2.trans (by simp[World.setCell])⟩
 exact⟨World.os_setCells w b o vs,(hs vs o w).1,World.output_setCells w b o vs,Nat.le_of_eq (hs vs o w).2.symm,λ k hk hne=>World.heap_setCells_other w b o vs hk λ e=>hne (by rw[e])⟩
theorem app_row {w:World} {base T K n c:Nat} {p:Option Addr} {zs:List Value} (ho:ORow w base T K p n c zs) (hbase:base≤w.heap.size) {t:TypeId} {i0:TypeInfo} {z:Value} {by0:Nat} (ht:Tryz.prog.underlying t=some (.slice T)) (hi:Tryz.prog.info? T=some i0) (hz:i0.zero=some z)
  (h1:i0.size=K) (h2:i0.bytes=by0) (h3:z.cells.size=K) (hK:0<K) {a:Addr} {m d:Nat} {news:List Value} (hl:news.length=m*K) (hnews:∀j u,news[j]?=some u→w.cell? (a.add j)=some u) (hone:∀u∈news,u.oneCell'=true)
  (hmax:n+m≤maxLen) (hbytes:(n+m)*by0≤140737488355328):
  ∃q e w',(∀ty,(Builtin.append_ #[t,t] ty #[.slice p n c,.slice (some a) m d]).run Tryz.prog w=.ok (.slice q (n+m) e) w')∧ORow w' base T K q (n+m) e (zs++news)∧w.grownBy w' (p.map (·.block))∧∀x,q=some x→p.map (·.block)=some x.block∨w.heap.size≤x.block:=by
 cases p with
 |none=>
  obtain rfl:c=0:=ho.non rfl
  obtain rfl:n=0:=by have:=ho.cap;omega
  obtain rfl:zs=[]:=List.eq_nil_of_length_eq_zero (by rw[ho.len,Nat.zero_mul])
  obtain⟨v',w',r1,r2,r3,_⟩:=run_append_own w w.heap.size t 0 T i0 z K by0 ht hi hz h1 h2 h3 hK (.slice none 0 0) 0 [] (World.ownsRow_nil _ _ _ _) a m d news hl hnews hone hmax hbytes (Nat.le_refl _)
  obtain⟨q,e,rfl,hq⟩:=own_slice r2
  refine⟨q,e,w',λ ty=>?_,orow_of_own (own_low r2 hbase),r3,λ x hx=>Or.inr (hq x hx).1⟩
  rw[←r1]
  rfl
 |some a0=>
  obtain⟨b,o,cur,rfl,hb,hh,hs,hc⟩:=ho.som a0 rfl
  have hlen:(zs++news).length=(n+m)*K:=by rw[List.length_append,ho.len,hl,Nat.add_mul]
  by_cases hroom:n+m≤c
  ·have hfit:(n+m)*K≤c*K:=Nat.mul_le_mul_right K hroom
   have hfit2:o+n*K+news.length≤cur.size:=by rw[hl];rw[Nat.add_mul]at hfit;omega
   have hcell:∀j,j<news.length→(w.cell? ⟨b,o+n*K+j,none⟩).isSome=true:=λ j hj=>by
    simp only[World.cell?,hh]
    rw[Array.getElem?_eq_getElem (by omega)]
    rfl
   have hfro:∀j,j<news.length→w.frozen? ⟨b,o+n*K+j,none⟩=false:=λ j hj=>frozen_at hh
   subst h1
   have hr:=λ ty=>run_append_room_cells (P:=Tryz.prog) w t ty T i0 ht hi b o n c a m d news hl hnews hone hroom hcell hfro
   obtain⟨cur',hh',hs'⟩:=setCells_blk news (o+n*i0.size) w cur hh
   refine⟨_,c,_,hr,⟨hlen,hroom,ho.max,(λ e=>by cases e),λ x e=>?_⟩,setCells_grown _ _ _ _,λ x e=>Or.inl (by cases e;rfl)⟩
   cases e
   refine⟨b,o,cur',rfl,hb,hh',by omega,λ j v hj=>?_⟩
   have key:(w.setCells b (o+n*i0.size) news).cell? ⟨b,o+j,none⟩=some v:=by
    rcases Nat.lt_or_ge j (n*i0.size)with hjn|hjn
    ·rw[World.cell?_setCells_out _ _ _ _ _ (λ _ _=>Or.inl (by show o+j<o+n*i0.size;omega))]
     rw[List.getElem?_append_left (by rw[ho.len];exact hjn)]at hj
     simp only[World.cell?,hh]
     exact hc j v hj
    ·rw[List.getElem?_append_right (by rw[ho.len];exact hjn),ho.len]at hj
     have hjl:=(List.getElem?_eq_some_iff.1 hj).1
     have:=World.cell?_setCells_in b news (o+n*i0.size) w hcell (j -n*i0.size) hjl
     rw[show o+n*i0.size+(j -n*i0.size)=o+j by omega]at this
     rw[this,←hj,List.getElem?_eq_getElem hjl]
   simp only[World.cell?,hh']at key
   exact key
  ·obtain⟨v',w',r1,r2,r3⟩:=run_append_arg_grows w t 0 T i0 z K by0 ht hi hz h1 h2 h3 hK ⟨b,o,none⟩ n c zs ho.len (λ j u hj=>by rw[WideShapes.add_plain];simp only[World.cell?,hh];exact hc j u hj) a m d news hl hnews (by omega) hmax hbytes
   obtain⟨q,e,rfl,hq⟩:=own_slice r2
   refine⟨q,e,w',λ ty=>?_,orow_of_own (own_low r2 hbase),⟨r3.os,r3.tape,r3.output,r3.size,λ k hk _=>r3.block k hk (by simp)⟩,λ x hx=>Or.inr (hq x hx).1⟩
   rw[←r1]
   rfl
end Go.Proofs.YtdighjgcnaajgaaGreat.gc
namespace Go.Proofs.YtdighjgcnaajgaaGreat.gc
abbrev Mk:=Int×Nat
def noMk:Mk:=(0,0)
def tksM:Nat→List Mk→List Int
 |_,[]=>[]
 |f,m::r=>List.replicate (m.2 -f) m.1++tksM m.2 r
def EndsM:Nat→List Mk→Nat→Prop
 |f,[],e=>f=e
 |f,m::r,e=>f<m.2∧EndsM m.2 r e
def Rise (ms:List Mk):Prop:=ms.Pairwise λ x y=>x.1<y.1
def endAt (f:Nat) (ms:List Mk) (k:Nat):Nat:=if k=0 then f else(ms.getD (k -1) noMk).2
theorem ends_le {ms:List Mk} {f e:Nat} (h:EndsM f ms e):f≤e:=by
 induction ms generalizing f with
 |nil=>exact Nat.le_of_eq h
 |cons m r ih=>exact Nat.le_trans (Nat.le_of_lt h.1) (ih h.2)
theorem ends_lt {ms:List Mk} {f e:Nat} (h:EndsM f ms e) (h0:ms≠[]):f<e:=by
 cases ms with
 |nil=>exact absurd rfl h0
 |cons m r=>exact Nat.lt_of_lt_of_le h.1 (ends_le h.2)
theorem ends_append {l r:List Mk} {f e:Nat}:EndsM f (l++r) e↔∃y,EndsM f l y∧EndsM y r e:=by
 induction l generalizing f with
 |nil=>exact⟨λ h=>⟨f,rfl,h⟩,λ ⟨y,h1,h2⟩=>by rw[show f=y from h1];exact h2⟩
 |cons m l ih=>
  constructor
  ·intro h
   obtain⟨y,h1,h2⟩:=ih.1 h.2
   exact⟨y,⟨h.1,h1⟩,h2⟩
  ·rintro⟨y,h1,h2⟩
   exact⟨h1.1,ih.2 ⟨y,h1.2,h2⟩⟩
theorem ends_inj {ms:List Mk} {f e e':Nat} (h:EndsM f ms e) (h':EndsM f ms e'):e=e':=by
 induction ms generalizing f with
 |nil=>exact(show f=e from h).symm.trans h'
 |cons m r ih=>exact ih h.2 h'.2
theorem tks_append {l:List Mk} {f y:Nat} (h:EndsM f l y) (r:List Mk):tksM f (l++r)=tksM f l++tksM y r:=by
 induction l generalizing f with
 |nil=>rw[show f=y from h];rfl
 |cons m l ih=>
  show List.replicate _ _++tksM m.2 (l++r)=_
  rw[ih h.2,←List.append_assoc]
  rfl
theorem tks_len {ms:List Mk} {f e:Nat} (h:EndsM f ms e):(tksM f ms).length=e -f:=by
 induction ms generalizing f with
 |nil=>rw[show f=e from h];simp[tksM]
 |cons m r ih=>
  have:=ends_le h.2
  have:=h.1
  show(List.replicate (m.2 -f) m.1++tksM m.2 r).length=_
  rw[List.length_append,List.length_replicate,ih h.2]
  omega
theorem mem_tks {ms:List Mk} {f:Nat} {x:Int} (h:x∈tksM f ms):∃m∈ms,m.1=x:=by
 induction ms generalizing f with
 |nil=>cases h
 |cons m r ih=>
  rcases List.mem_append.1 h with h|h
  ·exact⟨m,List.mem_cons_self,(List.eq_of_mem_replicate h).symm⟩
  ·obtain⟨m',h1,h2⟩:=ih h
   exact⟨m',List.mem_cons_of_mem _ h1,h2⟩
theorem ends_at {ms:List Mk} {f e:Nat} (h:EndsM f ms e) (k:Nat) (hk:k≤ms.length):EndsM f (ms.take k) (endAt f ms k)∧EndsM (endAt f ms k) (ms.drop k) e:=by
 induction ms generalizing f k with
 |nil=>
  obtain rfl:k=0:=by simpa using hk
  exact⟨rfl,h⟩
 |cons m r ih=>
  cases k with
  |zero=>exact⟨rfl,h⟩
  |succ k=>
   have hh:=ih h.2 k (by simpa using hk)
   have e1:endAt f (m::r) (k+1)=endAt m.2 r k:=by
    unfold endAt
    cases k with
    |zero=>rfl
    |succ j=>rfl
   rw[e1]
   exact⟨⟨h.1,hh.1⟩,hh.2⟩
theorem end_all {ms:List Mk} {f e:Nat} (h:EndsM f ms e):endAt f ms ms.length=e:=by
 have:=(ends_at h ms.length (Nat.le_refl _)).2
 rw[List.drop_length]at this
 exact this
theorem end_bounds {ms:List Mk} {f e:Nat} (h:EndsM f ms e) (k:Nat) (hk:k≤ms.length):f≤endAt f ms k∧endAt f ms k≤e:=
 ⟨ends_le (ends_at h k hk).1,ends_le (ends_at h k hk).2⟩
theorem mk_split (ms:List Mk) (k:Nat) (hk:k<ms.length):ms.drop k=ms.getD k noMk::ms.drop (k+1):=by
 rw[List.drop_eq_getElem_cons hk,List.getD_eq_getElem?_getD,List.getElem?_eq_getElem hk]
 rfl
theorem end_step {ms:List Mk} {f e:Nat} (h:EndsM f ms e) (k:Nat) (hk:k<ms.length):endAt f ms (k+1)=(ms.getD k noMk).2∧endAt f ms k<(ms.getD k noMk).2:=by
 refine⟨rfl,?_⟩
 have:=(ends_at h k (Nat.le_of_lt hk)).2
 rw[mk_split ms k hk]at this
 exact this.1
theorem ready_rep (n:Nat) (a x:Int) (B:List Int) (h:a≤x):readyN (List.replicate n a++B) x=n+readyN B x:=by
 induction n with
 |zero=>simp
 |succ n ih=>
  have:readyN (a::(List.replicate n a++B)) x=readyN (List.replicate n a++B) x+1:=by simp[readyN,h]
  rw[List.replicate_succ,List.cons_append,this,ih]
  omega
theorem ready_stop (a x:Int) (B:List Int) (h:x<a):readyN (a::B) x=0:=by
 have:¬a≤x:=by omega
 simp[readyN,this]
theorem ready_tks {ms:List Mk} {f e:Nat} (h:EndsM f ms e) (x:Int):readyN (tksM f ms) x=endAt f ms (readyN (ms.map Prod.fst) x) -f:=by
 induction ms generalizing f with
 |nil=>simp[tksM,readyN,endAt]
 |cons m r ih=>
  by_cases hx:m.1≤x
  ·have e1:readyN (List.map Prod.fst (m::r)) x=readyN (r.map Prod.fst) x+1:=by simp[readyN,hx]
   have e2:endAt f (m::r) (readyN (r.map Prod.fst) x+1)=endAt m.2 r (readyN (r.map Prod.fst) x):=by
    unfold endAt
    cases readyN (r.map Prod.fst) x with
    |zero=>rfl
    |succ j=>rfl
   have hb:=(end_bounds h.2 (readyN (r.map Prod.fst) x) (by have:=ready_le (r.map Prod.fst) x;simpa using this)).1
   rw[e1,e2]
   show readyN (List.replicate _ _++tksM m.2 r) x=_
   rw[ready_rep _ _ _ _ hx,ih h.2]
   have:=h.1
   omega
  ·have e1:readyN (List.map Prod.fst (m::r)) x=0:=by rw[List.map_cons];exact ready_stop _ _ _ (by omega)
   rw[e1]
   show readyN (List.replicate (m.2 -f) m.1++tksM m.2 r) x=f -f
   obtain⟨j,hj⟩:∃j,m.2 -f=j+1:=⟨m.2 -f -1,by have:=h.1;omega⟩
   rw[hj,List.replicate_succ,List.cons_append,ready_stop _ _ _ (by omega)]
   omega
theorem rise_ready {ms:List Mk} (h:Rise ms) (x:Int) (k:Nat) (hk:k<ms.length):decide (x<(ms.getD k noMk).1)=decide (readyN (ms.map Prod.fst) x≤k):=by
 have e:∀j,j<ms.length→(ms.map Prod.fst).getD j 0=(ms.getD j noMk).1:=λ j hj=>by
  simp[List.getD_eq_getElem?_getD,List.getElem?_eq_getElem hj]
 rcases Nat.lt_or_ge k (readyN (ms.map Prod.fst) x)with hlt|hge
 ·have:=ready_yes hlt
  rw[e k hk]at this
  have h1:¬x<(ms.getD k noMk).1:=by omega
  have h2:¬readyN (ms.map Prod.fst) x≤k:=by omega
  rw[decide_eq_false h1,decide_eq_false h2]
 ·have hn:=ready_no (A:=ms.map Prod.fst) (x:=x) (by rw[List.length_map];omega)
  rw[e _ (by omega)]at hn
  have h1:x<(ms.getD k noMk).1:=by
   rcases Nat.lt_or_ge (readyN (ms.map Prod.fst) x) k with h3|h3
   ·have h4:=List.pairwise_iff_getElem.1 h (readyN (ms.map Prod.fst) x) k (by omega) hk h3
    simp only[List.getD_eq_getElem?_getD,List.getElem?_eq_getElem hk,List.getElem?_eq_getElem (show readyN (ms.map Prod.fst) x<ms.length by omega),Option.getD_some]at hn⊢
    omega
   ·rw[show k=readyN (ms.map Prod.fst) x by omega]
    exact hn
  rw[decide_eq_true h1,decide_eq_true hge]
def overM (ms:List Mk) (K:Nat):Nat:=readyN (ms.map λ m=>(m.2:Int)) (K:Int)
theorem over_le (ms:List Mk) (K:Nat):overM ms K≤ms.length:=by have:=ready_le (ms.map λ m=>(m.2:Int)) (K:Int);rw[List.length_map]at this;exact this
theorem over_at (ms:List Mk) (j:Nat) (hj:j<ms.length):(ms.map λ m=>(m.2:Int)).getD j 0=((ms.getD j noMk).2:Int):=by
 simp[List.getD_eq_getElem?_getD,List.getElem?_eq_getElem hj]
theorem over_yes {ms:List Mk} {K j:Nat} (h:j<overM ms K):(ms.getD j noMk).2≤K:=by
 have h1:=ready_yes h
 rw[over_at ms j (Nat.lt_of_lt_of_le h (over_le ms K))]at h1
 omega
theorem over_no {ms:List Mk} {K:Nat} (h:overM ms K<ms.length):K<(ms.getD (overM ms K) noMk).2:=by
 have h1:=ready_no (A:=ms.map λ m=>(m.2:Int)) (x:=(K:Int)) (by rw[List.length_map];exact h)
 have h2:=over_at ms _ h
 unfold overM at h2 h⊢
 rw[h2]at h1
 omega
theorem over_tks {ms:List Mk} {f e K:Nat} (h:EndsM f ms e) (h0:f≤K) (h1:K≤e):EndsM K (ms.drop (overM ms K)) e∧tksM K (ms.drop (overM ms K))=(tksM f ms).drop (K -f):=by
 induction ms generalizing f with
 |nil=>
  have:f=e:=h
  obtain rfl:K=e:=by omega
  refine⟨rfl,?_⟩
  simp[overM,readyN,tksM]
 |cons m r ih=>
  by_cases hm:m.2≤K
  ·have e1:overM (m::r) K=overM r K+1:=by
    have:(m.2:Int)≤(K:Int):=by omega
    simp[overM,readyN,this]
   obtain⟨i1,i2⟩:=ih h.2 hm
   rw[e1]
   refine⟨i1,?_⟩
   show tksM K (r.drop (overM r K))=(List.replicate (m.2 -f) m.1++tksM m.2 r).drop (K -f)
   have:=h.1
   rw[i2,show K -f=(m.2 -f)+(K -m.2) by omega,←List.drop_drop,List.drop_left' (by simp)]
  ·have e1:overM (m::r) K=0:=by unfold overM;rw[List.map_cons];exact ready_stop _ _ _ (by omega)
   rw[e1]
   refine⟨⟨by omega,h.2⟩,?_⟩
   show List.replicate (m.2 -K) m.1++tksM m.2 r=(List.replicate (m.2 -f) m.1++tksM m.2 r).drop (K -f)
   rw[List.drop_append_of_le_length (by simp;omega),List.drop_replicate,show m.2 -f -(K -f)=m.2 -K by omega]
def layK (ms:List Mk) (t:Int) (y:Nat):Nat:=if ms.getLast?=some (t,y)then ms.length -1 else ms.length
theorem layK_le (ms:List Mk) (t:Int) (y:Nat):layK ms t y≤ms.length:=by unfold layK;split<;>omega
def layM (ms:List Mk) (t:Int) (y e:Nat):List Mk:=ms.take (layK ms t y)++[(t,e)]
theorem tks_one (f e:Nat) (t:Int):tksM f [(t,e)]=List.replicate (e -f) t:=by simp[tksM]
theorem lay_all {ms:List Mk} {f y e:Nat} {t:Int} (h:EndsM f ms y) (hy:y<e) (hr:Rise ms) (ht:∀m∈ms,m.1≤t):
  EndsM f (layM ms t y e) e∧tksM f (layM ms t y e)=tksM f ms++List.replicate (e -y) t∧Rise (layM ms t y e)∧∀m∈layM ms t y e,m∈ms∨m=(t,e):=by
 unfold layM layK
 split
 ·rename_i hl
  obtain⟨l,rfl⟩:=List.getLast?_eq_some_iff.1 hl
  rw[show(l++[((t,y):Mk)]).take ((l++[((t,y):Mk)]).length -1)=l by simp]
  obtain⟨z,h1,h2⟩:=ends_append.1 h
  have hz:z<y:=h2.1
  have hp:=List.pairwise_append.1 hr
  refine⟨ends_append.2 ⟨z,h1,⟨by show z<e;omega,rfl⟩⟩,?_,?_,?_⟩
  ·rw[tks_append h1,tks_append h1,tks_one,tks_one,List.append_assoc,List.replicate_append_replicate,show y -z+(e -y)=e -z by omega]
  ·exact List.pairwise_append.2 ⟨hp.1,List.pairwise_singleton _ _,λ a ha b hb=>by
    rw[List.mem_singleton.1 hb]
    exact hp.2.2 a ha (t,y) (by simp)⟩
  ·intro m hm
   rcases List.mem_append.1 hm with hm|hm
   ·exact Or.inl (List.mem_append_left _ hm)
   ·exact Or.inr (List.mem_singleton.1 hm)
 ·rename_i hl
  rw[List.take_length]
  refine⟨ends_append.2 ⟨y,h,⟨hy,rfl⟩⟩,by rw[tks_append h,tks_one],?_,?_⟩
  ·refine List.pairwise_append.2 ⟨hr,List.pairwise_singleton _ _,λ a ha b hb=>?_⟩
   rw[List.mem_singleton.1 hb]
   show a.1<t
   have hle:=ht a ha
   rcases Int.lt_or_eq_of_le hle with h3|h3
   ·exact h3
   ·exfalso
    obtain⟨l,d,rfl⟩:∃l d,ms=l++[d]:=by
     rcases List.eq_nil_or_concat ms with h0|⟨l,d,h0⟩
     ·subst h0;cases ha
     ·exact⟨l,d,by simpa using h0⟩
    obtain⟨z,h1,h2⟩:=ends_append.1 h
    have hd:d.2=y:=h2.2
    have hne:d.1≠t:=λ e0=>hl (by
     rw[List.getLast?_concat]
     congr 1
     exact Prod.ext e0 hd)
    have hdt:=ht d (by simp)
    rcases List.mem_append.1 ha with h4|h4
    ·have:=(List.pairwise_append.1 hr).2.2 a h4 d (by simp)
     omega
    ·rw[List.mem_singleton.1 h4]at h3
     exact hne h3
  ·intro m hm
   rcases List.mem_append.1 hm with hm|hm
   ·exact Or.inl hm
   ·exact Or.inr (List.mem_singleton.1 hm)
theorem lows_of {t:Int} {A:List Int} (h:∀x∈A,x≤t):lows t A=A:=by
 unfold lows
 conv=>rhs;rw[←List.map_id A]
 refine List.map_congr_left λ x hx=>?_
 have:=h x hx
 unfold low
 split
 ·simp;omega
 ·rfl
theorem lows_rep {t:Int} {A:List Int} (h:∀x∈A,t<x):lows t A=List.replicate A.length t:=by
 induction A with
 |nil=>rfl
 |cons a r ih=>
  have h1:=h a (by simp)
  show low t a::lows t r=_
  rw[ih λ x hx=>h x (by simp[hx]),List.length_cons,List.replicate_succ]
  unfold low
  rw[if_pos h1]
theorem take_le_t {ms:List Mk} {t:Int}:∀m∈ms.take (readyN (ms.map Prod.fst) t),m.1≤t:=by
 induction ms with
 |nil=>intro m hm;simp at hm
 |cons a r ih=>
  intro m hm
  by_cases ha:a.1≤t
  ·have e1:readyN (List.map Prod.fst (a::r)) t=readyN (r.map Prod.fst) t+1:=by simp[readyN,ha]
   rw[e1,List.take_succ_cons]at hm
   rcases List.mem_cons.1 hm with h|h
   ·rw[h];exact ha
   ·exact ih m h
  ·have e1:readyN (List.map Prod.fst (a::r)) t=0:=by rw[List.map_cons];exact ready_stop _ _ _ (by omega)
   rw[e1]at hm
   cases hm
theorem drop_gt_t {ms:List Mk} {t:Int} (hr:Rise ms):∀m∈ms.drop (readyN (ms.map Prod.fst) t),t<m.1:=by
 induction ms with
 |nil=>intro m hm;simp at hm
 |cons a r ih=>
  have hp:=List.pairwise_cons.1 hr
  intro m hm
  by_cases ha:a.1≤t
  ·have e1:readyN (List.map Prod.fst (a::r)) t=readyN (r.map Prod.fst) t+1:=by simp[readyN,ha]
   rw[e1,List.drop_succ_cons]at hm
   exact ih hp.2 m hm
  ·have e1:readyN (List.map Prod.fst (a::r)) t=0:=by rw[List.map_cons];exact ready_stop _ _ _ (by omega)
   rw[e1]at hm
   rcases List.mem_cons.1 hm with h|h
   ·rw[h];omega
   ·have:=hp.1 m h
    omega
theorem hurry_none {ms:List Mk} {f:Nat} {t:Int} (hk:readyN (ms.map Prod.fst) t=ms.length):lows t (tksM f ms)=tksM f ms:=lows_of λ x hx=>by
 obtain⟨m,h1,rfl⟩:=mem_tks hx
 have:=take_le_t (ms:=ms) (t:=t)
 rw[hk,List.take_length]at this
 exact this m h1
theorem hurry_some {ms:List Mk} {f e k y:Nat} {t:Int} (h:EndsM f ms e) (hr:Rise ms) (hk:readyN (ms.map Prod.fst) t=k) (hlt:k<ms.length) (hy:endAt f ms k=y):
  y<e∧EndsM f (layM (ms.take k) t y e) e∧tksM f (layM (ms.take k) t y e)=lows t (tksM f ms)∧Rise (layM (ms.take k) t y e)∧∀m∈layM (ms.take k) t y e,m∈ms.take k∨m=(t,e):=by
 obtain⟨h1,h2⟩:=ends_at h k (Nat.le_of_lt hlt)
 rw[hy]at h1 h2
 have hye:y<e:=ends_lt h2 (by rw[mk_split ms k hlt];simp)
 have ht1:=take_le_t (ms:=ms) (t:=t)
 have ht2:=drop_gt_t (t:=t) hr
 rw[hk]at ht1 ht2
 obtain⟨a,b,c,d⟩:=lay_all (t:=t) h1 hye (List.Pairwise.sublist (List.take_sublist k ms) hr) ht1
 refine⟨hye,a,?_,c,d⟩
 rw[b]
 conv=>rhs;rw[←List.take_append_drop k ms,tks_append h1]
 have hb1:lows t (tksM f (ms.take k))=tksM f (ms.take k):=lows_of λ x hx=>by
  obtain⟨m,h3,rfl⟩:=mem_tks hx
  exact ht1 m h3
 have hb2:lows t (tksM y (ms.drop k))=List.replicate (e -y) t:=by
  rw[lows_rep (λ x hx=>by
   obtain⟨m,h3,rfl⟩:=mem_tks hx
   exact ht2 m h3),tks_len h2]
 unfold lows at hb1 hb2⊢
 rw[List.map_append,hb1,hb2]
def pcsM (G:Nat) (S:ByteArray):Nat→List Mk→List Pc
 |_,[]=>[]
 |f,m::r=>(m.1,S.extract (f -G) (m.2 -G))::pcsM G S m.2 r
theorem pcs_len (G:Nat) (S:ByteArray) (f:Nat) (ms:List Mk):(pcsM G S f ms).length=ms.length:=by
 induction ms generalizing f with
 |nil=>rfl
 |cons m r ih=>show(pcsM G S m.2 r).length+1=_;rw[ih];rfl
theorem pcs_all {G:Nat} {S:ByteArray} {ms:List Mk} {f e:Nat} (h:EndsM f ms e) (hG:G≤f) (he:e=G+S.size) (hr:Rise ms):
  bytesOf' (pcsM G S f ms)=(nums S).drop (f -G)∧tkOf (pcsM G S f ms)=tksM f ms∧(∀p∈pcsM G S f ms,0<p.2.size)∧∀x,(∀m∈ms,x<m.1)→∀p∈pcsM G S f ms,x<p.1:=by
 induction ms generalizing f with
 |nil=>
  have:f=e:=h
  refine⟨?_,rfl,λ p hp=>(by cases hp),λ _ _ p hp=>(by cases hp)⟩
  rw[List.drop_eq_nil_of_le (by rw[nums_length];omega)]
  rfl
 |cons m r ih=>
  have h1:=h.1
  have h2:=ends_le h.2
  obtain⟨i1,i2,i3,i4⟩:=ih h.2 (by omega) (List.pairwise_cons.1 hr).2
  have hsz:(S.extract (f -G) (m.2 -G)).size=m.2 -f:=by rw[ByteArray.size_extract];omega
  refine⟨?_,?_,?_,?_⟩
  ·show nums (S.extract (f -G) (m.2 -G))++bytesOf' (pcsM G S m.2 r)=_
   rw[i1,ext_nums,show m.2 -G=(f -G)+(m.2 -G -(f -G)) by omega,←List.drop_drop,show f -G+(m.2 -G -(f -G)) -(f -G)=m.2 -G -(f -G) by omega,List.take_append_drop]
  ·show List.replicate (S.extract (f -G) (m.2 -G)).size m.1++tkOf (pcsM G S m.2 r)=List.replicate (m.2 -f) m.1++tksM m.2 r
   rw[i2,hsz]
  ·intro p hp
   rcases List.mem_cons.1 hp with h3|h3
   ·rw[h3]
    show 0<(S.extract (f -G) (m.2 -G)).size
    omega
   ·exact i3 p h3
  ·intro x hx p hp
   rcases List.mem_cons.1 hp with h3|h3
   ·rw[h3];exact hx m (by simp)
   ·exact i4 x (λ m' hm'=>hx m' (by simp[hm'])) p h3
theorem pcs_good {G:Nat} {S:ByteArray} {ms:List Mk} {f e:Nat} (h:EndsM f ms e) (hG:G≤f) (he:e=G+S.size) (hr:Rise ms):Good (pcsM G S f ms):=by
 refine⟨(pcs_all h hG he hr).2.2.1,?_⟩
 induction ms generalizing f with
 |nil=>exact List.Pairwise.nil
 |cons m r ih=>
  have hp:=List.pairwise_cons.1 hr
  have h1:=h.1
  exact List.pairwise_cons.2 ⟨(pcs_all h.2 (by omega) he hp.2).2.2.2 m.1 hp.1,ih h.2 (by omega) hp.2⟩
theorem pcs_runs {G:Nat} {S:ByteArray} {ms:List Mk} {A:List Int} (h:EndsM G ms (G+S.size)) (hr:Rise ms) (hA:tksM G ms=A) (hU:Up A):pcsM G S G ms=runsK S A S.size:=by
 have hl:A.length=S.size:=by rw[←hA,tks_len h];omega
 have hq:=runs_all S A S.size rfl hl S.size (Nat.le_refl _)
 obtain⟨p1,p2,_⟩:=pcs_all h (Nat.le_refl _) rfl hr
 refine runs_unique (pcs_good h (Nat.le_refl _) rfl hr) (hq.2.2.2.2 hU) ?_ ?_
 ·rw[p1,hq.1,Nat.sub_self,List.drop_zero,←nums_length,List.take_length]
 ·rw[p2,hA,hq.2.1,←hl,List.take_length]
theorem pcs_step {G:Nat} {S:ByteArray} {ms:List Mk} {f e:Nat} (h:EndsM f ms e) (k:Nat) (hk:k<ms.length):
  (pcsM G S f ms).take (k+1)=(pcsM G S f ms).take k++[((ms.getD k noMk).1,S.extract (endAt f ms k -G) ((ms.getD k noMk).2 -G))]:=by
 induction ms generalizing f k with
 |nil=>cases hk
 |cons m r ih=>
  cases k with
  |zero=>rfl
  |succ k=>
   have e1:endAt f (m::r) (k+1)=endAt m.2 r k:=by
    unfold endAt
    cases k with
    |zero=>rfl
    |succ j=>rfl
   rw[e1]
   show _::(pcsM G S m.2 r).take (k+1)=_::((pcsM G S m.2 r).take k++_)
   rw[ih h.2 k (by simpa using hk)]
   rfl
theorem tks_up {ms:List Mk} {f:Nat} (hr:Rise ms):Up (tksM f ms):=by
 induction ms generalizing f with
 |nil=>exact List.Pairwise.nil
 |cons m r ih=>
  have hp:=List.pairwise_cons.1 hr
  refine List.pairwise_append.2 ⟨List.pairwise_replicate.2 (Or.inr (Int.le_refl _)),ih hp.2,λ a ha b hb=>?_⟩
  rw[List.eq_of_mem_replicate ha]
  obtain⟨m',h1,rfl⟩:=mem_tks hb
  exact Int.le_of_lt (hp.1 m' h1)
theorem tks_first {ms:List Mk} {f e:Nat} (h:EndsM f ms e):(tksM f ms).getD 0 0=(ms.getD 0 noMk).1∧(0<(tksM f ms).length↔0<ms.length):=by
 cases ms with
 |nil=>exact⟨rfl,Iff.rfl⟩
 |cons m r=>
  obtain⟨j,hj⟩:∃j,m.2 -f=j+1:=⟨m.2 -f -1,by have:=h.1;omega⟩
  have e1:tksM f (m::r)=m.1::(List.replicate j m.1++tksM m.2 r):=by
   show List.replicate (m.2 -f) m.1++tksM m.2 r=_
   rw[hj,List.replicate_succ,List.cons_append]
  rw[e1]
  exact⟨rfl,by simp⟩
end Go.Proofs.YtdighjgcnaajgaaGreat.gc
