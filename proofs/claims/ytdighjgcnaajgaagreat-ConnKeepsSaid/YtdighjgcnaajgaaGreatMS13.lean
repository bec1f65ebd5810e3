import Derived.Test.YtdighjgcnaajgaaGreatMS12
import Derived.Test.YtdighjgcnaajgaaGreatMS11
namespace Go.Proofs.YtdighjgcnaajgaaGreat.gc
open Go.RowKit
def flatM (ms:List Mk):List Value:=ms.flatMap λ m=>[.int .i64 m.1,.int .i64 (m.2:Int)]
theorem flatM_append (l r:List Mk):flatM (l++r)=flatM l++flatM r:=by simp[flatM]
theorem flatM_length (ms:List Mk):(flatM ms).length=ms.length*2:=by
 induction ms with
 |nil=>rfl
 |cons d r ih=>simp only[flatM,List.flatMap_cons,List.length_append,List.length_cons,List.length_nil]at ih⊢;omega
theorem flatM_at (ms:List Mk) (i:Nat) (h:i<ms.length):(flatM ms)[i*2]?=some (.int .i64 (ms.getD i noMk).1)∧(flatM ms)[i*2+1]?=some (.int .i64 ((ms.getD i noMk).2:Int)):=by
 induction ms generalizing i with
 |nil=>cases h
 |cons d r ih=>
  cases i with
  |zero=>exact⟨rfl,rfl⟩
  |succ k=>
   have h':=ih k (by simpa using h)
   have e:flatM (d::r)=.int .i64 d.1::.int .i64 (d.2:Int)::flatM r:=rfl
   rw[e,show(k+1)*2=k*2+1+1 by omega]
   simpa using h'
theorem flatM_one (ms:List Mk):∀v∈flatM ms,v.oneCell'=true:=by
 intro v hv
 simp only[flatM,List.mem_flatMap]at hv
 obtain⟨d,_,hd⟩:=hv
 simp only[List.mem_cons,List.not_mem_nil,or_false]at hd
 rcases hd with rfl|rfl<;>rfl
theorem flatM_take (ms:List Mk) (k:Nat):flatM (ms.take k)=(flatM ms).take (k*2):=by
 induction ms generalizing k with
 |nil=>simp[flatM]
 |cons d r ih=>
  cases k with
  |zero=>rfl
  |succ k=>
   have e:∀l,flatM (d::l)=.int .i64 d.1::.int .i64 (d.2:Int)::flatM l:=λ _=>rfl
   rw[List.take_succ_cons,e,e,show(k+1)*2=k*2+1+1 by omega,List.take_succ_cons,List.take_succ_cons,ih]
theorem flatM_drop (ms:List Mk) (k:Nat):flatM (ms.drop k)=(flatM ms).drop (k*2):=by
 induction ms generalizing k with
 |nil=>simp[flatM]
 |cons d r ih=>
  cases k with
  |zero=>rfl
  |succ k=>
   have e:∀l,flatM (d::l)=.int .i64 d.1::.int .i64 (d.2:Int)::flatM l:=λ _=>rfl
   rw[List.drop_succ_cons,e,show(k+1)*2=k*2+1+1 by omega,List.drop_succ_cons,List.drop_succ_cons,ih]
structure Inv (S:ByteArray) (A:List Int) (last:Int):Prop where
 len:A.length=S.size
 up:Up A
 rg:∀x∈A,0≤x∧x≤last
 last:0≤last∧last≤1099511627776
abbrev U:=Option Nat×Option Nat
def blk (p:Option Addr):Option Nat:=p.map (·.block)
structure Raw (w:World) (base g:Nat) (p:Option Addr) (n c:Nat) (q:Option Addr) (m d:Nat) (S:ByteArray) (ms:List Mk) (G:Nat) (last:Int):Prop where
 blk:w.heap[g]?=some (.cells #[.slice p n c,.slice q m d,.int .i64 (G:Int),.int .i64 last] 225 (0,0))
 row:ORow w base 5 1 p n c ((nums S).map (Value.int .u8))
 mks:ORow w base 249 2 q m d (flatM ms)
 base:base≤g
structure Lg (G:Nat) (S:ByteArray) (ms:List Mk) (A:List Int) (last:Int) (M:Nat):Prop where
 ends:EndsM G ms (G+S.size)
 rise:Rise ms
 tks:tksM G ms=A
 rg:∀m∈ms,0≤m.1∧m.1≤last
 last:0≤last∧last≤1099511627776
 top:G+S.size≤M
 fit:M≤1000000
theorem Lg.inv {G M:Nat} {S:ByteArray} {ms:List Mk} {A:List Int} {last:Int} (h:Lg G S ms A last M):Inv S A last:=by
 refine⟨by rw[←h.tks,tks_len h.ends];omega,by rw[←h.tks];exact tks_up h.rise,λ x hx=>?_,h.last⟩
 rw[←h.tks]at hx
 obtain⟨m,h1,rfl⟩:=mem_tks hx
 exact h.rg m h1
def R (w:World) (base g:Nat) (u:U) (S:ByteArray) (ms:List Mk) (G:Nat) (last:Int):Prop:=∃p n c q m d,Raw w base g p n c q m d S ms G last∧u=(Go.Proofs.YtdighjgcnaajgaaGreat.gc.blk p,Go.Proofs.YtdighjgcnaajgaaGreat.gc.blk q)
def Al (w:World) (base g:Nat) (u:U) (S:ByteArray) (A:List Int) (last:Int) (M:Nat):Prop:=∃ms G,R w base g u S ms G last∧Lg G S ms A last M
structure Kept (w w':World) (g:Nat) (u:U):Prop where
 os:w'.os=w.os
 tape:w'.tape=w.tape
 output:w'.output=w.output
 size:w.heap.size≤w'.heap.size
 block:∀i,i<w.heap.size→i≠g→u.1≠some i→u.2≠some i→w'.heap[i]?=w.heap[i]?
def Newer (w:World) (u u':U):Prop:=(∀i,u'.1=some i→u.1=some i∨w.heap.size≤i)∧∀i,u'.2=some i→u.2=some i∨w.heap.size≤i
structure Chg (w:World) (base g:Nat) (u u':U) (S:ByteArray) (ms:List Mk) (G:Nat) (last:Int) (w':World):Prop where
 r:R w' base g u' S ms G last
 n:Newer w u u'
 k:Kept w w' g u
def Put (w:World) (base g:Nat) (u:U) (S:ByteArray) (A:List Int) (last:Int) (M:Nat) (w':World):Prop:=∃u' ms G,Chg w base g u u' S ms G last w'∧Lg G S ms A last M
def Keeps (w w':World):Prop:=∀(i:Nat) (cs:Array Value) (T:TypeId) (fr:Nat×Nat),w.heap[i]?=some (.cells cs T fr)→T≠225→T≠5→T≠249→w'.heap[i]?=some (.cells cs T fr)
def Two (g:Nat) (u:U) (g':Nat) (u':U):Prop:=g≠g'∧(∀i,u.1=some i→u'.1≠some i)∧∀i,u.2=some i→u'.2≠some i
variable {w w' w'' w0:World} {base g base' g':Nat} {u u':U} {S S':ByteArray} {A A':List Int} {last last':Int} {M M' G G':Nat} {ms ms':List Mk}
theorem blk_some {p:Option Addr} {i:Nat} (h:blk p=some i):∃a,p=some a∧a.block=i:=by
 cases p with
 |none=>cases h
 |some a=>exact⟨a,rfl,by simpa[blk]using h⟩
theorem R.lt (h:R w base g u S ms G last):base≤g∧g<w.heap.size:=by
 obtain⟨p,n,c,q,m,d,hr,_⟩:=h
 exact⟨hr.base,blk_lt hr.blk⟩
theorem R.typed (h:R w base g u S ms G last):(∃cs,w.heap[g]?=some (.cells cs 225 (0,0)))∧(∀i,u.1=some i→base≤i∧∃cs,w.heap[i]?=some (.cells cs 5 (0,0)))∧∀i,u.2=some i→base≤i∧∃cs,w.heap[i]?=some (.cells cs 249 (0,0)):=by
 obtain⟨p,n,c,q,m,d,hr,rfl⟩:=h
 refine⟨⟨_,hr.blk⟩,λ i hi=>?_,λ i hi=>?_⟩
 ·obtain⟨a,h1,rfl⟩:=blk_some hi
  exact⟨(hr.row.lt a h1).1,hr.row.typed a h1⟩
 ·obtain⟨a,h1,rfl⟩:=blk_some hi
  exact⟨(hr.mks.lt a h1).1,hr.mks.typed a h1⟩
theorem R.keep (h:R w base g u S ms G last) (hg:w'.heap[g]?=w.heap[g]?) (h1:∀i,u.1=some i→w'.heap[i]?=w.heap[i]?) (h2:∀i,u.2=some i→w'.heap[i]?=w.heap[i]?):R w' base g u S ms G last:=by
 obtain⟨p,n,c,q,m,d,hr,rfl⟩:=h
 exact⟨p,n,c,q,m,d,⟨hg.trans hr.blk,hr.row.keep λ a e=>h1 _ (by rw[e];rfl),hr.mks.keep λ a e=>h2 _ (by rw[e];rfl),hr.base⟩,rfl⟩
theorem R.on (h:R w base g u S ms G last) (hb:Below w.heap.size w w'):R w' base g u S ms G last:=by
 obtain⟨p,n,c,q,m,d,hr,rfl⟩:=h
 exact⟨p,n,c,q,m,d,⟨(hb.block _ (blk_lt hr.blk)).trans hr.blk,hr.row.on hb,hr.mks.on hb,hr.base⟩,rfl⟩
theorem two_types {i:Nat} {cs cs':Array Value} {T T':TypeId} {fr fr':Nat×Nat} (h:w.heap[i]?=some (.cells cs T fr)) (h':w.heap[i]?=some (.cells cs' T' fr')):T=T':=by
 rw[h]at h'
 injection h' with h'
 injection h' with _ h'
theorem Al.inv (h:Al w base g u S A last M):Inv S A last:=by
 obtain⟨ms,G,_,hl⟩:=h
 exact hl.inv
theorem Al.on (h:Al w base g u S A last M) (hb:Below w.heap.size w w'):Al w' base g u S A last M:=by
 obtain⟨ms,G,hr,hl⟩:=h
 exact⟨ms,G,hr.on hb,hl⟩
theorem Al.set_r (h:Al w base g u S A last M) {gr:Nat} {cs:Array Value} {fr:Nat×Nat} (hi:w.heap[gr]?=some (.cells cs 170 fr)) (j:Nat) (v:Value):Al (w.setCell ⟨gr,j,none⟩ v) base g u S A last M:=by
 obtain⟨ms,G,hr,hl⟩:=h
 obtain⟨⟨cs0,h0⟩,h1,h2⟩:=hr.typed
 refine⟨ms,G,hr.keep (Below.heap_setCell _ _ _ _ ?_) (λ i e=>Below.heap_setCell _ _ _ _ ?_) (λ i e=>Below.heap_setCell _ _ _ _ ?_),hl⟩
 ·intro e;rw[e]at h0;have:=two_types h0 hi;simp at this
 ·intro e';obtain⟨_,cs1,h3⟩:=h1 i e;rw[e']at h3;have:=two_types h3 hi;simp at this
 ·intro e';obtain⟨_,cs1,h3⟩:=h2 i e;rw[e']at h3;have:=two_types h3 hi;simp at this
theorem Al.bounds (h:Al w base g u S A last M):base≤w.heap.size:=by
 obtain⟨ms,G,hr,hl⟩:=h
 have:=hr.lt
 omega
theorem Al.u_base (h:Al w base g u S A last M):(∀i,u.1=some i→base≤i∧i<w.heap.size)∧∀i,u.2=some i→base≤i∧i<w.heap.size:=by
 obtain⟨ms,G,hr,hl⟩:=h
 obtain⟨_,h1,h2⟩:=hr.typed
 exact⟨λ i hi=>⟨(h1 i hi).1,by obtain⟨_,cs,h3⟩:=h1 i hi;exact blk_lt h3⟩,λ i hi=>⟨(h2 i hi).1,by obtain⟨_,cs,h3⟩:=h2 i hi;exact blk_lt h3⟩⟩
theorem R.u_base (hr:R w base g u S ms G last):(∀i,u.1=some i→base≤i∧i<w.heap.size)∧∀i,u.2=some i→base≤i∧i<w.heap.size:=by
 obtain⟨_,h1,h2⟩:=hr.typed
 exact⟨λ i hi=>⟨(h1 i hi).1,by obtain⟨_,cs,h3⟩:=h1 i hi;exact blk_lt h3⟩,λ i hi=>⟨(h2 i hi).1,by obtain⟨_,cs,h3⟩:=h2 i hi;exact blk_lt h3⟩⟩
theorem kept_refl (w:World) (g:Nat) (u:U):Kept w w g u:=⟨rfl,rfl,rfl,Nat.le_refl _,λ _ _ _ _ _=>rfl⟩
theorem kept_below (h:Below w.heap.size w w') (g:Nat) (u:U):Kept w w' g u:=⟨h.os,h.tape,h.output,h.size,λ i hi _ _ _=>h.block i hi⟩
theorem kept_set (h:Kept w0 w g u) (i:Nat) (x:Value):Kept w0 (w.setCell ⟨g,i,none⟩ x) g u:=
 ⟨h.os,h.tape,h.output,by simpa[World.setCell]using h.size,λ j hj hg h1 h2=>(Below.heap_setCell w ⟨g,i,none⟩ x j hg).trans (h.block j hj hg h1 h2)⟩
theorem kept_row (h:Kept w0 w g u) (hg:w.grownBy w' u.1):Kept w0 w' g u:=by
 have hs:=h.size
 exact⟨hg.os.trans h.os,hg.tape.trans h.tape,hg.output.trans h.output,Nat.le_trans h.size hg.size,λ j hj hgj h1 h2=>(hg.block j (by omega) (λ e=>h1 e.symm)).trans (h.block j hj hgj h1 h2)⟩
theorem kept_mks (h:Kept w0 w g u) (hg:w.grownBy w' u.2):Kept w0 w' g u:=by
 have hs:=h.size
 exact⟨hg.os.trans h.os,hg.tape.trans h.tape,hg.output.trans h.output,Nat.le_trans h.size hg.size,λ j hj hgj h1 h2=>(hg.block j (by omega) (λ e=>h2 e.symm)).trans (h.block j hj hgj h1 h2)⟩
theorem kept_trans {u1:U} (h:Kept w w' g u) (hn:Newer w u u1) (k:Kept w' w'' g u1):Kept w w'' g u:=by
 have hs:=h.size
 refine⟨k.os.trans h.os,k.tape.trans h.tape,k.output.trans h.output,Nat.le_trans h.size k.size,λ i hi hg h1 h2=>(k.block i (by omega) hg (λ e=>?_) (λ e=>?_)).trans (h.block i hi hg h1 h2)⟩
 ·rcases hn.1 i e with e|e
  ·exact h1 e
  ·omega
 ·rcases hn.2 i e with e|e
  ·exact h2 e
  ·omega
theorem newer_refl (w:World) (u:U):Newer w u u:=⟨λ _ h=>Or.inl h,λ _ h=>Or.inl h⟩
theorem newer_trans {u1 u2:U} (h:Newer w u u1) (hs:w.heap.size≤w'.heap.size) (k:Newer w' u1 u2):Newer w u u2:=by
 refine⟨λ i e=>?_,λ i e=>?_⟩
 ·rcases k.1 i e with e|e
  ·exact h.1 i e
  ·right;omega
 ·rcases k.2 i e with e|e
  ·exact h.2 i e
  ·right;omega
theorem Chg.pre {u1:U} (hb:Below w.heap.size w w') (hp:Chg w' base g u u1 S ms G last w''):Chg w base g u u1 S ms G last w'':=
 ⟨hp.r,newer_trans (newer_refl w u) hb.size hp.n,kept_trans (kept_below hb g u) (newer_refl w u) hp.k⟩
theorem Chg.post {u1:U} (hp:Chg w base g u u1 S ms G last w') (hb:Below w'.heap.size w' w''):Chg w base g u u1 S ms G last w'':=
 ⟨hp.r.on hb,hp.n,kept_trans hp.k hp.n (kept_below hb g u1)⟩
theorem Chg.seq {u1 u2:U} (hp:Chg w base g u u1 S ms G last w') (hq:Chg w' base g u1 u2 S' ms' G' last' w''):Chg w base g u u2 S' ms' G' last' w'':=
 ⟨hq.r,newer_trans hp.n hp.k.size hq.n,kept_trans hp.k hp.n hq.k⟩
theorem chg_same (h:R w base g u S ms G last):Chg w base g u u S ms G last w:=⟨h,newer_refl w u,kept_refl w g u⟩
theorem Put.pre (_h:Al w base g u S' A' last' M') (hb:Below w.heap.size w w') (hp:Put w' base g u S A last M w''):Put w base g u S A last M w'':=by
 obtain⟨u',ms,G,hc,hl⟩:=hp
 exact⟨u',ms,G,hc.pre hb,hl⟩
theorem Put.post (_h:Al w base g u S' A' last' M') (hp:Put w base g u S A last M w') (hb:Below w'.heap.size w' w''):Put w base g u S A last M w'':=by
 obtain⟨u',ms,G,hc,hl⟩:=hp
 exact⟨u',ms,G,hc.post hb,hl⟩
theorem put_same (h:Al w base g u S A last M):Put w base g u S A last M w:=by
 obtain⟨ms,G,hr,hl⟩:=h
 exact⟨u,ms,G,chg_same hr,hl⟩
theorem Lg.more (h:Lg G S ms A last M) (hM:M≤M') (hf:M'≤1000000):Lg G S ms A last M':=⟨h.ends,h.rise,h.tks,h.rg,h.last,Nat.le_trans h.top hM,hf⟩
theorem Put.more (h:Put w base g u S A last M w') (hM:M≤M') (hf:M'≤1000000):Put w base g u S A last M' w':=by
 obtain⟨u',ms,G,hc,hl⟩:=h
 exact⟨u',ms,G,hc,hl.more hM hf⟩
theorem Al.more (h:Al w base g u S A last M) (hM:M≤M') (hf:M'≤1000000):Al w base g u S A last M':=by
 obtain⟨ms,G,hr,hl⟩:=h
 exact⟨ms,G,hr,hl.more hM hf⟩
theorem Al.size_le (h:Al w base g u S A last M):S.size≤M∧M≤1000000:=by
 obtain⟨ms,G,hr,hl⟩:=h
 have:=hl.top
 exact⟨by omega,hl.fit⟩
theorem put_below (h1:Below w0.heap.size w0 w) (h:Al w base g u S' A' last' M') (hp:Put w base g u S A last M w') (hB:w0.heap.size≤base):Below w0.heap.size w0 w':=by
 obtain⟨u',ms,G,hc,hl⟩:=hp
 obtain⟨hu1,hu2⟩:=h.u_base
 obtain⟨ms',G',hr,hl'⟩:=h
 have hlt:=hr.lt
 exact h1.trans ⟨hc.k.os,hc.k.tape,hc.k.output,hc.k.size,λ i hi=>hc.k.block i (by omega) (by omega) (λ e=>by have:=hu1 i e;omega) λ e=>by have:=hu2 i e;omega⟩
theorem put_ex (hp:Put w base g u S A last M w'):∃u',Al w' base g u' S A last M:=by
 obtain⟨u',ms,G,hc,hl⟩:=hp
 exact⟨u',ms,G,hc.r,hl⟩
theorem keeps_put (h:Al w base g u S' A' last' M') (hp:Put w base g u S A last M w'):Keeps w w':=by
 obtain⟨u',ms,G,hc,hl⟩:=hp
 obtain⟨ms',G',hr,hl'⟩:=h
 obtain⟨⟨cs0,h0⟩,h1,h2⟩:=hr.typed
 intro i cs T fr hi t0 t1 t2
 refine(hc.k.block i (blk_lt hi) (λ e=>?_) (λ e=>?_) (λ e=>?_)).trans hi
 ·rw[e]at hi;exact t0 (two_types hi h0)
 ·obtain⟨_,cs1,h3⟩:=h1 i e;exact t1 (two_types hi h3)
 ·obtain⟨_,cs1,h3⟩:=h2 i e;exact t2 (two_types hi h3)
theorem Two.symm (h:Two g u g' u'):Two g' u' g u:=⟨λ e=>h.1 e.symm,λ i e e'=>h.2.1 i e' e,λ i e e'=>h.2.2 i e' e⟩
theorem chg_other {u1:U} (h1:R w base g u S ms G last) (h2:Al w base' g' u' S' A' last' M') (ht:Two g u g' u') {S1:ByteArray} {ms1:List Mk} {G1:Nat} {l1:Int} (hc:Chg w base g u u1 S1 ms1 G1 l1 w'):
  Al w' base' g' u' S' A' last' M'∧Two g u1 g' u':=by
 obtain⟨ms2,G2,hr2,hl2⟩:=h2
 obtain⟨⟨cs0,a0⟩,a1,a2⟩:=h1.typed
 obtain⟨⟨cs1,b0⟩,b1,b2⟩:=hr2.typed
 refine⟨⟨ms2,G2,hr2.keep (hc.k.block g' (blk_lt b0) (λ e=>ht.1 e.symm) (λ e=>?_) (λ e=>?_)) (λ i hi=>?_) (λ i hi=>?_),hl2⟩,ht.1,λ i hi hi'=>?_,λ i hi hi'=>?_⟩
 ·obtain⟨_,cs,h3⟩:=a1 g' e;have:=two_types b0 h3;simp at this
 ·obtain⟨_,cs,h3⟩:=a2 g' e;have:=two_types b0 h3;simp at this
 ·obtain⟨_,cs,h3⟩:=b1 i hi
  refine hc.k.block i (blk_lt h3) (λ e=>?_) (λ e=>ht.2.1 i e hi) (λ e=>?_)
  ·rw[e]at h3;have:=two_types a0 h3;simp at this
  ·obtain⟨_,cs,h4⟩:=a2 i e;have:=two_types h3 h4;simp at this
 ·obtain⟨_,cs,h3⟩:=b2 i hi
  refine hc.k.block i (blk_lt h3) (λ e=>?_) (λ e=>?_) (λ e=>ht.2.2 i e hi)
  ·rw[e]at h3;have:=two_types a0 h3;simp at this
  ·obtain⟨_,cs,h4⟩:=a1 i e;have:=two_types h3 h4;simp at this
 ·obtain⟨_,cs,h3⟩:=b1 i hi'
  have:=blk_lt h3
  rcases hc.n.1 i hi with e|e
  ·exact ht.2.1 i e hi'
  ·omega
 ·obtain⟨_,cs,h3⟩:=b2 i hi'
  have:=blk_lt h3
  rcases hc.n.2 i hi with e|e
  ·exact ht.2.2 i e hi'
  ·omega
theorem put_other (h1:Al w base g u S A last M) (h2:Al w base' g' u' S' A' last' M') (ht:Two g u g' u') {S1:ByteArray} {A1:List Int} {l1:Int} {M1:Nat} (hp:Put w base g u S1 A1 l1 M1 w'):Al w' base' g' u' S' A' last' M'∧∃u1,Al w' base g u1 S1 A1 l1 M1∧Two g u1 g' u':=by
 obtain⟨u1,ms1,G1,hc,hl⟩:=hp
 obtain⟨ms2,G2,hr,_⟩:=h1
 obtain⟨h3,h4⟩:=chg_other hr h2 ht hc
 exact⟨h3,u1,⟨ms1,G1,hc.r,hl⟩,h4⟩
theorem two_far (h1:Al w base g u S A last M) (_hb:Below w.heap.size w w') (h2:Al w' w.heap.size g' u' S' A' last' M'):Two g u g' u':=by
 obtain⟨a1,a2⟩:=h1.u_base
 obtain⟨b1,b2⟩:=h2.u_base
 obtain⟨ms1,G1,hr1,_⟩:=h1
 obtain⟨ms2,G2,hr2,_⟩:=h2
 have l1:=hr1.lt
 have l2:=hr2.lt
 exact⟨by omega,λ i e e'=>by have:=a1 i e;have:=b1 i e';omega,λ i e e'=>by have:=a2 i e;have:=b2 i e';omega⟩
theorem keeps_cargo (h:Keeps w w') {i:Nat} {cs:Array Value} {fr:Nat×Nat} (hi:w.heap[i]?=some (.cells cs 170 fr)):w'.heap[i]?=some (.cells cs 170 fr):=h i cs _ fr hi (by decide) (by decide) (by decide)
theorem keeps_two (h:Keeps w w') {i:Nat} {cs:Array Value} {fr:Nat×Nat} (hi:w.heap[i]?=some (.cells cs 44 fr)):w'.heap[i]?=some (.cells cs 44 fr):=h i cs _ fr hi (by decide) (by decide) (by decide)
theorem keeps_rowA (h:Keeps w w') {p:Option Addr} {n c:Nat} {xs:List Int} (hr:RowA w p n c xs):RowA w' p n c xs:=by
 obtain⟨h1,h2,h3,h4,h5,h6⟩:=hr
 refine⟨h1,h2,h3,λ hn=>?_,h5,λ hn=>?_⟩
 ·obtain⟨b,o,rfl,hc⟩:=h4 hn
  obtain⟨a,cs,fr,e,hh⟩:=h6 hn
  cases e
  have hh':=h _ _ _ _ hh (by decide) (by decide) (by decide)
  exact⟨b,o,rfl,λ i hi=>(World.cell?_of_block (a:=⟨b,o+i,none⟩) (hh'.trans hh.symm)).trans (hc i hi)⟩
 ·obtain⟨a,cs,fr,e,hh⟩:=h6 hn
  exact⟨a,cs,fr,e,h _ _ _ _ hh (by decide) (by decide) (by decide)⟩
def Own (q:Option Addr) (g:Nat) (u:U):Prop:=∀a,q=some a→a.block≠g∧u.1≠some a.block∧u.2≠some a.block
def PutQ (w:World) (base g:Nat) (u:U) (S:ByteArray) (A:List Int) (last:Int) (M:Nat) (q:Option Addr) (w':World):Prop:=∃u' ms G,Chg w base g u u' S ms G last w'∧Lg G S ms A last M∧Own q g u'∧∀a,q=some a→w.heap.size≤a.block
theorem putq_put {q:Option Addr} (hp:PutQ w base g u S A last M q w'):Put w base g u S A last M w':=by
 obtain⟨u',ms,G,hc,hl,_⟩:=hp
 exact⟨u',ms,G,hc,hl⟩
theorem putq_other {q:Option Addr} (h1:Al w base g u S A last M) (h2:Al w base' g' u' S' A' last' M') (ht:Two g u g' u') {S1:ByteArray} {A1:List Int} {l1:Int} {M1:Nat} (hp:PutQ w base g u S1 A1 l1 M1 q w'):Al w' base' g' u' S' A' last' M'∧∃u1,Al w' base g u1 S1 A1 l1 M1∧Two g u1 g' u'∧Own q g u1:=by
 obtain⟨u1,ms1,G1,hc,hl,ho,_⟩:=hp
 obtain⟨ms2,G2,hr,_⟩:=h1
 obtain⟨h3,h4⟩:=chg_other hr h2 ht hc
 exact⟨h3,u1,⟨ms1,G1,hc.r,hl⟩,h4,ho⟩
theorem bytes_stay {q:Option Addr} (_h:Al w base g u S A last M) (ho:Own q g u) {n:Nat} {xs:List Int} (hi:Lib.BytesIn w q n xs) {S1:ByteArray} {A1:List Int} {l1:Int} {M1:Nat} (hp:Put w base g u S1 A1 l1 M1 w'):Lib.BytesIn w' q n xs:=λ hn=>by
 obtain⟨u1,ms1,G1,hc,hl⟩:=hp
 obtain⟨b,o,rfl,hcl⟩:=hi.at hn
 obtain⟨n1,n2,n3⟩:=ho _ rfl
 refine⟨b,o,rfl,λ i hi'=>?_⟩
 have hb:=World.block_lt_of_cell? w _ (hcl i hi')
 rw[←hcl i hi']
 exact World.cell?_of_block (a:=⟨b,o+i,none⟩) (hc.k.block b hb n1 n2 n3)
theorem bytes_drew {q:Option Addr} {n:Nat} {xs:List Int} (hi:Lib.BytesIn w q n xs):Lib.BytesIn w.drew q n xs:=λ hn=>by
 obtain⟨b,o,rfl,hcl⟩:=hi.at hn
 exact⟨b,o,rfl,λ i hi'=>(hcl i hi')⟩
theorem Raw.set0 {p q p':Option Addr} {n c m d n' c':Nat} (hb:w.heap[g]?=some (.cells #[.slice p n c,.slice q m d,.int .i64 (G:Int),.int .i64 last] 225 (0,0))) (hm:ORow w base 249 2 q m d (flatM ms)) (h0:base≤g) (ho:ORow w base 5 1 p' n' c' ((nums S').map (Value.int .u8))):
  Raw (w.setCell ⟨g,0,none⟩ (.slice p' n' c')) base g p' n' c' q m d S' ms G last:=
 ⟨by rw[set_heap hb];rfl,ho.set hb (by decide) _ _,hm.set hb (by decide) _ _,h0⟩
theorem Raw.set1 {p q q':Option Addr} {n c m d m' d':Nat} (hb:w.heap[g]?=some (.cells #[.slice p n c,.slice q m d,.int .i64 (G:Int),.int .i64 last] 225 (0,0))) (hr:ORow w base 5 1 p n c ((nums S).map (Value.int .u8))) (h0:base≤g) (ho:ORow w base 249 2 q' m' d' (flatM ms')):
  Raw (w.setCell ⟨g,1,none⟩ (.slice q' m' d')) base g p n c q' m' d' S ms' G last:=
 ⟨by rw[set_heap hb];rfl,hr.set hb (by decide) _ _,ho.set hb (by decide) _ _,h0⟩
theorem Raw.set2 {p q:Option Addr} {n c m d:Nat} (h:Raw w base g p n c q m d S ms G last) (G':Nat):Raw (w.setCell ⟨g,2,none⟩ (.int .i64 (G':Int))) base g p n c q m d S ms G' last:=
 ⟨by rw[set_heap h.blk];rfl,h.row.set h.blk (by decide) _ _,h.mks.set h.blk (by decide) _ _,h.base⟩
theorem Raw.set3 {p q:Option Addr} {n c m d:Nat} (h:Raw w base g p n c q m d S ms G last) (l':Int):Raw (w.setCell ⟨g,3,none⟩ (.int .i64 l')) base g p n c q m d S ms G l':=
 ⟨by rw[set_heap h.blk];rfl,h.row.set h.blk (by decide) _ _,h.mks.set h.blk (by decide) _ _,h.base⟩
theorem Raw.on {p q:Option Addr} {n c m d:Nat} (h:Raw w base g p n c q m d S ms G last) (hb:Below w.heap.size w w'):Raw w' base g p n c q m d S ms G last:=
 ⟨(hb.block _ (blk_lt h.blk)).trans h.blk,h.row.on hb,h.mks.on hb,h.base⟩
theorem Raw.sizes {p q:Option Addr} {n c m d:Nat} (h:Raw w base g p n c q m d S ms G last):n=S.size∧m=ms.length∧n≤c∧m≤d∧c≤9223372036854775807∧d≤9223372036854775807:=by
 have h1:=h.row.len
 have h2:=h.mks.len
 have h3:=h.row.max
 have h4:=h.mks.max
 rw[List.length_map,nums_length]at h1
 rw[flatM_length]at h2
 unfold maxLen at h3 h4
 exact⟨by omega,by omega,h.row.cap,h.mks.cap,by omega,by omega⟩
theorem Raw.cells {p q:Option Addr} {n c m d:Nat} (h:Raw w base g p n c q m d S ms G last):w.cell? ⟨g,0,none⟩=some (.slice p n c)∧w.cell? ⟨g,1,none⟩=some (.slice q m d)∧w.cell? ⟨g,2,none⟩=some (.int .i64 (G:Int))∧w.cell? ⟨g,3,none⟩=some (.int .i64 last):=
 ⟨cell_of_row w g 0 _ _ _ h.blk,cell_of_row w g 1 _ _ _ h.blk,cell_of_row w g 2 _ _ _ h.blk,cell_of_row w g 3 _ _ _ h.blk⟩
theorem Raw.mark {p q:Option Addr} {n c m d:Nat} (h:Raw w base g p n c q m d S ms G last) {k:Nat} (hk:k<m):∃b o,q=some ⟨b,o,none⟩∧w.cell? ⟨b,o+k*2,none⟩=some (.int .i64 (ms.getD k noMk).1)∧w.cell? ⟨b,o+k*2+1,none⟩=some (.int .i64 ((ms.getD k noMk).2:Int)):=by
 obtain⟨b,o,e,hc⟩:=h.mks.at (by omega)
 have hm:=h.sizes.2.1
 have hf:=flatM_at ms k (by omega)
 exact⟨b,o,e,hc _ _ hf.1,by rw[Nat.add_assoc];exact hc _ _ hf.2⟩
theorem Raw.r {p q:Option Addr} {n c m d:Nat} (h:Raw w base g p n c q m d S ms G last):R w base g (Go.Proofs.YtdighjgcnaajgaaGreat.gc.blk p,Go.Proofs.YtdighjgcnaajgaaGreat.gc.blk q) S ms G last:=⟨p,n,c,q,m,d,h,rfl⟩
theorem Raw.bytes {p q:Option Addr} {n c m d:Nat} (h:Raw w base g p n c q m d S ms G last):Lib.BytesIn w p n (nums S):=λ hn=>by
 obtain⟨b,o,e,hc⟩:=h.row.at hn
 refine⟨b,o,e,λ i hi=>hc i _ ?_⟩
 have hs:=h.sizes.1
 rw[List.getElem?_map,List.getD_eq_getElem?_getD,List.getElem?_eq_getElem (by rw[nums_length];omega)]
 rfl
end Go.Proofs.YtdighjgcnaajgaaGreat.gc
namespace Go.Proofs.YtdighjgcnaajgaaGreat.gc
open Go.RowKit
set_option maxHeartbeats 400000 in
theorem tnear_any (n:Int) (w:World):Calls Tryz.prog 153 #[.int .i64 n] w λ e w'=>e=.returned (.int .i64 (near n))∧w=w':=by
 go_enter Tryz.func153,Tryz.ntmps153
 go_wp2
 all_goals go_ret
 all_goals exact⟨ret_int (by unfold near;(repeat' split at*)<;>omega),rfl⟩
set_option maxHeartbeats 400000 in
theorem tadd_any (a b:Int) (w:World):Calls Tryz.prog 185 #[.int .i64 a,.int .i64 b] w λ e w'=>e=.returned (.int .i64 (near (near a+near b)))∧w=w':=by
 have ha:=near_range a
 have hb:=near_range b
 go_enter Tryz.func185,Tryz.ntmps185
 go_wp2_with (go_at_call 153;refine(tnear_any _ _).mono ?_;rintro e w' ⟨rfl,rfl⟩)
 go_ret
 exact⟨rfl,rfl⟩
set_option maxHeartbeats 400000 in
theorem cnear_any (a:Int) (w:World):Calls Tryz.prog 204 #[.int .i64 a] w λ e w'=>e=.returned (.int .i64 (near a))∧w=w':=by
 have HE:=Lib.hid (show near (near a+near 0)=near a by
  have h:=near_range a
  rw[show near 0=0 from rfl,Int.add_zero]
  exact near_of _ h.1 h.2)
 go_enter Tryz.func204,Tryz.ntmps204
 go_wp2_with (go_at_call 185;refine(tadd_any _ _ _).mono ?_;rintro e w' ⟨rfl,rfl⟩)
 go_ret
 exact⟨ret_int HE.out,rfl⟩
variable {w:World} {base g:Nat} {u:U} {S:ByteArray} {A:List Int} {last:Int} {M G:Nat} {ms:List Mk}
set_option maxHeartbeats 2000000 in
theorem end_raw (h:R w base g u S ms G last) (hb:G+S.size≤2000000):
  Calls Tryz.prog 205 #[.pointer (some ⟨g,0,none⟩)] w λ e w'=>e=.returned (.int .i64 ((G+S.size:Nat):Int))∧∃m,w'=w.drewN m:=by
 obtain⟨p,n,c,q,m,d,hr,rfl⟩:=h
 obtain⟨g0,g1,g2,g3⟩:=hr.cells
 have hn:=hr.sizes.1
 rw[←hn]at hb⊢
 have HE:=Lib.hid (Int.natCast_add G n)
 clear hr hn g1 g3
 go_enter Tryz.func205,Tryz.ntmps205
 go_wp2_with fail
 go_quiet (fail)
 go_wp2_with fail
 go_ret
 exact⟨ret_int (by first|exact HE.out.symm|(rw[HE.out])),_,rfl⟩
set_option maxHeartbeats 2000000 in
theorem len_raw (h:R w base g u S ms G last):
  Calls Tryz.prog 150 #[.pointer (some ⟨g,0,none⟩)] w λ e w'=>e=.returned (.int .i64 (S.size:Int))∧w=w':=by
 obtain⟨p,n,c,q,m,d,hr,rfl⟩:=h
 obtain⟨g0,g1,g2,g3⟩:=hr.cells
 have hn:=hr.sizes.1
 rw[←hn]
 clear hr hn g1 g2 g3
 go_enter Tryz.func150,Tryz.ntmps150
 go_wp2_with fail
 go_ret
 exact⟨rfl,rfl⟩
def Ask (b1 b2 k:Nat) (f:Bool) (w:World):Prop:=Calls Tryz.prog 208 #[.int .i64 (k:Int),.pointer (some ⟨b1,0,none⟩),.pointer (some ⟨b2,0,none⟩)] w λ e w'=>e=.returned (.bool f)∧∃m,w'=w.drewN m
set_option maxHeartbeats 2000000 in
theorem ask_any (w:World) (b1 b2 g:Nat) (q:Option Addr) (m d k:Nat) (x t:Int) (h1:w.cell? ⟨b1,0,none⟩=some (.pointer (some ⟨g,0,none⟩))) (h2:w.cell? ⟨b2,0,none⟩=some (.int .i64 x)) (h3:w.cell? ⟨g,1,none⟩=some (.slice q m d)) (hk:k<m)
  (b o:Nat) (hq:q=some ⟨b,o,none⟩) (h4:w.cell? ⟨b,o+k*2,none⟩=some (.int .i64 t)):Ask b1 b2 k (decide (x<t)) w:=by
 subst hq
 unfold Ask
 go_enter Tryz.func208,Tryz.ntmps208
 go_wp2_with fail
 go_quiet (fail)
 go_wp2_with fail
 go_ret
 exact⟨rfl,_,rfl⟩
set_option maxHeartbeats 2000000 in
theorem search_any (n N:Nat) (hN:N≤n) (hn:n≤1000000) (b1 b2:Nat) (w:World) (hf:∀m i,i<n→Ask b1 b2 i (decide (N≤i)) (w.drewN m)):
  Calls Tryz.prog 207 #[.int .i64 (n:Int),.func (.func 208) #[] #[.pointer (some ⟨b1,0,none⟩),.pointer (some ⟨b2,0,none⟩)]] w λ e w'=>e=.returned (.int .i64 (N:Int))∧∃m,w'=w.drewN m:=by
 have HF:=Lib.hid hf
 clear hf
 go_enter Tryz.func207,Tryz.ntmps207
 go_wp2_with fail
 go_loopw [5,6] (λ s5 s6 wr=>∃(lo hi k:Nat),s5=.int .i64 lo∧s6=.int .i64 hi∧lo≤N∧N≤hi∧hi≤n∧wr=w.drewN k) (λ s5 s6 _=>(intOf s6).toNat -(intOf s5).toNat)
 case atStart=>exact⟨0,n,0,rfl,rfl,by omega,hN,Nat.le_refl _,rfl⟩
 case round=>
  obtain⟨lo,hi,k,rfl,rfl,h1,h2,h3,rfl⟩:=hrel
  by_cases hlt:lo<hi
  ·have hc:=HF.out k ((lo+hi)/2) (by omega)
   unfold Ask at hc
   rw[show(((lo+hi)/2:Nat):Int)=((lo:Int)+(hi:Int))/2 by omega]at hc
   by_cases hm:N≤(lo+hi)/2
   ·rw[decide_eq_true hm]at hc
    have HC:=Lib.hid hc
    have HM:=Lib.hid hm
    clear hc hm
    go_wp2_with (go_at_call 208;refine HC.out.mono ?_;rintro e w' ⟨rfl,j,rfl⟩)
    go_roundw
    case rel=>exact⟨lo,(lo+hi)/2,k+j,rfl,by rw[show((lo:Int)+(hi:Int))/2=(((lo+hi)/2:Nat):Int) by omega],h1,HM.out,by omega,rfl⟩
    case measure=>simp[intOf];omega
   ·rw[decide_eq_false hm]at hc
    have HC:=Lib.hid hc
    have HM:=Lib.hid hm
    clear hc hm
    go_wp2_with (go_at_call 208;refine HC.out.mono ?_;rintro e w' ⟨rfl,j,rfl⟩)
    go_roundw
    case rel=>exact⟨(lo+hi)/2+1,hi,k+j,by rw[show((lo:Int)+(hi:Int))/2+1=(((lo+hi)/2+1:Nat):Int) by omega],rfl,by have:=HM.out;omega,h2,h3,rfl⟩
    case measure=>simp[intOf];omega
  ·obtain rfl:lo=N:=by omega
   go_wp2_with fail
   go_ret
   exact⟨rfl,k,rfl⟩
end Go.Proofs.YtdighjgcnaajgaaGreat.gc
namespace Go.Proofs.YtdighjgcnaajgaaGreat.gc
open Go.RowKit
variable {w:World} {base g:Nat} {u:U} {S:ByteArray} {A:List Int} {last:Int} {M G:Nat} {ms:List Mk}
set_option maxHeartbeats 2000000 in
theorem due_raw (h:R w base g u S ms G last) (hr:Rise ms) (hm:ms.length≤1000000) (x:Int) {N:Nat} (hN:readyN (ms.map Prod.fst) x=N):
  Calls Tryz.prog 190 #[.pointer (some ⟨g,0,none⟩),.int .i64 x] w λ e w'=>e=.returned (.int .i64 (N:Int))∧Below w.heap.size w w':=by
 obtain⟨p,n,c,q,m,d,hw,rfl⟩:=h
 have hNm:N≤m:=by
  have:=ready_le (ms.map Prod.fst) x
  rw[List.length_map,←hw.sizes.2.1,hN]at this
  exact this
 have hml:m≤1000000:=by rw[hw.sizes.2.1];exact hm
 have hb:=below2 w (.cells #[.pointer (some ⟨g,0,none⟩)] 201 (0,0)) (.cells #[.int .i64 x] 3 (0,0))
 have h2:=two_blocks (Below.refl _ ((w.alloc (.cells #[.pointer (some ⟨g,0,none⟩)] 201 (0,0))).alloc (.cells #[.int .i64 x] 3 (0,0))))
 have hw2:=hw.on hb
 obtain⟨_,k1,_,_⟩:=hw2.cells
 have k2:=cell_of_row _ w.heap.size 0 _ _ _ h2.1
 have k3:=cell_of_row _ (w.heap.size+1) 0 _ _ _ h2.2.1
 have HS:=Lib.hid (search_any m N hNm hml w.heap.size (w.heap.size+1) ((w.alloc (.cells #[.pointer (some ⟨g,0,none⟩)] 201 (0,0))).alloc (.cells #[.int .i64 x] 3 (0,0))) (λ j i hi=>by
  obtain⟨b,o,e,c0,_⟩:=(hw2.on (below_drewN _ j)).mark hi
  rw[←hN,←rise_ready hr x i (by rw[←hw.sizes.2.1];exact hi)]
  exact ask_any _ _ _ g q m d i x _ k2 k3 k1 hi b o e c0))
 have HB:=Lib.hid hb
 have K1:((w.alloc (.cells #[.pointer (some ⟨g,0,none⟩)] 201 (0,0))).alloc (.cells #[.int .i64 x] 3 (0,0))).cell? ⟨g,1,none⟩=some (.slice q m d):=k1
 have K2:((w.alloc (.cells #[.pointer (some ⟨g,0,none⟩)] 201 (0,0))).alloc (.cells #[.int .i64 x] 3 (0,0))).cell? ⟨w.heap.size,0,none⟩=some (.pointer (some ⟨g,0,none⟩)):=k2
 clear h2 hw2 k1 k2 k3 hw hr hm hN hNm hml hb
 go_enter Tryz.func190,Tryz.ntmps190
 go_wp2_with fail
 refine HS.out.mono ?_
 rintro e w' ⟨rfl,j,hj⟩
 have HE:=Lib.hid (show Below w.heap.size w w' by rw[hj];exact seqB HB.out (below_drewN _ j))
 clear hj HS
 go_wp2_with fail
 go_ret
 exact⟨rfl,HE.out⟩
set_option maxHeartbeats 2000000 in
theorem ready_raw (h:R w base g u S ms G last) (hr:Rise ms) (hm:ms.length≤1000000) {e0:Nat} (he:EndsM G ms e0) (hb:e0≤2000000) (x:Int) {N K:Nat} (hN:readyN (ms.map Prod.fst) x=N) (hK:endAt G ms N -G=K):
  Calls Tryz.prog 165 #[.pointer (some ⟨g,0,none⟩),.int .i64 x] w λ e w'=>e=.returned (.int .i64 (K:Int))∧Below w.heap.size w w':=by
 have HD:=Lib.hid (due_raw h hr hm x hN)
 have hNm:N≤ms.length:=by
  have:=ready_le (ms.map Prod.fst) x
  rw[List.length_map,hN]at this
  exact this
 have hbd:=end_bounds he N hNm
 have HH:=Lib.hid h
 clear h hr hN
 cases N with
 |zero=>
  have hK0:K=0:=by
   have:endAt G ms 0=G:=rfl
   omega
  subst hK0
  clear hbd hK
  go_enter Tryz.func165,Tryz.ntmps165
  go_wp2_with fail
  refine HD.out.mono ?_
  rintro e w1 ⟨rfl,hb1⟩
  have HB:=Lib.hid hb1
  clear hb1 HD
  go_wp2_with fail
  go_ret
  exact⟨rfl,HB.out⟩
 |succ j=>
  have hE:(endAt G ms (j+1):Nat)=(ms.getD j noMk).2:=rfl
  rw[hE]at hK hbd
  have HM:=Lib.hid hm
  obtain⟨y,hy⟩:∃y,(ms.getD j noMk).2=y:=⟨_,rfl⟩
  rw[hy]at hK hbd
  have HY:=Lib.hid hy
  have hyK:(y:Int) -(G:Int)=(K:Int):=by omega
  have HKK:=Lib.hid hyK
  rw[Int.natCast_add,Int.natCast_one]at HD
  clear hE hy hK hm
  go_enter Tryz.func165,Tryz.ntmps165
  go_wp2_with fail
  refine HD.out.mono ?_
  rintro e w1 ⟨rfl,hb1⟩
  have HB:=Lib.hid hb1
  obtain⟨p,n,c,q,m,d,hw,_⟩:=HH.out.on hb1
  obtain⟨_,g1,g2,_⟩:=hw.cells
  obtain⟨_,hml,_,hmd,_,hd⟩:=hw.sizes
  have hjm:j<m:=by omega
  obtain⟨b,o,rfl,_,c1⟩:=hw.mark hjm
  rw[HY.out]at c1
  have hmM:m≤1000000:=by rw[hml];exact HM.out
  clear hb1 hw hml HD HH HY
  go_wp2_with fail
  go_quiet (fail)
  go_wp2_with fail
  go_ret
  exact⟨ret_int (by first|exact HKK.out|rfl),seqB HB.out (below_drewN _ _)⟩
end Go.Proofs.YtdighjgcnaajgaaGreat.gc
