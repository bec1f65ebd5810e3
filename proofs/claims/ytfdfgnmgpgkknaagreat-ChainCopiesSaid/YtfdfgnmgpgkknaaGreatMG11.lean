import Derived.Test.YtfdfgnmgpgkknaaGreatMG9
import Derived.Test.YtfdfgnmgpgkknaaGreatMG6
import Derived.Test.YtfdfgnmgpgkknaaGreatMG10
set_option maxHeartbeats 2000000
open List renaming take_succ_cons→zx,getD_eq_getElem?_getD→zi,getElem?_eq_getElem→zj
open Nat renaming le_refl→zg,le_trans→zt
open Go.RowKit.Below renaming heap_setCell→zn,refl→zh
open Go renaming cell_of_row→ze
open Go.Proofs.Tryz renaming prog→zf
open Go.Lib renaming hid→zd
open Go.Proofs.Tryz
namespace Go.Proofs.YtfdfgnmgpgkknaaGreat
namespace gc
open Go.RowKit
def ZU (ms:List Mk):List Value:=ms.flatMap λ m=>[.int .i64 m.1,.int .i64 (m.2:Int)]
theorem Tf (l r:List Mk):ZU (l++r)=ZU l++ZU r:=by simp[ZU]
theorem Y7 (ms:List Mk):(ZU ms).length=ms.length*2:=by
 induction ms with
 |nil=>rfl
 |cons d r ih=>simp only[ZU,List.flatMap_cons,List.length_append,List.length_cons,List.length_nil]at ih⊢;omega
theorem Fc (ms:List Mk) (i:Nat) (h:i<ms.length):(ZU ms)[i*2]?=some (.int .i64 (ms.getD i JM).1)∧(ZU ms)[i*2+1]?=some (.int .i64 ((ms.getD i JM).2:Int)):=by
 induction ms generalizing i with
 |nil=>cases h
 |cons d r ih=>
  cases i with
  |zero=>exact⟨rfl,rfl⟩
  |succ k=>
   have h':=ih k (by simpa using h)
   have e:ZU (d::r)=.int .i64 d.1::.int .i64 (d.2:Int)::ZU r:=rfl
   rw[e,show(k+1)*2=k*2+1+1 by omega]
   simpa using h'
theorem Km (ms:List Mk):∀v∈ZU ms,v.oneCell'=true:=by
 intro v hv
 simp only[ZU,List.mem_flatMap]at hv
 obtain⟨d,_,hd⟩:=hv
 simp only[List.mem_cons,List.not_mem_nil,or_false]at hd
 rcases hd with rfl|rfl<;>rfl
theorem S4 (ms:List Mk) (k:Nat):ZU (ms.take k)=(ZU ms).take (k*2):=by
 induction ms generalizing k with
 |nil=>simp[ZU]
 |cons d r ih=>
  cases k with
  |zero=>rfl
  |succ k=>
   have e:∀l,ZU (d::l)=.int .i64 d.1::.int .i64 (d.2:Int)::ZU l:=λ _=>rfl
   rw[zx,e,e,show(k+1)*2=k*2+1+1 by omega,zx,zx,ih]
theorem S5 (ms:List Mk) (k:Nat):ZU (ms.drop k)=(ZU ms).drop (k*2):=by
 induction ms generalizing k with
 |nil=>simp[ZU]
 |cons d r ih=>
  cases k with
  |zero=>rfl
  |succ k=>
   have e:∀l,ZU (d::l)=.int .i64 d.1::.int .i64 (d.2:Int)::ZU l:=λ _=>rfl
   rw[List.drop_succ_cons,e,show(k+1)*2=k*2+1+1 by omega,List.drop_succ_cons,List.drop_succ_cons,ih]
structure Inv (S:ByteArray) (A:List Int) (last:Int):Prop where
 len:A.length=S.size
 up:Up A
 rg:∀x∈A,0≤x∧x≤last
 last:0≤last∧last≤1099511627776
abbrev U:=Option Nat×Option Nat
def blk (p:Option Addr):Option Nat:=p.map (·.block)
structure Raw (w:World) (base g:Nat) (p:Option Addr) (n c:Nat) (q:Option Addr) (m d:Nat) (S:ByteArray) (ms:List Mk) (G:Nat) (last:Int):Prop where
 blk:w.heap[g]?=some (.cells #[.slice p n c,.slice q m d,.int .i64 (G:Int),.int .i64 last] 137 (0,0))
 row:ORow w base 5 1 p n c ((nums S).map (Value.int .u8))
 mks:ORow w base 142 2 q m d (ZU ms)
 base:base≤g
structure Lg (G:Nat) (S:ByteArray) (ms:List Mk) (A:List Int) (last:Int) (M:Nat):Prop where
 ends:XW G ms (G+S.size)
 rise:Nk ms
 tks:Jv G ms=A
 rg:∀m∈ms,0≤m.1∧m.1≤last
 last:0≤last∧last≤1099511627776
 top:G+S.size≤M
 fit:M≤1000000
theorem Lg.inv {G M:Nat} {S:ByteArray} {ms:List Mk} {A:List Int} {last:Int} (h:Lg G S ms A last M):Inv S A last:=by
 refine⟨by rw[←h.tks,FQ h.ends];omega,by rw[←h.tks];exact DY h.rise,λ x hx=>?_,h.last⟩
 rw[←h.tks]at hx
 obtain⟨m,h1,rfl⟩:=NA hx
 exact h.rg m h1
def R (w:World) (base g:Nat) (u:U) (S:ByteArray) (ms:List Mk) (G:Nat) (last:Int):Prop:=∃p n c q m d,Raw w base g p n c q m d S ms G last∧u=(Go.Proofs.YtfdfgnmgpgkknaaGreat.gc.blk p,Go.Proofs.YtfdfgnmgpgkknaaGreat.gc.blk q)
def Al (w:World) (base g:Nat) (u:U) (S:ByteArray) (A:List Int) (last:Int) (M:Nat):Prop:=∃ms G,R w base g u S ms G last∧Lg G S ms A last M
structure Kept (w w':World) (g:Nat) (u:U):Prop where
 os:w'.os=w.os
 tape:w'.tape=w.tape
 output:w'.output=w.output
 size:w.heap.size≤w'.heap.size
 block:∀i,i<w.heap.size→i≠g→u.1≠some i→u.2≠some i→w'.heap[i]?=w.heap[i]?
def jB (w:World) (u u':U):Prop:=(∀i,u'.1=some i→u.1=some i∨w.heap.size≤i)∧∀i,u'.2=some i→u.2=some i∨w.heap.size≤i
structure Chg (w:World) (base g:Nat) (u u':U) (S:ByteArray) (ms:List Mk) (G:Nat) (last:Int) (w':World):Prop where
 r:R w' base g u' S ms G last
 n:jB w u u'
 k:Kept w w' g u
def Put (w:World) (base g:Nat) (u:U) (S:ByteArray) (A:List Int) (last:Int) (M:Nat) (w':World):Prop:=∃u' ms G,Chg w base g u u' S ms G last w'∧Lg G S ms A last M
def Two (g:Nat) (u:U) (g':Nat) (u':U):Prop:=g≠g'∧(∀i,u.1=some i→u'.1≠some i)∧∀i,u.2=some i→u'.2≠some i
variable {w w' w'' w0:World} {base g base' g':Nat} {u u':U} {S S':ByteArray} {A A':List Int} {last last':Int} {M M' G G':Nat} {ms ms':List Mk}
theorem JG {p:Option Addr} {i:Nat} (h:blk p=some i):∃a,p=some a∧a.block=i:=by
 cases p with
 |none=>cases h
 |some a=>exact⟨a,rfl,by simpa[blk]using h⟩
theorem R.lt (h:R w base g u S ms G last):base≤g∧g<w.heap.size:=by
 obtain⟨p,n,c,q,m,d,hr,_⟩:=h
 exact⟨hr.base,qd hr.blk⟩
theorem R.typed (h:R w base g u S ms G last):(∃cs,w.heap[g]?=some (.cells cs 137 (0,0)))∧(∀i,u.1=some i→base≤i∧∃cs,w.heap[i]?=some (.cells cs 5 (0,0)))∧∀i,u.2=some i→base≤i∧∃cs,w.heap[i]?=some (.cells cs 142 (0,0)):=by
 obtain⟨p,n,c,q,m,d,hr,rfl⟩:=h
 refine⟨⟨_,hr.blk⟩,λ i hi=>?_,λ i hi=>?_⟩
 ·obtain⟨a,h1,rfl⟩:=JG hi
  exact⟨(hr.row.lt a h1).1,hr.row.typed a h1⟩
 ·obtain⟨a,h1,rfl⟩:=JG hi
  exact⟨(hr.mks.lt a h1).1,hr.mks.typed a h1⟩
theorem R.keep (h:R w base g u S ms G last) (hg:w'.heap[g]?=w.heap[g]?) (h1:∀i,u.1=some i→w'.heap[i]?=w.heap[i]?) (h2:∀i,u.2=some i→w'.heap[i]?=w.heap[i]?):R w' base g u S ms G last:=by
 obtain⟨p,n,c,q,m,d,hr,rfl⟩:=h
 exact⟨p,n,c,q,m,d,⟨hg.trans hr.blk,hr.row.keep λ a e=>h1 _ (by rw[e];rfl),hr.mks.keep λ a e=>h2 _ (by rw[e];rfl),hr.base⟩,rfl⟩
theorem R.on (h:R w base g u S ms G last) (hb:Below w.heap.size w w'):R w' base g u S ms G last:=by
 obtain⟨p,n,c,q,m,d,hr,rfl⟩:=h
 exact⟨p,n,c,q,m,d,⟨(hb.block _ (qd hr.blk)).trans hr.blk,hr.row.on hb,hr.mks.on hb,hr.base⟩,rfl⟩
theorem Zo {i:Nat} {cs cs':Array Value} {T T':TypeId} {fr fr':Nat×Nat} (h:w.heap[i]?=some (.cells cs T fr)) (h':w.heap[i]?=some (.cells cs' T' fr')):T=T':=by
 rw[h]at h'
 injection h' with h'
 injection h' with _ h'
theorem Al.inv (h:Al w base g u S A last M):Inv S A last:=by
 obtain⟨ms,G,_,hl⟩:=h
 exact hl.inv
theorem Al.on (h:Al w base g u S A last M) (hb:Below w.heap.size w w'):Al w' base g u S A last M:=by
 obtain⟨ms,G,hr,hl⟩:=h
 exact⟨ms,G,hr.on hb,hl⟩
theorem Al.UQ (h:Al w base g u S A last M):(∀i,u.1=some i→base≤i∧i<w.heap.size)∧∀i,u.2=some i→base≤i∧i<w.heap.size:=by
 obtain⟨ms,G,hr,hl⟩:=h
 obtain⟨_,h1,h2⟩:=hr.typed
 exact⟨λ i hi=>⟨(h1 i hi).1,by obtain⟨_,cs,h3⟩:=h1 i hi;exact qd h3⟩,λ i hi=>⟨(h2 i hi).1,by obtain⟨_,cs,h3⟩:=h2 i hi;exact qd h3⟩⟩
theorem R.UQ (hr:R w base g u S ms G last):(∀i,u.1=some i→base≤i∧i<w.heap.size)∧∀i,u.2=some i→base≤i∧i<w.heap.size:=by
 obtain⟨_,h1,h2⟩:=hr.typed
 exact⟨λ i hi=>⟨(h1 i hi).1,by obtain⟨_,cs,h3⟩:=h1 i hi;exact qd h3⟩,λ i hi=>⟨(h2 i hi).1,by obtain⟨_,cs,h3⟩:=h2 i hi;exact qd h3⟩⟩
theorem kept_refl (w:World) (g:Nat) (u:U):Kept w w g u:=⟨rfl,rfl,rfl,zg _,λ _ _ _ _ _=>rfl⟩
theorem X2 (h:Below w.heap.size w w') (g:Nat) (u:U):Kept w w' g u:=⟨h.os,h.tape,h.output,h.size,λ i hi _ _ _=>h.block i hi⟩
theorem YQ (h:Kept w0 w g u) (i:Nat) (x:Value):Kept w0 (w.setCell ⟨g,i,none⟩ x) g u:=
 ⟨h.os,h.tape,h.output,by simpa[World.setCell]using h.size,λ j hj hg h1 h2=>(zn w ⟨g,i,none⟩ x j hg).trans (h.block j hj hg h1 h2)⟩
theorem GM (h:Kept w0 w g u) (hg:w.grownBy w' u.1):Kept w0 w' g u:=by
 have hs:=h.size
 exact⟨hg.os.trans h.os,hg.tape.trans h.tape,hg.output.trans h.output,zt h.size hg.size,λ j hj hgj h1 h2=>(hg.block j (by omega) (λ e=>h1 e.symm)).trans (h.block j hj hgj h1 h2)⟩
theorem GN (h:Kept w0 w g u) (hg:w.grownBy w' u.2):Kept w0 w' g u:=by
 have hs:=h.size
 exact⟨hg.os.trans h.os,hg.tape.trans h.tape,hg.output.trans h.output,zt h.size hg.size,λ j hj hgj h1 h2=>(hg.block j (by omega) (λ e=>h2 e.symm)).trans (h.block j hj hgj h1 h2)⟩
theorem Jp {u1:U} (h:Kept w w' g u) (hn:jB w u u1) (k:Kept w' w'' g u1):Kept w w'' g u:=by
 have hs:=h.size
 refine⟨k.os.trans h.os,k.tape.trans h.tape,k.output.trans h.output,zt h.size k.size,λ i hi hg h1 h2=>(k.block i (by omega) hg (λ e=>?_) (λ e=>?_)).trans (h.block i hi hg h1 h2)⟩
 ·rcases hn.1 i e with e|e
  ·exact h1 e
  ·omega
 ·rcases hn.2 i e with e|e
  ·exact h2 e
  ·omega
theorem Xu (w:World) (u:U):jB w u u:=⟨λ _ h=>Or.inl h,λ _ h=>Or.inl h⟩
theorem Vr {u1 u2:U} (h:jB w u u1) (hs:w.heap.size≤w'.heap.size) (k:jB w' u1 u2):jB w u u2:=by
 refine⟨λ i e=>?_,λ i e=>?_⟩
 ·rcases k.1 i e with e|e
  ·exact h.1 i e
  ·right;omega
 ·rcases k.2 i e with e|e
  ·exact h.2 i e
  ·right;omega
theorem Chg.pre {u1:U} (hb:Below w.heap.size w w') (hp:Chg w' base g u u1 S ms G last w''):Chg w base g u u1 S ms G last w'':=
 ⟨hp.r,Vr (Xu w u) hb.size hp.n,Jp (X2 hb g u) (Xu w u) hp.k⟩
theorem Chg.post {u1:U} (hp:Chg w base g u u1 S ms G last w') (hb:Below w'.heap.size w' w''):Chg w base g u u1 S ms G last w'':=
 ⟨hp.r.on hb,hp.n,Jp hp.k hp.n (X2 hb g u1)⟩
theorem Chg.seq {u1 u2:U} (hp:Chg w base g u u1 S ms G last w') (hq:Chg w' base g u1 u2 S' ms' G' last' w''):Chg w base g u u2 S' ms' G' last' w'':=
 ⟨hq.r,Vr hp.n hp.k.size hq.n,Jp hp.k hp.n hq.k⟩
theorem Fo (h:R w base g u S ms G last):Chg w base g u u S ms G last w:=⟨h,Xu w u,kept_refl w g u⟩
theorem Put.pre (_h:Al w base g u S' A' last' M') (hb:Below w.heap.size w w') (hp:Put w' base g u S A last M w''):Put w base g u S A last M w'':=by
 obtain⟨u',ms,G,hc,hl⟩:=hp
 exact⟨u',ms,G,hc.pre hb,hl⟩
theorem Put.post (_h:Al w base g u S' A' last' M') (hp:Put w base g u S A last M w') (hb:Below w'.heap.size w' w''):Put w base g u S A last M w'':=by
 obtain⟨u',ms,G,hc,hl⟩:=hp
 exact⟨u',ms,G,hc.post hb,hl⟩
theorem Lg.more (h:Lg G S ms A last M) (hM:M≤M') (hf:M'≤1000000):Lg G S ms A last M':=⟨h.ends,h.rise,h.tks,h.rg,h.last,zt h.top hM,hf⟩
theorem Put.more (h:Put w base g u S A last M w') (hM:M≤M') (hf:M'≤1000000):Put w base g u S A last M' w':=by
 obtain⟨u',ms,G,hc,hl⟩:=h
 exact⟨u',ms,G,hc,hl.more hM hf⟩
theorem Al.more (h:Al w base g u S A last M) (hM:M≤M') (hf:M'≤1000000):Al w base g u S A last M':=by
 obtain⟨ms,G,hr,hl⟩:=h
 exact⟨ms,G,hr,hl.more hM hf⟩
theorem Al.size_le (h:Al w base g u S A last M):S.size≤M∧M≤1000000:=by
 obtain⟨ms,G,hr,hl⟩:=h
 have:=hl.top
 exact⟨by omega,hl.fit⟩
theorem Two.symm (h:Two g u g' u'):Two g' u' g u:=⟨λ e=>h.1 e.symm,λ i e e'=>h.2.1 i e' e,λ i e e'=>h.2.2 i e' e⟩
def Own (q:Option Addr) (g:Nat) (u:U):Prop:=∀a,q=some a→a.block≠g∧u.1≠some a.block∧u.2≠some a.block
def AH (w:World) (base g:Nat) (u:U) (S:ByteArray) (A:List Int) (last:Int) (M:Nat) (q:Option Addr) (w':World):Prop:=∃u' ms G,Chg w base g u u' S ms G last w'∧Lg G S ms A last M∧Own q g u'
theorem Raw.BZ {p q p':Option Addr} {n c m d n' c':Nat} (hb:w.heap[g]?=some (.cells #[.slice p n c,.slice q m d,.int .i64 (G:Int),.int .i64 last] 137 (0,0))) (hm:ORow w base 142 2 q m d (ZU ms)) (h0:base≤g) (ho:ORow w base 5 1 p' n' c' ((nums S').map (Value.int .u8))):
  Raw (w.setCell ⟨g,0,none⟩ (.slice p' n' c')) base g p' n' c' q m d S' ms G last:=
 ⟨by rw[qo hb];rfl,ho.set hb (by decide) _ _,hm.set hb (by decide) _ _,h0⟩
theorem Raw.BY {p q q':Option Addr} {n c m d m' d':Nat} (hb:w.heap[g]?=some (.cells #[.slice p n c,.slice q m d,.int .i64 (G:Int),.int .i64 last] 137 (0,0))) (hr:ORow w base 5 1 p n c ((nums S).map (Value.int .u8))) (h0:base≤g) (ho:ORow w base 142 2 q' m' d' (ZU ms')):
  Raw (w.setCell ⟨g,1,none⟩ (.slice q' m' d')) base g p n c q' m' d' S ms' G last:=
 ⟨by rw[qo hb];rfl,hr.set hb (by decide) _ _,ho.set hb (by decide) _ _,h0⟩
theorem Raw.AN {p q:Option Addr} {n c m d:Nat} (h:Raw w base g p n c q m d S ms G last) (G':Nat):Raw (w.setCell ⟨g,2,none⟩ (.int .i64 (G':Int))) base g p n c q m d S ms G' last:=
 ⟨by rw[qo h.blk];rfl,h.row.set h.blk (by decide) _ _,h.mks.set h.blk (by decide) _ _,h.base⟩
theorem Raw.Y0 {p q:Option Addr} {n c m d:Nat} (h:Raw w base g p n c q m d S ms G last) (l':Int):Raw (w.setCell ⟨g,3,none⟩ (.int .i64 l')) base g p n c q m d S ms G l':=
 ⟨by rw[qo h.blk];rfl,h.row.set h.blk (by decide) _ _,h.mks.set h.blk (by decide) _ _,h.base⟩
theorem Raw.on {p q:Option Addr} {n c m d:Nat} (h:Raw w base g p n c q m d S ms G last) (hb:Below w.heap.size w w'):Raw w' base g p n c q m d S ms G last:=
 ⟨(hb.block _ (qd h.blk)).trans h.blk,h.row.on hb,h.mks.on hb,h.base⟩
theorem Raw.Xp {p q:Option Addr} {n c m d:Nat} (h:Raw w base g p n c q m d S ms G last):n=S.size∧m=ms.length∧n≤c∧m≤d∧c≤9223372036854775807∧d≤9223372036854775807:=by
 have h1:=h.row.len
 have h2:=h.mks.len
 have h3:=h.row.max
 have h4:=h.mks.max
 rw[List.length_map,nums_length]at h1
 rw[Y7]at h2
 unfold maxLen at h3 h4
 exact⟨by omega,by omega,h.row.cap,h.mks.cap,by omega,by omega⟩
theorem Raw.cells {p q:Option Addr} {n c m d:Nat} (h:Raw w base g p n c q m d S ms G last):w.cell? ⟨g,0,none⟩=some (.slice p n c)∧w.cell? ⟨g,1,none⟩=some (.slice q m d)∧w.cell? ⟨g,2,none⟩=some (.int .i64 (G:Int))∧w.cell? ⟨g,3,none⟩=some (.int .i64 last):=
 ⟨ze w g 0 _ _ _ h.blk,ze w g 1 _ _ _ h.blk,ze w g 2 _ _ _ h.blk,ze w g 3 _ _ _ h.blk⟩
theorem Raw.mark {p q:Option Addr} {n c m d:Nat} (h:Raw w base g p n c q m d S ms G last) {k:Nat} (hk:k<m):∃b o,q=some ⟨b,o,none⟩∧w.cell? ⟨b,o+k*2,none⟩=some (.int .i64 (ms.getD k JM).1)∧w.cell? ⟨b,o+k*2+1,none⟩=some (.int .i64 ((ms.getD k JM).2:Int)):=by
 obtain⟨b,o,e,hc⟩:=h.mks.at (by omega)
 have hm:=h.Xp.2.1
 have hf:=Fc ms k (by omega)
 exact⟨b,o,e,hc _ _ hf.1,by rw[Nat.add_assoc];exact hc _ _ hf.2⟩
theorem Raw.r {p q:Option Addr} {n c m d:Nat} (h:Raw w base g p n c q m d S ms G last):R w base g (Go.Proofs.YtfdfgnmgpgkknaaGreat.gc.blk p,Go.Proofs.YtfdfgnmgpgkknaaGreat.gc.blk q) S ms G last:=⟨p,n,c,q,m,d,h,rfl⟩
theorem Raw.bytes {p q:Option Addr} {n c m d:Nat} (h:Raw w base g p n c q m d S ms G last):Lib.BytesIn w p n (nums S):=λ hn=>by
 obtain⟨b,o,e,hc⟩:=h.row.at hn
 refine⟨b,o,e,λ i hi=>hc i _ ?_⟩
 have hs:=h.Xp.1
 rw[List.getElem?_map,zi,zj (by rw[nums_length];omega)]
 rfl
end gc
namespace gc
open Go.RowKit
theorem Pb (n:Int) (w:World):Calls zf 122 #[.int .i64 n] w λ e w'=>e=.returned (.int .i64 (qe n))∧w=w':=by
 go_enter func122,ntmps122
 go_wp2
 all_goals go_ret
 all_goals exact⟨qR (by unfold qe;(repeat' split at*)<;>omega),rfl⟩
theorem LY (a b:Int) (w:World):Calls zf 97 #[.int .i64 a,.int .i64 b] w λ e w'=>e=.returned (.int .i64 (qe (qe a+qe b)))∧w=w':=by
 have ha:=qw a
 have hb:=qw b
 go_enter func97,ntmps97
 go_wp2_with (go_at_call 122;refine(Pb _ _).mono ?_;rintro e w' ⟨rfl,rfl⟩)
 go_ret
 exact⟨rfl,rfl⟩
theorem Kr (a:Int) (w:World):Calls zf 119 #[.int .i64 a] w λ e w'=>e=.returned (.int .i64 (qe a))∧w=w':=by
 have HE:=zd (show qe (qe a+qe 0)=qe a by
  have h:=qw a
  rw[show qe 0=0 from rfl,Int.add_zero]
  exact Xv _ h.1 h.2)
 go_enter func119,ntmps119
 go_wp2_with (go_at_call 97;refine(LY _ _ _).mono ?_;rintro e w' ⟨rfl,rfl⟩)
 go_ret
 exact⟨qR HE.out,rfl⟩
variable {w:World} {base g:Nat} {u:U} {S:ByteArray} {A:List Int} {last:Int} {M G:Nat} {ms:List Mk}
theorem UG (h:R w base g u S ms G last) (hb:G+S.size≤2000000):
  Calls zf 120 #[.pointer (some ⟨g,0,none⟩)] w λ e w'=>e=.returned (.int .i64 ((G+S.size:Nat):Int))∧∃m,w'=w.drewN m:=by
 obtain⟨p,n,c,q,m,d,hr,rfl⟩:=h
 obtain⟨g0,g1,g2,g3⟩:=hr.cells
 have hn:=hr.Xp.1
 rw[←hn]at hb⊢
 have HE:=zd (Int.natCast_add G n)
 clear hr hn g1 g3
 go_enter func120,ntmps120
 go_wp2_with fail
 go_quiet (fail)
 go_wp2_with fail
 go_ret
 exact⟨qR (by first|exact HE.out.symm|(rw[HE.out])),_,rfl⟩
theorem K8 (h:R w base g u S ms G last):
  Calls zf 78 #[.pointer (some ⟨g,0,none⟩)] w λ e w'=>e=.returned (.int .i64 (S.size:Int))∧w=w':=by
 obtain⟨p,n,c,q,m,d,hr,rfl⟩:=h
 obtain⟨g0,g1,g2,g3⟩:=hr.cells
 have hn:=hr.Xp.1
 rw[←hn]
 clear hr hn g1 g2 g3
 go_enter func78,ntmps78
 go_wp2_with fail
 go_ret
 exact⟨rfl,rfl⟩
def Ask (b1 b2 k:Nat) (f:Bool) (w:World):Prop:=Calls zf 125 #[.int .i64 (k:Int),.pointer (some ⟨b1,0,none⟩),.pointer (some ⟨b2,0,none⟩)] w λ e w'=>e=.returned (.bool f)∧∃m,w'=w.drewN m
theorem Dg (w:World) (b1 b2 g:Nat) (q:Option Addr) (m d k:Nat) (x t:Int) (h1:w.cell? ⟨b1,0,none⟩=some (.pointer (some ⟨g,0,none⟩))) (h2:w.cell? ⟨b2,0,none⟩=some (.int .i64 x)) (h3:w.cell? ⟨g,1,none⟩=some (.slice q m d)) (hk:k<m)
  (b o:Nat) (hq:q=some ⟨b,o,none⟩) (h4:w.cell? ⟨b,o+k*2,none⟩=some (.int .i64 t)):Ask b1 b2 k (decide (x<t)) w:=by
 subst hq
 unfold Ask
 go_enter func125,ntmps125
 go_wp2_with fail
 go_quiet (fail)
 go_wp2_with fail
 go_ret
 exact⟨rfl,_,rfl⟩
theorem Sc (n N:Nat) (hN:N≤n) (hn:n≤1000000) (b1 b2:Nat) (w:World) (hf:∀m i,i<n→Ask b1 b2 i (decide (N≤i)) (w.drewN m)):
  Calls zf 124 #[.int .i64 (n:Int),.func (.func 125) #[] #[.pointer (some ⟨b1,0,none⟩),.pointer (some ⟨b2,0,none⟩)]] w λ e w'=>e=.returned (.int .i64 (N:Int))∧∃m,w'=w.drewN m:=by
 have HF:=zd hf
 clear hf
 go_enter func124,ntmps124
 go_wp2_with fail
 go_loopw [5,6] (λ s5 s6 wr=>∃(lo hi k:Nat),s5=.int .i64 lo∧s6=.int .i64 hi∧lo≤N∧N≤hi∧hi≤n∧wr=w.drewN k) (λ s5 s6 _=>(intOf s6).toNat -(intOf s5).toNat)
 case atStart=>exact⟨0,n,0,rfl,rfl,by omega,hN,zg _,rfl⟩
 case round=>
  obtain⟨lo,hi,k,rfl,rfl,h1,h2,h3,rfl⟩:=hrel
  by_cases hlt:lo<hi
  ·have hc:=HF.out k ((lo+hi)/2) (by omega)
   unfold Ask at hc
   rw[show(((lo+hi)/2:Nat):Int)=((lo:Int)+(hi:Int))/2 by omega]at hc
   by_cases hm:N≤(lo+hi)/2
   ·rw[decide_eq_true hm]at hc
    have HC:=zd hc
    have HM:=zd hm
    clear hc hm
    go_wp2_with (go_at_call 125;refine HC.out.mono ?_;rintro e w' ⟨rfl,j,rfl⟩)
    go_roundw
    case rel=>exact⟨lo,(lo+hi)/2,k+j,rfl,by rw[show((lo:Int)+(hi:Int))/2=(((lo+hi)/2:Nat):Int) by omega],h1,HM.out,by omega,rfl⟩
    case measure=>simp[intOf];omega
   ·rw[decide_eq_false hm]at hc
    have HC:=zd hc
    have HM:=zd hm
    clear hc hm
    go_wp2_with (go_at_call 125;refine HC.out.mono ?_;rintro e w' ⟨rfl,j,rfl⟩)
    go_roundw
    case rel=>exact⟨(lo+hi)/2+1,hi,k+j,by rw[show((lo:Int)+(hi:Int))/2+1=(((lo+hi)/2+1:Nat):Int) by omega],rfl,by have:=HM.out;omega,h2,h3,rfl⟩
    case measure=>simp[intOf];omega
  ·obtain rfl:lo=N:=by omega
   go_wp2_with fail
   go_ret
   exact⟨rfl,k,rfl⟩
end gc
namespace gc
open Go.RowKit
variable {w:World} {base g:Nat} {u:U} {S:ByteArray} {A:List Int} {last:Int} {M G:Nat} {ms:List Mk}
theorem E2 (h:R w base g u S ms G last) (hr:Nk ms) (hm:ms.length≤1000000) (x:Int) {N:Nat} (hN:qn (ms.map Prod.fst) x=N):
  Calls zf 101 #[.pointer (some ⟨g,0,none⟩),.int .i64 x] w λ e w'=>e=.returned (.int .i64 (N:Int))∧Below w.heap.size w w':=by
 obtain⟨p,n,c,q,m,d,hw,rfl⟩:=h
 have hNm:N≤m:=by
  have:=XK (ms.map Prod.fst) x
  rw[List.length_map,←hw.Xp.2.1,hN]at this
  exact this
 have hml:m≤1000000:=by rw[hw.Xp.2.1];exact hm
 have hb:=Xw w (.cells #[.pointer (some ⟨g,0,none⟩)] 110 (0,0)) (.cells #[.int .i64 x] 3 (0,0))
 have h2:=Zk (zh _ ((w.alloc (.cells #[.pointer (some ⟨g,0,none⟩)] 110 (0,0))).alloc (.cells #[.int .i64 x] 3 (0,0))))
 have hw2:=hw.on hb
 obtain⟨_,k1,_,_⟩:=hw2.cells
 have k2:=ze _ w.heap.size 0 _ _ _ h2.1
 have k3:=ze _ (w.heap.size+1) 0 _ _ _ h2.2.1
 have HS:=zd (Sc m N hNm hml w.heap.size (w.heap.size+1) ((w.alloc (.cells #[.pointer (some ⟨g,0,none⟩)] 110 (0,0))).alloc (.cells #[.int .i64 x] 3 (0,0))) (λ j i hi=>by
  obtain⟨b,o,e,c0,_⟩:=(hw2.on (below_drewN _ j)).mark hi
  rw[←hN,←Sl hr x i (by rw[←hw.Xp.2.1];exact hi)]
  exact Dg _ _ _ g q m d i x _ k2 k3 k1 hi b o e c0))
 have HB:=zd hb
 have K1:((w.alloc (.cells #[.pointer (some ⟨g,0,none⟩)] 110 (0,0))).alloc (.cells #[.int .i64 x] 3 (0,0))).cell? ⟨g,1,none⟩=some (.slice q m d):=k1
 have K2:((w.alloc (.cells #[.pointer (some ⟨g,0,none⟩)] 110 (0,0))).alloc (.cells #[.int .i64 x] 3 (0,0))).cell? ⟨w.heap.size,0,none⟩=some (.pointer (some ⟨g,0,none⟩)):=k2
 clear h2 hw2 k1 k2 k3 hw hr hm hN hNm hml hb
 go_enter func101,ntmps101
 go_wp2_with fail
 refine HS.out.mono ?_
 rintro e w' ⟨rfl,j,hj⟩
 have HE:=zd (show Below w.heap.size w w' by rw[hj];exact seqB HB.out (below_drewN _ j))
 clear hj HS
 go_wp2_with fail
 go_ret
 exact⟨rfl,HE.out⟩
theorem jV (h:R w base g u S ms G last) (hr:Nk ms) (hm:ms.length≤1000000) {e0:Nat} (he:XW G ms e0) (hb:e0≤2000000) (x:Int) {N K:Nat} (hN:qn (ms.map Prod.fst) x=N) (hK:JR G ms N -G=K):
  Calls zf 75 #[.pointer (some ⟨g,0,none⟩),.int .i64 x] w λ e w'=>e=.returned (.int .i64 (K:Int))∧Below w.heap.size w w':=by
 have HD:=zd (E2 h hr hm x hN)
 have hNm:N≤ms.length:=by
  have:=XK (ms.map Prod.fst) x
  rw[List.length_map,hN]at this
  exact this
 have hbd:=js he N hNm
 have HH:=zd h
 clear h hr hN
 cases N with
 |zero=>
  have hK0:K=0:=by
   have:JR G ms 0=G:=rfl
   omega
  subst hK0
  clear hbd hK
  go_enter func75,ntmps75
  go_wp2_with fail
  refine HD.out.mono ?_
  rintro e w1 ⟨rfl,hb1⟩
  have HB:=zd hb1
  clear hb1 HD
  go_wp2_with fail
  go_ret
  exact⟨rfl,HB.out⟩
 |succ j=>
  have hE:(JR G ms (j+1):Nat)=(ms.getD j JM).2:=rfl
  rw[hE]at hK hbd
  have HM:=zd hm
  obtain⟨y,hy⟩:∃y,(ms.getD j JM).2=y:=⟨_,rfl⟩
  rw[hy]at hK hbd
  have HY:=zd hy
  have hyK:(y:Int) -(G:Int)=(K:Int):=by omega
  have HKK:=zd hyK
  rw[Int.natCast_add,Int.natCast_one]at HD
  clear hE hy hK hm
  go_enter func75,ntmps75
  go_wp2_with fail
  refine HD.out.mono ?_
  rintro e w1 ⟨rfl,hb1⟩
  have HB:=zd hb1
  obtain⟨p,n,c,q,m,d,hw,_⟩:=HH.out.on hb1
  obtain⟨_,g1,g2,_⟩:=hw.cells
  obtain⟨_,hml,_,hmd,_,hd⟩:=hw.Xp
  have hjm:j<m:=by omega
  obtain⟨b,o,rfl,_,c1⟩:=hw.mark hjm
  rw[HY.out]at c1
  have hmM:m≤1000000:=by rw[hml];exact HM.out
  clear hb1 hw hml HD HH HY
  go_wp2_with fail
  go_quiet (fail)
  go_wp2_with fail
  go_ret
  exact⟨qR (by first|exact HKK.out|rfl),seqB HB.out (below_drewN _ _)⟩
end gc
end Go.Proofs.YtfdfgnmgpgkknaaGreat
