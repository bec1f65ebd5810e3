import Derived.Test.YtdighjgcnaajgaaGreatMT1
namespace Go.Proofs.YtdighjgcnaajgaaGreat
open Go.RowKit
def tolC (s:Told):Array Value:=#[.string s.x.b,.int .i64 s.x.e,.string s.y.b,.int .i64 s.y.e]
def KMt (w:World) (V:Own) (g a b:Nat) (p:Option Addr) (cap T:Nat) (s:Told) (M:Nat) (W:World):Prop:=
 ∃V1 V2,KAt W V1 V2 g a b p cap s.k M∧¬blkK g p V1 V2 T∧Mvd w (orU V (·=T)) W (orU (blkK g p V1 V2) (·=T))∧W.heap[T]?=some (.cells (tolC s) 89 (0,0))
def Stay (w:World) (V:Own) (T:Nat) (W W':World):Prop:=∀j o,j<w.heap.size→¬V j→j≠T→W.heap[j]?=some o→W'.heap[j]?=some o
section
variable {w w' W W':World} {V V1 V2:Own} {g a b T:Nat} {p:Option Addr} {cap:Nat} {k k':Cn} {s s':Told} {M M':Nat}
theorem KMt.start (h:KAt w V1 V2 g a b p cap s.k M) (hT:¬blkK g p V1 V2 T) (hc:w.heap[T]?=some (.cells (tolC s) 89 (0,0))):KMt w (blkK g p V1 V2) g a b p cap T s M w:=⟨V1,V2,h,hT,Mvd.refl _ _,hc⟩
theorem KMt.size (h:KMt w V g a b p cap T s M W):w.heap.size≤W.heap.size:=by
 obtain⟨V1,V2,h1,h2,h3,h4⟩:=h
 exact h3.size
theorem kmt_turn {row:Option Nat} (h:KMt w V g a b p cap T s M W) (hg:W.grownBy W' row) (hr:∀r,row=some r→w.heap.size≤r∧∃o:Obj,W.heap[r]?=some o∧o.isCells=false):KMt w V g a b p cap T s M W':=by
 obtain⟨V1,V2,h1,h2,⟨⟨hb,hk⟩,hn⟩,h4⟩:=h
 refine⟨V1,V2,h1.keep λ i hi=>hg.block i (h1.lt hi) λ e=>?_,h2,⟨⟨⟨hg.os.trans hb.os,hg.tape.trans hb.tape,hg.output.trans hb.output,Nat.le_trans hb.size hg.size,λ i hi=>absurd hi (Nat.not_lt_zero i)⟩,λ i hi hu=>?_⟩,hn⟩,obj_turn (w0:=w) h4 hg hr⟩
 ·obtain⟨_,o,ho,hc⟩:=hr i e.symm
  obtain⟨cs,T,fr,hx⟩:=h1.cells hi
  rw[hx]at ho
  cases ho
  cases hc
 ·refine(hg.block i (Nat.lt_of_lt_of_le hi hb.size) λ e=>?_).trans (hk i hi hu)
  have:=(hr i e.symm).1
  omega
theorem KMt.step (h:KMt w V g a b p cap T s M W) {i:Nat} {f:Lk→Lk} (hu:∀l,(f l).up=l.up)
  {P:Ending→World→Prop} {fn:Nat} {args:Array Value} (hc:∀V',LRep W V' (sel i a b) (s.k.lk i) M→Calls Tryz.prog fn args W λ e W'=>P e W'∧LStp W V' (sel i a b) (f (s.k.lk i)) M W'):
  Calls Tryz.prog fn args W λ e W'=>P e W'∧KMt w V g a b p cap T {s with k:=s.k.on i f} M W'∧Stay w V T W W'∧KeepsFrom 0 W W':=by
 obtain⟨V1,V2,h1,h2,h3,h4⟩:=h
 refine(hc _ (h1.lk i)).mono ?_
 rintro e W' ⟨he,hs⟩
 obtain⟨V3,V4,h5,h6⟩:=h1.step hs (Nat.le_refl _) (lrep_top h1.la) (hu _)
 refine⟨he,⟨V3,V4,h5,h6.not (gb.blk_lt h4) h2,h3.trans (h6.wide _),h6.kept h4 h2⟩,λ j o hj hn hne ho=>h6.kept ho λ hv=>?_,⟨h6.size,λ j o _ hj ho=>h6.kept hj λ hu=>?_⟩⟩
 ·rcases h3.2 j (Or.inl hv)with(e|e)|e
  ·exact hn e
  ·exact hne e
  ·omega
 ·obtain⟨cs,T,fr,hx⟩:=h1.cells hu
  rw[hx]at hj
  cases hj
  cases ho
theorem KMt.on (h:KMt w V g a b p cap T s M W) (hb:Below W.heap.size W W'):KMt w V g a b p cap T s M W':=by
 obtain⟨V1,V2,h1,h2,h3,h4⟩:=h
 exact⟨V1,V2,h1.on hb,h2,h3.on hb,(hb.block _ (gb.blk_lt h4)).trans h4⟩
theorem KMt.set (h:KMt w V g a b p cap T s M W) {i:Nat} {v:Value} (hv:(tolC s).setIfInBounds i v=tolC s') (hk:s'.k=s.k):KMt w V g a b p cap T s' M (W.setCell ⟨T,i,none⟩ v):=by
 obtain⟨V1,V2,h1,h2,h3,h4⟩:=h
 refine⟨V1,V2,?_,h2,h3.trans (mvd_set W (Or.inr rfl) i v),by rw[←hv];exact gb.set_heap h4 v⟩
 rw[hk]
 exact h1.keep λ j hj=>Below.heap_setCell _ _ _ _ λ e=>h2 (by have e:j=T:=e;rw[←e];exact hj)
theorem KMt.blk (h:KMt w V g a b p cap T s M W):W.heap[T]?=some (.cells (tolC s) 89 (0,0)):=by
 obtain⟨V1,V2,h1,h2,h3,h4⟩:=h
 exact h4
theorem KMt.cell (h:KMt w V g a b p cap T s M W) (i:Nat):W.cell? ⟨T,i,none⟩=(tolC s)[i]?:=by simp[World.cell?,h.blk]
theorem KMt.link (h:KMt w V g a b p cap T s M W) (i:Nat):∃V',LRep W V' (sel i a b) (s.k.lk i) M:=by
 obtain⟨V1,V2,h1,h2,h3,h4⟩:=h
 exact⟨_,h1.lk i⟩
theorem KMt.fin {w0:World} (h:KMt w V g a b p cap T s M W) (hb:Below w0.heap.size w0 w) (hT:w0.heap.size≤T):KMv w0 V g a b p cap s.k M W:=by
 obtain⟨V1,V2,h1,h2,h3,h4⟩:=h
 refine⟨V1,V2,h1,?_⟩
 have m:Mvd w0 V W (orU (blkK g p V1 V2) (·=T)):=by
  obtain⟨⟨kb,kk⟩,kn⟩:=h3
  refine⟨⟨(hb.mono (Nat.zero_le _)).trans kb,λ i hi hu=>(kk i (Nat.lt_of_lt_of_le hi hb.size) λ e=>?_).trans (hb.block i hi)⟩,λ i hi=>?_⟩
  ·rcases e with e|e
   ·exact hu e
   ·have e:i=T:=e
    omega
  ·rcases kn i hi with(e|e)|e
   ·exact Or.inl e
   ·have e:i=T:=e
    exact Or.inr (by omega)
   ·exact Or.inr (Nat.le_trans hb.size e)
 exact m.mono (λ _ h=>h) λ i hi=>Or.inl (Or.inl hi)
theorem KMt.trans {w0:World} {s0:Told} {M0:Nat} (h0:KMt w0 V g a b p cap T s0 M0 w) (h:∀V1 V2,KAt w V1 V2 g a b p cap s0.k M0→¬blkK g p V1 V2 T→KMt w (blkK g p V1 V2) g a b p cap T s M W):KMt w0 V g a b p cap T s M W:=by
 obtain⟨V1,V2,h1,h2,h3,h4⟩:=h0
 obtain⟨V3,V4,h5,h6,h7,h8⟩:=h V1 V2 h1 h2
 exact⟨V3,V4,h5,h6,h3.trans h7,h8⟩
end
theorem Cn.stp_on (now n0 n1:Int) (s:Told) {x:Nat} (hx:x<2):Cn.stp now n0 n1 s x=(if x=0 then⟨s.k.on x (λ l=>l.stepK now (sel x n0 n1)),⟨(s.k.lk x).stepT now (sel x n0 n1),(s.k.lk x).stepE now (sel x n0 n1)⟩,s.y⟩else⟨s.k.on x (λ l=>l.stepK now (sel x n0 n1)),s.x,⟨(s.k.lk x).stepT now (sel x n0 n1),(s.k.lk x).stepE now (sel x n0 n1)⟩⟩:Told):=by
 rcases(show x=0∨x=1 by omega)with rfl|rfl<;>rfl
end Go.Proofs.YtdighjgcnaajgaaGreat
namespace Go.Proofs.YtdighjgcnaajgaaGreat
open Go.RowKit
attribute [local go_sem] Oper.semAt_some
section
variable {w w' W W':World} {V V1 V2:Own} {g a b T:Nat} {p:Option Addr} {cap:Nat} {k k':Cn} {s s':Told} {M M':Nat}
theorem allocs (l:List Obj):∀(w:World),Below w.heap.size w (l.foldl World.alloc w)∧(l.foldl World.alloc w).heap.size=w.heap.size+l.length∧∀j (hj:j<l.length),(l.foldl World.alloc w).heap[w.heap.size+j]?=some l[j]:=by
 induction l with
 |nil=>exactλ w=>⟨Below.refl _ _,rfl,λ j hj=>by cases hj⟩
 |cons o r ih=>
  intro w
  obtain⟨h1,h2,h3⟩:=ih (w.alloc o)
  have hs:(w.alloc o).heap.size=w.heap.size+1:=by simp
  have hb:Below w.heap.size w (w.alloc o):=(Below.refl _ _).alloc (Nat.le_refl _) _
  rw[hs]at h1 h2 h3
  refine⟨hb.trans (h1.mono (by omega)),by rw[List.foldl_cons,h2,List.length_cons];omega,λ j hj=>?_⟩
  cases j with
  |zero=>exact(h1.block _ (by omega)).trans (heap_alloc_new w o)
  |succ j=>have:=h3 j (by simpa using hj);rw[show w.heap.size+1+j=w.heap.size+(j+1) by omega]at this;exact this
theorem Stay.refl (w:World) (V:Own) (T:Nat) (W:World):Stay w V T W W:=λ _ _ _ _ _ h=>h
theorem Stay.trans (h:Stay w V T W W') {W2:World} (h':Stay w V T W' W2):Stay w V T W W2:=λ j o h1 h2 h3 h4=>h' j o h1 h2 h3 (h j o h1 h2 h3 h4)
theorem Stay.set (h:Stay w V T W W') (i:Nat) (v:Value):Stay w V T W (W'.setCell ⟨T,i,none⟩ v):=λ j o h1 h2 h3 h4=>(Below.heap_setCell _ _ _ _ h3).trans (h j o h1 h2 h3 h4)
theorem stay_turn {n:Nat} {row:Option Nat} (h:Stay w V T W W') (hw:w.heap.size≤W'.heap.size) {W2:World} (hg:W'.grownBy W2 row) (hr:∀r,row=some r→n≤r∧∃o:Obj,W'.heap[r]?=some o∧o.isCells=false) (hn:w.heap.size≤n):Stay w V T W W2:=λ j o h1 h2 h3 h4=>(hg.block j (Nat.lt_of_lt_of_le h1 hw) λ e=>by
 have:=(hr j e.symm).1
 omega).trans (h j o h1 h2 h3 h4)
theorem Cn.rst_yes (now:Int) (s:Told) {x:Nat} (hx:x<2) (hf:(s.k.lk x).fin=0):Cn.rst now s x=(if x=0 then⟨(s.k.on x λ l=>l.cutK now).on x λ l=>l.stepK now 0,⟨s.x.b,((s.k.lk x).cutK now).stepE now 0⟩,s.y⟩else⟨(s.k.on x λ l=>l.cutK now).on x λ l=>l.stepK now 0,s.x,⟨s.y.b,((s.k.lk x).cutK now).stepE now 0⟩⟩:Told):=by
 unfold Cn.rst
 rw[if_neg (by omega)]
 rcases(show x=0∨x=1 by omega)with rfl|rfl<;>rfl
set_option maxRecDepth 100000 in
set_option maxHeartbeats 16000000 in
theorem krest_c (h:KAt w V1 V2 g a b p cap s.k M) (hT:¬blkK g p V1 V2 T) (hc:w.heap[T]?=some (.cells (tolC s) 89 (0,0))) (now:Int):
  Calls Tryz.prog 77 #[ptr g,.int .i64 now,ptr T] w λ e w'=>e=.returned (.tuple #[])∧KMt w (blkK g p V1 V2) g a b p cap T (Cn.rstL now s [0,1]) M w'∧Stay w (blkK g p V1 V2) T w w':=by
 obtain⟨W0,hW0⟩:∃W0,[(.cells #[.int .i64 now] 3:Obj),.cells #[ptr T] 142,.cells #[ptr g] 29].foldl World.alloc w=W0:=⟨_,rfl⟩
 obtain⟨hal,hsz,hn⟩:=allocs [(.cells #[.int .i64 now] 3:Obj),.cells #[ptr T] 142,.cells #[ptr g] 29] w
 rw[hW0]at hal hsz hn
 have hn0:=hn 0 (by simp)
 have hn1:=hn 1 (by simp)
 have hn2:=hn 2 (by simp)
 simp only[List.length_cons,List.length_nil,Nat.add_zero,List.getElem_cons_zero,List.getElem_cons_succ,Nat.zero_add,Nat.reduceAdd]at hsz hn0 hn1 hn2
 simp only[List.foldl_cons,List.foldl_nil]at hW0
 have h0:=h.on hal
 obtain⟨y0,y1,_⟩:=h0.loads
 have hTl:=gb.blk_lt hc
 have hv:∀i,w.heap.size≤i→¬blkK g p V1 V2 i:=λ i hi hu=>by have:=h.lt hu;omega
 have HAL:=Lib.hid hal
 have z0:=cell_of_row _ _ 0 _ _ _ hn2
 have HSQ:=Lib.hid (both_stop 2 _ g a b W0 z0 y0 y1)
 have HI:=Lib.hid (KMt.start (s:=s) h0 hT ((hal.block _ hTl).trans hc))
 have HN0:=Lib.hid hn0
 have HN1:=Lib.hid hn1
 generalize blkK g p V1 V2=V at*
 have HV:=Lib.hid hv
 have HFIN:=Lib.hid (λ (W:World) (hk:KMt W0 V g a b p cap T (Cn.rstL now s [0,1]) M W) (hs:Stay W0 V T W0 W)=>(show KMt w V g a b p cap T (Cn.rstL now s [0,1]) M W∧Stay w V T w W from by
  obtain⟨V3,V4,k1,k2,k3,k4⟩:=hk
  exact⟨⟨V3,V4,k1,k2,((Mvd.refl w _).on hal).trans k3,k4⟩,λ j o h1 h2 h3 h4=>hs j o (Nat.lt_of_lt_of_le h1 hal.size) h2 h3 ((hal.block j h1).trans h4)⟩))
 have hmx2:Tryz.prog.follows .mixedOrders=true:=by kernel_rfl
 clear h h0 hal hn hn0 hn1 hn2 y0 y1 z0 hc hv
 refine(callsIn_wide (n:=3)).1 ?_
 refine callsIn_of_wp_marks Tryz.func77 rfl trivial ?_ rfl
 simp only[Tryz.ntmps77,List.size_toArray,List.length_cons,List.length_nil,Nat.reduceAdd,Nat.reduceSub,Array.replicate_succ,Array.replicate_zero,List.push_toArray,List.append_toArray,List.nil_append,List.cons_append]
 gi_wp2_with (refine⟨trivial,?_⟩;gi_at_call 44;refine(callsIn_wide.2 (both_c _ _)).mono ?_;rintro e w' ⟨rfl,rfl⟩)
 clear hW0
 refine wpIn_rangeFunc_ownG rfl (by omega) (gf:=84) (lb:=#[ptr (w.heap.size+2)]) rfl trivial (enters_of Tryz.func84 (by kernel_rfl) rfl)
  HSQ.out (λ _ _=>trivial) (λ _ _ _ _ _ _ _ _=>trivial) (Below.refl _ _) (λ _=>rfl)
  (λ (pre:List Two2) W=>KMt W0 V g a b p cap T (Cn.rstL now s (pre.map Subtype.val)) M W∧Stay W0 V T W0 W)
  (λ _ _ _=>False)
  (λ _ _ _ _ hs hg hr=>⟨kmt_turn hs.1 hg hr,stay_turn hs.2 hs.1.size hg hr (Nat.le_refl _)⟩)
  (λ _ _ _ _ _ hs _ _=>hs)
  ⟨HI.out,Stay.refl _ _ _ _⟩
  (λ x=>{tmps:=#[ptr g,.int .i64 now,ptr T,undef,ptr w.heap.size,ptr (w.heap.size+1),.int .i64 (x.1:Int),ptr (sel x.1 a b),ptr g,.func (.func 84) #[] #[ptr (w.heap.size+2)],.int .i64 (x.1:Int),ptr (sel x.1 a b),undef,undef,undef,undef,undef,undef,undef,undef,undef,undef,undef,undef,undef,undef,undef,undef,undef],defers:=[]}) ?assign ?body ?done ?stop
 case assign=>
  intro l x W K hK
  gi_wp2
  exact hK
 case done=>
  rintro D xs W hD hxs ⟨hI,hS⟩ hK
  rw[hxs]at hI
  have hF:=HFIN.out W hI hS
  have HF:=Lib.hid hF
  clear hI hS hF
  gi_wp2
  refine⟨by simp,.inl ⟨_,_,rfl,run_takeDeferred hK,?_⟩⟩
  have ht:∀r,some D=some r→w.heap.size≤r∧∃o:Obj,W.heap[r]?=some o∧o.isCells=false:=λ r e=>by cases e;exact⟨by omega,_,hK,rfl⟩
  exact⟨_,results_none rfl _ _ _,rfl,kmt_turn HF.out.1 (grownBy_putObj' _ D (.deferred none)) ht,stay_turn HF.out.2 HF.out.1.size (grownBy_putObj' _ D (.deferred none)) ht (Nat.le_refl _)⟩
 case stop=>
  rintro D c pre W _ _ h _
  exact h.elim
 case body=>
  rintro l pre ⟨x,hx⟩ W ⟨hI,hS⟩ hlt
  have HL:=Lib.hid (show Cn.rstL now s ((pre++[(⟨x,hx⟩:Two2)]).map Subtype.val)=Cn.rst now (Cn.rstL now s (pre.map Subtype.val)) x from by unfold Cn.rstL;rw[List.map_append,List.foldl_append];rfl)
  have hxi:(x:Int)<2:=by omega
  have hnv0:¬V w.heap.size:=HV.out _ (Nat.le_refl _)
  have hnv1:¬V (w.heap.size+1):=HV.out _ (by omega)
  have HSC:=Lib.hid (λ W1 (hs:Stay W0 V T W W1)=>(show W1.cell? ⟨w.heap.size+1,0,none⟩=some (ptr T)∧W1.cell? ⟨w.heap.size,0,none⟩=some (.int .i64 now)from⟨cell_of_row _ _ 0 _ _ _ ((hS.trans hs) _ _ (by omega) hnv1 (by omega) HN1.out),cell_of_row _ _ 0 _ _ _ ((hS.trans hs) _ _ (by omega) hnv0 (by omega) HN0.out)⟩))
  have x0:=(HSC.out W (Stay.refl _ _ _ _)).2
  have HSW:=Lib.hid hS
  dsimp only
  generalize Cn.rstL now s (pre.map Subtype.val)=t at*
  have hD:=λ V' (hr:LRep W V' (sel x a b) (t.k.lk x) M)=>ldone hr
  obtain⟨V',hV'⟩:=hI.link x
  have HD:=Lib.hid (hD V' hV')
  have HI:=Lib.hid hI
  clear hI hS hV' hD hnv0 hnv1
  generalize hpk:sel x a b=pk at*
  by_cases hf:(t.k.lk x).fin=0
  ·rw[show decide ((t.k.lk x).fin≠0)=false from by simpa using hf]at HD
   have HRST:=Lib.hid (Cn.rst_yes now t hx hf)
   have HCT:=Lib.hid (HI.out.step (i:=x) (f:=λ l=>l.cutK now) (P:=λ e _=>e=.returned (.tuple #[])) (λ _=>rfl) λ V' hr=>lcut hr now)
   have hE:(t.k.on x λ l=>l.cutK now).lk x=(t.k.lk x).cutK now:=Cn.lk_on _ hx _
   have HST:=Lib.hid (λ W (h:KMt W0 V g a b p cap T {t with k:=t.k.on x λ l=>l.cutK now} M W)=>(h.on (Below.refl _ W).drew).step (i:=x) (f:=λ l=>l.stepK now 0) (P:=λ e _=>∃q d,e=.returned (.tuple #[.slice q (((t.k.on x λ l=>l.cutK now).lk x).stepT now 0).size d,.int .i64 (((t.k.on x λ l=>l.cutK now).lk x).stepE now 0)])) (λ _=>rfl) λ V' hr=>(lstep hr now 0).mono λ e w' ⟨q,d,h1,_,_,_,V2,h2,h3,_⟩=>⟨⟨q,d,h1⟩,V2,h2,h3⟩)
   simp only[hE]at HST
   have HSC2:=Lib.hid (λ i v W1 (hs:Stay W0 V T W W1)=>HSC.out _ (hs.set i v))
   have HTC:=Lib.hid (λ W1 (h:KMt W0 V g a b p cap T {t with k:=(t.k.on x λ l=>l.cutK now).on x λ l=>l.stepK now 0} M W1)=>(show W1.cell? ⟨T,x*2+1,none⟩=some (.int .i64 (sel x t.x.e t.y.e))∧W1.frozen? ⟨T,x*2+1,none⟩=false from⟨by
    rw[h.cell]
    rcases(show x=0∨x=1 by omega)with rfl|rfl<;>rfl,gb.frozen_at h.blk⟩))
   generalize(t.k.lk x).cutK now=lc at*
   generalize lc.stepE now 0=ee at*
   generalize(lc.stepT now 0).size=tz at*
   rw[hpk]at HCT HST
   clear hpk
   gi_wp2_with (first
    |(refine⟨trivial,?_⟩;gi_at_call 45;refine(CallsIn.inRound l (callsIn_wide.2 HD.out)).mono ?_;rintro e w2 ⟨rfl,rfl⟩)
    |(refine⟨trivial,?_⟩;gi_at_call 75;refine(CallsIn.inRound l (callsIn_wide.2 HCT.out)).mono ?_;rintro e w2 ⟨rfl,hk2,hs2,hf2⟩;(have HK2:=Lib.hid hk2);clear hk2))
   refine round_held (S:=λ w'=>(w'.cell? ⟨w.heap.size+1,0,none⟩=some (ptr T)∧w'.cell? ⟨w.heap.size,0,none⟩=some (.int .i64 now))∧True) hmx2 (no_defer (by kernel_rfl)) (λ a w h=>h) ⟨HSC.out _ (λ j o a b c d=>hs2 j o a b c d),trivial⟩ (λ hHeld=>?_)
   refine wpAnyH_take (i:=0) (oi:={dst:=some 19,op:=Op.load 142 (Operand.tmp 5),type:=142,pos:=_,after:=#[],guard:=none}) (v:=?vb0) rfl (by kernel_rfl) (by kernel_rfl) (by kernel_rfl) (λ _ _ _ h=>h) (Or.inl ⟨by rfl,?hyb0⟩) hHeld ?restb0
   case hyb0=>
    intro w hSw
    obtain⟨⟨c0,c1⟩,_⟩:=hSw
    (go_simp<;>with_reducible rfl)
   simp only[Act.put,List.setIfInBounds_toArray,List.set_cons_zero,List.set_cons_succ]
   refine wpAnyH_take (i:=1) (oi:={dst:=some 20,op:=Op.move (Operand.tmp 6),type:=3,pos:=_,after:=#[],guard:=none}) (v:=?vb1) rfl (by kernel_rfl) (by kernel_rfl) (by kernel_rfl) (λ _ _ _ h=>h) (Or.inl ⟨by rfl,?hyb1⟩) hHeld ?restb1
   case hyb1=>
    intro w hSw
    clear hSw
    (go_simp<;>with_reducible rfl)
   simp only[Act.put,List.setIfInBounds_toArray,List.set_cons_zero,List.set_cons_succ]
   refine wpAnyH_take (i:=2) (oi:={dst:=some 21,op:=Op.move (Operand.tmp 7),type:=72,pos:=_,after:=#[],guard:=none}) (v:=?vb2) rfl (by kernel_rfl) (by kernel_rfl) (by kernel_rfl) (λ _ _ _ h=>h) (Or.inl ⟨by rfl,?hyb2⟩) hHeld ?restb2
   case hyb2=>
    intro w hSw
    clear hSw
    (go_simp<;>with_reducible rfl)
   simp only[Act.put,List.setIfInBounds_toArray,List.set_cons_zero,List.set_cons_succ]
   refine wpAnyH_take (i:=3) (oi:={dst:=some 22,op:=Op.load 3 (Operand.tmp 4),type:=3,pos:=_,after:=#[],guard:=none}) (v:=?vb3) rfl (by kernel_rfl) (by kernel_rfl) (by kernel_rfl) (λ _ _ _ h=>h) (Or.inl ⟨by rfl,?hyb3⟩) hHeld ?restb3
   case hyb3=>
    intro w hSw
    obtain⟨⟨c0,c1⟩,_⟩:=hSw
    (go_simp<;>with_reducible rfl)
   simp only[Act.put,List.setIfInBounds_toArray,List.set_cons_zero,List.set_cons_succ]
   refine wpAnyH_take (i:=8) (oi:={dst:=some 26,op:=Op.nilCheck (Operand.tmp 19),type:=0,pos:=_,after:=#[{on:=0,ground:=Ground.data}],guard:=none}) (v:=?vb8) rfl (by kernel_rfl) (by kernel_rfl) (by kernel_rfl) (λ _ _ _ h=>h) (Or.inl ⟨by rfl,?hyb8⟩) hHeld ?restb8
   case hyb8=>
    intro w hSw
    clear hSw
    (go_simp<;>with_reducible rfl)
   simp only[Act.put,List.setIfInBounds_toArray,List.set_cons_zero,List.set_cons_succ]
   refine wpAnyH_ready (rs:=[4]) (by kernel_rfl) (by simp) ?_
   refine AllReadyH.cons (o:={dst:=some 23,op:=Op.call {callee:=Callee.value (Operand.func 59),args:=#[Operand.tmp 21,Operand.tmp 22,Operand.const (Value.int IntKind.i64 0)],argTypes:=#[72,3,3]},type:=118,pos:=_,after:=#[{on:=2,ground:=Ground.data},{on:=3,ground:=Ground.data}],guard:=none}) rfl (λ K hK=>?_) AllReadyH.nil
   go_simp
   go_at_call 59
   refine Calls.mono (HST.out w2 HK2.out) ?_
   rintro e w1 ⟨⟨ta,td,rfl⟩,hk1,hs1,hf1⟩
   have HK1:=Lib.hid hk1
   have HS1:=Lib.hid (hs2.trans hs1)
   have HF1:=Lib.hid (hf2.trans (show KeepsFrom 0 w2 w1 from⟨hf1.1,hf1.2⟩))
   clear hk1 hs1 hf1 hs2 hf2 HST HK2
   refine hK.out _ _ ⟨HSC.out _ HS1.out,trivial⟩ (λ hHeld1=>?_)
   clear hK K hHeld
   refine wpAnyH_take (i:=5) (oi:={dst:=some 18,op:=Op.move (Operand.tmp 23),type:=118,pos:=_,after:=#[{on:=4,ground:=Ground.data}],guard:=none}) (v:=?vb5) rfl (by kernel_rfl) (by kernel_rfl) (by kernel_rfl) (λ _ _ _ h=>h) (Or.inl ⟨by rfl,?hyb5⟩) hHeld1 ?restb5
   case hyb5=>
    intro w hSw
    clear hSw
    (go_simp<;>with_reducible rfl)
   simp only[Act.put,List.setIfInBounds_toArray,List.set_cons_zero,List.set_cons_succ]
   refine wpAnyH_take (i:=6) (oi:={dst:=some 24,op:=Op.extract (Operand.tmp 18) 0,type:=87,pos:=_,after:=#[{on:=5,ground:=Ground.data}],guard:=none}) (v:=?vb6) rfl (by kernel_rfl) (by kernel_rfl) (by kernel_rfl) (λ _ _ _ h=>h) (Or.inl ⟨by rfl,?hyb6⟩) hHeld1 ?restb6
   case hyb6=>
    intro w hSw
    clear hSw
    (go_simp<;>with_reducible rfl)
   simp only[Act.put,List.setIfInBounds_toArray,List.set_cons_zero,List.set_cons_succ]
   refine wpAnyH_take (i:=7) (oi:={dst:=some 25,op:=Op.extract (Operand.tmp 18) 1,type:=3,pos:=_,after:=#[{on:=5,ground:=Ground.data}],guard:=none}) (v:=?vb7) rfl (by kernel_rfl) (by kernel_rfl) (by kernel_rfl) (λ _ _ _ h=>h) (Or.inl ⟨by rfl,?hyb7⟩) hHeld1 ?restb7
   case hyb7=>
    intro w hSw
    clear hSw
    (go_simp<;>with_reducible rfl)
   simp only[Act.put,List.setIfInBounds_toArray,List.set_cons_zero,List.set_cons_succ]
   refine wpAnyH_take (i:=9) (oi:={dst:=some 27,op:=Op.indexAddr 89 (Operand.tmp 26) (Operand.tmp 20),type:=0,pos:=_,after:=#[{on:=8,ground:=Ground.data},{on:=1,ground:=Ground.data},{on:=0,ground:=Ground.phase},{on:=1,ground:=Ground.phase},{on:=2,ground:=Ground.phase},{on:=3,ground:=Ground.phase},{on:=4,ground:=Ground.phase},{on:=5,ground:=Ground.phase},{on:=6,ground:=Ground.phase},{on:=7,ground:=Ground.phase}],guard:=none}) (v:=?vb9) rfl (by kernel_rfl) (by kernel_rfl) (by kernel_rfl) (λ _ _ _ h=>h) (Or.inl ⟨by rfl,?hyb9⟩) hHeld1 ?restb9
   case hyb9=>
    intro w hSw
    clear hSw
    (go_simp<;>with_reducible rfl)
   simp only[Act.put,List.setIfInBounds_toArray,List.set_cons_zero,List.set_cons_succ]
   refine wpAnyH_take (i:=10) (oi:={dst:=some 28,op:=Op.fieldAddr 88 (Operand.tmp 27) 1,type:=0,pos:=_,after:=#[{on:=9,ground:=Ground.data},{on:=0,ground:=Ground.phase},{on:=1,ground:=Ground.phase},{on:=2,ground:=Ground.phase},{on:=3,ground:=Ground.phase},{on:=4,ground:=Ground.phase},{on:=5,ground:=Ground.phase},{on:=6,ground:=Ground.phase},{on:=7,ground:=Ground.phase}],guard:=none}) (v:=?vb10) rfl (by kernel_rfl) (by kernel_rfl) (by kernel_rfl) (λ _ _ _ h=>h) (Or.inl ⟨by rfl,?hyb10⟩) hHeld1 ?restb10
   case hyb10=>
    intro w hSw
    clear hSw
    (go_simp<;>with_reducible rfl)
   simp only[Act.put,List.setIfInBounds_toArray,List.set_cons_zero,List.set_cons_succ]
   refine wpAnyH_ready (rs:=[11]) (by kernel_rfl) (by simp) ?_
   refine AllReadyH.cons (o:={dst:=none,op:=Op.store 3 (Operand.tmp 28) (Operand.tmp 25),type:=0,pos:=_,after:=#[{on:=10,ground:=Ground.data},{on:=7,ground:=Ground.data},{on:=4,ground:=Ground.chain},{on:=0,ground:=Ground.phase},{on:=1,ground:=Ground.phase},{on:=2,ground:=Ground.phase},{on:=3,ground:=Ground.phase},{on:=4,ground:=Ground.phase},{on:=5,ground:=Ground.phase},{on:=6,ground:=Ground.phase},{on:=7,ground:=Ground.phase}],guard:=none}) rfl (λ K hK=>?_) AllReadyH.nil
   go_simp
   obtain⟨y1,f1⟩:=HTC.out _ HK1.out
   go_simp
   refine hK.out _ _ ⟨HSC2.out _ _ _ HS1.out,trivial⟩ (λ hHeld2=>?_)
   clear hK K hHeld1
   refine wpAnyH_done (by kernel_rfl) ?_ _
   refine(show _∧_∧_∧_ from⟨keeps_from (HF1.out.trans ((KeepsOthers.setCell w1 ⟨T,x*2+1,none⟩ (.int .i64 ee)).from 0)),trivial,?_,HSW.out.trans (HS1.out.set _ _)⟩)
   rw[HL.out,HRST.out]
   refine KMt.set HK1.out (i:=x*2+1) ?_ ?_
   ·rcases(show x=0∨x=1 by omega)with rfl|rfl<;>rfl
   ·split<;>rfl
  ·rw[show decide ((t.k.lk x).fin≠0)=true from by simpa using hf]at HD
   have HR:=Lib.hid (show Cn.rst now t x=t from by unfold Cn.rst;rw[if_pos hf])
   clear HSC x0
   gi_wp2_with (refine⟨trivial,?_⟩;gi_at_call 45;refine(CallsIn.inRound l (callsIn_wide.2 HD.out)).mono ?_;rintro e w2 ⟨rfl,rfl⟩)
   exact⟨KeepsFrom.refl _ _,trivial,by rw[HL.out,HR.out];exact HI.out,HSW.out⟩
end
end Go.Proofs.YtdighjgcnaajgaaGreat
namespace Go.Proofs.YtdighjgcnaajgaaGreat
open Go.RowKit
attribute [local go_sem] Oper.semAt_some
section
variable {w w' W W':World} {V V1 V2:Own} {g a b T:Nat} {p:Option Addr} {cap:Nat} {k k':Cn} {s s':Told} {M M':Nat}
abbrev outV (s:Told):Value:=.agg (tolC s)
theorem set4 {b:Nat} {x0 x1 x2 x3:Value} {T:TypeId} (h:w.heap[b]?=some (.cells #[x0,x1,x2,x3] T (0,0))) (a0 a1 a2 a3:Value):
  ((((w.setCell ⟨b,0,none⟩ a0).setCell ⟨b,1,none⟩ a1).setCell ⟨b,2,none⟩ a2).setCell ⟨b,3,none⟩ a3).heap[b]?=some (.cells #[a0,a1,a2,a3] T (0,0)):=
 gb.set_heap (gb.set_heap (gb.set_heap (gb.set_heap h _) _) _) _
theorem KMt.fin4 {w0:World} (h:KMt w V g a b p cap T s M W) (hb:Below w0.heap.size w0 w) (hT:w0.heap.size≤T) (hV:∀i,V i→i<w0.heap.size) {R:Nat} (h0:w0.heap.size≤R) (hR:R<w.heap.size) (hRT:R≠T) (a0 a1 a2 a3:Value):
  KMv w0 V g a b p cap s.k M ((((W.setCell ⟨R,0,none⟩ a0).setCell ⟨R,1,none⟩ a1).setCell ⟨R,2,none⟩ a2).setCell ⟨R,3,none⟩ a3):=by
 obtain⟨V1,V2,h1,h2,h3,h4⟩:=h
 have hf:=KMt.fin ⟨V1,V2,h1,h2,h3,h4⟩ hb hT
 have hn:¬blkK g p V1 V2 R:=λ hu=>by
  rcases h3.2 R (Or.inl hu)with(e|e)|e
  ·have:=hV R e;omega
  ·exact hRT e
  ·omega
 have key:∀{W:World} (i:Nat) (v:Value),KAt W V1 V2 g a b p cap s.k M→KAt (W.setCell ⟨R,i,none⟩ v) V1 V2 g a b p cap s.k M:=λ i v h=>h.keep λ j hj=>Below.heap_setCell _ _ _ _ λ e=>hn (by have e:j=R:=e;rw[←e];exact hj)
 have m:Mvd w0 V W (blkK g p V1 V2):=by
  have hm:Mvd w0 V W (orU (blkK g p V1 V2) (·=T)):=by
   obtain⟨⟨kb,kk⟩,kn⟩:=h3
   refine⟨⟨(hb.mono (Nat.zero_le _)).trans kb,λ i hi hu=>(kk i (Nat.lt_of_lt_of_le hi hb.size) λ e=>?_).trans (hb.block i hi)⟩,λ i hi=>?_⟩
   ·rcases e with e|e
    ·exact hu e
    ·have e:i=T:=e
     omega
   ·rcases kn i hi with(e|e)|e
    ·exact Or.inl e
    ·have e:i=T:=e
     exact Or.inr (by omega)
    ·exact Or.inr (Nat.le_trans hb.size e)
  exact hm.mono (λ _ h=>h) λ i hi=>Or.inl (Or.inl hi)
 exact⟨V1,V2,key _ _ (key _ _ (key _ _ (key _ _ h1))),(((m.fresh h0 0 a0).fresh h0 1 a1).fresh h0 2 a2).fresh h0 3 a3⟩
theorem ret4 {R D:Nat} {x0 x1 x2 x3:Value} {T:TypeId} (hR:W.heap[R]?=some (.cells #[x0,x1,x2,x3] T (0,0))) (hD:W.heap[D]?=some (.deferred (some []))) (a0 a1 a2 a3:Value):
  ((((W.setCell ⟨R,0,none⟩ a0).setCell ⟨R,1,none⟩ a1).setCell ⟨R,2,none⟩ a2).setCell ⟨R,3,none⟩ a3).heap[D]?=some (.deferred (some []))∧∀i,(((((W.setCell ⟨R,0,none⟩ a0).setCell ⟨R,1,none⟩ a1).setCell ⟨R,2,none⟩ a2).setCell ⟨R,3,none⟩ a3).putObj D (.deferred none)).cell? ⟨R,i,none⟩=#[a0,a1,a2,a3][i]?:=by
 have hne:D≠R:=λ e=>by
  rw[e,hR]at hD
  cases hD
 have h4:=set4 hR a0 a1 a2 a3
 refine⟨by rw[Below.heap_setCell _ _ _ _ hne,Below.heap_setCell _ _ _ _ hne,Below.heap_setCell _ _ _ _ hne,Below.heap_setCell _ _ _ _ hne];exact hD,λ i=>?_⟩
 have:=(World.putObj_heap_other (w:=(((W.setCell ⟨R,0,none⟩ a0).setCell ⟨R,1,none⟩ a1).setCell ⟨R,2,none⟩ a2).setCell ⟨R,3,none⟩ a3) (r:=D) (o:=.deferred none) (Ne.symm hne)).trans h4
 simp[World.cell?,this]
theorem four_at {b:Nat} {x0 x1 x2 x3:Value} {T:TypeId} (h:W.heap[b]?=some (.cells #[x0,x1,x2,x3] T (0,0))):((W.cell? ⟨b,0,none⟩=some x0∧W.cell? ⟨b,1,none⟩=some x1)∧W.cell? ⟨b,2,none⟩=some x2∧W.cell? ⟨b,3,none⟩=some x3)∧
  ((W.frozen? ⟨b,0,none⟩=false∧W.frozen? ⟨b,1,none⟩=false)∧W.frozen? ⟨b,2,none⟩=false∧W.frozen? ⟨b,3,none⟩=false)∧b<W.heap.size:=
 ⟨⟨⟨cell_of_row _ _ 0 _ _ _ h,cell_of_row _ _ 1 _ _ _ h⟩,cell_of_row _ _ 2 _ _ _ h,cell_of_row _ _ 3 _ _ _ h⟩,⟨⟨gb.frozen_at h,gb.frozen_at h⟩,gb.frozen_at h,gb.frozen_at h⟩,gb.blk_lt h⟩
theorem KMt.ends {w0:World} {R D:Nat} {x0 x1 x2 x3:Value} {ty:TypeId} (h:KMt w V g a b p cap T s M W) (hb:Below w0.heap.size w0 w) (hT:w0.heap.size≤T) (hV:∀i,V i→i<w0.heap.size) (h0:w0.heap.size≤R) (hR:R<w.heap.size) (hRT:R≠T) (hr:W.heap[R]?=some (.cells #[x0,x1,x2,x3] ty (0,0))) (hd:W.heap[D]?=some (.deferred (some []))) (hD:w.heap.size≤D):
  ((((W.setCell ⟨R,0,none⟩ (.string s.x.b)).setCell ⟨R,1,none⟩ (.int .i64 s.x.e)).setCell ⟨R,2,none⟩ (.string s.y.b)).setCell ⟨R,3,none⟩ (.int .i64 s.y.e)).heap[D]?=some (.deferred (some []))∧
  (∀i,(((((W.setCell ⟨R,0,none⟩ (.string s.x.b)).setCell ⟨R,1,none⟩ (.int .i64 s.x.e)).setCell ⟨R,2,none⟩ (.string s.y.b)).setCell ⟨R,3,none⟩ (.int .i64 s.y.e)).putObj D (.deferred none)).cell? ⟨R,i,none⟩=(tolC s)[i]?)∧
  KMv w0 V g a b p cap s.k M (((((W.setCell ⟨R,0,none⟩ (.string s.x.b)).setCell ⟨R,1,none⟩ (.int .i64 s.x.e)).setCell ⟨R,2,none⟩ (.string s.y.b)).setCell ⟨R,3,none⟩ (.int .i64 s.y.e)).putObj D (.deferred none)):=by
 obtain⟨d3,r3⟩:=ret4 hr hd (.string s.x.b) (.int .i64 s.x.e) (.string s.y.b) (.int .i64 s.y.e)
 exact⟨d3,r3,kmv_turn (h.fin4 hb hT hV h0 hR hRT _ _ _ _) (grownBy_putObj' _ D (.deferred none)) (λ r e=>by
  cases e
  exact⟨Nat.le_trans hb.size hD,_,d3,rfl⟩)⟩
set_option maxRecDepth 100000 in
set_option maxHeartbeats 16000000 in
theorem kstep_c (h:KAt w V1 V2 g a b p cap k M) (now n0 n1:Int):
  Calls Tryz.prog 31 #[ptr g,.int .i64 now,.agg #[.int .i64 n0,.int .i64 n1]] w λ e w'=>e=.returned (outV (k.stepS now n0 n1))∧KMv w (blkK g p V1 V2) g a b p cap (k.stepS now n0 n1).k M w':=by
 obtain⟨W0,hW0⟩:∃W0,[(.cells #[.int .i64 now] 3:Obj),.cells #[.int .i64 n0,.int .i64 n1] 44,.cells #[.string ⟨#[]⟩,.int .i64 0,.string ⟨#[]⟩,.int .i64 0] 89,.cells #[.string ⟨#[]⟩,.int .i64 0,.string ⟨#[]⟩,.int .i64 0] 89,.cells #[ptr g] 29].foldl World.alloc w=W0:=⟨_,rfl⟩
 obtain⟨hal,hsz,hn⟩:=allocs [(.cells #[.int .i64 now] 3:Obj),.cells #[.int .i64 n0,.int .i64 n1] 44,.cells #[.string ⟨#[]⟩,.int .i64 0,.string ⟨#[]⟩,.int .i64 0] 89,.cells #[.string ⟨#[]⟩,.int .i64 0,.string ⟨#[]⟩,.int .i64 0] 89,.cells #[ptr g] 29] w
 rw[hW0]at hal hsz hn
 have hn0:=hn 0 (by simp)
 have hn1:=hn 1 (by simp)
 have hn2:=hn 2 (by simp)
 have hn3:=hn 3 (by simp)
 have hn4:=hn 4 (by simp)
 simp only[List.length_cons,List.length_nil,Nat.add_zero,List.getElem_cons_zero,List.getElem_cons_succ,Nat.zero_add,Nat.reduceAdd]at hsz hn0 hn1 hn2 hn3 hn4
 simp only[List.foldl_cons,List.foldl_nil]at hW0
 have h0:=h.on hal
 obtain⟨y0,y1,_⟩:=h0.loads
 have hv:∀i,blkK g p V1 V2 i→i<w.heap.size:=λ i hu=>h.lt hu
 have HAL:=Lib.hid hal
 have z0:=cell_of_row _ _ 0 _ _ _ hn4
 have HSQ:=Lib.hid (both_stop 2 _ g a b W0 z0 y0 y1)
 have HI:=Lib.hid (KMt.start (s:=⟨k,noOut,noOut⟩) h0 (T:=w.heap.size+3) (λ hu=>by have:=hv _ hu;omega) hn3)
 have HCR:=Lib.hid (λ (W:World) (s:Told) (hk:KMt W0 (blkK g p V1 V2) g a b p cap (w.heap.size+3) s M W) (hs:Stay W0 (blkK g p V1 V2) (w.heap.size+3) W0 W)=>(show Calls Tryz.prog 77 #[ptr g,.int .i64 now,ptr (w.heap.size+3)] W λ e w'=>e=.returned (.tuple #[])∧KMt W0 (blkK g p V1 V2) g a b p cap (w.heap.size+3) (Cn.rstL now s [0,1]) M w'∧Stay W0 (blkK g p V1 V2) (w.heap.size+3) W0 w'∧∀j (o:Obj),W.heap[j]?=some o→o.isCells=false→w'.heap[j]?=some o from by
  obtain⟨V3,V4,k1,k2,k3,k4⟩:=hk
  refine(krest_c k1 k2 k4 now).mono ?_
  rintro e w' ⟨rfl,hr,hs2⟩
  obtain⟨V5,V6,r1,r2,r3,r4⟩:=hr
  refine⟨rfl,⟨V5,V6,r1,r2,k3.trans r3,r4⟩,λ j o a1 a2 a3 a4=>hs2 j o (Nat.lt_of_lt_of_le a1 k3.size) (λ hu=>?_) a3 (hs j o a1 a2 a3 a4),λ j o hj ho=>hs2 j o (Array.getElem?_eq_some_iff.1 hj).1 (λ hu=>?_) (λ e=>?_) hj⟩
  ·rcases k3.2 j (Or.inl hu)with(e|e)|e
   ·exact a2 e
   ·exact a3 e
   ·omega
  ·obtain⟨cs,T,fr,hx⟩:=k1.cells hu
   rw[hx]at hj
   cases hj
   cases ho
  ·subst e
   rw[k4]at hj
   cases hj
   cases ho))
 have HN0:=Lib.hid hn0
 have HN1:=Lib.hid hn1
 have HN2:=Lib.hid hn2
 generalize blkK g p V1 V2=V at*
 have HV:=Lib.hid hv
 have hmx2:Tryz.prog.follows .mixedOrders=true:=by kernel_rfl
 clear h h0 hal hn hn0 hn1 hn2 hn3 hn4 y0 y1 z0 hv
 refine(callsIn_wide (n:=3)).1 ?_
 refine callsIn_of_wp_marks Tryz.func31 rfl trivial ?_ rfl
 simp only[Tryz.ntmps31,List.size_toArray,List.length_cons,List.length_nil,Nat.reduceAdd,Nat.reduceSub,Array.replicate_succ,Array.replicate_zero,List.push_toArray,List.append_toArray,List.nil_append,List.cons_append]
 gi_wp2_with (refine⟨trivial,?_⟩;gi_at_call 44;refine(callsIn_wide.2 (both_c _ _)).mono ?_;rintro e w' ⟨rfl,rfl⟩)
 clear hW0
 simp only[Nat.add_assoc,Nat.reduceAdd]
 refine wpIn_rangeFunc_ownG rfl (by omega) (gf:=84) (lb:=#[ptr (w.heap.size+4)]) rfl trivial (enters_of Tryz.func84 (by kernel_rfl) rfl)
  HSQ.out (λ _ _=>trivial) (λ _ _ _ _ _ _ _ _=>trivial) (Below.refl _ _) (λ _=>rfl)
  (λ (pre:List Two2) W=>KMt W0 V g a b p cap (w.heap.size+3) (Cn.stpL now n0 n1 ⟨k,noOut,noOut⟩ (pre.map Subtype.val)) M W∧Stay W0 V (w.heap.size+3) W0 W)
  (λ _ _ _=>False)
  (λ _ _ _ _ hs hg hr=>⟨kmt_turn hs.1 hg hr,stay_turn hs.2 hs.1.size hg hr (Nat.le_refl _)⟩)
  (λ _ _ _ _ _ hs _ _=>hs)
  ⟨HI.out,Stay.refl _ _ _ _⟩
  (λ x=>{tmps:=#[ptr g,.int .i64 now,.agg #[.int .i64 n0,.int .i64 n1],undef,ptr w.heap.size,ptr (w.heap.size+1),ptr (w.heap.size+2),ptr (w.heap.size+3),.int .i64 (x.1:Int),ptr (sel x.1 a b),undef,undef,ptr g,.func (.func 84) #[] #[ptr (w.heap.size+4)],.int .i64 (x.1:Int),ptr (sel x.1 a b),undef,undef,undef,undef,undef,undef,undef,undef,undef,undef,undef,undef,undef,undef,undef,undef,undef,undef,undef,undef,undef,undef,undef,undef,undef,undef,undef,undef,undef],defers:=[]}) ?assign ?body ?done ?stop
 case assign=>
  intro l x W K hK
  gi_wp2
  exact hK
 case done=>
  rintro D xs W hD hxs ⟨hI,hS⟩ hK
  rw[hxs]at hI
  have hR:=(Stay.trans (W:=W0) hS (Stay.refl _ _ _ _)) _ _ (by omega) (λ hu=>by have:=HV.out _ hu;omega) (by omega) HN2.out
  have HS0:=Lib.hid (show Cn.stepS k now n0 n1=if(k.step1 now n0 n1).x.e=2∨(k.step1 now n0 n1).y.e=2 then Cn.rstL now (k.step1 now n0 n1) [0,1]else k.step1 now n0 n1 from rfl)
  have e0:Cn.stpL now n0 n1 ⟨k,noOut,noOut⟩ (List.range 2)=k.step1 now n0 n1:=rfl
  rw[e0]at hI
  clear e0
  generalize k.step1 now n0 n1=s1 at*
  have x1:W.cell? ⟨w.heap.size+3,1,none⟩=some (.int .i64 s1.x.e):=hI.cell 1
  have x3:W.cell? ⟨w.heap.size+3,3,none⟩=some (.int .i64 s1.y.e):=hI.cell 3
  have x4:W.cell? ⟨w.heap.size,0,none⟩=some (.int .i64 now):=cell_of_row _ _ 0 _ _ _ (hS _ _ (by omega) (λ hu=>by have:=HV.out _ hu;omega) (by omega) HN0.out)
  have HIW:=Lib.hid (And.intro hI hS)
  have HD:=Lib.hid hK
  have HPO:=Lib.hid (λ (s2:Told) (W2:World) (hk:KMt W0 V g a b p cap (w.heap.size+3) s2 M W2) (hst:Stay W0 V (w.heap.size+3) W0 W2) (hd:W2.heap[D]?=some (.deferred (some [])))=>And.intro (four_at hk.blk) (And.intro (four_at (hst _ _ (by omega) (λ hu=>by have:=HV.out _ hu;omega) (by omega) HN2.out)) (hk.ends HAL.out (by omega) HV.out (R:=w.heap.size+2) (by omega) (by omega) (by omega) (hst _ _ (by omega) (λ hu=>by have:=HV.out _ hu;omega) (by omega) HN2.out) hd hD)))
  have HCRW:=Lib.hid (HCR.out W s1 hI hS)
  have HNO:=Lib.hid (HPO.out s1 W hI hS hK)
  clear hI hS hR hK HSQ HI HCR
  by_cases hx:s1.x.e=2∨s1.y.e=2
  ·have hs2:k.stepS now n0 n1=Cn.rstL now s1 [0,1]:=by rw[HS0.out,if_pos hx]
   obtain⟨s2,h2⟩:∃s2,Cn.rstL now s1 [0,1]=s2:=⟨_,rfl⟩
   rw[h2]at hs2 HCRW
   have HCALL:=Lib.hid (λ w' k1 k2 (k3:∀j (o:Obj),W.heap[j]?=some o→o.isCells=false→w'.heap[j]?=some o)=>HPO.out s2 w' k1 k2 (k3 _ _ HD.out rfl))
   have HSE:=Lib.hid hs2
   clear h2 HS0 HPO HNO hs2
   rcases Decidable.em (s1.x.e=2)with hx1|hx1
   ·rw[hx1]at x1
    clear hx hx1
    gi_wp2_with (refine⟨trivial,?_⟩;gi_at_call 77;refine(callsIn_wide.2 HCRW.out).mono ?_;rintro e w2 ⟨rfl,k1,k2,k3⟩;obtain⟨⟨⟨⟨z0,z1⟩,z2,z3⟩,_,_⟩,⟨⟨⟨r0,r1⟩,r2,r3⟩,⟨⟨f0,f1⟩,f2,f3⟩,hRl⟩,hE⟩:=HCALL.out w2 k1 k2 k3;have HE:=Lib.hid hE;clear k1 k2 k3 hE)
    refine⟨by simp,.inl ⟨_,_,rfl,run_takeDeferred HE.out.1,?_⟩⟩
    rw[HSE.out]
    have q0:=HE.out.2.1 0
    have q1:=HE.out.2.1 1
    have q2:=HE.out.2.1 2
    have q3:=HE.out.2.1 3
    simp only[tolC]at q0 q1 q2 q3
    exact⟨outV s2,by simp[results,Tryz.results31,go_sem,q0,q1,q2,q3,outV,tolC],rfl,HE.out.2.2⟩
   ·have d1:(s1.x.e==2)=false:=by simpa using hx1
    have d2:decide (s1.x.e=2)=false:=by simpa using hx1
    rw[show s1.y.e=2 from hx.resolve_left hx1]at x3
    clear hx hx1
    gi_wp2_with (refine⟨trivial,?_⟩;gi_at_call 77;refine(callsIn_wide.2 HCRW.out).mono ?_;rintro e w2 ⟨rfl,k1,k2,k3⟩;obtain⟨⟨⟨⟨z0,z1⟩,z2,z3⟩,_,_⟩,⟨⟨⟨r0,r1⟩,r2,r3⟩,⟨⟨f0,f1⟩,f2,f3⟩,hRl⟩,hE⟩:=HCALL.out w2 k1 k2 k3;have HE:=Lib.hid hE;clear k1 k2 k3 hE)
    refine⟨by simp,.inl ⟨_,_,rfl,run_takeDeferred HE.out.1,?_⟩⟩
    rw[HSE.out]
    have q0:=HE.out.2.1 0
    have q1:=HE.out.2.1 1
    have q2:=HE.out.2.1 2
    have q3:=HE.out.2.1 3
    simp only[tolC]at q0 q1 q2 q3
    exact⟨outV s2,by simp[results,Tryz.results31,go_sem,q0,q1,q2,q3,outV,tolC],rfl,HE.out.2.2⟩
  ·have hs2:k.stepS now n0 n1=s1:=by rw[HS0.out,if_neg hx]
   have HSE:=Lib.hid hs2
   have d1:(s1.x.e==2)=false:=by simp;omega
   have d2:(s1.y.e==2)=false:=by simp;omega
   have d3:decide (s1.x.e=2)=false:=by simp;omega
   have d4:decide (s1.y.e=2)=false:=by simp;omega
   obtain⟨⟨⟨⟨z0,z1⟩,z2,z3⟩,_,_⟩,⟨⟨⟨r0,r1⟩,r2,r3⟩,⟨⟨f0,f1⟩,f2,f3⟩,hRl⟩,hE⟩:=HNO.out
   have HE:=Lib.hid hE
   clear hx hs2 HS0 HPO HCRW HNO hE
   gi_wp2
   refine⟨by simp,.inl ⟨_,_,rfl,run_takeDeferred HE.out.1,?_⟩⟩
   rw[HSE.out]
   have q0:=HE.out.2.1 0
   have q1:=HE.out.2.1 1
   have q2:=HE.out.2.1 2
   have q3:=HE.out.2.1 3
   simp only[tolC]at q0 q1 q2 q3
   exact⟨outV s1,by simp[results,Tryz.results31,go_sem,q0,q1,q2,q3,outV,tolC],rfl,HE.out.2.2⟩
 case stop=>
  rintro D c pre W _ _ h _
  exact h.elim
 case body=>
  rintro l pre ⟨x,hx⟩ W ⟨hI,hS⟩ hlt
  have HL:=Lib.hid (show Cn.stpL now n0 n1 ⟨k,noOut,noOut⟩ ((pre++[(⟨x,hx⟩:Two2)]).map Subtype.val)=Cn.stp now n0 n1 (Cn.stpL now n0 n1 ⟨k,noOut,noOut⟩ (pre.map Subtype.val)) x from by unfold Cn.stpL;rw[List.map_append,List.foldl_append];rfl)
  have hxi:(x:Int)<2:=by omega
  have hnv0:¬V w.heap.size:=λ hu=>by have:=HV.out _ hu;omega
  have hnv1:¬V (w.heap.size+1):=λ hu=>by have:=HV.out _ hu;omega
  have HSC:=Lib.hid (λ W1 (hs:Stay W0 V (w.heap.size+3) W W1)=>(show W1.cell? ⟨w.heap.size,0,none⟩=some (.int .i64 now)∧W1.cell? ⟨w.heap.size+1,x,none⟩=some (.int .i64 (sel x n0 n1))from⟨cell_of_row _ _ 0 _ _ _ ((hS.trans hs) _ _ (by omega) hnv0 (by omega) HN0.out),by
   have:=(hS.trans hs) _ _ (by omega) hnv1 (by omega) HN1.out
   rcases(show x=0∨x=1 by omega)with rfl|rfl
   ·exact cell_of_row _ _ 0 _ _ _ this
   ·exact cell_of_row _ _ 1 _ _ _ this⟩))
  have HSW:=Lib.hid hS
  dsimp only
  generalize Cn.stpL now n0 n1 ⟨k,noOut,noOut⟩ (pre.map Subtype.val)=t at*
  have HRST:=Lib.hid (Cn.stp_on now n0 n1 t hx)
  have HST:=Lib.hid ((hI.on (Below.refl _ W).drew).step (i:=x) (f:=λ l=>l.stepK now (sel x n0 n1)) (P:=λ e w'=>∃q d,e=.returned (.tuple #[.slice q ((t.k.lk x).stepT now (sel x n0 n1)).size d,.int .i64 ((t.k.lk x).stepE now (sel x n0 n1))])∧Lib.BytesIn w' q ((t.k.lk x).stepT now (sel x n0 n1)).size (gc.nums ((t.k.lk x).stepT now (sel x n0 n1)))) (λ _=>rfl) λ V' hr=>(lstep hr now (sel x n0 n1)).mono λ e w' ⟨q,d,h1,h5,_,_,V2,h2,h3,_⟩=>⟨⟨q,d,h1,h5⟩,V2,h2,h3⟩)
  have HTC:=Lib.hid (λ W1 (h:KMt W0 V g a b p cap (w.heap.size+3) {t with k:=t.k.on x λ l=>l.stepK now (sel x n0 n1)} M W1)=>(show(W1.cell? ⟨w.heap.size+3,x*2,none⟩=some (.string (sel x t.x.b t.y.b))∧W1.cell? ⟨w.heap.size+3,x*2+1,none⟩=some (.int .i64 (sel x t.x.e t.y.e)))∧W1.frozen? ⟨w.heap.size+3,x*2,none⟩=false∧W1.frozen? ⟨w.heap.size+3,x*2+1,none⟩=false from⟨by
   rw[h.cell,h.cell]
   rcases(show x=0∨x=1 by omega)with rfl|rfl<;>exact⟨rfl,rfl⟩,gb.frozen_at h.blk,gb.frozen_at h.blk⟩))
  generalize(t.k.lk x).stepE now (sel x n0 n1)=ee at*
  generalize(t.k.lk x).stepT now (sel x n0 n1)=tt at*
  generalize sel x a b=pk at*
  generalize hsn:sel x n0 n1=sn at*
  clear hI hS hnv0 hnv1
  gi_wp2
  refine round_held (S:=λ w'=>(w'.cell? ⟨w.heap.size,0,none⟩=some (.int .i64 now)∧w'.cell? ⟨w.heap.size+1,x,none⟩=some (.int .i64 sn))∧True) hmx2 (no_defer (by kernel_rfl)) (λ a w h=>h) ⟨HSC.out _ (Stay.refl _ _ _ _),trivial⟩ (λ hHeld=>?_)
  refine wpAnyH_take (i:=0) (oi:={dst:=some 17,op:=Op.move (Operand.tmp 9),type:=72,pos:=_,after:=#[],guard:=none}) (v:=?va0) rfl (by kernel_rfl) (by kernel_rfl) (by kernel_rfl) (λ _ _ _ h=>h) (Or.inl ⟨by rfl,?hya0⟩) hHeld ?resta0
  case hya0=>
   intro w hSw
   clear hSw
   (go_simp<;>with_reducible rfl)
  simp only[Act.put,List.setIfInBounds_toArray,List.set_cons_zero,List.set_cons_succ]
  refine wpAnyH_take (i:=1) (oi:={dst:=some 18,op:=Op.load 3 (Operand.tmp 4),type:=3,pos:=_,after:=#[],guard:=none}) (v:=?va1) rfl (by kernel_rfl) (by kernel_rfl) (by kernel_rfl) (λ _ _ _ h=>h) (Or.inl ⟨by rfl,?hya1⟩) hHeld ?resta1
  case hya1=>
   intro w hSw
   obtain⟨⟨c0,c1⟩,_⟩:=hSw
   (go_simp<;>with_reducible rfl)
  simp only[Act.put,List.setIfInBounds_toArray,List.set_cons_zero,List.set_cons_succ]
  refine wpAnyH_take (i:=2) (oi:={dst:=some 19,op:=Op.move (Operand.tmp 8),type:=3,pos:=_,after:=#[],guard:=none}) (v:=?va2) rfl (by kernel_rfl) (by kernel_rfl) (by kernel_rfl) (λ _ _ _ h=>h) (Or.inl ⟨by rfl,?hya2⟩) hHeld ?resta2
  case hya2=>
   intro w hSw
   clear hSw
   (go_simp<;>with_reducible rfl)
  simp only[Act.put,List.setIfInBounds_toArray,List.set_cons_zero,List.set_cons_succ]
  refine wpAnyH_take (i:=3) (oi:={dst:=some 20,op:=Op.indexAddr 44 (Operand.tmp 5) (Operand.tmp 19),type:=0,pos:=_,after:=#[{on:=2,ground:=Ground.data}],guard:=none}) (v:=?va3) rfl (by kernel_rfl) (by kernel_rfl) (by kernel_rfl) (λ _ _ _ h=>h) (Or.inl ⟨by rfl,?hya3⟩) hHeld ?resta3
  case hya3=>
   intro w hSw
   clear hSw
   (go_simp<;>with_reducible rfl)
  simp only[Act.put,List.setIfInBounds_toArray,List.set_cons_zero,List.set_cons_succ]
  refine wpAnyH_take (i:=4) (oi:={dst:=some 21,op:=Op.load 3 (Operand.tmp 20),type:=3,pos:=_,after:=#[{on:=3,ground:=Ground.data}],guard:=none}) (v:=?va4) rfl (by kernel_rfl) (by kernel_rfl) (by kernel_rfl) (λ _ _ _ h=>h) (Or.inl ⟨by rfl,?hya4⟩) hHeld ?resta4
  case hya4=>
   intro w hSw
   obtain⟨⟨c0,c1⟩,_⟩:=hSw
   (go_simp<;>with_reducible rfl)
  simp only[Act.put,List.setIfInBounds_toArray,List.set_cons_zero,List.set_cons_succ]
  refine wpAnyH_ready (rs:=[5]) (by kernel_rfl) (by simp) ?_
  refine AllReadyH.cons (o:={dst:=some 22,op:=Op.call {callee:=Callee.value (Operand.func 59),args:=#[Operand.tmp 17,Operand.tmp 18,Operand.tmp 21],argTypes:=#[72,3,3]},type:=118,pos:=_,after:=#[{on:=0,ground:=Ground.data},{on:=1,ground:=Ground.data},{on:=4,ground:=Ground.data}],guard:=none}) rfl (λ K hK=>?_) AllReadyH.nil
  go_simp
  go_at_call 59
  refine Calls.mono HST.out ?_
  rintro e w1 ⟨⟨ta,td,rfl,hi1⟩,hk1,hs1,hf1⟩
  have HI1:=Lib.hid hi1
  have HK1:=Lib.hid hk1
  have HS1:=Lib.hid hs1
  have HF1:=Lib.hid hf1
  clear hi1 hk1 hs1 hf1 HST
  refine hK.out _ _ ⟨HSC.out _ HS1.out,trivial⟩ (λ hHeld1=>?_)
  clear hK K hHeld
  refine wpAnyH_take (i:=6) (oi:={dst:=some 16,op:=Op.move (Operand.tmp 22),type:=118,pos:=_,after:=#[{on:=5,ground:=Ground.data}],guard:=none}) (v:=?va6) rfl (by kernel_rfl) (by kernel_rfl) (by kernel_rfl) (λ _ _ _ h=>h) (Or.inl ⟨by rfl,?hya6⟩) hHeld1 ?resta6
  case hya6=>
   intro w hSw
   clear hSw
   (go_simp<;>with_reducible rfl)
  simp only[Act.put,List.setIfInBounds_toArray,List.set_cons_zero,List.set_cons_succ]
  refine wpAnyH_take (i:=7) (oi:={dst:=some 23,op:=Op.extract (Operand.tmp 16) 0,type:=87,pos:=_,after:=#[{on:=6,ground:=Ground.data}],guard:=none}) (v:=?va7) rfl (by kernel_rfl) (by kernel_rfl) (by kernel_rfl) (λ _ _ _ h=>h) (Or.inl ⟨by rfl,?hya7⟩) hHeld1 ?resta7
  case hya7=>
   intro w hSw
   clear hSw
   (go_simp<;>with_reducible rfl)
  simp only[Act.put,List.setIfInBounds_toArray,List.set_cons_zero,List.set_cons_succ]
  refine wpAnyH_take (i:=8) (oi:={dst:=some 24,op:=Op.extract (Operand.tmp 16) 1,type:=3,pos:=_,after:=#[{on:=6,ground:=Ground.data},{on:=9,ground:=Ground.gcOnly Departure.lateStores}],guard:=none}) (v:=?va8) rfl (by kernel_rfl) (by kernel_rfl) (by kernel_rfl) (λ _ _ _ h=>h) (Or.inl ⟨by rfl,?hya8⟩) hHeld1 ?resta8
  case hya8=>
   intro w hSw
   clear hSw
   (go_simp<;>with_reducible rfl)
  simp only[Act.put,List.setIfInBounds_toArray,List.set_cons_zero,List.set_cons_succ]
  refine wpAnyH_take (i:=9) (oi:={dst:=some 10,op:=Op.assign (Operand.tmp 23),type:=87,pos:=_,after:=#[{on:=7,ground:=Ground.data},{on:=5,ground:=Ground.chain},{on:=0,ground:=Ground.phase},{on:=1,ground:=Ground.phase},{on:=2,ground:=Ground.phase},{on:=3,ground:=Ground.phase},{on:=4,ground:=Ground.phase},{on:=5,ground:=Ground.phase},{on:=6,ground:=Ground.phase},{on:=7,ground:=Ground.phase},{on:=8,ground:=Ground.textOnly Departure.lateStores}],guard:=none}) (v:=?va9) rfl (by kernel_rfl) (by kernel_rfl) (by kernel_rfl) (λ _ _ _ h=>h) (Or.inl ⟨by rfl,?hya9⟩) hHeld1 ?resta9
  case hya9=>
   intro w hSw
   clear hSw
   (go_simp<;>with_reducible rfl)
  simp only[Act.put,List.setIfInBounds_toArray,List.set_cons_zero,List.set_cons_succ]
  refine wpAnyH_take (i:=10) (oi:={dst:=some 11,op:=Op.assign (Operand.tmp 24),type:=3,pos:=_,after:=#[{on:=8,ground:=Ground.data},{on:=9,ground:=Ground.chain},{on:=0,ground:=Ground.phase},{on:=1,ground:=Ground.phase},{on:=2,ground:=Ground.phase},{on:=3,ground:=Ground.phase},{on:=4,ground:=Ground.phase},{on:=5,ground:=Ground.phase},{on:=6,ground:=Ground.phase},{on:=7,ground:=Ground.phase},{on:=8,ground:=Ground.phase},{on:=9,ground:=Ground.phase}],guard:=none}) (v:=?va10) rfl (by kernel_rfl) (by kernel_rfl) (by kernel_rfl) (λ _ _ _ h=>h) (Or.inl ⟨by rfl,?hya10⟩) hHeld1 ?resta10
  case hya10=>
   intro w hSw
   clear hSw
   (go_simp<;>with_reducible rfl)
  simp only[Act.put,List.setIfInBounds_toArray,List.set_cons_zero,List.set_cons_succ]
  refine wpAnyH_done (by kernel_rfl) ?_ _
  have cv:(convert 87 9 (.slice ta tt.size td)).run Tryz.prog w1=.ok (.string tt) w1:=gc.got_text (d:=td) HI1.out rfl
  obtain⟨⟨y0,y1⟩,f0,f1⟩:=HTC.out _ HK1.out
  have hlT:=gb.blk_lt HK1.out.blk
  gi_wp2
  refine(show _∧_∧_∧_ from⟨keeps_from ((show KeepsFrom 0 W w1 from⟨HF1.out.1,HF1.out.2⟩).trans (((KeepsOthers.setCell w1 ⟨w.heap.size+3,x*2,none⟩ (.string tt)).from 0).trans ((KeepsOthers.setCell _ ⟨w.heap.size+3,x*2+1,none⟩ (.int .i64 ee)).from 0))),trivial,?_,HSW.out.trans (Stay.set (Stay.set (W:=W) HS1.out _ _) _ _)⟩)
  rw[HL.out,HRST.out]
  rcases(show x=0∨x=1 by omega)with rfl|rfl
  ·exact(HK1.out.set (i:=0) (v:=.string tt) (s':=⟨t.k.on 0 λ l=>l.stepK now sn,⟨tt,t.x.e⟩,t.y⟩) rfl rfl).set rfl rfl
  ·exact(HK1.out.set (i:=2) (v:=.string tt) (s':=⟨t.k.on 1 λ l=>l.stepK now sn,t.x,⟨tt,t.y.e⟩⟩) rfl rfl).set rfl rfl
end
end Go.Proofs.YtdighjgcnaajgaaGreat
