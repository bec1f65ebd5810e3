import Derived.Test.YtdighjgcnaajgaaGreatMS32
namespace Go.Proofs.YtdighjgcnaajgaaGreat
open Go.RowKit
structure Nd where
 p:Nat
 g:Nat
 U:Own
 m:Nat
def noNd:Nd:=⟨0,0,λ _=>False,0⟩
def nd (q:List Nd) (k:Nat):Nd:=q.getD k noNd
theorem nd_set_eq (q:List Nd) (k:Nat) (x:Nd) (h:k<q.length):nd (q.set k x) k=x:=by
 unfold nd
 simp[List.getD_eq_getElem?_getD,List.getElem?_set_self h]
theorem nd_set_ne (q:List Nd) (k j:Nat) (x:Nd) (h:k≠j):nd (q.set k x) j=nd q j:=by
 unfold nd
 simp[List.getD_eq_getElem?_getD,List.getElem?_set_ne h]
theorem nd_mem (q:List Nd) (k:Nat) (h:k<q.length):nd q k∈q:=by
 unfold nd
 rw[List.getD_eq_getElem?_getD,List.getElem?_eq_getElem h]
 exact List.getElem_mem h
theorem nd_of_mem {q:List Nd} {x:Nd} (h:x∈q):∃k,k<q.length∧nd q k=x:=by
 obtain⟨k,hk,rfl⟩:=List.getElem_of_mem h
 exact⟨k,hk,by unfold nd;rw[List.getD_eq_getElem?_getD,List.getElem?_eq_getElem hk];rfl⟩
def sumA (l:List Prt) (k:Nat):Nat:=((l.take k).map λ p=>p.s.S.size).sum
def chC (p:Option Addr) (n cap:Nat) (c:Ch):Array Value:=#[.slice p n cap,.int .i64 c.room,.int .i64 c.state,.bool c.shut,.int .i64 c.lost]
abbrev prtC (g:Nat) (b:Bool):Array Value:=#[ptr g,.bool b]
structure CAt (w:World) (g:Nat) (p:Option Addr) (cap:Nat) (q:List Nd) (c:Ch) (M:Nat):Prop where
 len:q.length=c.L.length
 ten:c.L.length≤10
 blk:w.heap[g]?=some (.cells (chC p c.L.length cap c) 160 (0,0))
 row:gc.ORow w 0 161 1 p c.L.length cap (q.map λ x=>ptr x.p)
 prt:∀k,k<c.L.length→w.heap[(nd q k).p]?=some (.cells (prtC (nd q k).g (c.at' k).closed) 183 (0,0))
 stg:∀k,k<c.L.length→Rep w (nd q k).U (nd q k).g (c.at' k).s (nd q k).m
 apart:∀i j,i<c.L.length→j<c.L.length→i≠j→(nd q i).p≠(nd q j).p∧∀b,(nd q i).U b→¬(nd q j).U b
 sum:∀k,k<c.L.length→(nd q k).m+sumA c.L k≤M
 los:0≤c.lost∧c.lost+(sumA c.L c.L.length:Nat)≤M
 top:M≤400000
def blkC (g:Nat) (p:Option Addr) (q:List Nd):Own:=λ i=>i=g∨(∃a,p=some a∧a.block=i)∨∃x,x∈q∧(i=x.p∨x.U i)
def Mvd (w:World) (U:Own) (w':World) (U':Own):Prop:=Kp w U w'∧∀i,U' i→U i∨w.heap.size≤i
theorem Mvd.refl (w:World) (U:Own):Mvd w U w U:=⟨⟨Below.refl _ _,λ _ _ _=>rfl⟩,λ _ h=>Or.inl h⟩
theorem Mvd.trans {w w' w'':World} {U U' U'':Own} (h:Mvd w U w' U') (k:Mvd w' U' w'' U''):Mvd w U w'' U'':=by
 obtain⟨⟨a1,a2⟩,a3⟩:=h
 obtain⟨⟨b1,b2⟩,b3⟩:=k
 refine⟨⟨a1.trans b1,λ i hi hu=>?_⟩,λ i hi=>?_⟩
 ·refine(b2 i (Nat.lt_of_lt_of_le hi a1.size) λ hu'=>?_).trans (a2 i hi hu)
  rcases a3 i hu' with e|e
  ·exact hu e
  ·omega
 ·rcases b3 i hi with e|e
  ·exact a3 i e
  ·exact Or.inr (Nat.le_trans a1.size e)
theorem Mvd.on {w w' w'':World} {U U':Own} (h:Mvd w U w' U') (hb:Below w'.heap.size w' w''):Mvd w U w'' U':=
 h.trans ⟨⟨hb.mono (Nat.zero_le _),λ i hi _=>hb.block i hi⟩,λ _ h=>Or.inl h⟩
theorem Mvd.size {w w':World} {U U':Own} (h:Mvd w U w' U'):w.heap.size≤w'.heap.size:=h.1.1.size
def Fr (w0 w:World) (U:Own):Prop:=Below w0.heap.size w0 w∧∀i,U i→w0.heap.size≤i
theorem Fr.mvd {w0 w w':World} {U U':Own} (h:Fr w0 w U) (k:Mvd w U w' U'):Fr w0 w' U':=by
 obtain⟨hb,hu⟩:=h
 obtain⟨⟨kb,kk⟩,kn⟩:=k
 refine⟨⟨kb.os.trans hb.os,kb.tape.trans hb.tape,kb.output.trans hb.output,Nat.le_trans hb.size kb.size,λ i hi=>?_⟩,λ i hi=>?_⟩
 ·rw[kk i (Nat.lt_of_lt_of_le hi hb.size) (λ hi'=>Nat.not_lt.2 (hu i hi') hi)]
  exact hb.block i hi
 ·rcases kn i hi with e|e
  ·exact hu i e
  ·exact Nat.le_trans hb.size e
def orU (U V:Own):Own:=λ i=>U i∨V i
theorem Mvd.wide {w w':World} {U U':Own} (h:Mvd w U w' U') (V:Own):Mvd w (orU U V) w' (orU U' V):=
 ⟨⟨h.1.1,λ i hi hu=>h.1.2 i hi λ e=>hu (Or.inl e)⟩,λ i hi=>by
  rcases hi with e|e
  ·rcases h.2 i e with e|e
   ·exact Or.inl (Or.inl e)
   ·exact Or.inr e
  ·exact Or.inl (Or.inr e)⟩
theorem Mvd.mono {w w':World} {U U' V V':Own} (h:Mvd w U w' U') (h1:∀i,U i→V i) (h2:∀i,V' i→U' i∨V i):Mvd w V w' V':=
 ⟨⟨h.1.1,λ i hi hu=>h.1.2 i hi λ e=>hu (h1 i e)⟩,λ i hi=>by
  rcases h2 i hi with e|e
  ·rcases h.2 i e with e|e
   ·exact Or.inl (h1 i e)
   ·exact Or.inr e
  ·exact Or.inl e⟩
section
variable {w w':World} {g:Nat} {p:Option Addr} {cap:Nat} {q:List Nd} {c c':Ch} {M M':Nat}
theorem at_set_eq (l:List Prt) (k:Nat) (x:Prt) (h:k<l.length):(l.set k x).getD k noPrt=x:=by simp[List.getD_eq_getElem?_getD,List.getElem?_set_self h]
theorem at_set_ne (l:List Prt) (k j:Nat) (x:Prt) (h:k≠j):(l.set k x).getD j noPrt=l.getD j noPrt:=by simp[List.getD_eq_getElem?_getD,List.getElem?_set_ne h]
theorem CAt.not_g (h:CAt w g p cap q c M) {k:Nat} (hk:k<c.L.length):¬(nd q k).U g:=rep_not (h.stg k hk) h.blk (by decide) (by decide) (by decide) (by decide)
theorem CAt.not_p (h:CAt w g p cap q c M) {k j:Nat} (hk:k<c.L.length) (hj:j<c.L.length):¬(nd q k).U (nd q j).p:=rep_not (h.stg k hk) (h.prt j hj) (by decide) (by decide) (by decide) (by decide)
theorem CAt.not_r (h:CAt w g p cap q c M) {k:Nat} (hk:k<c.L.length) {a:Addr} (ha:p=some a):¬(nd q k).U a.block:=by
 obtain⟨cur,hc⟩:=h.row.typed a ha
 exact rep_not (h.stg k hk) hc (by decide) (by decide) (by decide) (by decide)
theorem CAt.p_ne_g (h:CAt w g p cap q c M) {k:Nat} (hk:k<c.L.length):(nd q k).p≠g:=λ e=>by
 have h1:=h.prt k hk
 rw[e]at h1
 have:=gc.two_types h1 h.blk
 simp at this
theorem CAt.r_ne_g (h:CAt w g p cap q c M) {a:Addr} (ha:p=some a):a.block≠g:=λ e=>by
 obtain⟨cur,hc⟩:=h.row.typed a ha
 rw[e]at hc
 have:=gc.two_types hc h.blk
 simp at this
theorem CAt.r_ne_p (h:CAt w g p cap q c M) {k:Nat} (hk:k<c.L.length) {a:Addr} (ha:p=some a):a.block≠(nd q k).p:=λ e=>by
 obtain⟨cur,hc⟩:=h.row.typed a ha
 rw[e]at hc
 have:=gc.two_types hc (h.prt k hk)
 simp at this
theorem CAt.own (_h:CAt w g p cap q c M) {i:Nat} (hi:blkC g p q i):i=g∨(∃a,p=some a∧a.block=i)∨∃k,k<q.length∧(i=(nd q k).p∨(nd q k).U i):=by
 rcases hi with e|e|⟨x,hx,e⟩
 ·exact Or.inl e
 ·exact Or.inr (Or.inl e)
 ·obtain⟨k,hk,rfl⟩:=nd_of_mem hx
  exact Or.inr (Or.inr ⟨k,hk,e⟩)
theorem own_U {k:Nat} (hk:k<q.length) {i:Nat} (hi:(nd q k).U i):blkC g p q i:=Or.inr (Or.inr ⟨_,nd_mem q k hk,Or.inr hi⟩)
theorem own_p {k:Nat} (hk:k<q.length):blkC g p q (nd q k).p:=Or.inr (Or.inr ⟨_,nd_mem q k hk,Or.inl rfl⟩)
theorem CAt.lt (h:CAt w g p cap q c M) {i:Nat} (hi:blkC g p q i):i<w.heap.size:=by
 rcases h.own hi with rfl|⟨a,ha,rfl⟩|⟨k,hk,e⟩
 ·exact gb.blk_lt h.blk
 ·exact(h.row.lt a ha).2
 ·rw[h.len]at hk
  rcases e with rfl|e
  ·exact gb.blk_lt (h.prt k hk)
  ·exact(rep_lt (h.stg k hk)).2 i e
theorem CAt.keep (h:CAt w g p cap q c M) (hk:∀i,blkC g p q i→w'.heap[i]?=w.heap[i]?):CAt w' g p cap q c M:=
 ⟨h.len,h.ten,(hk g (Or.inl rfl)).trans h.blk,h.row.keep λ a e=>hk _ (Or.inr (Or.inl ⟨a,e,rfl⟩)),λ k hk'=>(hk _ (own_p (by rw[h.len];exact hk'))).trans (h.prt k hk'),
  λ k hk'=>rep_on2 (h.stg k hk') λ i hi=>hk i (own_U (by rw[h.len];exact hk') hi),h.apart,h.sum,h.los,h.top⟩
theorem CAt.on (h:CAt w g p cap q c M) (hb:Below w.heap.size w w'):CAt w' g p cap q c M:=h.keep λ i hi=>hb.block i (h.lt hi)
theorem CAt.more (h:CAt w g p cap q c M) (hM:M≤M') (hf:M'≤400000):CAt w g p cap q c M':=⟨h.len,h.ten,h.blk,h.row,h.prt,h.stg,h.apart,λ k hk=>Nat.le_trans (h.sum k hk) hM,⟨h.los.1,by have:=h.los.2;omega⟩,hf⟩
theorem CAt.set (h:CAt w g p cap q c M) {i:Nat} {v:Value} (hL:c'.L=c.L) (hc:(chC p c.L.length cap c).setIfInBounds i v=chC p c.L.length cap c') (hl:0≤c'.lost∧c'.lost+(sumA c.L c.L.length:Nat)≤M):CAt (w.setCell ⟨g,i,none⟩ v) g p cap q c' M:=by
 have ho:∀k,k≠g→(w.setCell ⟨g,i,none⟩ v).heap[k]?=w.heap[k]?:=λ k hk=>Below.heap_setCell _ _ _ _ hk
 have ha:∀k,c'.at' k=c.at' k:=λ k=>by unfold Ch.at';rw[hL]
 refine⟨by rw[hL];exact h.len,by rw[hL];exact h.ten,?_,?_,λ k hk=>?_,λ k hk=>?_,λ i j hi hj=>h.apart i j (by rwa[hL]at hi) (by rwa[hL]at hj),λ k hk=>by rw[hL]at hk⊢;exact h.sum k hk,by rw[hL];exact hl,h.top⟩
 ·rw[hL,←hc]
  simp[World.setCell,Array.getElem?_modify,h.blk]
 ·rw[hL]
  exact h.row.keep λ a e=>ho _ (h.r_ne_g e)
 ·rw[hL]at hk
  rw[ha]
  exact(ho _ (h.p_ne_g hk)).trans (h.prt k hk)
 ·rw[hL]at hk
  rw[ha]
  exact rep_on2 (h.stg k hk) λ i hi=>ho i λ e=>h.not_g hk (by rw[←e];exact hi)
theorem mvd_set (w:World) {U:Own} {b:Nat} (hb:U b) (i:Nat) (v:Value):Mvd w U (w.setCell ⟨b,i,none⟩ v) U:=
 ⟨⟨⟨rfl,rfl,rfl,by simp[World.setCell],λ j hj=>absurd hj (Nat.not_lt_zero j)⟩,λ j _ hu=>Below.heap_setCell w ⟨b,i,none⟩ v j λ e=>hu (by have e:j=b:=e;rw[e];exact hb)⟩,λ _ h=>Or.inl h⟩
theorem sum_setP (c:Ch) (k j:Nat) (b:Bool) (hk:k<c.L.length):sumA (c.L.set k ⟨(c.at' k).s,b⟩) j=sumA c.L j:=by
 unfold sumA
 rw[List.take_set,List.map_set]
 by_cases hkj:k<j
 ·congr 1
  have hlt:k<((c.L.take j).map λ p=>p.s.S.size).length:=by rw[List.length_map,List.length_take];omega
  have:(c.at' k).s.S.size=((c.L.take j).map λ p=>p.s.S.size)[k]:=by
   unfold Ch.at'
   rw[List.getD_eq_getElem?_getD,List.getElem?_eq_getElem hk,List.getElem_map,List.getElem_take]
   rfl
  show((c.L.take j).map λ p=>p.s.S.size).set k (c.at' k).s.S.size=_
  rw[this]
  exact List.set_getElem_self hlt
 ·rw[List.set_eq_of_length_le (by rw[List.length_map,List.length_take];omega)]
theorem CAt.setP (h:CAt w g p cap q c M) {k:Nat} (hk:k<c.L.length) (b:Bool):CAt (w.setCell ⟨(nd q k).p,1,none⟩ (.bool b)) g p cap q {c with L:=c.L.set k ⟨(c.at' k).s,b⟩} M:=by
 have ho:∀j,j≠(nd q k).p→(w.setCell ⟨(nd q k).p,1,none⟩ (.bool b)).heap[j]?=w.heap[j]?:=λ j hj=>Below.heap_setCell _ _ _ _ hj
 have hl:(c.L.set k ⟨(c.at' k).s,b⟩).length=c.L.length:=List.length_set
 have hs:∀j,(({c with L:=c.L.set k ⟨(c.at' k).s,b⟩}:Ch).at' j).s=(c.at' j).s:=λ j=>by
  show((c.L.set k ⟨(c.at' k).s,b⟩).getD j noPrt).s=_
  by_cases e:k=j
  ·subst e
   rw[at_set_eq _ _ _ hk]
  ·rw[at_set_ne _ _ _ _ e]
   rfl
 refine⟨h.len.trans hl.symm,by show(c.L.set k _).length≤10;rw[hl];exact h.ten,?_,?_,λ j hj=>?_,λ j hj=>?_,λ i j hi hj=>h.apart i j (by rwa[hl]at hi) (by rwa[hl]at hj),λ j hj=>?_,?_,h.top⟩
 ·show _=some (Obj.cells (chC p (c.L.set k _).length cap c) _ _)
  rw[hl]
  exact(ho _ (λ e=>h.p_ne_g hk e.symm)).trans h.blk
 ·show gc.ORow _ 0 _ 1 p (c.L.set k _).length cap _
  rw[hl]
  exact h.row.keep λ a e=>ho _ (h.r_ne_p hk e)
 ·have hj:j<c.L.length:=by rwa[hl]at hj
  show _=some (Obj.cells (prtC _ ((c.L.set k _).getD j noPrt).closed) _ _)
  by_cases e:k=j
  ·subst e
   rw[at_set_eq _ _ _ hk]
   simp[World.setCell,Array.getElem?_modify,h.prt k hk]
  ·rw[at_set_ne _ _ _ _ e]
   exact(ho _ λ e'=>(h.apart k j hk hj e).1 e'.symm).trans (h.prt j hj)
 ·have hj:j<c.L.length:=by rwa[hl]at hj
  rw[hs]
  exact rep_on2 (h.stg j hj) λ i hi=>ho i λ e=>h.not_p hj hk (by rw[←e];exact hi)
 ·have hj:j<c.L.length:=by rwa[hl]at hj
  show(nd q j).m+sumA (c.L.set k ⟨(c.at' k).s,b⟩) j≤M
  rw[sum_setP c k j b hk]
  exact h.sum j hj
 ·show 0≤c.lost∧c.lost+(sumA (c.L.set k ⟨(c.at' k).s,b⟩) (c.L.set k ⟨(c.at' k).s,b⟩).length:Nat)≤M
  rw[hl,sum_setP c k _ b hk]
  exact h.los
def setS (c:Ch) (k:Nat) (s:St):Ch:={c with L:=c.L.set k ⟨s,(c.at' k).closed⟩}
def setN (q:List Nd) (k:Nat) (U:Own) (m:Nat):List Nd:=q.set k ⟨(nd q k).p,(nd q k).g,U,m⟩
@[simp] theorem len_setS (c:Ch) (k:Nat) (s:St):(setS c k s).L.length=c.L.length:=List.length_set
theorem p_setN (q:List Nd) (k j:Nat) (U:Own) (m:Nat) (hk:k<q.length):(nd (setN q k U m) j).p=(nd q j).p∧(nd (setN q k U m) j).g=(nd q j).g:=by
 unfold setN
 by_cases e:k=j
 ·subst e
  rw[nd_set_eq _ _ _ hk]
  exact⟨rfl,rfl⟩
 ·rw[nd_set_ne _ _ _ _ e]
  exact⟨rfl,rfl⟩
theorem map_setN (q:List Nd) (k:Nat) (U:Own) (m:Nat) (hk:k<q.length):(setN q k U m).map (λ x=>ptr x.p)=q.map λ x=>ptr x.p:=by
 unfold setN
 rw[List.map_set]
 have:ptr (nd q k).p=(q.map λ x=>ptr x.p)[k]'(by rw[List.length_map];exact hk):=by
  unfold nd
  rw[List.getD_eq_getElem?_getD,List.getElem?_eq_getElem hk,List.getElem_map]
  rfl
 show(q.map λ x=>ptr x.p).set k (ptr (nd q k).p)=_
 rw[this]
 exact List.set_getElem_self _
theorem sum_setS (c:Ch) (k j:Nat) (s:St) (hk:k<c.L.length):(k<j→sumA (setS c k s).L j+(c.at' k).s.S.size=sumA c.L j+s.S.size)∧(j≤k→sumA (setS c k s).L j=sumA c.L j):=by
 refine⟨λ h=>?_,λ h=>?_⟩
 ·unfold sumA setS
  simp only
  rw[List.take_set]
  have h1:=Ch.held_set (c.L.take j) k ⟨s,(c.at' k).closed⟩ (by rw[List.length_take];omega)
  have h2:(c.L.take j).getD k noPrt=c.at' k:=by
   unfold Ch.at'
   rw[List.getD_eq_getElem?_getD,List.getD_eq_getElem?_getD,List.getElem?_take_of_lt h]
  rw[h2]at h1
  exact h1
 ·unfold sumA setS
  simp only
  rw[List.take_set_of_le h]
theorem CAt.stepP (P:Own→Prop) (h:CAt w g p cap q c M) {k:Nat} (hk:k<c.L.length) {s':St} {m':Nat} (hs:∃U',Rep w' U' (nd q k).g s' m'∧Kp w (nd q k).U w'∧(∀i,U' i→(nd q k).U i∨w.heap.size≤i)∧P U')
  (hM:∀j,j<c.L.length→(if j=k then m' else(nd q j).m)+sumA (setS c k s').L j≤M') (hL:c.lost+(sumA (setS c k s').L c.L.length:Nat)≤M') (hf:M'≤400000):
  ∃U',CAt w' g p cap (setN q k U' m') (setS c k s') M'∧Mvd w (blkC g p q) w' (blkC g p (setN q k U' m'))∧P U':=by
 obtain⟨U',hr,⟨hb,hkp⟩,hn,hP⟩:=hs
 have hq:k<q.length:=by rw[h.len];exact hk
 have hU:nd (setN q k U' m') k=⟨(nd q k).p,(nd q k).g,U',m'⟩:=nd_set_eq _ _ _ hq
 have hO:∀j,k≠j→nd (setN q k U' m') j=nd q j:=λ j e=>nd_set_ne _ _ _ _ e
 have hA:(setS c k s').at' k=⟨s',(c.at' k).closed⟩:=at_set_eq _ _ _ hk
 have hB:∀j,k≠j→(setS c k s').at' j=c.at' j:=λ j e=>at_set_ne _ _ _ _ e
 refine⟨U',⟨?_,by rw[len_setS];exact h.ten,?_,?_,λ j hj=>?_,λ j hj=>?_,λ i j hi hj hne=>?_,λ j hj=>?_,⟨h.los.1,by rw[len_setS];exact hL⟩,hf⟩,⟨⟨hb,λ i hi hu=>hkp i hi λ hu'=>hu (own_U hq hu')⟩,λ i hi=>?_⟩,hP⟩
 ·rw[len_setS]
  unfold setN
  rw[List.length_set]
  exact h.len
 ·rw[len_setS]
  exact(hkp _ (gb.blk_lt h.blk) (h.not_g hk)).trans h.blk
 ·rw[len_setS,map_setN _ _ _ _ hq]
  exact h.row.keep λ a e=>hkp _ (h.row.lt a e).2 (h.not_r hk e)
 ·rw[len_setS]at hj
  rw[(p_setN q k j U' m' hq).1,(p_setN q k j U' m' hq).2]
  have hc:((setS c k s').at' j).closed=(c.at' j).closed:=by
   by_cases e:k=j
   ·subst e
    rw[hA]
   ·rw[hB j e]
  rw[hc]
  exact(hkp _ (gb.blk_lt (h.prt j hj)) (h.not_p hk hj)).trans (h.prt j hj)
 ·rw[len_setS]at hj
  by_cases e:k=j
  ·subst e
   rw[hU,hA]
   exact hr
  ·rw[hO j e,hB j e]
   exact rep_on2 (h.stg j hj) λ i hi=>hkp i ((rep_lt (h.stg j hj)).2 i hi) ((h.apart j k hj hk (λ e'=>e e'.symm)).2 i hi)
 ·rw[len_setS]at hi hj
  rw[(p_setN q k i U' m' hq).1,(p_setN q k j U' m' hq).1]
  refine⟨(h.apart i j hi hj hne).1,λ b hb1 hb2=>?_⟩
  by_cases e:k=i
  ·subst e
   rw[hU]at hb1
   rw[hO j hne]at hb2
   have:=(rep_lt (h.stg j hj)).2 b hb2
   rcases hn b hb1 with e|e
   ·exact(h.apart k j hi hj hne).2 b e hb2
   ·omega
  ·rw[hO i e]at hb1
   by_cases e2:k=j
   ·subst e2
    rw[hU]at hb2
    have:=(rep_lt (h.stg i hi)).2 b hb1
    rcases hn b hb2 with e|e
    ·exact(h.apart i k hi hj hne).2 b hb1 e
    ·omega
   ·rw[hO j e2]at hb2
    exact(h.apart i j hi hj hne).2 b hb1 hb2
 ·rw[len_setS]at hj
  have:=hM j hj
  by_cases e:k=j
  ·subst e
   rw[hU]
   rw[if_pos rfl]at this
   exact this
  ·rw[hO j e]
   rw[if_neg (λ e'=>e e'.symm)]at this
   exact this
 ·rcases hi with e|e|⟨x,hx,e⟩
  ·exact Or.inl (Or.inl e)
  ·exact Or.inl (Or.inr (Or.inl e))
  ·obtain⟨j,hj,rfl⟩:=nd_of_mem hx
   have hj':j<q.length:=by
    unfold setN at hj
    rwa[List.length_set]at hj
   rcases e with e|e
   ·rw[(p_setN q k j U' m' hq).1]at e
    rw[e]
    exact Or.inl (own_p hj')
   ·by_cases e2:k=j
    ·subst e2
     rw[hU]at e
     rcases hn i e with e3|e3
     ·exact Or.inl (own_U hq e3)
     ·exact Or.inr e3
    ·rw[hO j e2]at e
     exact Or.inl (own_U hj' e)
theorem m_setN (q:List Nd) (k j:Nat) (U:Own):(nd (setN q k U (nd q k).m) j).m=(nd q j).m:=by
 unfold setN
 by_cases e:k=j
 ·subst e
  by_cases hk:k<q.length
  ·rw[nd_set_eq _ _ _ hk]
  ·rw[List.set_eq_of_length_le (by omega)]
 ·rw[nd_set_ne _ _ _ _ e]
theorem CAt.step (h:CAt w g p cap q c M) {k:Nat} (hk:k<c.L.length) {s':St} {m':Nat} (hs:Stp w (nd q k).U (nd q k).g s' m' w')
  (hM:∀j,j<c.L.length→(if j=k then m' else(nd q j).m)+sumA (setS c k s').L j≤M') (hL:c.lost+(sumA (setS c k s').L c.L.length:Nat)≤M') (hf:M'≤400000):
  ∃U',CAt w' g p cap (setN q k U' m') (setS c k s') M'∧Mvd w (blkC g p q) w' (blkC g p (setN q k U' m')):=by
 obtain⟨U',a,b,d⟩:=hs
 obtain⟨V,x,y,_⟩:=h.stepP (λ _=>True) hk ⟨U',a,b,d,trivial⟩ hM hL hf
 exact⟨V,x,y⟩
theorem CAt.stepLP (P:Own→Prop) (h:CAt w g p cap q c M) {k:Nat} (hk:k<c.L.length) {s':St} (hs:∃U',Rep w' U' (nd q k).g s' (nd q k).m∧Kp w (nd q k).U w'∧(∀i,U' i→(nd q k).U i∨w.heap.size≤i)∧P U') (hz:s'.S.size≤(c.at' k).s.S.size):
  ∃U',CAt w' g p cap (setN q k U' (nd q k).m) (setS c k s') M∧Mvd w (blkC g p q) w' (blkC g p (setN q k U' (nd q k).m))∧P U':=by
 have hle:∀j,sumA (setS c k s').L j≤sumA c.L j:=λ j=>by
  have e:=sum_setS c k j s' hk
  rcases Nat.lt_or_ge k j with hj|hj
  ·have:=e.1 hj
   omega
  ·exact Nat.le_of_eq (e.2 hj)
 refine h.stepP P hk hs (λ j hj=>?_) ?_ h.top
 ·have h1:=h.sum j hj
  have h2:=hle j
  split
  ·rename_i e
   rw[e]at h1 h2⊢
   omega
  ·omega
 ·have h1:=h.los.2
  have h2:=hle c.L.length
  omega
theorem CAt.stepL (h:CAt w g p cap q c M) {k:Nat} (hk:k<c.L.length) {s':St} (hs:Stp w (nd q k).U (nd q k).g s' (nd q k).m w') (hz:s'.S.size≤(c.at' k).s.S.size):
  ∃U',CAt w' g p cap (setN q k U' (nd q k).m) (setS c k s') M∧Mvd w (blkC g p q) w' (blkC g p (setN q k U' (nd q k).m)):=by
 obtain⟨U',a,b,d⟩:=hs
 obtain⟨V,x,y,_⟩:=h.stepLP (λ _=>True) hk ⟨U',a,b,d,trivial⟩ hz
 exact⟨V,x,y⟩
theorem CAt.stepM (h:CAt w g p cap q c M) {k:Nat} (hk:k<c.L.length) {s':St} {d:Nat} (hs:Stp w (nd q k).U (nd q k).g s' ((nd q k).m+d) w') (hz:s'.S.size≤(c.at' k).s.S.size+d)
  (hM:∀j,k≤j→j<c.L.length→(nd q j).m+sumA c.L j+d≤M') (hL:c.lost+(sumA c.L c.L.length:Nat)+d≤M') (hMM:M≤M') (hf:M'≤400000):
  ∃U',CAt w' g p cap (setN q k U' ((nd q k).m+d)) (setS c k s') M'∧Mvd w (blkC g p q) w' (blkC g p (setN q k U' ((nd q k).m+d))):=by
 refine h.step hk hs (λ j hj=>?_) ?_ hf
 ·have e:=sum_setS c k j s' hk
  have h1:=h.sum j hj
  rcases Nat.lt_or_ge k j with hkj|hkj
  ·have:=e.1 hkj
   have:=hM j (by omega) hj
   rw[if_neg (by omega)]
   omega
  ·rw[e.2 hkj]
   split
   ·rename_i e2
    have:=hM j (by omega) hj
    rw[e2]at this⊢
    omega
   ·omega
 ·have:=(sum_setS c k c.L.length s' hk).1 hk
  omega
theorem on_set (c:Ch) (k:Nat) (o:Op) (h:o.kind≠3):c.onC k o=setS c k (doS (c.at' k).s o).1:=by
 unfold Ch.onC setS
 have:(o.kind==3)=false:=by simpa using h
 rw[this,Bool.or_false]
def Pg (q' q:List Nd):Prop:=∀j,(nd q' j).p=(nd q j).p∧(nd q' j).g=(nd q j).g
theorem Pg.refl (q:List Nd):Pg q q:=λ _=>⟨rfl,rfl⟩
theorem Pg.trans {q q' q'':List Nd} (h:Pg q'' q') (k:Pg q' q):Pg q'' q:=λ j=>⟨(h j).1.trans (k j).1,(h j).2.trans (k j).2⟩
def CPut (w:World) (g:Nat) (p:Option Addr) (cap:Nat) (q:List Nd) (c:Ch) (M:Nat) (w':World):Prop:=∃q',CAt w' g p cap q' c M∧Mvd w (blkC g p q) w' (blkC g p q')∧Pg q' q
theorem CPut.refl (h:CAt w g p cap q c M):CPut w g p cap q c M w:=⟨q,h,Mvd.refl _ _,Pg.refl q⟩
theorem CPut.on {w'':World} (h:CPut w g p cap q c M w') (hb:Below w'.heap.size w' w''):CPut w g p cap q c M w'':=by
 obtain⟨q',h1,h2,h3⟩:=h
 exact⟨q',h1.on hb,h2.on hb,h3⟩
theorem CPut.then {w'':World} (h:CPut w g p cap q c M w') (k:∀q',CAt w' g p cap q' c M→Pg q' q→CPut w' g p cap q' c' M' w''):CPut w g p cap q c' M' w'':=by
 obtain⟨q',h1,h2,h3⟩:=h
 obtain⟨q2,h4,h5,h6⟩:=k q' h1 h3
 exact⟨q2,h4,h2.trans h5,h6.trans h3⟩
theorem CPut.more (h:CPut w g p cap q c M w') (hM:M≤M') (hf:M'≤400000):CPut w g p cap q c M' w':=by
 obtain⟨q',h1,h2,h3⟩:=h
 exact⟨q',h1.more hM hf,h2,h3⟩
theorem CAt.putL (h:CAt w g p cap q c M) {k:Nat} (hk:k<c.L.length) {s':St} (hs:Stp w (nd q k).U (nd q k).g s' (nd q k).m w') (hz:s'.S.size≤(c.at' k).s.S.size):CPut w g p cap q (setS c k s') M w':=by
 obtain⟨U',h1,h2⟩:=h.stepL hk hs hz
 exact⟨_,h1,h2,λ j=>p_setN q k j U' _ (by rw[h.len];exact hk)⟩
theorem CAt.putM (h:CAt w g p cap q c M) {k:Nat} (hk:k<c.L.length) {s':St} {d:Nat} (hs:Stp w (nd q k).U (nd q k).g s' ((nd q k).m+d) w') (hz:s'.S.size≤(c.at' k).s.S.size+d)
  (hM:∀j,k≤j→j<c.L.length→(nd q j).m+sumA c.L j+d≤M') (hL:c.lost+(sumA c.L c.L.length:Nat)+d≤M') (hMM:M≤M') (hf:M'≤400000):CPut w g p cap q (setS c k s') M' w':=by
 obtain⟨U',h1,h2⟩:=h.stepM hk hs hz hM hL hMM hf
 exact⟨_,h1,h2,λ j=>p_setN q k j U' _ (by rw[h.len];exact hk)⟩
theorem CAt.putG (h:CAt w g p cap q c M) {i:Nat} {v:Value} (hL:c'.L=c.L) (hc:(chC p c.L.length cap c).setIfInBounds i v=chC p c.L.length cap c') (hl:0≤c'.lost∧c'.lost+(sumA c.L c.L.length:Nat)≤M):CPut w g p cap q c' M (w.setCell ⟨g,i,none⟩ v):=
 ⟨q,h.set hL hc hl,mvd_set w (Or.inl rfl) _ _,Pg.refl q⟩
theorem setN_len (q:List Nd) (k:Nat) (U:Own) (m:Nat):(setN q k U m).length=q.length:=List.length_set
end
end Go.Proofs.YtdighjgcnaajgaaGreat
namespace Go.Proofs.YtdighjgcnaajgaaGreat
open Go.RowKit
section
variable {w w':World} {U:Own} {g M:Nat} {s:St}
theorem free_i (h:Rep w U g s M):Calls Tryz.prog 163 #[ptr g] w λ e w'=>e=.returned (.int .i64 (freeS s))∧Below w.heap.size w w':=by
 obtain⟨base,c',u,s',hr,ho,hs,rfl⟩:=h
 rw[←hs.free]
 exact free_any hr ho rfl
theorem rep_ok (h:Rep w U g s M):s.S.size≤M∧0≤s.passed:=by
 obtain⟨base,c',u,s',hr,ho,hs,rfl⟩:=h
 rw[←hs.S,←hs.passed]
 have:=ho.passed
 omega
set_option maxRecDepth 100000 in
set_option maxHeartbeats 4000000 in
theorem toxic_i (h:Rep w U g s M):Calls Tryz.prog 104 #[ptr g] w λ e w'=>e=.returned s.tx.v∧Below w.heap.size w w':=by
 obtain⟨base,c',u,s',hr,ho,hs,rfl⟩:=h
 rw[←hs.tx]
 have x1:w.cell? ⟨g,1,none⟩=some (.string s'.tx.s):=hr.cell 1
 have x2:w.cell? ⟨g,2,none⟩=some (.int .i64 s'.tx.k):=hr.cell 2
 have x3:w.cell? ⟨g,3,none⟩=some (.bool s'.tx.up):=hr.cell 3
 have x4:w.cell? ⟨g,4,none⟩=some (.int .i64 s'.tx.o):=hr.cell 4
 have x5:w.cell? ⟨g,5,none⟩=some (.int .i64 s'.tx.a):=hr.cell 5
 have x6:w.cell? ⟨g,6,none⟩=some (.int .i64 s'.tx.b):=hr.cell 6
 have hlt:=hr.lt
 unfold Tox.v
 clear hr ho hs
 go_enter Tryz.func104,Tryz.ntmps104
 go_wp2_with fail
 have hnew:=heap_alloc_new w (.cells #[.string s'.tx.s,.int .i64 s'.tx.k,.bool s'.tx.up,.int .i64 s'.tx.o,.int .i64 s'.tx.a,.int .i64 s'.tx.b] 46)
 have hb:Below w.heap.size w (w.alloc (.cells #[.string s'.tx.s,.int .i64 s'.tx.k,.bool s'.tx.up,.int .i64 s'.tx.o,.int .i64 s'.tx.a,.int .i64 s'.tx.b] 46)):=(Below.refl _ _).alloc (Nat.le_refl _) _
 clear x1 x2 x3 x4 x5 x6
 generalize w.alloc (.cells #[.string s'.tx.s,.int .i64 s'.tx.k,.bool s'.tx.up,.int .i64 s'.tx.o,.int .i64 s'.tx.a,.int .i64 s'.tx.b] 46)=W at*
 have z0:=cell_of_row W _ 0 _ _ _ hnew
 have z1:=cell_of_row W _ 1 _ _ _ hnew
 have z2:=cell_of_row W _ 2 _ _ _ hnew
 have z3:=cell_of_row W _ 3 _ _ _ hnew
 have z4:=cell_of_row W _ 4 _ _ _ hnew
 have z5:=cell_of_row W _ 5 _ _ _ hnew
 exact bodyPost_ret (v:=.agg #[.string s'.tx.s,.int .i64 s'.tx.k,.bool s'.tx.up,.int .i64 s'.tx.o,.int .i64 s'.tx.a,.int .i64 s'.tx.b]) (by simp[results,Tryz.results104,go_sem,z0,z1,z2,z3,z4,z5]) rfl ⟨rfl,hb⟩
end
section
variable {w w':World} {g:Nat} {p:Option Addr} {cap:Nat} {q:List Nd} {c c':Ch} {M M':Nat}
theorem CAt.cell (h:CAt w g p cap q c M) (i:Nat):w.cell? ⟨g,i,none⟩=(chC p c.L.length cap c)[i]?:=by simp[World.cell?,h.blk]
theorem CAt.frz (h:CAt w g p cap q c M) (i:Nat):w.frozen? ⟨g,i,none⟩=false:=gb.frozen_at h.blk
theorem CAt.rows (h:CAt w g p cap q c M) (h0:0<c.L.length):∃b o,p=some ⟨b,o,none⟩∧(∀k,k<c.L.length→w.cell? ⟨b,o+k,none⟩=some (ptr (nd q k).p))∧c.L.length≤cap∧cap≤maxLen:=by
 obtain⟨b,o,hp,hc⟩:=h.row.at h0
 refine⟨b,o,hp,λ k hk=>hc k _ ?_,h.row.cap,h.row.max⟩
 have hk:k<q.length:=by rw[h.len];exact hk
 rw[List.getElem?_map,List.getElem?_eq_getElem hk]
 unfold nd
 rw[List.getD_eq_getElem?_getD,List.getElem?_eq_getElem hk]
 rfl
theorem CAt.pcell (h:CAt w g p cap q c M) {k:Nat} (hk:k<c.L.length):w.cell? ⟨(nd q k).p,0,none⟩=some (ptr (nd q k).g)∧w.cell? ⟨(nd q k).p,1,none⟩=some (.bool (c.at' k).closed)∧w.frozen? ⟨(nd q k).p,1,none⟩=false:=by
 have h1:=h.prt k hk
 exact⟨by simp[World.cell?,h1],by simp[World.cell?,h1],gb.frozen_at h1⟩
theorem CAt.size_le (h:CAt w g p cap q c M) {k:Nat} (hk:k<c.L.length):(c.at' k).s.S.size≤(nd q k).m∧sumA c.L k+(c.at' k).s.S.size≤M:=by
 have h1:=(rep_ok (h.stg k hk)).1
 have h2:=h.sum k hk
 omega
theorem sum_succ (c:Ch) {k:Nat} (hk:k<c.L.length):sumA c.L (k+1)=sumA c.L k+(c.at' k).s.S.size:=by
 unfold sumA Ch.at'
 rw[List.take_succ_eq_append_getElem hk,List.map_append,List.sum_append,List.getD_eq_getElem?_getD,List.getElem?_eq_getElem hk]
 simp
theorem sum_all (c:Ch):sumA c.L c.L.length=c.held:=by
 unfold sumA Ch.held
 rw[List.take_length]
theorem CAt.held_le (h:CAt w g p cap q c M) (h2:2≤c.L.length):c.held≤M:=by
 obtain⟨n,hn⟩:∃n,c.L.length=n+1:=⟨c.L.length -1,by omega⟩
 have h1:=h.size_le (k:=n) (by omega)
 rw[←sum_all,hn,sum_succ c (by omega)]
 exact h1.2
set_option maxRecDepth 100000 in
set_option maxHeartbeats 4000000 in
theorem inlet_c (h:CAt w g p cap q c M) (h2:2≤c.L.length):Calls Tryz.prog 129 #[ptr g] w λ e w'=>e=.returned (ptr (nd q 0).p)∧w=w':=by
 have h10:=h.ten
 obtain⟨b,o,rfl,hr,hnc,hmx⟩:=h.rows (by omega)
 have x0:w.cell? ⟨g,0,none⟩=some (.slice (some ⟨b,o,none⟩) c.L.length cap):=h.cell 0
 have y0:=hr 0 (by omega)
 rw[Nat.add_zero]at y0
 generalize c.L.length=n at*
 clear h hr
 go_enter Tryz.func129,Tryz.ntmps129
 go_wp2_with fail
 try rw[Exit.noGoto_ret]
 go_ret
 exact⟨rfl,rfl⟩
set_option maxRecDepth 100000 in
set_option maxHeartbeats 4000000 in
theorem outlet_c (h:CAt w g p cap q c M) (h2:2≤c.L.length):Calls Tryz.prog 134 #[ptr g] w λ e w'=>e=.returned (ptr (nd q (c.L.length -1)).p)∧Below w.heap.size w w':=by
 have h10:=h.ten
 obtain⟨b,o,rfl,hr,hnc,hmx⟩:=h.rows (by omega)
 have x0:w.cell? ⟨g,0,none⟩=some (.slice (some ⟨b,o,none⟩) c.L.length cap):=h.cell 0
 have y0:=hr (c.L.length -1) (by omega)
 generalize c.L.length=n at*
 obtain⟨m,rfl⟩:∃m,n=m+1:=⟨n -1,by omega⟩
 rw[Nat.add_sub_cancel]at*
 have e1:((m+1:Nat):Int) -1=(m:Int):=by omega
 clear h hr
 go_enter Tryz.func134,Tryz.ntmps134
 go_wp2_with fail
 go_quiet (fail)
 go_wp2_with fail
 try rw[Exit.noGoto_ret]
 go_ret
 exact⟨rfl,gc.below_drewN _ _⟩
set_option maxRecDepth 100000 in
set_option maxHeartbeats 4000000 in
theorem many_c (h:CAt w g p cap q c M) (h2:2≤c.L.length):Calls Tryz.prog 156 #[ptr g] w λ e w'=>e=.returned (.int .i64 ((c.L.length:Int) -2))∧w=w':=by
 have h10:=h.ten
 have x0:w.cell? ⟨g,0,none⟩=some (.slice p c.L.length cap):=h.cell 0
 generalize c.L.length=n at*
 clear h
 go_enter Tryz.func156,Tryz.ntmps156
 go_wp2_with fail
 try rw[Exit.noGoto_ret]
 go_ret
 exact⟨rfl,rfl⟩
set_option maxRecDepth 100000 in
set_option maxHeartbeats 4000000 in
theorem has_c (h:CAt w g p cap q c M) (h2:2≤c.L.length) (at':Int) {b:Bool} (hb:decide (0≤at'∧at'<(c.L.length:Int) -2)=b):Calls Tryz.prog 122 #[ptr g,.int .i64 at'] w λ e w'=>e=.returned (.bool b)∧w=w':=by
 have HM:=Lib.hid (many_c h h2)
 have HB:=Lib.hid hb
 generalize(c.L.length:Int) -2=n at*
 clear h hb
 by_cases h0:0≤at'
 ·go_enter Tryz.func122,Tryz.ntmps122
  go_wp2_with (go_at_call 156;refine HM.out.mono ?_;rintro e w' ⟨rfl,rfl⟩)
  try rw[Exit.noGoto_ret]
  go_ret
  refine⟨?_,rfl⟩
  rw[←HB.out]
  congr 2
  simp[h0]
 ·have hb':b=false:=by rw[←HB.out];simp;intro h;omega
  subst hb'
  go_enter Tryz.func122,Tryz.ntmps122
  go_wp2_with fail
  try rw[Exit.noGoto_ret]
  go_ret
  exact⟨rfl,rfl⟩
set_option maxRecDepth 100000 in
set_option maxHeartbeats 4000000 in
theorem held_c (h:CAt w g p cap q c M) (h2:2≤c.L.length):Calls Tryz.prog 85 #[ptr g] w λ e w'=>e=.returned (.int .i64 (c.held:Int))∧w=w':=by
 have h10:=h.ten
 have ht:=h.top
 obtain⟨b,o,rfl,hr,hnc,hmx⟩:=h.rows (by omega)
 have x0:w.cell? ⟨g,0,none⟩=some (.slice (some ⟨b,o,none⟩) c.L.length cap):=h.cell 0
 have HR:=Lib.hid hr
 have HP:=Lib.hid (λ k (hk:k<c.L.length)=>(h.pcell hk).1)
 have HH:=Lib.hid (λ k (hk:k<c.L.length)=>held_i (h.stg k hk))
 have HS:=Lib.hid (λ k (hk:k<c.L.length)=>(⟨sum_succ c hk,by have:=(h.size_le hk).2;omega⟩:sumA c.L (k+1)=sumA c.L k+(c.at' k).s.S.size∧sumA c.L k+(c.at' k).s.S.size≤400000))
 have HA:=Lib.hid (sum_all c)
 generalize c.L.length=n at*
 have HM:=Lib.hid (sum_all c)
 clear h hr ht HM
 go_enter Tryz.func85,Tryz.ntmps85
 go_wp2_with fail
 go_loopw [3,11] (λ s i wr=>∃(k S:Nat),k≤n∧i=.int .i64 k∧s=.int .i64 (S:Int)∧Hid (S=sumA c.L k)∧wr=w) (λ _ i _=>n -(intOf i).toNat)
 case atStart=>exact⟨0,0,Nat.zero_le _,rfl,rfl,Lib.hid rfl,rfl⟩
 case round=>
  obtain⟨k,S,hk,rfl,rfl,HSk,rfl⟩:=hrel
  by_cases hlt:k<n
  ·have y0:=HR.out k hlt
   have z0:=HP.out k hlt
   have hs:=HS.out k hlt
   have HC:=Lib.hid (HH.out k hlt)
   have hSk:=HSk.out
   obtain⟨X,hX⟩:∃X,(c.at' k).s.S.size=X:=⟨_,rfl⟩
   rw[hX]at hs HC
   have hb:S+X≤400000:=by omega
   have HN:=Lib.hid (show S+X=sumA c.L (k+1) by omega)
   clear hs hSk hX HSk
   go_wp2_with (go_at_call 114;refine HC.out.mono ?_;rintro e w' ⟨rfl,rfl⟩)
   go_roundw
   case rel=>exact⟨k+1,S+X,by omega,by go_num,by go_num,HN,by trivial⟩
   case measure=>simp[intOf];omega
  ·obtain rfl:k=n:=by omega
   have HE:=Lib.hid (show S=c.held by rw[HSk.out];exact HA.out)
   clear HSk hlt
   go_wp2_with fail
   try rw[Exit.noGoto_ret]
   go_ret
   rw[←HE.out]
   exact⟨rfl,rfl⟩
set_option maxRecDepth 100000 in
set_option maxHeartbeats 4000000 in
theorem lost_c (h:CAt w g p cap q c M):Calls Tryz.prog 86 #[ptr g] w λ e w'=>e=.returned (.int .i64 c.lost)∧w=w':=by
 have x0:w.cell? ⟨g,4,none⟩=some (.int .i64 c.lost):=h.cell 4
 clear h
 go_enter Tryz.func86,Tryz.ntmps86
 go_wp2_with fail
 try rw[Exit.noGoto_ret]
 go_ret
 exact⟨rfl,rfl⟩
set_option maxRecDepth 100000 in
set_option maxHeartbeats 4000000 in
theorem state_c (h:CAt w g p cap q c M):Calls Tryz.prog 68 #[ptr g] w λ e w'=>e=.returned (.int .i64 c.state)∧w=w':=by
 have x0:w.cell? ⟨g,2,none⟩=some (.int .i64 c.state):=h.cell 2
 clear h
 go_enter Tryz.func68,Tryz.ntmps68
 go_wp2_with fail
 try rw[Exit.noGoto_ret]
 go_ret
 exact⟨rfl,rfl⟩
end
end Go.Proofs.YtdighjgcnaajgaaGreat
