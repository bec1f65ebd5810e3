import Derived.Test.YtdighjgcnaajgaaGreatMS39
namespace Go.Proofs.YtdighjgcnaajgaaGreat
open Go.RowKit
def insQ (q:List Nd) (k:Nat) (x:Nd):List Nd:=q.take (k+1)++x::q.drop (k+1)
def outQ (q:List Nd) (k:Nat):List Nd:=q.take (k+1)++q.drop (k+2)
theorem nd_ins (q:List Nd) (k:Nat) (x:Nd) (h:k+1≤q.length):(∀j,j≤k→nd (insQ q k x) j=nd q j)∧nd (insQ q k x) (k+1)=x∧(∀j,k+1≤j→nd (insQ q k x) (j+1)=nd q j)∧(insQ q k x).length=q.length+1:=by
 obtain⟨g1,g2,g3,g4⟩:=ins_get q x h
 unfold nd insQ
 simp only[List.getD_eq_getElem?_getD]
 refine⟨λ j hj=>by rw[g1 j (by omega)],by rw[g2];rfl,λ j hj=>?_,g4⟩
 obtain⟨t,rfl⟩:∃t,j=k+1+t:=⟨j -(k+1),by omega⟩
 rw[show k+1+t+1=k+1+1+t by omega,g3 t,List.getElem?_drop]
theorem nd_out (q:List Nd) (k:Nat) (h:k+2≤q.length):(∀j,j≤k→nd (outQ q k) j=nd q j)∧(∀j,k+1≤j→nd (outQ q k) j=nd q (j+1))∧(outQ q k).length+1=q.length:=by
 obtain⟨g1,g2,g3⟩:=del_get q (i:=k+1) (by omega)
 unfold nd outQ
 simp only[List.getD_eq_getElem?_getD]
 refine⟨λ j hj=>by rw[g1 j (by omega)],λ j hj=>?_,g3⟩
 obtain⟨t,rfl⟩:∃t,j=k+1+t:=⟨j -(k+1),by omega⟩
 rw[g2 t,List.getElem?_drop]
 congr 2
 omega
theorem sumA_ins (l:List Prt) (k:Nat) (p:Prt) (h:k+1≤l.length):(∀j,j≤k+1→sumA (Ch.insL l k p) j=sumA l j)∧(∀j,k+1≤j→sumA (Ch.insL l k p) (j+1)=sumA l j+p.s.S.size):=by
 refine⟨λ j hj=>?_,λ j hj=>?_⟩
 ·cases j with
  |zero=>rfl
  |succ j=>exact Ch.sum_lt l k j p h (by omega)
 ·obtain⟨i,rfl⟩:∃i,j=i+1:=⟨j -1,by omega⟩
  exact Ch.sum_ge l k i p h (by omega)
theorem sumA_out (l:List Prt) (k:Nat) (h:k+2≤l.length):(∀j,j≤k+1→sumA (Ch.outL l k) j=sumA l j)∧(∀j,k+1≤j→sumA l (j+1)=sumA (Ch.outL l k) j+(l.getD (k+1) noPrt).s.S.size):=by
 refine⟨λ j hj=>?_,λ j hj=>?_⟩
 ·cases j with
  |zero=>rfl
  |succ j=>exact Ch.out_sum_lt l k j h (by omega)
 ·obtain⟨i,rfl⟩:∃i,j=i+1:=⟨j -1,by omega⟩
  exact Ch.out_sum_ge l k i h (by omega)
section
variable {w w':World} {g b o:Nat} {cap:Nat} {q:List Nd} {c:Ch} {M:Nat}
theorem CAt.past (_h:CAt w g (some ⟨b,o,none⟩) cap q c M) (hg:w.grownBy w' (some b)) (v:Value) {i:Nat} (hi:i<w.heap.size) (h1:i≠b) (h2:i≠g):(w'.setCell ⟨g,0,none⟩ v).heap[i]?=w.heap[i]?:=
 (Below.heap_setCell _ _ _ _ h2).trans (hg.block i hi (λ e=>by cases e;exact h1 rfl))
theorem CAt.ins {k pp gg:Nat} {U:Own} {s:St} {bb:Bool} {a:Addr} {cap':Nat} (h:CAt w g (some ⟨b,o,none⟩) cap q c M) (hk:k+2≤c.L.length) (h9:c.L.length<10) (hp:PAt w pp gg U s bb 0) (hd:∀i,oneU pp U i→¬blkC g (some ⟨b,o,none⟩) q i) (hs0:s.S.size=0)
  (hr:gc.ORow w' 0 PT 1 (some a) (c.L.length+1) cap' ((q.map λ x=>ptr x.p).take (k+1)++ptr pp::(q.map λ x=>ptr x.p).drop (k+1))) (hg:w.grownBy w' (some b)) (ha:a.block=b∨w.heap.size≤a.block):
  CAt (w'.setCell ⟨g,0,none⟩ (.slice (some a) (c.L.length+1) cap')) g (some a) cap' (insQ q k ⟨pp,gg,U,0⟩) {c with L:=Ch.insL c.L k ⟨s,bb⟩} M∧
   Mvd w (orU (blkC g (some ⟨b,o,none⟩) q) (oneU pp U)) (w'.setCell ⟨g,0,none⟩ (.slice (some a) (c.L.length+1) cap')) (blkC g (some a) (insQ q k ⟨pp,gg,U,0⟩)):=by
 have hq:=h.len
 obtain⟨n1,n2,n3,n4⟩:=nd_ins q k ⟨pp,gg,U,0⟩ (by omega)
 obtain⟨s1,s2⟩:=sumA_ins c.L k ⟨s,bb⟩ (by omega)
 have hl:(Ch.insL c.L k ⟨s,bb⟩).length=c.L.length+1:=Ch.len_insL _ _ _ (by omega)
 have p1:∀j,j≤k→({c with L:=Ch.insL c.L k ⟨s,bb⟩}:Ch).at' j=c.at' j:=λ j hj=>Ch.insL_lt _ _ _ _ (by omega) hj
 have p2:({c with L:=Ch.insL c.L k ⟨s,bb⟩}:Ch).at' (k+1)=⟨s,bb⟩:=Ch.insL_eq _ _ _ (by omega)
 have p3:∀j,k+1≤j→({c with L:=Ch.insL c.L k ⟨s,bb⟩}:Ch).at' (j+1)=c.at' j:=λ j hj=>Ch.insL_gt _ _ _ _ (by omega) hj
 have hgb:g≠b:=λ e=>h.r_ne_g rfl e.symm
 have hgl:=gb.blk_lt h.blk
 have hob:∀i,blkC g (some ⟨b,o,none⟩) q i→i<w.heap.size:=λ i hi=>h.lt hi
 have hg1:w'.heap[g]?=w.heap[g]?:=hg.block g hgl (λ e=>by cases e;exact hgb rfl)
 have hst:∀j,j<c.L.length→Rep (w'.setCell ⟨g,0,none⟩ (.slice (some a) (c.L.length+1) cap')) (nd q j).U (nd q j).g (c.at' j).s (nd q j).m:=λ j hj=>rep_on2 (h.stg j hj) λ i hi=>h.past hg _ ((rep_lt (h.stg j hj)).2 i hi) (λ e=>h.not_r hj rfl (by rw[←e];exact hi)) (λ e=>h.not_g hj (by rw[←e];exact hi))
 have hpt:∀j,j<c.L.length→(w'.setCell ⟨g,0,none⟩ (.slice (some a) (c.L.length+1) cap')).heap[(nd q j).p]?=some (.cells (prtC (nd q j).g (c.at' j).closed) 183 (0,0)):=λ j hj=>(h.past hg _ (gb.blk_lt (h.prt j hj)) (λ e=>h.r_ne_p hj rfl e.symm) (h.p_ne_g hj)).trans (h.prt j hj)
 have hnb:∀i,oneU pp U i→i≠b∧i≠g:=λ i hi=>⟨λ e=>hd i hi (Or.inr (Or.inl ⟨_,rfl,e.symm⟩)),λ e=>hd i hi (Or.inl e)⟩
 have hnew:PAt (w'.setCell ⟨g,0,none⟩ (.slice (some a) (c.L.length+1) cap')) pp gg U s bb 0:=hp.keep λ i hi=>h.past hg _ (hp.lt hi) (hnb i hi).1 (hnb i hi).2
 refine⟨⟨?_,?_,?_,?_,λ j hj=>?_,λ j hj=>?_,λ i j hi hj hne=>?_,λ j hj=>?_,?_,h.top⟩,⟨⟨⟨hg.os,hg.tape,hg.output,by simpa[World.setCell]using hg.size,λ i hi=>absurd hi (Nat.not_lt_zero i)⟩,λ i hi hu=>?_⟩,λ i hi=>?_⟩⟩
 ·show(insQ q k _).length=(Ch.insL c.L k _).length
  rw[n4,hl,hq]
 ·show(Ch.insL c.L k _).length≤10
  rw[hl]
  omega
 ·show _=some (Obj.cells (chC (some a) (Ch.insL c.L k _).length cap' _) _ _)
  rw[hl]
  have:=hg1.trans h.blk
  rw[gb.set_heap this]
  rfl
 ·show gc.ORow _ 0 _ 1 (some a) (Ch.insL c.L k _).length cap' _
  rw[hl]
  have e:(insQ q k ⟨pp,gg,U,0⟩).map (λ x=>ptr x.p)=(q.map λ x=>ptr x.p).take (k+1)++ptr pp::(q.map λ x=>ptr x.p).drop (k+1):=by
   unfold insQ
   rw[List.map_append,List.map_cons,List.map_take,List.map_drop]
  rw[e]
  exact hr.set (hg1.trans h.blk) (by decide) 0 _
 ·have hj:j<c.L.length+1:=by rw[←hl];exact hj
  rcases Nat.lt_trichotomy j (k+1)with e|rfl|e
  ·rw[n1 j (by omega),p1 j (by omega)]
   exact hpt j (by omega)
  ·rw[n2,p2]
   exact hnew.prt
  ·obtain⟨j,rfl⟩:∃i,j=i+1:=⟨j -1,by omega⟩
   rw[n3 j (by omega),p3 j (by omega)]
   exact hpt j (by omega)
 ·have hj:j<c.L.length+1:=by rw[←hl];exact hj
  rcases Nat.lt_trichotomy j (k+1)with e|rfl|e
  ·rw[n1 j (by omega),p1 j (by omega)]
   exact hst j (by omega)
  ·rw[n2,p2]
   exact hnew.stg
  ·obtain⟨j,rfl⟩:∃i,j=i+1:=⟨j -1,by omega⟩
   rw[n3 j (by omega),p3 j (by omega)]
   exact hst j (by omega)
 ·have hi:i<c.L.length+1:=by rw[←hl];exact hi
  have hj:j<c.L.length+1:=by rw[←hl];exact hj
  have key:∀i,i<c.L.length+1→(i=k+1∧nd (insQ q k ⟨pp,gg,U,0⟩) i=⟨pp,gg,U,0⟩)∨(∃x,x<c.L.length∧(x≤k→i=x)∧(k+1≤x→i=x+1)∧nd (insQ q k ⟨pp,gg,U,0⟩) i=nd q x):=λ i hi=>by
   rcases Nat.lt_trichotomy i (k+1)with e|rfl|e
   ·exact Or.inr ⟨i,by omega,λ _=>rfl,λ h=>by omega,n1 i (by omega)⟩
   ·exact Or.inl ⟨rfl,n2⟩
   ·obtain⟨x,rfl⟩:∃x,i=x+1:=⟨i -1,by omega⟩
    exact Or.inr ⟨x,by omega,λ h=>by omega,λ _=>rfl,n3 x (by omega)⟩
  rcases key i hi with⟨e1,e2⟩|⟨x,hx,x1,x2,e2⟩<;>rcases key j hj with⟨f1,f2⟩|⟨y,hy,y1,y2,f2⟩
  ·omega
  ·rw[e2,f2]
   exact⟨λ e=>hd pp (Or.inl rfl) (by have e:pp=(nd q y).p:=e;rw[e];exact own_p (by omega)),λ i hi hi'=>hd i (Or.inr hi) (own_U (by omega) hi')⟩
  ·rw[e2,f2]
   exact⟨λ e=>hd pp (Or.inl rfl) (by have e:(nd q x).p=pp:=e;rw[←e];exact own_p (by omega)),λ i hi hi'=>hd i (Or.inr hi') (own_U (by omega) hi)⟩
  ·rw[e2,f2]
   exact h.apart x y hx hy (by omega)
 ·have hj:j<c.L.length+1:=by rw[←hl];exact hj
  show(nd (insQ q k _) j).m+sumA (Ch.insL c.L k _) j≤M
  rcases Nat.lt_trichotomy j (k+1)with e|rfl|e
  ·rw[n1 j (by omega),s1 j (by omega)]
   exact h.sum j (by omega)
  ·rw[n2,s1 (k+1) (Nat.le_refl _)]
   have:=h.sum (k+1) (by omega)
   show 0+_≤M
   omega
  ·obtain⟨j,rfl⟩:∃i,j=i+1:=⟨j -1,by omega⟩
   rw[n3 j (by omega),s2 j (by omega)]
   have:=h.sum j (by omega)
   show(nd q j).m+(sumA c.L j+s.S.size)≤M
   omega
 ·show 0≤c.lost∧c.lost+(sumA (Ch.insL c.L k ⟨s,bb⟩) (Ch.insL c.L k ⟨s,bb⟩).length:Nat)≤M
  rw[hl,s2 c.L.length (by omega)]
  have:=h.los
  show 0≤c.lost∧c.lost+((sumA c.L c.L.length+s.S.size:Nat):Int)≤M
  omega
 ·exact h.past hg _ hi (λ e=>hu (Or.inl (Or.inr (Or.inl ⟨_,rfl,e.symm⟩)))) (λ e=>hu (Or.inl (Or.inl e)))
 ·rcases hi with e|⟨a',ha',e⟩|⟨x,hx,e⟩
  ·exact Or.inl (Or.inl (Or.inl e))
  ·cases ha'
   rcases ha with h1|h1
   ·exact Or.inl (Or.inl (Or.inr (Or.inl ⟨_,rfl,h1.symm.trans e⟩)))
   ·exact Or.inr (by rw[←e];exact h1)
  ·unfold insQ at hx
   rcases List.mem_append.1 hx with hx|hx
   ·exact Or.inl (Or.inl (Or.inr (Or.inr ⟨x,List.mem_of_mem_take hx,e⟩)))
   ·rcases List.mem_cons.1 hx with rfl|hx
    ·exact Or.inl (Or.inr e)
    ·exact Or.inl (Or.inl (Or.inr (Or.inr ⟨x,List.mem_of_mem_drop hx,e⟩)))
theorem CAt.del {k:Nat} {a:Addr} {cap':Nat} (h:CAt w g (some ⟨b,o,none⟩) cap q c M) (hk:k+3≤c.L.length)
  (hr:gc.ORow w' 0 PT 1 (some a) (c.L.length -1) cap' ((q.map λ x=>ptr x.p).take (k+1)++(q.map λ x=>ptr x.p).drop (k+2))) (hg:w.grownBy w' (some b)) (ha:a.block=b∨w.heap.size≤a.block):
  CAt (w'.setCell ⟨g,0,none⟩ (.slice (some a) (c.L.length -1) cap')) g (some a) cap' (outQ q k) (c.rem1 k) M∧Mvd w (blkC g (some ⟨b,o,none⟩) q) (w'.setCell ⟨g,0,none⟩ (.slice (some a) (c.L.length -1) cap')) (blkC g (some a) (outQ q k)):=by
 have hq:=h.len
 obtain⟨n1,n2,n3⟩:=nd_out q k (by omega)
 obtain⟨s1,s2⟩:=sumA_out c.L k (by omega)
 have hl:(Ch.outL c.L k).length=c.L.length -1:=by have:=Ch.len_outL c.L k (by omega);omega
 have p1:∀j,j≤k→(c.rem1 k).at' j=c.at' j:=λ j hj=>Ch.out_lt _ _ _ (by omega) hj
 have p2:∀j,k+1≤j→(c.rem1 k).at' j=c.at' (j+1):=λ j hj=>Ch.out_ge _ _ _ (by omega) hj
 have hgb:g≠b:=λ e=>h.r_ne_g rfl e.symm
 have hgl:=gb.blk_lt h.blk
 have hg1:w'.heap[g]?=w.heap[g]?:=hg.block g hgl (λ e=>by cases e;exact hgb rfl)
 have hst:∀j,j<c.L.length→Rep (w'.setCell ⟨g,0,none⟩ (.slice (some a) (c.L.length -1) cap')) (nd q j).U (nd q j).g (c.at' j).s (nd q j).m:=λ j hj=>rep_on2 (h.stg j hj) λ i hi=>h.past hg _ ((rep_lt (h.stg j hj)).2 i hi) (λ e=>h.not_r hj rfl (by rw[←e];exact hi)) (λ e=>h.not_g hj (by rw[←e];exact hi))
 have hpt:∀j,j<c.L.length→(w'.setCell ⟨g,0,none⟩ (.slice (some a) (c.L.length -1) cap')).heap[(nd q j).p]?=some (.cells (prtC (nd q j).g (c.at' j).closed) 183 (0,0)):=λ j hj=>(h.past hg _ (gb.blk_lt (h.prt j hj)) (λ e=>h.r_ne_p hj rfl e.symm) (h.p_ne_g hj)).trans (h.prt j hj)
 have key:∀i,i<c.L.length -1→∃x,x<c.L.length∧(x≤k→i=x)∧(k+1≤x→i+1=x)∧nd (outQ q k) i=nd q x∧(c.rem1 k).at' i=c.at' x:=λ i hi=>by
  rcases Nat.lt_or_ge k i with e|e
  ·exact⟨i+1,by omega,λ h=>by omega,λ _=>rfl,n2 i (by omega),p2 i (by omega)⟩
  ·exact⟨i,by omega,λ _=>rfl,λ h=>by omega,n1 i e,p1 i e⟩
 refine⟨⟨?_,?_,?_,?_,λ j hj=>?_,λ j hj=>?_,λ i j hi hj hne=>?_,λ j hj=>?_,?_,h.top⟩,⟨⟨⟨hg.os,hg.tape,hg.output,by simpa[World.setCell]using hg.size,λ i hi=>absurd hi (Nat.not_lt_zero i)⟩,λ i hi hu=>?_⟩,λ i hi=>?_⟩⟩
 ·show(outQ q k).length=(Ch.outL c.L k).length
  rw[hl]
  omega
 ·show(Ch.outL c.L k).length≤10
  rw[hl]
  have:=h.ten
  omega
 ·show _=some (Obj.cells (chC (some a) (Ch.outL c.L k).length cap' _) _ _)
  rw[hl]
  have:=hg1.trans h.blk
  rw[gb.set_heap this]
  rfl
 ·show gc.ORow _ 0 _ 1 (some a) (Ch.outL c.L k).length cap' _
  rw[hl]
  have e:(outQ q k).map (λ x=>ptr x.p)=(q.map λ x=>ptr x.p).take (k+1)++(q.map λ x=>ptr x.p).drop (k+2):=by
   unfold outQ
   rw[List.map_append,List.map_take,List.map_drop]
  rw[e]
  exact hr.set (hg1.trans h.blk) (by decide) 0 _
 ·have hj:j<c.L.length -1:=by rw[←hl];exact hj
  obtain⟨x,hx,_,_,e1,e2⟩:=key j hj
  rw[e1,e2]
  exact hpt x hx
 ·have hj:j<c.L.length -1:=by rw[←hl];exact hj
  obtain⟨x,hx,_,_,e1,e2⟩:=key j hj
  rw[e1,e2]
  exact hst x hx
 ·have hi:i<c.L.length -1:=by rw[←hl];exact hi
  have hj:j<c.L.length -1:=by rw[←hl];exact hj
  obtain⟨x,hx,x1,x2,e1,_⟩:=key i hi
  obtain⟨y,hy,y1,y2,f1,_⟩:=key j hj
  rw[e1,f1]
  exact h.apart x y hx hy (by omega)
 ·have hj:j<c.L.length -1:=by rw[←hl];exact hj
  show(nd (outQ q k) j).m+sumA (Ch.outL c.L k) j≤M
  rcases Nat.lt_or_ge k j with e|e
  ·rw[n2 j (by omega)]
   have h1:=s2 j (by omega)
   have h2:=h.sum (j+1) (by omega)
   omega
  ·rw[n1 j e,s1 j (by omega)]
   exact h.sum j (by omega)
 ·show 0≤c.lost∧c.lost+(sumA (Ch.outL c.L k) (Ch.outL c.L k).length:Nat)≤M
  rw[hl]
  have h1:=s2 (c.L.length -1) (by omega)
  rw[show c.L.length -1+1=c.L.length by omega]at h1
  have:=h.los
  omega
 ·exact h.past hg _ hi (λ e=>hu (Or.inr (Or.inl ⟨_,rfl,e.symm⟩))) (λ e=>hu (Or.inl e))
 ·rcases hi with e|⟨a',ha',e⟩|⟨x,hx,e⟩
  ·exact Or.inl (Or.inl e)
  ·cases ha'
   rcases ha with h1|h1
   ·exact Or.inl (Or.inr (Or.inl ⟨_,rfl,h1.symm.trans e⟩))
   ·exact Or.inr (by rw[←e];exact h1)
  ·unfold outQ at hx
   rcases List.mem_append.1 hx with hx|hx
   ·exact Or.inl (Or.inr (Or.inr ⟨x,List.mem_of_mem_take hx,e⟩))
   ·exact Or.inl (Or.inr (Or.inr ⟨x,List.mem_of_mem_drop hx,e⟩))
end
end Go.Proofs.YtdighjgcnaajgaaGreat
namespace Go.Proofs.YtdighjgcnaajgaaGreat
open Go.RowKit
section
variable {w w':World}
set_option maxRecDepth 100000 in
set_option maxHeartbeats 8000000 in
theorem part_yes {t:Tox} {seed room now:Int} (ht:t.s.size≤maxLen) (hE:newE t room=0) (w:World):Calls Tryz.prog 96 #[t.v,.int .u64 seed,.int .i64 room,.int .i64 now] w λ e w'=>
  ∃pp gg U,e=.returned (.tuple #[ptr pp,.int .i64 0])∧PAt w' pp gg U (newS t seed room now) false 0∧Fr w w' (oneU pp U):=by
 have hal:Below w.heap.size w (w.alloc (toxObj t)):=(Below.refl _ _).alloc (Nat.le_refl _) _
 have hnew:=heap_alloc_new w (toxObj t)
 have HN:=Lib.hid (new_ok (seed:=seed) (now:=now) ht hE (w.alloc (toxObj t)))
 have HA:=Lib.hid hal
 have HF:=Lib.hid (λ (W:World) gg U (hr:Rep W U gg (newS t seed room now) 0) (hu:∀i,U i→(w.alloc (toxObj t)).heap.size≤i) (hb:Below (w.alloc (toxObj t)).heap.size (w.alloc (toxObj t)) W)=>(show PAt (W.alloc (.cells #[ptr gg,.bool false] 183)) W.heap.size gg U (newS t seed room now) false 0∧Fr w (W.alloc (.cells #[ptr gg,.bool false] 183)) (oneU W.heap.size U)from by
  have hb2:Below W.heap.size W (W.alloc (.cells #[ptr gg,.bool false] 183)):=(Below.refl _ _).alloc (Nat.le_refl _) _
  have hs:w.heap.size≤W.heap.size:=Nat.le_trans hal.size hb.size
  refine⟨⟨heap_alloc_new W _,rep_on2 hr λ i hi=>hb2.block i ((rep_lt hr).2 i hi)⟩,(hal.trans (hb.mono hal.size)).trans (hb2.mono hs),λ i hi=>?_⟩
  rcases hi with rfl|hi
  ·exact hs
  ·exact Nat.le_trans hal.size (hu i hi)))
 unfold toxObj at hnew HN HF
 unfold Tox.v at*
 have u0:=cell_of_row _ w.heap.size 0 _ _ _ hnew
 have u1:=cell_of_row _ w.heap.size 1 _ _ _ hnew
 have u2:=cell_of_row _ w.heap.size 2 _ _ _ hnew
 have u3:=cell_of_row _ w.heap.size 3 _ _ _ hnew
 have u4:=cell_of_row _ w.heap.size 4 _ _ _ hnew
 have u5:=cell_of_row _ w.heap.size 5 _ _ _ hnew
 clear hnew hal
 go_enter Tryz.func96,Tryz.ntmps96
 go_wp2_with fail
 refine HN.out.mono ?_
 rintro e w1 ⟨gg,U,rfl,hr,hu,hb⟩
 have HR:=Lib.hid (HF.out w1 gg U hr hu hb)
 clear hr hu hb HF HN u0 u1 u2 u3 u4 u5
 go_wp2_with fail
 go_ret2
 exact⟨w1.heap.size,gg,U,rfl,HR.out.1,HR.out.2⟩
set_option maxRecDepth 100000 in
set_option maxHeartbeats 8000000 in
theorem part_no {t:Tox} {seed room now:Int} (ht:t.s.size≤maxLen) (hE:newE t room≠0) (w:World):Calls Tryz.prog 96 #[t.v,.int .u64 seed,.int .i64 room,.int .i64 now] w λ e w'=>
  e=.returned (.tuple #[.pointer none,.int .i64 (newE t room)])∧Below w.heap.size w w':=by
 have hal:Below w.heap.size w (w.alloc (toxObj t)):=(Below.refl _ _).alloc (Nat.le_refl _) _
 have hnew:=heap_alloc_new w (toxObj t)
 have HN:=Lib.hid (new_no (seed:=seed) (now:=now) ht hE (w.alloc (toxObj t)))
 have HA:=Lib.hid hal
 have d1:decide (newE t room=0)=false:=by simpa using hE
 have d2:(newE t room==0)=false:=by simpa using hE
 have d3:(newE t room !=0)=true:=by simpa using hE
 generalize newE t room=E at*
 unfold toxObj at hnew HN HA
 unfold Tox.v at*
 have u0:=cell_of_row _ w.heap.size 0 _ _ _ hnew
 have u1:=cell_of_row _ w.heap.size 1 _ _ _ hnew
 have u2:=cell_of_row _ w.heap.size 2 _ _ _ hnew
 have u3:=cell_of_row _ w.heap.size 3 _ _ _ hnew
 have u4:=cell_of_row _ w.heap.size 4 _ _ _ hnew
 have u5:=cell_of_row _ w.heap.size 5 _ _ _ hnew
 clear hnew hal
 go_enter Tryz.func96,Tryz.ntmps96
 go_wp2_with fail
 refine HN.out.mono ?_
 rintro e w1 ⟨rfl,hb⟩
 have HR:=Lib.hid (HA.out.trans (hb.mono HA.out.size))
 clear hb HN u0 u1 u2 u3 u4 u5
 go_wp2_with fail
 go_ret2
 exact⟨rfl,HR.out⟩
end
section
variable {w w':World} {g:Nat} {p:Option Addr} {cap:Nat} {q:List Nd} {c c':Ch} {M M':Nat}
def CNew (w:World) (g:Nat) (p:Option Addr) (q:List Nd) (c:Ch) (M:Nat) (w':World):Prop:=∃p' cap' q',CAt w' g p' cap' q' c M∧Mvd w (blkC g p q) w' (blkC g p' q')
theorem CPut.new (h:CPut w g p cap q c M w'):CNew w g p q c M w':=by
 obtain⟨q',h1,h2,_⟩:=h
 exact⟨p,cap,q',h1,h2⟩
set_option maxRecDepth 100000 in
set_option maxHeartbeats 8000000 in
theorem ins_place (h:CAt w g p cap q c M) (h2:2≤c.L.length) (at':Int) (t:Tox) (seed now:Int) (hn:at'<0∨(c.L.length:Int) -2<at'∨(c.L.length:Int) -2=8):
  Calls Tryz.prog 121 #[ptr g,.int .i64 at',t.v,.int .u64 seed,.int .i64 now] w λ e w'=>e=.returned (.int .i64 110)∧Below w.heap.size w w':=by
 have hal:Below w.heap.size w (w.alloc (toxObj t)):=(Below.refl _ _).alloc (Nat.le_refl _) _
 have HM:=Lib.hid (many_c (h.on hal) h2)
 have HA:=Lib.hid hal
 unfold toxObj at HM HA
 unfold Tox.v
 generalize(c.L.length:Int) -2=n at*
 clear h hal
 by_cases h1:at'<0
 ·go_enter Tryz.func121,Tryz.ntmps121
  go_wp2_with fail
  try rw[Exit.noGoto_ret]
  go_ret
  exact⟨rfl,HA.out⟩
 ·by_cases h3:n<at'
  ·go_enter Tryz.func121,Tryz.ntmps121
   go_wp2_with (go_at_call 156;refine HM.out.mono ?_;rintro e w' ⟨rfl,rfl⟩)
   try rw[Exit.noGoto_ret]
   go_ret
   exact⟨rfl,HA.out⟩
  ·obtain rfl:n=8:=by omega
   go_enter Tryz.func121,Tryz.ntmps121
   go_wp2_with (go_at_call 156;refine HM.out.mono ?_;rintro e w' ⟨rfl,rfl⟩)
   try rw[Exit.noGoto_ret]
   go_ret
   exact⟨rfl,HA.out⟩
set_option maxRecDepth 100000 in
set_option maxHeartbeats 8000000 in
theorem ins_no (h:CAt w g p cap q c M) (h2:2≤c.L.length) (k:Nat) (t:Tox) (ht:t.s.size≤maxLen) (seed now:Int) (hk:k+2≤c.L.length) (h9:c.L.length<10) (hE:newE t c.room≠0):
  Calls Tryz.prog 121 #[ptr g,.int .i64 (k:Int),t.v,.int .u64 seed,.int .i64 now] w λ e w'=>e=.returned (.int .i64 (newE t c.room))∧Below w.heap.size w w':=by
 have hal:Below w.heap.size w (w.alloc (toxObj t)):=(Below.refl _ _).alloc (Nat.le_refl _) _
 have hnew:=heap_alloc_new w (toxObj t)
 have h1:=h.on hal
 have HM:=Lib.hid (many_c h1 h2)
 have x1:(w.alloc (toxObj t)).cell? ⟨g,1,none⟩=some (.int .i64 c.room):=h1.cell 1
 have HN:=Lib.hid (part_no (seed:=seed) (now:=now) ht hE (w.alloc (toxObj t)).drew)
 have HA:=Lib.hid hal
 have d1:decide (newE t c.room=0)=false:=by simpa using hE
 have d2:(newE t c.room==0)=false:=by simpa using hE
 have d3:(newE t c.room !=0)=true:=by simpa using hE
 have hkn:¬((c.L.length:Int) -2<(k:Int)):=by omega
 have hn8:¬((c.L.length:Int) -2=8):=by omega
 generalize newE t c.room=E at*
 generalize c.room=room at*
 generalize(c.L.length:Int) -2=n at*
 have e1:decide ((k:Int)<0)=false:=by simp
 have e2:decide (n<(k:Int))=false:=by simpa using hkn
 have e3:(n==8)=false:=by simpa using hn8
 unfold toxObj at hnew HN HA HM x1
 unfold Tox.v at*
 have u0:=cell_of_row _ w.heap.size 0 _ _ _ hnew
 have u1:=cell_of_row _ w.heap.size 1 _ _ _ hnew
 have u2:=cell_of_row _ w.heap.size 2 _ _ _ hnew
 have u3:=cell_of_row _ w.heap.size 3 _ _ _ hnew
 have u4:=cell_of_row _ w.heap.size 4 _ _ _ hnew
 have u5:=cell_of_row _ w.heap.size 5 _ _ _ hnew
 clear hnew hal h h1
 go_enter Tryz.func121,Tryz.ntmps121
 go_wp2_with (go_at_call 156;refine HM.out.mono ?_;rintro e w' ⟨rfl,rfl⟩)
 go_region_law
  (go_simp;go_at_call 96;refine Calls.mono HN.out ?_;rintro e w7 ⟨rfl,hb⟩;(have HB7:=Lib.hid hb);clear hb)
 all_goals go_wp2_with fail
 all_goals try rw[Exit.noGoto_ret]
 all_goals go_ret
 all_goals exact⟨rfl,HA.out.drew.trans (HB7.out.mono HA.out.size)⟩
def Beside (w:World) (g:Nat) (p:Option Addr) (cap:Nat) (q:List Nd) (c:Ch) (M:Nat) (pp gg:Nat) (s:St) (bb:Bool) (w':World):Prop:=
 ∃U,CAt w' g p cap q c M∧PAt w' pp gg U s bb 0∧(∀i,oneU pp U i→¬blkC g p q i)∧Mvd w (blkC g p q) w' (orU (blkC g p q) (oneU pp U))∧s.S.size=0
theorem beside_on {w'':World} {pp gg:Nat} {s:St} {bb:Bool} (h:Beside w g p cap q c M pp gg s bb w') (hb:Below w'.heap.size w' w''):Beside w g p cap q c M pp gg s bb w'':=by
 obtain⟨U,h1,h2,h3,h4,h5⟩:=h
 exact⟨U,h1.on hb,h2.on hb,h3,h4.on hb,h5⟩
theorem beside_new {W:World} {pp gg:Nat} {U:Own} {s:St} {bb:Bool} (h:CAt w g p cap q c M) (hb:Below w.heap.size w W) (hp:PAt w' pp gg U s bb 0) (hf:Fr W w' (oneU pp U)) (hs:s.S.size=0):Beside w g p cap q c M pp gg s bb w':=by
 obtain⟨f1,f2⟩:=hf
 have hbb:Below w.heap.size w w':=hb.trans (f1.mono hb.size)
 refine⟨U,h.on hbb,hp,λ i hi hc=>?_,⟨⟨hbb.mono (Nat.zero_le _),λ i hi _=>hbb.block i hi⟩,λ i hi=>?_⟩,hs⟩
 ·have:=f2 i hi
  have:=h.lt hc
  have:=hb.size
  omega
 ·rcases hi with e|e
  ·exact Or.inl e
  ·exact Or.inr (Nat.le_trans hb.size (f2 i e))
theorem beside_shut {pp gg:Nat} {s:St} {bb:Bool} (now:Int) (h:Beside w g p cap q c M pp gg s bb w'):Calls Tryz.prog 127 #[ptr pp,.int .i64 now] w' λ e w2=>e=.returned (.tuple #[])∧Beside w g p cap q c M pp gg (closeS s now) true w2:=by
 obtain⟨U,h1,h2,h3,h4,h5⟩:=h
 refine(shut_p h2 now).mono ?_
 intro e w2 hs
 obtain⟨U',a1,a2⟩:=hs.alone h2
 refine⟨hs.1,U',h1.keep λ i hi=>a2.1.2 i (h1.lt hi) (λ e=>h3 i e hi),a1,λ i hi hc=>?_,h4.trans (a2.mono (λ i hi=>Or.inr hi) λ i hi=>?_),by rw[close_S];exact h5⟩
 ·rcases a2.2 i hi with e|e
  ·exact h3 i e hc
  ·have:=h1.lt hc
   omega
 ·rcases hi with e|e
  ·exact Or.inr (Or.inl e)
  ·exact Or.inl e
theorem insL_set (l:List Prt) (k:Nat) (x y:Prt) (h:k+1≤l.length):(Ch.insL l k x).set (k+1) y=Ch.insL l k y:=by
 unfold Ch.insL
 rw[List.set_append_right _ _ (by rw[List.length_take];omega),List.length_take,show k+1 -min (k+1) l.length=0 by omega]
 rfl
theorem insN_is (c:Ch) (k:Nat) (t:Tox) (seed now:Int) (hk:k+2≤c.L.length):c.insN k t seed now={c with L:=Ch.insL c.L k (if(c.at' (k+1)).closed=true then⟨closeS (newS t seed c.room now) now,true⟩else⟨newS t seed c.room now,false⟩)}:=by
 have e0:c.insN k t seed now=if(({c with L:=Ch.insL c.L k ⟨newS t seed c.room now,false⟩}:Ch).at' (k+2)).closed=true then({c with L:=Ch.insL c.L k ⟨newS t seed c.room now,false⟩}:Ch).onC (k+1) (Ch.oClose now)else{c with L:=Ch.insL c.L k ⟨newS t seed c.room now,false⟩}:=rfl
 have e1:({c with L:=Ch.insL c.L k ⟨newS t seed c.room now,false⟩}:Ch).at' (k+2)=c.at' (k+1):=Ch.insL_gt _ _ _ _ (by omega) (Nat.le_refl _)
 have e2:({c with L:=Ch.insL c.L k ⟨newS t seed c.room now,false⟩}:Ch).at' (k+1)=⟨newS t seed c.room now,false⟩:=Ch.insL_eq _ _ _ (by omega)
 rw[e0,e1]
 split
 ·unfold Ch.onC
  rw[e2]
  show({c with L:=(Ch.insL c.L k _).set (k+1) _}:Ch)=_
  rw[insL_set _ _ _ _ (by omega)]
  rfl
 ·rfl
theorem ins_store {b o k pp gg:Nat} {s:St} {bb:Bool} {w2:World} (h2:Beside w g (some ⟨b,o,none⟩) cap q c M pp gg s bb w2) (hk:k+2≤c.L.length) (h9:c.L.length<10):
  Calls Tryz.prog 157 #[.slice (some ⟨b,o,none⟩) c.L.length cap,.int .i64 ((k:Int)+1),.slice (some ⟨w2.heap.size,0,none⟩) 1 1] (w2.alloc (.cells #[ptr pp] PT)) λ e w'=>
   ∃a cap',e=.returned (.slice (some a) (c.L.length+1) cap')∧(w'.cell? ⟨g,0,none⟩=some (.slice (some ⟨b,o,none⟩) c.L.length cap)∧w'.frozen? ⟨g,0,none⟩=false)∧CNew w g (some ⟨b,o,none⟩) q {c with L:=Ch.insL c.L k ⟨s,bb⟩} M (w'.setCell ⟨g,0,none⟩ (.slice (some a) (c.L.length+1) cap')):=by
 have hal:Below w2.heap.size w2 (w2.alloc (.cells #[ptr pp] PT)):=(Below.refl _ _).alloc (Nat.le_refl _) _
 have hnew:=heap_alloc_new w2 (.cells #[ptr pp] PT)
 obtain⟨U,a1,a2,a3,a4,a5⟩:=beside_on h2 hal
 have hne:w2.heap.size≠b:=by
  obtain⟨U',b1,_⟩:=h2
  have:b<w2.heap.size:=(b1.row.lt _ rfl).2
  intro e
  omega
 have hl:=a1.len
 generalize w2.alloc (.cells #[ptr pp] PT)=w3 at*
 have hi:((k:Int)+1)=((k+1:Nat):Int):=by omega
 rw[hi]
 refine(ins_row a1.row (i:=k+1) (by omega) (by omega) hnew hne (λ v hv=>?_) rfl).mono ?_
 ·obtain⟨x,_,rfl⟩:=List.mem_map.1 hv
  rfl
 ·rintro e w' ⟨a,cap',rfl,hr,hg,ha⟩
  obtain⟨b1,b2⟩:=a1.ins hk h9 a2 a3 a5 hr hg ha
  have hgb:g≠b:=λ e=>a1.r_ne_g rfl e.symm
  have hblk:w'.heap[g]?=some (.cells (chC (some ⟨b,o,none⟩) c.L.length cap c) 160 (0,0)):=(hg.block g (gb.blk_lt a1.blk) (λ e=>by cases e;exact hgb rfl)).trans a1.blk
  exact⟨a,cap',rfl,⟨cell_of_row _ _ 0 _ _ _ hblk,gb.frozen_at hblk⟩,_,_,_,b1,a4.trans b2⟩
set_option maxRecDepth 100000 in
set_option maxHeartbeats 16000000 in
theorem ins_yes (h:CAt w g p cap q c M) (h2:2≤c.L.length) (k:Nat) (t:Tox) (ht:t.s.size≤maxLen) (seed now:Int) (hk:k+2≤c.L.length) (h9:c.L.length<10) (hE:newE t c.room=0):
  Calls Tryz.prog 121 #[ptr g,.int .i64 (k:Int),t.v,.int .u64 seed,.int .i64 now] w λ e w'=>e=.returned (.int .i64 0)∧CNew w g p q (c.insN k t seed now) M w':=by
 have hal:Below w.heap.size w (w.alloc (toxObj t)):=(Below.refl _ _).alloc (Nat.le_refl _) _
 have hnew:=heap_alloc_new w (toxObj t)
 have h1:=h.on hal
 obtain⟨b,o,rfl,hr,hnc,hmx⟩:=h1.rows (by omega)
 have HM:=Lib.hid (many_c h1 h2)
 have x1:(w.alloc (toxObj t)).cell? ⟨g,1,none⟩=some (.int .i64 c.room):=h1.cell 1
 have HN:=Lib.hid (part_yes (seed:=seed) (now:=now) ht hE (w.alloc (toxObj t)).drew)
 have hk1:k+1<c.L.length:=by omega
 have HB:=Lib.hid (λ W pp gg U (hp:PAt W pp gg U (newS t seed c.room now) false 0) (hf:Fr (w.alloc (toxObj t)).drew W (oneU pp U))=>(show Beside w g (some ⟨b,o,none⟩) cap q c M pp gg (newS t seed c.room now) false W from beside_new h hal.drew hp hf rfl))
 have HCL:=Lib.hid (λ W pp gg s bb (hx:Beside w g (some ⟨b,o,none⟩) cap q c M pp gg s bb W)=>(show(W.cell? ⟨g,0,none⟩=some (.slice (some ⟨b,o,none⟩) c.L.length cap)∧W.cell? ⟨b,o+(k+1),none⟩=some (ptr (nd q (k+1)).p))∧W.cell? ⟨(nd q (k+1)).p,1,none⟩=some (.bool (c.at' (k+1)).closed)from by
  obtain⟨U,a1,_⟩:=hx
  exact⟨⟨a1.cell 0,a1.rowk hk1⟩,(a1.pcell hk1).2.1⟩))
 have HSH:=Lib.hid (λ W pp gg (hx:Beside w g (some ⟨b,o,none⟩) cap q c M pp gg (newS t seed c.room now) false W)=>beside_shut now hx)
 have HST:=Lib.hid (λ W pp gg s bb (hx:Beside w g (some ⟨b,o,none⟩) cap q c M pp gg s bb W)=>ins_store (k:=k) hx hk h9)
 have hlt:=gb.blk_lt h.blk
 have HLT:=Lib.hid (λ W pp gg s bb (hx:Beside w g (some ⟨b,o,none⟩) cap q c M pp gg s bb W)=>(show g<W.heap.size from by
  obtain⟨U,a1,_⟩:=hx
  exact gb.blk_lt a1.blk))
 have HIS:=Lib.hid (insN_is c k t seed now hk)
 have e1:decide ((k:Int)<0)=false:=by simp
 have e2:decide ((c.L.length:Int) -2<(k:Int))=false:=by simp;omega
 have e3:((c.L.length:Int) -2==8)=false:=by simp;omega
 have hti:((k:Int)+1).toNat=k+1:=by omega
 have hi0:(0:Int)≤(k:Int)+1:=by omega
 have hi1:(k:Int)+1<(c.L.length:Int):=by omega
 have hiw:IntKind.i64.wrap ((k:Int)+1)=(k:Int)+1:=wrap_id (by omega) (by omega)
 have hk10:k≤10:=by omega
 obtain⟨cl,hcl⟩:∃cl,(c.at' (k+1)).closed=cl:=⟨_,rfl⟩
 rw[hcl]at HCL HIS
 have HIS2:=HIS
 generalize hci:c.insN k t seed now=ci at*
 have HCI:=Lib.hid hci
 generalize hcr:c.room=room at x1 HN
 generalize(c.L.length:Int) -2=n2 at HM e2 e3
 have HCR:=Lib.hid hcr
 generalize hn:c.L.length=n at hnc h2 hk hk1 HCL hi1 h9
 unfold toxObj at hnew HN HB HM x1
 unfold Tox.v at*
 have u0:=cell_of_row _ w.heap.size 0 _ _ _ hnew
 have u1:=cell_of_row _ w.heap.size 1 _ _ _ hnew
 have u2:=cell_of_row _ w.heap.size 2 _ _ _ hnew
 have u3:=cell_of_row _ w.heap.size 3 _ _ _ hnew
 have u4:=cell_of_row _ w.heap.size 4 _ _ _ hnew
 have u5:=cell_of_row _ w.heap.size 5 _ _ _ hnew
 have HNL:=Lib.hid hn
 rw[hn]at HST
 rw[hcr]at HB HSH HIS
 clear hnew hal h h1 hr hcl hci hcr hn hlt HIS2
 generalize nd q (k+1)=ndk at*
 go_enter Tryz.func121,Tryz.ntmps121
 go_wp2_with (go_at_call 156;refine HM.out.mono ?_;rintro e w' ⟨rfl,rfl⟩)
 go_region_law
  (go_simp;go_at_call 96;refine Calls.mono HN.out ?_;rintro e w7 ⟨pp,gg,U,rfl,hp,hf⟩;(have HB7:=Lib.hid (HB.out w7 pp gg U hp hf));clear hp hf)
 all_goals
  clear u0 u1 u2 u3 u4 u5 x1 HM HN HB
  have y0:=(HCL.out w7 pp gg _ _ HB7.out).1.1
  have y1:=(HCL.out w7 pp gg _ _ HB7.out).1.2
  have y2:=(HCL.out w7 pp gg _ _ HB7.out).2
  generalize ndk.p=pk at*
  cases cl with
  |true=>
   have HIS3:=Lib.hid (HIS.out.trans (by rw[if_pos rfl]))
   go_wp2_with (first
    |(go_at_call 127;refine(HSH.out w7 pp gg HB7.out).mono ?_;rintro e w8 ⟨rfl,hb8⟩;(have HB8:=Lib.hid hb8);(have y8:=(HCL.out w8 pp gg _ _ HB8.out).1.1);clear hb8 y0 y1 y2)
    |(go_at_call 157;refine(HST.out w8 pp gg _ _ HB8.out).mono ?_;rintro e w9 ⟨a,cap',rfl,⟨z0,f0⟩,hc⟩;(have HC9:=Lib.hid hc);clear hc y8))
   try rw[Exit.noGoto_ret]
   go_ret
   refine⟨rfl,?_⟩
   rw[HIS3.out]
   have hz:=HC9.out
   rw[HCR.out]at hz
   exact hz
  |false=>
   have HIS3:=Lib.hid (HIS.out.trans (by rw[if_neg (by decide)]))
   go_wp2_with (go_at_call 157;refine(HST.out w7 pp gg _ _ HB7.out).mono ?_;rintro e w9 ⟨a,cap',rfl,⟨z0,f0⟩,hc⟩;(have HC9:=Lib.hid hc);clear hc y0 y1 y2)
   try rw[Exit.noGoto_ret]
   go_ret
   refine⟨rfl,?_⟩
   rw[HIS3.out]
   have hz:=HC9.out
   rw[HCR.out]at hz
   exact hz
end
end Go.Proofs.YtdighjgcnaajgaaGreat
