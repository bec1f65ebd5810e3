import Derived.Test.YtdighjgcnaajgaaGreatMT2
namespace Go.Proofs.YtdighjgcnaajgaaGreat
open Go.RowKit
section
variable {w w' W W':World} {V V1 V2:Own} {g a b T:Nat} {p:Option Addr} {cap:Nat} {k k':Cn} {s s':Told} {M M':Nat}
theorem tox_cells {B:Nat} {t:Tox} (h:W.heap[B]?=some (toxObj t)):W.cell? ⟨B,0,none⟩=some (.string t.s)∧W.cell? ⟨B,1,none⟩=some (.int .i64 t.k)∧W.cell? ⟨B,2,none⟩=some (.bool t.up)∧W.cell? ⟨B,3,none⟩=some (.int .i64 t.o)∧W.cell? ⟨B,4,none⟩=some (.int .i64 t.a)∧W.cell? ⟨B,5,none⟩=some (.int .i64 t.b):=
 ⟨cell_of_row _ _ 0 _ _ _ h,cell_of_row _ _ 1 _ _ _ h,cell_of_row _ _ 2 _ _ _ h,cell_of_row _ _ 3 _ _ _ h,cell_of_row _ _ 4 _ _ _ h,cell_of_row _ _ 5 _ _ _ h⟩
theorem KAt.ptr_at (h:KAt w V1 V2 g a b p cap k M) {x:Nat} (hx:x<2):w.cell? ⟨g,x,none⟩=some (ptr (sel x a b)):=by
 rw[h.cell]
 rcases(show x=0∨x=1 by omega)with rfl|rfl<;>rfl
theorem kmv_ptr (h:KMv w V g a b p cap k M W) {x:Nat} (hx:x<2):W.cell? ⟨g,x,none⟩=some (ptr (sel x a b)):=by
 obtain⟨V1,V2,h1,_⟩:=h
 exact h1.ptr_at hx
theorem below_two {w0 w1 w2:World} (h:Below w0.heap.size w0 w1) (h':Below w1.heap.size w1 w2):Below w0.heap.size w0 w2:=h.trans (h'.mono h.size)
set_option maxRecDepth 100000 in
set_option maxHeartbeats 8000000 in
theorem kchg_c (h:KAt w V1 V2 g a b p cap k M) (t:Tox) (ht:t.s.size≤maxLen) (now:Int):
  Calls Tryz.prog 43 #[ptr g,t.v,.int .i64 now] w λ e w'=>e=.returned (.int .i64 (k.chgE t now))∧KMv w (blkK g p V1 V2) g a b p cap (k.chgK t now) M w':=by
 obtain⟨w1,hw1⟩:∃w1,w.alloc (toxObj t)=w1:=⟨_,rfl⟩
 have hal:Below w.heap.size w w1:=by rw[←hw1];exact(Below.refl _ _).alloc (Nat.le_refl _) _
 have hnew:w1.heap[w.heap.size]?=some (toxObj t):=by rw[←hw1];exact heap_alloc_new w _
 obtain⟨x,hx⟩:∃x,Cn.wayT t=x:=⟨_,rfl⟩
 have hx2:x<2:=by rw[←hx];exact Cn.way_lt t
 have hxi:(x:Int)<2:=by omega
 have HW:=Lib.hid (λ W=>way_of t W)
 rw[hx]at HW
 have htop:=lrep_top h.la
 have hnv:¬blkK g p V1 V2 w.heap.size:=λ hu=>by have:=h.lt hu;omega
 have HSC:=Lib.hid (λ (W:World) (hb:Below w1.heap.size w1 W)=>And.intro (tox_cells ((hb.block _ (gb.blk_lt hnew)).trans hnew)) (((h.on hal).on hb).ptr_at hx2))
 have HCH:=Lib.hid (λ (W:World) (hb:Below w1.heap.size w1 W)=>(((KMv.refl (h.on hal)).on hb).step (i:=x) (f:=λ l=>l.chgK t now) (P:=λ e=>e=.returned (.int .i64 ((k.lk x).chgE t now))) (Nat.le_refl _) htop (Cn.chg_up _ t now) λ V' hr=>lchg hr t ht now).mono λ e W' (he:_∧_∧_∧_)=>(show e=.returned (.int .i64 ((k.lk x).chgE t now))∧KMv w (blkK g p V1 V2) g a b p cap (k.on x λ l=>l.chgK t now) M W'∧W'.heap[w.heap.size]?=some (toxObj t)∧W'.cell? ⟨g,x,none⟩=some (ptr (sel x a b))from
  ⟨he.1,he.2.1.base hal,he.2.2.1 _ _ (gb.blk_lt hnew) hnv ((hb.block _ (gb.blk_lt hnew)).trans hnew),kmv_ptr he.2.1 hx2⟩))
 unfold Cn.chgE Cn.chgK
 rw[hx]
 generalize(k.lk x).chgE t now=E at*
 generalize(k.on x λ l=>l.chgK t now)=K at*
 generalize sel x a b=pk at*
 generalize blkK g p V1 V2=V at*
 have HS0:=Lib.hid (HSC.out w1.drew (Below.refl _ _).drew)
 have HB0:=Lib.hid (show Below w1.heap.size w1 w1.drew from(Below.refl _ _).drew)
 have HTC:=Lib.hid (λ (W:World) (h:W.heap[w.heap.size]?=some (toxObj t))=>tox_cells h)
 clear h hal hnew hnv htop hx
 obtain⟨ts,tk,tu,to,ta,tb⟩:=t
 unfold Tox.v at HCH HW⊢
 unfold toxObj at hw1 HW
 simp only at HSC HS0 HCH HTC
 go_enter Tryz.func43,Tryz.ntmps43
 go_upto_region 1 with fail
 clear hw1
 go_region_held (λ W'=>(W'.cell? ⟨w.heap.size,0,none⟩=some (.string ts)∧W'.cell? ⟨w.heap.size,1,none⟩=some (.int .i64 tk)∧W'.cell? ⟨w.heap.size,2,none⟩=some (.bool tu)∧W'.cell? ⟨w.heap.size,3,none⟩=some (.int .i64 to)∧W'.cell? ⟨w.heap.size,4,none⟩=some (.int .i64 ta)∧W'.cell? ⟨w.heap.size,5,none⟩=some (.int .i64 tb))∧W'.cell? ⟨g,x,none⟩=some (ptr pk))
  (first
   |with_reducible exact HS0.out
   |with_reducible exact HS1.out
   |with_reducible exact HS2.out)
  (first
   |(go_at_call 52;(with_reducible refine Calls.mono (HW.out _) ?_);rintro e w6 ⟨rfl,hw6⟩;have HB6:=Lib.hid (show Below w1.heap.size w1 w6 from by rw[hw6];exact below_two HB0.out ((Below.refl _ _).alloc (Nat.le_refl _) _));have HS1:=Lib.hid (HSC.out w6 HB6.out);clear hw6)
   |(go_at_call 76;(with_reducible refine Calls.mono (HCH.out _ HB6.out) ?_);rintro e w7 ⟨rfl,hk7,ht7,hp7⟩;have HK7:=Lib.hid hk7;have HS2:=Lib.hid (And.intro (HTC.out w7 ht7) hp7);clear hk7 ht7 hp7))
 go_wp2_with fail
 go_ret
 exact⟨rfl,HK7.out⟩
end
end Go.Proofs.YtdighjgcnaajgaaGreat
namespace Go.Proofs.YtdighjgcnaajgaaGreat
open Go.RowKit
section
variable {w w' W W':World} {V V1 V2:Own} {g a b T:Nat} {p:Option Addr} {cap:Nat} {k k':Cn} {s s':Told} {M M':Nat}
theorem KAt.row_ne (h:KAt w V1 V2 g a b p cap k M) {x:Addr} (hx:p=some x):x.block≠g:=λ e=>by
 obtain⟨cur,hc⟩:=h.row.typed x hx
 rw[e]at hc
 have:=gc.two_types hc h.blk
 simp at this
theorem KAt.renamed (h:KAt w V1 V2 g a b p cap k M) {q:Option Addr} {d:Nat} {ns:List ByteArray} (hr:gc.ORow w' 0 9 1 q ns.length d (ns.map Value.string)) (hg:w.grownBy w' (p.map (·.block))) (hq:∀x,q=some x→p.map (·.block)=some x.block∨w.heap.size≤x.block) (hf:ns.length≤16):
  (w'.cell? ⟨g,2,none⟩=some (.slice p k.names.length cap)∧w'.frozen? ⟨g,2,none⟩=false∧g<w'.heap.size)∧
  KAt (w'.setCell ⟨g,2,none⟩ (.slice q ns.length d)) V1 V2 g a b q d {k with names:=ns} M∧Mvd w (blkK g p V1 V2) (w'.setCell ⟨g,2,none⟩ (.slice q ns.length d)) (blkK g q V1 V2):=by
 have hne:∀i,i<w.heap.size→(∀x,p=some x→x.block≠i)→w'.heap[i]?=w.heap[i]?:=λ i hi hn=>hg.block i hi λ e=>by
  cases p with
  |none=>cases e
  |some x=>exact hn x rfl (by have e:some i=some x.block:=e;injection e with e;exact e.symm)
 have hlg:=gb.blk_lt h.blk
 have b':=(hne g hlg λ x e=>h.row_ne e).trans h.blk
 have hqq:∀x,q=some x→(∃y,p=some y∧y.block=x.block)∨w.heap.size≤x.block:=λ x e=>by
  rcases hq x e with e'|e'
  ·cases p with
   |none=>cases e'
   |some y=>exact Or.inl ⟨y,rfl,by have e':some y.block=some x.block:=e';injection e'⟩
  ·exact Or.inr e'
 have hqg:∀x,q=some x→x.block≠g:=λ x e e'=>by
  rcases hqq x e with⟨y,hy,hb⟩|hb
  ·exact h.row_ne hy (hb.trans e')
  ·omega
 have ho:∀i,i≠g→(w'.setCell ⟨g,2,none⟩ (.slice q ns.length d)).heap[i]?=w'.heap[i]?:=λ i hi=>Below.heap_setCell _ _ _ _ hi
 have kl:∀i,i<w.heap.size→i≠g→(∀x,p=some x→x.block≠i)→(w'.setCell ⟨g,2,none⟩ (.slice q ns.length d)).heap[i]?=w.heap[i]?:=λ i hi hn hp=>(ho i hn).trans (hne i hi hp)
 refine⟨⟨cell_of_row _ _ 2 _ _ _ b',gb.frozen_at b',gb.blk_lt b'⟩,⟨gb.set_heap b' _,hr.keep λ x e=>ho _ (hqg x e),?_,?_,h.apart,h.gg,λ x e=>?_,hf,h.ups⟩,⟨⟨⟨hg.os,hg.tape,hg.output,by simp only[World.setCell,Array.size_modify];exact hg.size,λ j hj=>absurd hj (Nat.not_lt_zero j)⟩,λ i hi hu=>kl i hi (λ e=>hu (Or.inl e)) λ x e e'=>hu (Or.inr (Or.inl ⟨x,e,e'⟩))⟩,λ i hi=>?_⟩⟩
 ·exact lrep_keep h.la λ i hi=>kl i ((lrep_lt h.la).2 i hi) (λ e=>h.gg.1 (by rw[←e];exact hi)) λ x e e'=>(h.rr x e).1 (by rw[e'];exact hi)
 ·exact lrep_keep h.lb λ i hi=>kl i ((lrep_lt h.lb).2 i hi) (λ e=>h.gg.2 (by rw[←e];exact hi)) λ x e e'=>(h.rr x e).2 (by rw[e'];exact hi)
 ·rcases hqq x e with⟨y,hy,hb⟩|hb
  ·rw[←hb]
   exact h.rr y hy
  ·exact⟨λ hv=>by have:=(lrep_lt h.la).2 _ hv;omega,λ hv=>by have:=(lrep_lt h.lb).2 _ hv;omega⟩
 ·rcases hi with e|⟨x,e,rfl⟩|e|e
  ·exact Or.inl (Or.inl e)
  ·rcases hqq x e with⟨y,hy,hb⟩|hb
   ·exact Or.inl (Or.inr (Or.inl ⟨y,hy,hb⟩))
   ·exact Or.inr hb
  ·exact Or.inl (Or.inr (Or.inr (Or.inl e)))
  ·exact Or.inl (Or.inr (Or.inr (Or.inr e)))
theorem kapp (h:KMv w V g a b p cap k M W) (x:ByteArray) (hn:k.names.length≤15):
  ∃q d w6,(∀ty,(Builtin.append_ #[36,36] ty #[.slice p k.names.length cap,.slice (some ⟨W.heap.size,0,none⟩) 1 1]).run Tryz.prog (W.alloc (.cells #[.string x] 9))=.ok (.slice q (k.names.length+1) d) w6)∧
   (w6.cell? ⟨g,2,none⟩=some (.slice p k.names.length cap)∧w6.frozen? ⟨g,2,none⟩=false∧g<w6.heap.size)∧KMv w V g a b q d {k with names:=k.names++[x]} M (w6.setCell ⟨g,2,none⟩ (.slice q (k.names.length+1) d)):=by
 obtain⟨V1,V2,h1,h2⟩:=h
 have hal:Below W.heap.size W (W.alloc (.cells #[.string x] 9)):=(Below.refl _ _).alloc (Nat.le_refl _) _
 have hnew:=heap_alloc_new W (.cells #[.string x] 9)
 obtain⟨i0,hi0,hz0,hz1,hz2⟩:=info_parts infoS
 obtain⟨q,d,w6,e1,e2,e3,e4⟩:=gc.app_row (t:=36) (h1.row.on hal) (Nat.zero_le _) Tryz.underlying36 hi0 hz0 hz1 hz2 rfl (by decide) (a:=⟨W.heap.size,0,none⟩) (m:=1) (d:=1) (news:=[.string x]) rfl (λ j u hj=>by
  rw[WideShapes.add_plain]
  have hj1:j<1:=(List.getElem?_eq_some_iff.1 hj).1
  obtain rfl:j=0:=by omega
  cases hj
  exact cell_of_row _ _ 0 _ _ _ hnew) (λ u hu=>by cases List.mem_singleton.1 hu;rfl) (by unfold maxLen;omega) (by omega)
 have hl:(k.names++[x]).length=k.names.length+1:=by rw[List.length_append];rfl
 have e2':gc.ORow w6 0 9 1 q (k.names++[x]).length d ((k.names++[x]).map Value.string):=by
  rw[hl,List.map_append]
  exact e2
 obtain⟨f1,f2,f3⟩:=(h1.on hal).renamed e2' e3 e4 (by omega)
 rw[hl]at f2 f3
 exact⟨q,d,w6,e1,f1,V1,V2,f2,(h2.on hal).trans f3⟩
end
end Go.Proofs.YtdighjgcnaajgaaGreat
namespace Go.Proofs.YtdighjgcnaajgaaGreat
open Go.RowKit
section
variable {w w' W W':World} {V V1 V2:Own} {g a b T:Nat} {p:Option Addr} {cap:Nat} {k k':Cn} {s s':Told} {M M':Nat}
theorem KAt.up_way (h:KAt w V1 V2 g a b p cap k M) (t:Tox):t.up=(k.lk (Cn.wayT t)).up:=by
 unfold Cn.wayT Cn.lk
 cases hu:t.up with
 |true=>exact h.ups.1.symm
 |false=>exact h.ups.2.symm
theorem KAt.room (h:KAt w V1 V2 g a b p cap k M) (hp:k.Prm) (t:Tox) (now:Int) (hc:t.chk=0) (he:(k.lk (Cn.wayT t)).addE t now=0):k.names.length≤15:=by
 have hl:=hp.length_eq
 rw[List.length_append]at hl
 have h1:=(lrep_ok h.la).1.few
 have h2:=(lrep_ok h.lb).1.few
 have hu:=h.up_way t
 obtain⟨o,ob⟩:=lrep_ok (h.lk (Cn.wayT t))
 have hd:=(Lk.draw_ok o ob t now hc).2.2.2
 unfold Lk.addE at he
 rw[if_neg (λ e=>e.elim (λ e=>e hc) (λ e=>e hu))]at he
 split at he
 ·exact absurd he (by decide)
 ·have:=hd he
  have hx:=Cn.way_lt t
  unfold Cn.lk at this
  split at this<;>omega
set_option maxRecDepth 100000 in
set_option maxHeartbeats 8000000 in
theorem kadd_c (h:KAt w V1 V2 g a b p cap k M) (hp:k.Prm) (t:Tox) (ht:t.s.size≤maxLen) (now:Int) (hM:M+t.s.size≤M') (hf:M'≤400000):
  Calls Tryz.prog 21 #[ptr g,t.v,.int .i64 now] w λ e w'=>e=.returned (.int .i64 (k.addE t now))∧∃q d,KMv w (blkK g p V1 V2) g a b q d (k.addK t now) M' w':=by
 obtain⟨w1,hw1⟩:∃w1,w.alloc (toxObj t)=w1:=⟨_,rfl⟩
 have hal:Below w.heap.size w w1:=by rw[←hw1];exact(Below.refl _ _).alloc (Nat.le_refl _) _
 have hnew:w1.heap[w.heap.size]?=some (toxObj t):=by rw[←hw1];exact heap_alloc_new w _
 have HC:=Lib.hid (chk_l t ht w1)
 obtain⟨x,hx⟩:∃x,Cn.wayT t=x:=⟨_,rfl⟩
 have hx2:x<2:=by rw[←hx];exact Cn.way_lt t
 have hxi:(x:Int)<2:=by omega
 have HW:=Lib.hid (λ W=>way_of t W)
 rw[hx]at HW
 have hnv:¬blkK g p V1 V2 w.heap.size:=λ hu=>by have:=h.lt hu;omega
 have HSC:=Lib.hid (λ (W:World) (hb:Below w1.heap.size w1 W)=>And.intro (tox_cells ((hb.block _ (gb.blk_lt hnew)).trans hnew)) (And.intro (((h.on hal).on hb).ptr_at hx2) ((h.on hal).on hb).loads.2.2))
 have HSK:=Lib.hid (λ (W:World) (hb:Below w1.heap.size w1 W)=>(((KMv.refl h).on (below_two hal hb)).more (M':=M') (by omega) hf))
 have HCN:=Lib.hid (λ (W:World) (hb:Below w1.heap.size w1 W)=>contains_r (h.on (below_two hal hb)).row h.few t.s)
 have HCH:=Lib.hid (λ (W:World) (hb:Below w1.heap.size w1 W)=>(((KMv.refl (h.on hal)).on hb).step (i:=x) (f:=λ l=>l.addK t now) (M':=M') (P:=λ e=>e=.returned (.int .i64 ((k.lk x).addE t now))) (by omega) hf (Cn.add_up _ t now) λ V' hr=>ladd hr t ht now hM hf).mono λ e W' (he:_∧_∧_∧_)=>(show e=.returned (.int .i64 ((k.lk x).addE t now))∧KMv w (blkK g p V1 V2) g a b p cap (k.on x λ l=>l.addK t now) M' W'∧W'.heap[w.heap.size]?=some (toxObj t)∧W'.cell? ⟨g,x,none⟩=some (ptr (sel x a b))∧W'.cell? ⟨g,2,none⟩=some (.slice p k.names.length cap)from
  ⟨he.1,he.2.1.base hal,he.2.2.1 _ _ (gb.blk_lt hnew) hnv ((hb.block _ (gb.blk_lt hnew)).trans hnew),kmv_ptr he.2.1 hx2,by
   obtain⟨V3,V4,h1,_⟩:=he.2.1
   have:=h1.loads.2.2
   have e:(k.on x λ l=>l.addK t now).names=k.names:=by unfold Cn.on;split<;>rfl
   rw[e]at this
   exact this⟩))
 have HRM:=Lib.hid (h.room hp t now)
 have hnm:(k.on x λ l=>l.addK t now).names=k.names:=by unfold Cn.on;split<;>rfl
 have HAPP:=Lib.hid (λ (W:World) (hk:KMv w (blkK g p V1 V2) g a b p cap (k.on x λ l=>l.addK t now) M' W) (hn:k.names.length≤15)=>kapp hk t.s (by rw[hnm];exact hn))
 rw[hnm]at HAPP
 have HMD:Hid ((t.chk≠0→k.addE t now=t.chk∧k.addK t now=k)∧(t.chk=0→Lib.containsS k.names t.s=true→k.addE t now=141∧k.addK t now=k)∧(t.chk=0→Lib.containsS k.names t.s=false→k.addE t now=(k.lk x).addE t now∧k.addK t now=if(k.lk x).addE t now=0 then{k.on x (λ l=>l.addK t now)with names:=k.names++[t.s]}else k.on x (λ l=>l.addK t now))):=by
  unfold Cn.addE Cn.addK
  rw[hx]
  refine⟨λ h1=>by rw[if_pos h1,if_pos h1];exact⟨rfl,rfl⟩,λ h1 h2=>by rw[if_neg (show¬t.chk≠0 fromλ e=>e h1),if_neg (show¬t.chk≠0 fromλ e=>e h1),if_pos h2,if_pos h2];exact⟨rfl,rfl⟩,λ h1 h2=>?_⟩
  have h2':¬Lib.containsS k.names t.s=true:=by rw[h2];decide
  rw[if_neg (show¬t.chk≠0 fromλ e=>e h1),if_neg (show¬t.chk≠0 fromλ e=>e h1),if_neg h2',if_neg h2']
  exact⟨rfl,rfl⟩
 rw[hx]at HRM
 generalize(k.lk x).addE t now=E at*
 generalize hKK:(k.on x λ l=>l.addK t now)=K at*
 generalize sel x a b=pk at*
 generalize blkK g p V1 V2=V at*
 have HTC:=Lib.hid (λ (W:World) (h:W.heap[w.heap.size]?=some (toxObj t))=>tox_cells h)
 have hnl:=h.few
 have hcapl:=h.row.cap
 have hmaxl:=h.row.max
 obtain⟨c0,c1,c2,c3,c4,c5⟩:=tox_cells hnew
 clear h hal hnew hnv hx hp hM hf hnm
 obtain⟨B,hB⟩:∃B,Lib.containsS k.names t.s=B:=⟨_,rfl⟩
 rw[hB]at HCN HMD
 have HB:=Lib.hid hB
 clear hB
 generalize k.addE t now=AE at*
 generalize k.addK t now=AK at*
 generalize t.chk=ch at*
 obtain⟨ts,tk,tu,to,ta,tb⟩:=t
 unfold Tox.v at HCH HW⊢
 unfold toxObj at hw1 HW
 simp only at HSC HCH HTC c0 c1 c2 c3 c4 c5 HC HCN HAPP
 go_enter Tryz.func21,Tryz.ntmps21
 go_wp2_with fail
 refine HC.out.mono ?_
 rintro e w2 ⟨rfl,hb2⟩
 have HB2:=Lib.hid hb2
 clear hb2 hw1 HC c0 c1 c2 c3 c4 c5
 by_cases hc:ch=0
 ·subst hc
  have hbd:=(gc.below_drewN w2 1)
  obtain⟨⟨c0,c1,c2,c3,c4,c5⟩,d0,d2⟩:=HSC.out w2 HB2.out
  have HBN:=Lib.hid (λ n=>HB2.out.trans ((gc.below_drewN w2 n).mono HB2.out.size))
  have HCQ:=Lib.hid (λ n=>(HCN.out _ (HBN.out n)).mono λ e w'' (h:e=_∧w''=w2.drewN n)=>(⟨h.1,n,h.2⟩:e=_∧∃m,w''=w2.drewN m))
  clear HCN hbd
  go_wp2_with fail
  go_quiet ((go_at_call 51;exact HCQ.out _))
  have HB3:=Lib.hid (HBN.out nq)
  clear HCQ HBN c0 c1 c2 c3 c4 c5 d0 d2
  generalize w2.drewN nq=w3 at*
  cases B with
  |true=>
   have HM:=Lib.hid (HMD.out.2.1 (by trivial) (by trivial))
   have HS:=Lib.hid (HSK.out w3 HB3.out)
   clear HMD HSK
   go_wp2_with fail
   go_ret
   rw[HM.out.1,HM.out.2]
   exact⟨rfl,p,cap,HS.out⟩
  |false=>
   have HM2:=Lib.hid (HMD.out.2.2 (by trivial) (by trivial))
   clear HMD HSK
   have HS0:=Lib.hid (HSC.out w3.drew (HB3.out.trans ((Below.refl _ w3).drew.mono HB3.out.size)))
   have HB0:=Lib.hid (show Below w1.heap.size w1 w3.drew from HB3.out.trans ((Below.refl _ w3).drew.mono HB3.out.size))
   go_upto_region 6 with fail
   go_region_held (λ W'=>(W'.cell? ⟨w.heap.size,0,none⟩=some (.string ts)∧W'.cell? ⟨w.heap.size,1,none⟩=some (.int .i64 tk)∧W'.cell? ⟨w.heap.size,2,none⟩=some (.bool tu)∧W'.cell? ⟨w.heap.size,3,none⟩=some (.int .i64 to)∧W'.cell? ⟨w.heap.size,4,none⟩=some (.int .i64 ta)∧W'.cell? ⟨w.heap.size,5,none⟩=some (.int .i64 tb))∧W'.cell? ⟨g,x,none⟩=some (ptr pk)∧W'.cell? ⟨g,2,none⟩=some (.slice p k.names.length cap))
    (first
     |with_reducible exact HS0.out
     |with_reducible exact HS1.out
     |with_reducible exact HS2.out)
    (first
     |(go_at_call 52;(with_reducible refine Calls.mono (HW.out _) ?_);rintro e w6 ⟨rfl,hw6⟩;have HB6:=Lib.hid (show Below w1.heap.size w1 w6 from by rw[hw6];exact below_two HB0.out ((Below.refl _ _).alloc (Nat.le_refl _) _));have HS1:=Lib.hid (HSC.out w6 HB6.out);clear hw6)
     |(go_at_call 53;(with_reducible refine Calls.mono (HCH.out _ HB6.out) ?_);rintro e w7 ⟨rfl,hk7,ht7,hp7⟩;have HK7:=Lib.hid hk7;have HS2:=Lib.hid (And.intro (HTC.out w7 ht7) hp7);clear hk7 ht7 hp7))
   clear HS0 HS1 HB0 HB6 HSC HCH HW
   by_cases hE:E=0
   ·subst hE
    have hn:=HRM.out (by trivial) (by trivial)
    obtain⟨q,d,w8,e1,⟨y1,y2,y3⟩,hk8⟩:=HAPP.out w7.drew (HK7.out.on (Below.refl _ w7).drew) hn
    have HAP:=Lib.hid e1
    have HK8:=Lib.hid hk8
    obtain⟨⟨c0,_⟩,_,d2⟩:=HS2.out
    have hal:Below w7.heap.size w7 (w7.alloc (.cells #[.string ts] 9)):=(Below.refl _ _).alloc (Nat.le_refl _) _
    have c0':=(hal.cell (World.block_lt_of_cell? _ _ c0)).trans c0
    have d2':=(hal.cell (World.block_lt_of_cell? _ _ d2)).trans d2
    clear e1 hk8 HAPP HRM hal
    go_upto_region 8 with fail
    go_region_law (first|(refine gc.step_append_eq rfl (.tmp 37) (.tmp 40) 36 36 rfl (.slice p k.names.length cap) (.slice (some ⟨w7.heap.size,0,none⟩) 1 1) rfl rfl HAP.out ?_))
    all_goals
     go_wp2_with fail
     go_ret
     rw[HM2.out.1,HM2.out.2,if_pos (by trivial)]
     exact⟨rfl,q,d,HK8.out⟩
   ·have d1:(E==0)=false:=by simpa using hE
    have d2:decide (E=0)=false:=by simpa using hE
    have HE:=Lib.hid hE
    clear HAPP HRM HS2 hE
    go_wp2_with fail
    go_ret
    rw[HM2.out.1,HM2.out.2,if_neg HE.out]
    exact⟨rfl,p,cap,HK7.out⟩
 ·have d1:(ch !=0)=true:=by simpa using hc
  have d2:decide (ch=0)=false:=by simpa using hc
  have HM:=Lib.hid (HMD.out.1 hc)
  have HS:=Lib.hid (HSK.out w2 HB2.out)
  clear HMD HSK hc
  go_wp2_with fail
  go_ret
  rw[HM.out.1,HM.out.2]
  exact⟨rfl,p,cap,HS.out⟩
end
end Go.Proofs.YtdighjgcnaajgaaGreat
namespace Go.Proofs.YtdighjgcnaajgaaGreat
open Go.RowKit
attribute [local go_sem] Oper.semAt_some
section
variable {w w' W W':World} {V V1 V2:Own} {g a b T:Nat} {p:Option Addr} {cap:Nat} {k k':Cn} {s s':Told} {M M':Nat}
theorem Cn.out_len {l:List ByteArray} {x:ByteArray} (h:¬Lib.idxOfS l x<0):(Cn.out l x).length=l.length -1∧1≤l.length∧(Lib.idxOfS l x).toNat<l.length:=by
 obtain⟨h1,h2⟩:=Cn.out_erase h
 have h3:=@List.length_erase_of_mem ByteArray instBEqOfDecidableEq _ x l h2
 have h4:=Lk.idx_lt ⟨Ch.newC 0 0,l,true,0,0,0,0,0⟩ x h
 have h4:(Lib.idxOfS l x).toNat<l.length:=h4
 exact⟨by rw[h1];exact h3,by omega,h4⟩
theorem kdel (h:KMv w V g a b p cap k M W) (x:ByteArray) (hx:¬Lib.idxOfS k.names x<0):
  Calls Tryz.prog 56 #[.slice p k.names.length cap,.int .i64 (Lib.idxOfS k.names x),.int .i64 (Lib.idxOfS k.names x+1)] W λ e w'=>∃q d,e=.returned (.slice q (k.names.length -1) d)∧
   ((w'.cell? ⟨g,2,none⟩=some (.slice p k.names.length cap)∧w'.frozen? ⟨g,2,none⟩=false∧g<w'.heap.size)∧KMv w V g a b q d {k with names:=Cn.out k.names x} M (w'.setCell ⟨g,2,none⟩ (.slice q (k.names.length -1) d)))∧(∀j o,j<w.heap.size→¬V j→W.heap[j]?=some o→w'.heap[j]?=some o)∧KeepsFrom 0 W w':=by
 obtain⟨V1,V2,h1,h2⟩:=h
 obtain⟨l1,l2,l3⟩:=Cn.out_len hx
 obtain⟨bb,oo,rfl,_⟩:=row_strs h1.row (by omega)
 have hI:Lib.idxOfS k.names x=((Lib.idxOfS k.names x).toNat:Int):=by omega
 have hD:=del_names h1.row rfl h1.few l3
 rw[←hI]at hD
 refine hD.mono ?_
 rintro e w' ⟨q,d,rfl,hr,hg,hq⟩
 obtain⟨f1,f2,f3⟩:=h1.renamed (q:=some q) (d:=d) (ns:=Cn.out k.names x) (by rw[l1];exact hr) hg (λ y e=>by cases e;exact Or.inl (by rw[hq];rfl)) (by have:=h1.few;omega)
 rw[l1]at f2 f3
 have hbb:blkK g (some ⟨bb,oo,none⟩) V1 V2 bb:=Or.inr (Or.inl ⟨_,rfl,rfl⟩)
 refine⟨some q,d,rfl,⟨f1,V1,V2,f2,h2.trans f3⟩,λ j o hj hn ho=>(hg.block j (Array.getElem?_eq_some_iff.1 ho).1 λ e=>?_).trans ho,⟨hg.size,λ j o _ ho hc=>(hg.block j (Array.getElem?_eq_some_iff.1 ho).1 λ e=>?_).trans ho⟩⟩
 ·have e:some j=some bb:=e
  injection e with e
  exact h2.not hj hn (by rw[e];exact hbb)
 ·have e:some j=some bb:=e
  injection e with e
  obtain⟨cs,T,fr,hx⟩:=h1.cells hbb
  rw[←e,ho]at hx
  cases hx
  cases hc
theorem Cn.on_id {x:Nat} {f:Lk→Lk} (hx:x<2) (h:f (k.lk x)=k.lk x):k.on x f=k:=by
 unfold Cn.on Cn.lk at*
 rcases(show x=0∨x=1 by omega)with rfl|rfl
 ·simp only[if_true]at h⊢
  rw[h]
 ·simp only[Nat.one_ne_zero,if_false]at h⊢
  rw[h]
theorem Cn.on_names (x:Nat) (f:Lk→Lk):(k.on x f).names=k.names:=by
 unfold Cn.on
 split<;>rfl
theorem KMv.put {W0:World} {R:Nat} (h:KMv W0 V g a b p cap k M W) (hb:Below w.heap.size w W0) (h0:w.heap.size≤R) (hR:R<W0.heap.size) (hn:¬V R) (i:Nat) (v:Value):KMv w V g a b p cap k M (W.setCell ⟨R,i,none⟩ v):=by
 obtain⟨V1,V2,h1,h2⟩:=h
 have hno:=h2.not hR hn
 exact⟨V1,V2,h1.keep λ j hj=>Below.heap_setCell _ _ _ _ λ e=>hno (by have e:j=R:=e;rw[←e];exact hj),(((Mvd.refl w V).on hb).trans h2).fresh h0 i v⟩
def Cn.Nowhere (k:Cn) (nm:ByteArray) (l:List Two2):Prop:=∀x∈l,(k.lk x.1).idx nm<0
def DropX (w:World) (V:Own) (g a b:Nat) (k:Cn) (nm:ByteArray) (now:Int) (M:Nat) (pre:List Two2) (W:World):Prop:=
 ∃(l:List Two2) (x:Two2),pre=l++[x]∧k.Nowhere nm l∧¬(k.lk x.1).idx nm<0∧∃q d,KMv w V g a b q d {k.on x.1 (λ l=>l.dropK nm now)with names:=Cn.out k.names nm} M W
theorem Cn.lk0:k.lk 0=k.A:=rfl
theorem Cn.lk1:k.lk 1=k.B:=rfl
set_option maxRecDepth 100000 in
set_option maxHeartbeats 16000000 in
theorem kdrop_c (h:KAt w V1 V2 g a b p cap k M) (hp:k.Prm) (nm:ByteArray) (now:Int):
  Calls Tryz.prog 22 #[ptr g,.string nm,.int .i64 now] w λ e w'=>e=.returned (.int .i64 (k.dropE nm))∧∃q d,KMv w (blkK g p V1 V2) g a b q d (k.dropK nm now) M w':=by
 obtain⟨W0,hW0⟩:∃W0,[(.cells #[ptr g] 29:Obj),.cells #[.string nm] 9,.cells #[.int .i64 now] 3,.cells #[.int .i64 0] 30,.cells #[ptr g] 29].foldl World.alloc w=W0:=⟨_,rfl⟩
 obtain⟨hal,hsz,hn⟩:=allocs [(.cells #[ptr g] 29:Obj),.cells #[.string nm] 9,.cells #[.int .i64 now] 3,.cells #[.int .i64 0] 30,.cells #[ptr g] 29] w
 rw[hW0]at hal hsz hn
 have hn0:=hn 0 (by simp)
 have hn1:=hn 1 (by simp)
 have hn2:=hn 2 (by simp)
 have hn3:=hn 3 (by simp)
 have hn4:=hn 4 (by simp)
 simp only[List.length_cons,List.length_nil,Nat.add_zero,List.getElem_cons_zero,List.getElem_cons_succ,Nat.zero_add,Nat.reduceAdd]at hsz hn0 hn1 hn2 hn3 hn4
 simp only[List.foldl_cons,List.foldl_nil]at hW0
 have h0:=h.on hal
 obtain⟨y0,y1,_⟩:=h0.loads
 have hv:∀i,w.heap.size≤i→¬blkK g p V1 V2 i:=λ i hi hu=>by have:=h.lt hu;omega
 have htop:=lrep_top h.la
 have HAL:=Lib.hid hal
 have z0:=cell_of_row _ _ 0 _ _ _ hn4
 have HSQ:=Lib.hid (both_stop 2 _ g a b W0 z0 y0 y1)
 have HI:=Lib.hid (KMv.refl h0)
 have HMEM:=Lib.hid (λ (x:Nat) (hx:¬(k.lk x).idx nm<0)=>Cn.prm_mem hp hx)
 have HOK:=Lib.hid (λ (x:Nat)=>lrep_ok (h.lk x))
 have HN0:=Lib.hid hn0
 have HN1:=Lib.hid hn1
 have HN2:=Lib.hid hn2
 have HN3:=Lib.hid hn3
 have hvg:blkK g p V1 V2 g:=Or.inl rfl
 generalize blkK g p V1 V2=V at*
 have HVG:=Lib.hid hvg
 have HV:=Lib.hid hv
 have hnl:=h.few
 have hmx2:Tryz.prog.follows .mixedOrders=true:=by kernel_rfl
 have c3:=cell_of_row _ _ 0 _ _ _ hn0
 clear h h0 hal hn hn0 hn1 hn2 hn3 hn4 y0 y1 z0 hv hp hvg
 refine(callsIn_wide (n:=3)).1 ?_
 refine callsIn_of_wp_marks Tryz.func22 rfl trivial ?_ rfl
 simp only[Tryz.ntmps22,List.size_toArray,List.length_cons,List.length_nil,Nat.reduceAdd,Nat.reduceSub,Array.replicate_succ,Array.replicate_zero,List.push_toArray,List.append_toArray,List.nil_append,List.cons_append]
 gi_wp2_with (refine⟨trivial,?_⟩;gi_at_call 44;refine(callsIn_wide.2 (both_c _ _)).mono ?_;rintro e w' ⟨rfl,rfl⟩)
 clear hW0
 simp only[Nat.add_assoc,Nat.reduceAdd]
 refine wpIn_rangeFunc_ownG rfl (by omega) (gf:=84) (lb:=#[ptr (w.heap.size+4)]) rfl trivial (enters_of Tryz.func84 (by kernel_rfl) rfl)
  HSQ.out (λ _ _=>trivial) (λ _ _ _ _ _ _ _ _=>trivial) (Below.refl _ _) (λ _=>rfl)
  (λ (pre:List Two2) W=>KMv W0 V g a b p cap k M W∧k.Nowhere nm pre∧(∀j o,j<W0.heap.size→¬V j→W0.heap[j]?=some o→W.heap[j]?=some o))
  (λ c (pre:List Two2) W=>c=.ret∧DropX w V g a b k nm now M pre W∧W.heap[w.heap.size+3]?=some (.cells #[.int .i64 0] 30 (0,0)))
  (λ _ _ _ _ hs hg hr=>⟨kmv_turn hs.1 hg hr,hs.2.1,λ j o hj hn ho=>(hg.block j (by have:=(hs.2.2 j o hj hn ho);exact(Array.getElem?_eq_some_iff.1 this).1) λ e=>by have:=(hr j e.symm).1;omega).trans (hs.2.2 j o hj hn ho)⟩)
  (λ _ _ _ _ _ hs hg hr=>⟨hs.1,by
   obtain⟨l,x,e1,e2,e3,q,d,hk⟩:=hs.2.1
   exact⟨l,x,e1,e2,e3,q,d,kmv_turn hk hg λ r e=>⟨by have:=(hr r e).1;omega,(hr r e).2⟩⟩,obj_turn (w0:=W0) hs.2.2 hg hr⟩)
  ⟨HI.out,(λ x hx=>by cases hx),λ _ _ _ _ h=>h⟩
  (λ x=>{tmps:=#[ptr g,.string nm,.int .i64 now,ptr w.heap.size,ptr (w.heap.size+1),ptr (w.heap.size+2),ptr (w.heap.size+3),undef,ptr (sel x.1 a b),undef,ptr g,.func (.func 84) #[] #[ptr (w.heap.size+4)],.int .i64 (x.1:Int),ptr (sel x.1 a b),undef,undef,undef,undef,undef,undef,undef,undef,undef,undef,undef,undef,undef,undef,undef,undef,undef,undef,undef,undef,undef,undef],defers:=[]}) ?assign ?body ?done ?stop
 case assign=>
  intro l x W K hK
  gi_wp2
  exact hK
 case done=>
  rintro D xs W hD hxs ⟨hI,hid,hS⟩ hK
  have h0:∀x,x∈[0,1]→(k.lk x).idx nm<0:=λ x hx=>by
   have:x∈xs.map (·.1):=by rw[hxs];exact hx
   obtain⟨y,hy,rfl⟩:=List.mem_map.1 this
   exact hid y hy
  have hr:=hS _ _ (by omega) (HV.out _ (by omega)) HN3.out
  have y3:=cell_of_row _ _ 0 _ _ _ hr
  have f3:W.frozen? ⟨w.heap.size+3,0,none⟩=false:=gb.frozen_at hr
  have hl3:=gb.blk_lt hr
  have HE:=Lib.hid (show k.dropE nm=142∧k.dropK nm now=k from by
   unfold Cn.dropE Cn.dropK
   have a0:k.A.idx nm<0:=h0 0 (by simp)
   have a1:k.B.idx nm<0:=h0 1 (by simp)
   rw[if_neg (λ e=>e a0),if_neg (λ e=>e a1),if_neg (λ e=>e a0),if_neg (λ e=>e a1)]
   exact⟨rfl,rfl⟩)
  have hne:D≠w.heap.size+3:=by omega
  have HK2:=Lib.hid ((Below.heap_setCell W ⟨w.heap.size+3,0,none⟩ (.int .i64 142) D hne).trans hK)
  have HR:=Lib.hid (gb.set_heap hr (i:=0) (.int .i64 142))
  have HPT:=Lib.hid (hI.put HAL.out (R:=w.heap.size+3) (by omega) (by omega) (HV.out _ (by omega)) 0 (.int .i64 142))
  clear hI hid hS h0 hr hK
  gi_wp2
  refine⟨by simp,.inl ⟨_,_,rfl,run_takeDeferred HK2.out,?_⟩⟩
  have hn:=cell_of_row _ _ 0 _ _ _ ((World.putObj_heap_other (w:=W.setCell ⟨w.heap.size+3,0,none⟩ (.int .i64 142)) (r:=D) (o:=.deferred none) (Ne.symm hne)).trans HR.out)
  rw[HE.out.1,HE.out.2]
  exact⟨.int .i64 142,by simp[results,Tryz.results22,go_sem,hn],rfl,p,cap,kmv_turn HPT.out (grownBy_putObj' _ D (.deferred none)) (λ r e=>by cases e;exact⟨by omega,_,HK2.out,rfl⟩)⟩
 case stop=>
  rintro D c pre W hD hpre ⟨rfl,⟨l,⟨x,hx⟩,rfl,e2,e3,q,d,hk⟩,hr⟩ hK
  have HE:=Lib.hid (show k.dropE nm=0∧k.dropK nm now={k.on x (λ l=>l.dropK nm now)with names:=Cn.out k.names nm}from by
   have h0:x=1→k.A.idx nm<0:=λ e=>by
    subst e
    have hl:=congrArg List.length hpre
    have hc:l.length=1:=by
     have hg:=congrArg (λ z=>z.getLast?) hpre
     simp only[List.map_append,List.map_cons,List.map_nil,List.getLast?_concat,List.length_append,List.length_cons,List.length_nil,List.range_succ]at hg
     injection hg with hg
     exact hg.symm
    match l,hc with
    |[y],_=>
     have hg:=congrArg (λ z=>z.head?) hpre
     simp only[List.map_append,List.map_cons,List.map_nil,List.cons_append,List.head?_cons]at hg
     have hg:some y.1=some 0:=hg
     injection hg with hg
     have:=e2 y (by simp)
     rw[hg]at this
     exact this
   unfold Cn.dropE Cn.dropK
   rcases(show x=0∨x=1 by omega)with rfl|rfl
   ·have a0:¬k.A.idx nm<0:=e3
    rw[if_pos a0,if_pos a0]
    exact⟨rfl,rfl⟩
   ·have a0:=h0 rfl
    have a1:¬k.B.idx nm<0:=e3
    rw[if_neg (λ e=>e a0),if_pos a1,if_neg (λ e=>e a0),if_pos a1]
    exact⟨rfl,rfl⟩)
  have hlt:=gb.blk_lt hr
  have hne:D≠w.heap.size+3:=by omega
  have hn:=cell_of_row _ _ 0 _ _ _ ((World.putObj_heap_other (w:=W) (r:=D) (o:=.deferred none) (Ne.symm hne)).trans hr)
  have HKV:=Lib.hid hk
  clear hk e2 e3 hpre hr
  gi_wp2
  refine⟨by simp,.inl ⟨_,_,rfl,run_takeDeferred hK,?_⟩⟩
  rw[HE.out.1,HE.out.2]
  exact⟨.int .i64 0,by simp[results,Tryz.results22,go_sem,hn],rfl,q,d,kmv_turn HKV.out (grownBy_putObj' _ D (.deferred none)) (λ r e=>by cases e;exact⟨by omega,_,hK,rfl⟩)⟩
 case body=>
  rintro l pre ⟨x,hx⟩ W ⟨hI,hid,hS⟩ hlt
  have HID:=Lib.hid hid
  have HSC:=Lib.hid (λ (W1:World) (hs:∀j (o:Obj),j<W0.heap.size→¬V j→W.heap[j]?=some o→W1.heap[j]?=some o)=>(show W1.cell? ⟨w.heap.size,0,none⟩=some (ptr g)∧W1.cell? ⟨w.heap.size+1,0,none⟩=some (.string nm)∧W1.cell? ⟨w.heap.size+2,0,none⟩=some (.int .i64 now)from
   ⟨cell_of_row _ _ 0 _ _ _ (hs _ _ (by omega) (HV.out _ (by omega)) (hS _ _ (by omega) (HV.out _ (by omega)) HN0.out)),cell_of_row _ _ 0 _ _ _ (hs _ _ (by omega) (HV.out _ (by omega)) (hS _ _ (by omega) (HV.out _ (by omega)) HN1.out)),cell_of_row _ _ 0 _ _ _ (hs _ _ (by omega) (HV.out _ (by omega)) (hS _ _ (by omega) (HV.out _ (by omega)) HN2.out))⟩))
  have HKR:=Lib.hid (λ (W1:World) (hs:∀j (o:Obj),j<W0.heap.size→¬V j→W.heap[j]?=some o→W1.heap[j]?=some o)=>hs _ _ (by omega) (HV.out _ (by omega)) (hS _ _ (by omega) (HV.out _ (by omega)) HN3.out))
  have HCT:=Lib.hid (hI.step (i:=x) (f:=λ l=>l.dropK nm now) (M':=M) (P:=λ e=>e=.returned (.int .i64 ((k.lk x).dropE nm now))) (Nat.le_refl _) htop (Cn.drop_up _ nm now) λ V' hr=>ldrop hr nm now)
  have hDE:=Lk.drop_e (HOK.out x).1 (HOK.out x).2 nm now
  have HSW:=Lib.hid hS
  obtain⟨_,x1,x2⟩:=HSC.out W (λ _ _ _ _ h=>h)
  dsimp only
  generalize sel x a b=pk at*
  by_cases hi:(k.lk x).idx nm<0
  ·have hDK:=Cn.on_id (f:=λ l=>l.dropK nm now) hx (Lk.drop_no nm now hi)
   rw[hDE,if_pos hi,hDK]at HCT
   have HNW:=Lib.hid (show k.Nowhere nm (pre++[⟨x,hx⟩])fromλ y hy=>by
    rcases List.mem_append.1 hy with h|h
    ·exact hid y h
    ·obtain rfl:=List.mem_singleton.1 h
     exact hi)
   clear hI hid hS hDE hDK hi HKR
   gi_wp2_with (refine⟨trivial,?_⟩;gi_at_call 54;refine(CallsIn.inRound l (callsIn_wide.2 HCT.out)).mono ?_;rintro e w1 ⟨rfl,hk1,hs1,hf1⟩)
   exact⟨keeps_from hf1,trivial,hk1,HNW.out,λ j o hj hn ho=>hs1 j o (by omega) hn (HSW.out j o (by omega) hn ho)⟩
  ·rw[hDE,if_neg hi]at HCT
   have HII:=Lib.hid hi
   have HIN:=Lib.hid (show 0≤Lib.idxOfS k.names nm by have:=HMEM.out x (by omega);omega)
   have hin:¬Lib.idxOfS k.names nm<0:=by have:=HIN.out;omega
   have hil:=(Cn.out_len hin).2.2
   clear hI hid hS hDE hi hin
   gi_wp2_with (refine⟨trivial,?_⟩;gi_at_call 54;refine(CallsIn.inRound l (callsIn_wide.2 HCT.out)).mono ?_;rintro e w1 ⟨rfl,hk1,hs1,hf1⟩;(have HK1:=Lib.hid hk1);(have HS1:=Lib.hid hs1);(have HF1:=Lib.hid hf1);clear hk1 hs1 hf1 HCT x1 x2)
   have hl2:(k.on x λ l=>l.dropK nm now).names=k.names:=Cn.on_names x _
   have HDL:=Lib.hid (kdel (HK1.out.on ((Below.refl _ w1).drew.trans (Below.refl _ w1.drew).drew)) nm (by rw[hl2];have:=HIN.out;omega))
   obtain⟨V3,V4,hka,hkm⟩:=HK1.out
   have HIX:=Lib.hid (index_r (hka.on (Below.refl _ w1).drew).row (by rw[hl2];exact hnl) nm)
   have HG2:=Lib.hid hka.loads.2.2
   rw[hl2]at HDL HIX HG2
   have HSC1:=Lib.hid (HSC.out w1 HS1.out)
   have HKS:=Lib.hid (λ (w2:World) v (hs:∀j (o:Obj),j<W0.heap.size→¬V j→w1.heap[j]?=some o→w2.heap[j]?=some o)=>(show∀j (o:Obj),j<W0.heap.size→¬V j→W.heap[j]?=some o→(w2.setCell ⟨g,2,none⟩ v).heap[j]?=some o fromλ j o hj hn ho=>(Below.heap_setCell _ _ _ _ λ e=>hn (by have e:j=g:=e;rw[e];exact HVG.out)).trans (hs j o hj hn (HS1.out j o hj hn ho))))
   generalize hII:Lib.idxOfS k.names nm=I at*
   have hwr:IntKind.i64.wrap (I+1)=I+1:=wrap_id (by have:=HIN.out;omega) (by omega)
   clear hka hkm hil hII hl2 V3 V4
   refine round_held (S:=λ w'=>(w'.cell? ⟨w.heap.size,0,none⟩=some (ptr g)∧w'.cell? ⟨w.heap.size+1,0,none⟩=some (.string nm)∧w'.cell? ⟨w.heap.size+2,0,none⟩=some (.int .i64 now))∧w'.cell? ⟨g,2,none⟩=some (.slice p k.names.length cap)) hmx2 (no_defer (by kernel_rfl)) (λ a w h=>h) ⟨HSC1.out,HG2.out⟩ (λ hHeld=>?_)
   refine wpAnyH_take (i:=0) (oi:={dst:=some 19,op:=Op.load 29 (Operand.tmp 3),type:=29,pos:=_,after:=#[],guard:=none}) (v:=?va0) rfl (by kernel_rfl) (by kernel_rfl) (by kernel_rfl) (λ _ _ _ h=>h) (Or.inl ⟨by rfl,?hya0⟩) hHeld ?resta0
   case hya0=>
    intro w hSw
    obtain⟨⟨c0,c1,_⟩,c2⟩:=hSw
    (go_simp<;>with_reducible rfl)
   simp only[Act.put,List.setIfInBounds_toArray,List.set_cons_zero,List.set_cons_succ]
   refine wpAnyH_take (i:=1) (oi:={dst:=some 20,op:=Op.nilCheck (Operand.tmp 19),type:=0,pos:=_,after:=#[{on:=0,ground:=Ground.data}],guard:=none}) (v:=?va1) rfl (by kernel_rfl) (by kernel_rfl) (by kernel_rfl) (λ _ _ _ h=>h) (Or.inl ⟨by rfl,?hya1⟩) hHeld ?resta1
   case hya1=>
    intro w hSw
    clear hSw
    (go_simp<;>with_reducible rfl)
   simp only[Act.put,List.setIfInBounds_toArray,List.set_cons_zero,List.set_cons_succ]
   refine wpAnyH_take (i:=2) (oi:={dst:=some 21,op:=Op.fieldAddr 93 (Operand.tmp 20) 1,type:=0,pos:=_,after:=#[{on:=1,ground:=Ground.data}],guard:=none}) (v:=?va2) rfl (by kernel_rfl) (by kernel_rfl) (by kernel_rfl) (λ _ _ _ h=>h) (Or.inl ⟨by rfl,?hya2⟩) hHeld ?resta2
   case hya2=>
    intro w hSw
    clear hSw
    (go_simp<;>with_reducible rfl)
   simp only[Act.put,List.setIfInBounds_toArray,List.set_cons_zero,List.set_cons_succ]
   refine wpAnyH_take (i:=3) (oi:={dst:=some 22,op:=Op.load 36 (Operand.tmp 21),type:=36,pos:=_,after:=#[{on:=2,ground:=Ground.data}],guard:=none}) (v:=?va3) rfl (by kernel_rfl) (by kernel_rfl) (by kernel_rfl) (λ _ _ _ h=>h) (Or.inl ⟨by rfl,?hya3⟩) hHeld ?resta3
   case hya3=>
    intro w hSw
    obtain⟨⟨c0,c1,_⟩,c2⟩:=hSw
    (go_simp<;>with_reducible rfl)
   simp only[Act.put,List.setIfInBounds_toArray,List.set_cons_zero,List.set_cons_succ]
   refine wpAnyH_take (i:=4) (oi:={dst:=some 23,op:=Op.load 9 (Operand.tmp 4),type:=9,pos:=_,after:=#[],guard:=none}) (v:=?va4) rfl (by kernel_rfl) (by kernel_rfl) (by kernel_rfl) (λ _ _ _ h=>h) (Or.inl ⟨by rfl,?hya4⟩) hHeld ?resta4
   case hya4=>
    intro w hSw
    obtain⟨⟨c0,c1,_⟩,c2⟩:=hSw
    (go_simp<;>with_reducible rfl)
   simp only[Act.put,List.setIfInBounds_toArray,List.set_cons_zero,List.set_cons_succ]
   refine wpAnyH_ready (rs:=[5]) (by kernel_rfl) (by simp) ?_
   refine AllReadyH.cons (o:={dst:=some 24,op:=Op.call {callee:=Callee.value (Operand.func 55),args:=#[Operand.tmp 22,Operand.tmp 23],argTypes:=#[36,9]},type:=3,pos:=_,after:=#[{on:=3,ground:=Ground.data},{on:=4,ground:=Ground.data}],guard:=none}) rfl (λ K hK=>?_) AllReadyH.nil
   go_simp
   go_at_call 55
   refine Calls.mono HIX.out ?_
   rintro e w2 ⟨rfl,rfl⟩
   refine hK.out _ _ ⟨HSC1.out,HG2.out⟩ (λ hHeld1=>?_)
   clear hK K hHeld
   refine wpAnyH_take (i:=6) (oi:={dst:=some 9,op:=Op.assign (Operand.tmp 24),type:=3,pos:=_,after:=#[{on:=5,ground:=Ground.data},{on:=5,ground:=Ground.chain},{on:=0,ground:=Ground.phase},{on:=1,ground:=Ground.phase},{on:=2,ground:=Ground.phase},{on:=3,ground:=Ground.phase},{on:=4,ground:=Ground.phase},{on:=5,ground:=Ground.phase}],guard:=none}) (v:=?va6) rfl (by kernel_rfl) (by kernel_rfl) (by kernel_rfl) (λ _ _ _ h=>h) (Or.inl ⟨by rfl,?hya6⟩) hHeld1 ?resta6
   case hya6=>
    intro w hSw
    clear hSw
    (go_simp<;>with_reducible rfl)
   simp only[Act.put,List.setIfInBounds_toArray,List.set_cons_zero,List.set_cons_succ]
   refine wpAnyH_done (by kernel_rfl) ?_ _
   gi_wp2
   refine round_held (S:=λ w'=>(w'.cell? ⟨w.heap.size,0,none⟩=some (ptr g)∧w'.cell? ⟨w.heap.size+1,0,none⟩=some (.string nm)∧w'.cell? ⟨w.heap.size+2,0,none⟩=some (.int .i64 now))∧True) hmx2 (no_defer (by kernel_rfl)) (λ a w h=>h) ⟨HSC1.out,trivial⟩ (λ hHeld=>?_)
   refine wpAnyH_take (i:=0) (oi:={dst:=some 25,op:=Op.load 29 (Operand.tmp 3),type:=29,pos:=_,after:=#[],guard:=none}) (v:=?vb0) rfl (by kernel_rfl) (by kernel_rfl) (by kernel_rfl) (λ _ _ _ h=>h) (Or.inl ⟨by rfl,?hyb0⟩) hHeld ?restb0
   case hyb0=>
    intro w hSw
    obtain⟨⟨c0,c1,_⟩,_⟩:=hSw
    (go_simp<;>with_reducible rfl)
   simp only[Act.put,List.setIfInBounds_toArray,List.set_cons_zero,List.set_cons_succ]
   refine wpAnyH_take (i:=1) (oi:={dst:=some 26,op:=Op.load 29 (Operand.tmp 3),type:=29,pos:=_,after:=#[],guard:=none}) (v:=?vb1) rfl (by kernel_rfl) (by kernel_rfl) (by kernel_rfl) (λ _ _ _ h=>h) (Or.inl ⟨by rfl,?hyb1⟩) hHeld ?restb1
   case hyb1=>
    intro w hSw
    obtain⟨⟨c0,c1,_⟩,_⟩:=hSw
    (go_simp<;>with_reducible rfl)
   simp only[Act.put,List.setIfInBounds_toArray,List.set_cons_zero,List.set_cons_succ]
   refine wpAnyH_take (i:=2) (oi:={dst:=some 27,op:=Op.nilCheck (Operand.tmp 26),type:=0,pos:=_,after:=#[{on:=1,ground:=Ground.data}],guard:=none}) (v:=?vb2) rfl (by kernel_rfl) (by kernel_rfl) (by kernel_rfl) (λ _ _ _ h=>h) (Or.inl ⟨by rfl,?hyb2⟩) hHeld ?restb2
   case hyb2=>
    intro w hSw
    clear hSw
    (go_simp<;>with_reducible rfl)
   simp only[Act.put,List.setIfInBounds_toArray,List.set_cons_zero,List.set_cons_succ]
   refine wpAnyH_take (i:=3) (oi:={dst:=some 28,op:=Op.fieldAddr 93 (Operand.tmp 27) 1,type:=0,pos:=_,after:=#[{on:=2,ground:=Ground.data}],guard:=none}) (v:=?vb3) rfl (by kernel_rfl) (by kernel_rfl) (by kernel_rfl) (λ _ _ _ h=>h) (Or.inl ⟨by rfl,?hyb3⟩) hHeld ?restb3
   case hyb3=>
    intro w hSw
    clear hSw
    (go_simp<;>with_reducible rfl)
   simp only[Act.put,List.setIfInBounds_toArray,List.set_cons_zero,List.set_cons_succ]
   refine wpAnyH_take (i:=5) (oi:={dst:=some 30,op:=Op.move (Operand.tmp 9),type:=3,pos:=_,after:=#[],guard:=none}) (v:=?vb5) rfl (by kernel_rfl) (by kernel_rfl) (by kernel_rfl) (λ _ _ _ h=>h) (Or.inl ⟨by rfl,?hyb5⟩) hHeld ?restb5
   case hyb5=>
    intro w hSw
    clear hSw
    (go_simp<;>with_reducible rfl)
   simp only[Act.put,List.setIfInBounds_toArray,List.set_cons_zero,List.set_cons_succ]
   refine wpAnyH_take (i:=6) (oi:={dst:=some 31,op:=Op.move (Operand.tmp 9),type:=3,pos:=_,after:=#[],guard:=none}) (v:=?vb6) rfl (by kernel_rfl) (by kernel_rfl) (by kernel_rfl) (λ _ _ _ h=>h) (Or.inl ⟨by rfl,?hyb6⟩) hHeld ?restb6
   case hyb6=>
    intro w hSw
    clear hSw
    (go_simp<;>with_reducible rfl)
   simp only[Act.put,List.setIfInBounds_toArray,List.set_cons_zero,List.set_cons_succ]
   refine wpAnyH_take (i:=7) (oi:={dst:=some 32,op:=Op.binOp BinOp.add 3 (Operand.tmp 31) (Operand.const (Value.int IntKind.i64 1)) 3,type:=3,pos:=_,after:=#[{on:=6,ground:=Ground.data}],guard:=none}) (v:=?vb7) rfl (by kernel_rfl) (by kernel_rfl) (by kernel_rfl) (λ _ _ _ h=>h) (Or.inl ⟨by rfl,?hyb7⟩) hHeld ?restb7
   case hyb7=>
    intro w hSw
    clear hSw
    (go_simp<;>with_reducible rfl)
   simp only[Act.put,List.setIfInBounds_toArray,List.set_cons_zero,List.set_cons_succ]
   refine wpAnyH_ready (rs:=[4]) (by kernel_rfl) (by simp) ?_
   refine AllReadyH.cons (o:={dst:=some 29,op:=Op.load 36 (Operand.tmp 28),type:=36,pos:=_,after:=#[{on:=3,ground:=Ground.data}],guard:=none}) rfl (λ K hK=>?_) AllReadyH.nil
   go_simp
   have y2:=HG2.out
   go_simp
   refine hK.out _ _ ⟨HSC1.out,trivial⟩ (λ hHeld1=>?_)
   clear hK K hHeld
   refine wpAnyH_ready (rs:=[8]) (by kernel_rfl) (by simp) ?_
   refine AllReadyH.cons (o:={dst:=some 33,op:=Op.call {callee:=Callee.value (Operand.func 56),args:=#[Operand.tmp 29,Operand.tmp 30,Operand.tmp 32],argTypes:=#[36,3,3]},type:=36,pos:=_,after:=#[{on:=4,ground:=Ground.data},{on:=5,ground:=Ground.data},{on:=7,ground:=Ground.data}],guard:=none}) rfl (λ K hK=>?_) AllReadyH.nil
   go_simp
   go_at_call 56
   refine Calls.mono HDL.out ?_
   rintro e w3 ⟨q,d,rfl,hk3,hs3,hf3⟩
   have HK3:=Lib.hid hk3
   have HF3:=Lib.hid hf3
   have HSC3:=Lib.hid (HSC.out _ (λ j o hj hn ho=>hs3 j o hj hn (HS1.out j o hj hn ho)))
   have HS3:=Lib.hid hs3
   clear hk3 hs3 hf3 HDL
   refine hK.out _ _ ⟨HSC3.out,trivial⟩ (λ hHeld2=>?_)
   clear hK K hHeld1
   refine wpAnyH_take (i:=9) (oi:={dst:=some 34,op:=Op.nilCheck (Operand.tmp 25),type:=0,pos:=_,after:=#[{on:=0,ground:=Ground.data},{on:=0,ground:=Ground.phase},{on:=1,ground:=Ground.phase},{on:=2,ground:=Ground.phase},{on:=3,ground:=Ground.phase},{on:=4,ground:=Ground.phase},{on:=5,ground:=Ground.phase},{on:=6,ground:=Ground.phase},{on:=7,ground:=Ground.phase},{on:=8,ground:=Ground.phase}],guard:=none}) (v:=?vb9) rfl (by kernel_rfl) (by kernel_rfl) (by kernel_rfl) (λ _ _ _ h=>h) (Or.inl ⟨by rfl,?hyb9⟩) hHeld2 ?restb9
   case hyb9=>
    intro w hSw
    clear hSw
    (go_simp<;>with_reducible rfl)
   simp only[Act.put,List.setIfInBounds_toArray,List.set_cons_zero,List.set_cons_succ]
   refine wpAnyH_take (i:=10) (oi:={dst:=some 35,op:=Op.fieldAddr 93 (Operand.tmp 34) 1,type:=0,pos:=_,after:=#[{on:=9,ground:=Ground.data},{on:=0,ground:=Ground.phase},{on:=1,ground:=Ground.phase},{on:=2,ground:=Ground.phase},{on:=3,ground:=Ground.phase},{on:=4,ground:=Ground.phase},{on:=5,ground:=Ground.phase},{on:=6,ground:=Ground.phase},{on:=7,ground:=Ground.phase},{on:=8,ground:=Ground.phase}],guard:=none}) (v:=?vb10) rfl (by kernel_rfl) (by kernel_rfl) (by kernel_rfl) (λ _ _ _ h=>h) (Or.inl ⟨by rfl,?hyb10⟩) hHeld2 ?restb10
   case hyb10=>
    intro w hSw
    clear hSw
    (go_simp<;>with_reducible rfl)
   simp only[Act.put,List.setIfInBounds_toArray,List.set_cons_zero,List.set_cons_succ]
   refine wpAnyH_ready (rs:=[11]) (by kernel_rfl) (by simp) ?_
   refine AllReadyH.cons (o:={dst:=none,op:=Op.store 36 (Operand.tmp 35) (Operand.tmp 33),type:=0,pos:=_,after:=#[{on:=10,ground:=Ground.data},{on:=8,ground:=Ground.data},{on:=8,ground:=Ground.chain},{on:=0,ground:=Ground.phase},{on:=1,ground:=Ground.phase},{on:=2,ground:=Ground.phase},{on:=3,ground:=Ground.phase},{on:=4,ground:=Ground.phase},{on:=5,ground:=Ground.phase},{on:=6,ground:=Ground.phase},{on:=7,ground:=Ground.phase},{on:=8,ground:=Ground.phase}],guard:=none}) rfl (λ K hK=>?_) AllReadyH.nil
   go_simp
   obtain⟨⟨y1,f1,_⟩,_⟩:=HK3.out
   go_simp
   refine hK.out _ _ ⟨HSC.out _ (HKS.out _ _ HS3.out),trivial⟩ (λ hHeld3=>?_)
   clear hK K hHeld2
   refine wpAnyH_done (by kernel_rfl) ?_ _
   have hr:=HKR.out _ (HKS.out _ (.slice q (k.names.length -1) d) HS3.out)
   have y3:=cell_of_row _ _ 0 _ _ _ hr
   have f3:(w3.setCell ⟨g,2,none⟩ (.slice q (k.names.length -1) d)).frozen? ⟨w.heap.size+3,0,none⟩=false:=gb.frozen_at hr
   have hl3:=gb.blk_lt hr
   have HR:=Lib.hid hr
   have HPT:=Lib.hid (HK3.out.2.put HAL.out (R:=w.heap.size+3) (by omega) (by omega) (HV.out _ (by omega)) 0 (.int .i64 0))
   clear hr
   gi_wp2
   have HDX:=Lib.hid (show DropX w V g a b k nm now M (pre++[⟨x,hx⟩]) ((w3.setCell ⟨g,2,none⟩ (.slice q (k.names.length -1) d)).setCell ⟨w.heap.size+3,0,none⟩ (.int .i64 0))from⟨pre,⟨x,hx⟩,rfl,HID.out,(show¬(k.lk x).idx nm<0 from by have:=HII.out;omega),q,d,HPT.out⟩)
   refine(show _∧_ from⟨keeps_from (HF1.out.trans ((show KeepsFrom 0 w1 w3 from⟨HF3.out.1,HF3.out.2⟩).trans (((KeepsOthers.setCell w3 ⟨g,2,none⟩ (.slice q (k.names.length -1) d)).from 0).trans ((KeepsOthers.setCell _ ⟨w.heap.size+3,0,none⟩ (.int .i64 0)).from 0)))),rfl,HDX.out,gb.set_heap HR.out (.int .i64 0)⟩)
end
end Go.Proofs.YtdighjgcnaajgaaGreat
