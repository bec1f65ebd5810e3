import Derived.Test.YtdighjgcnaajgaaGreatMT3
namespace Go.Proofs.YtdighjgcnaajgaaGreat
open Go.RowKit
def wseed (seed:Int) (x:Nat):Int:=gd.streamTo [(x:Int)] (gd.mixZ (gd.stepZ seed))
def Lk.newL (l:List Tox) (x:Nat) (seed room now:Int):Lk:=(Lk.newK (decide (x=0)) (wseed seed x) room now).addL now l
def Cn.newC (l:List Tox) (seed room now:Int) (j:Nat):Cn:=⟨Lk.newL l 0 seed room now,Lk.newL l 1 seed room now,(l.take j).map (·.s)⟩
section
variable {w w' W W':World} {V V1 V2:Own} {g a b T:Nat} {p:Option Addr} {cap:Nat} {k k':Cn} {s s':Told} {M M':Nat}
theorem stream_w (seed:Int) (x:Nat) (W:World) (B:Nat) (hc:W.cell? ⟨B,0,none⟩=some (.int .u64 (x:Int))):
  Calls Tryz.prog 32 #[.int .u64 seed,.slice (some ⟨B,0,none⟩) 1 1] W λ e w'=>e=.returned (.int .u64 (wseed seed x))∧W=w':=
 gd.stream_some seed B 0 1 [(x:Int)] W (Nat.le_of_lt (show 1<maxLen by unfold maxLen;decide)) (λ j hj=>by
  have hj:j<1:=hj
  obtain rfl:j=0:=by omega
  exact hc)
def NewI (w:World) (g:Nat) (l:List Tox) (seed room now:Int) (n:Nat) (W:World):Prop:=
 Below w.heap.size w W∧w.heap.size≤g∧
 (n=0→W.heap[g]?=some (.cells #[.pointer none,.pointer none,.slice none 0 0] 93 (0,0)))∧
 (n=1→∃a V1,W.heap[g]?=some (.cells #[ptr a,.pointer none,.slice none 0 0] 93 (0,0))∧LRep W V1 a (Lk.newL l 0 seed room now) 128∧MkL (Lk.newL l 0 seed room now) l true room now∧∀i,V1 i→g<i)∧
 (n=2→∃a b,KMv w (λ _=>False) g a b none 0 (Cn.newC l seed room now 0) 128 W∧MkL (Lk.newL l 0 seed room now) l true room now∧MkL (Lk.newL l 1 seed room now) l false room now)
theorem newL_zero (l:List Tox) (seed room now:Int):Lk.newL l 0 seed room now=(Lk.newK true (wseed seed 0) room now).addL now l:=rfl
theorem newL_one (l:List Tox) (seed room now:Int):Lk.newL l 1 seed room now=(Lk.newK false (wseed seed 1) room now).addL now l:=rfl
theorem NewI.step {l:List Tox} {seed room now:Int} {n:Nat} (h:NewI w g l seed room now n W) (hn:n<2) {V:Own} {b:Nat} (hl:LHd W W' V b (Lk.newL l n seed room now) 128) (hm:MkL (Lk.newL l n seed room now) l (decide (n=0)) room now):
  (W'.cell? ⟨g,n,none⟩=some (.pointer none)∧W'.frozen? ⟨g,n,none⟩=false∧g<W'.heap.size)∧NewI w g l seed room now (n+1) (W'.setCell ⟨g,n,none⟩ (ptr b)):=by
 obtain⟨h1,h2,h3,h4,h5⟩:=h
 have hV:∀i,V i→W.heap.size≤i:=hl.2.1
 have hb':=hl.2.2
 have hr:=hl.1
 rcases(show n=0∨n=1 by omega)with rfl|rfl
 ·have hg:=h3 rfl
  have hgl:=gb.blk_lt hg
  have hg':=(hb'.block _ hgl).trans hg
  have hset:LRep (W'.setCell ⟨g,0,none⟩ (ptr b)) V b (Lk.newL l 0 seed room now) 128:=lrep_keep hr λ i hi=>Below.heap_setCell _ _ _ _ λ e=>by
   have:=hV i hi
   have e:i=g:=e
   omega
  refine⟨⟨cell_of_row _ _ 0 _ _ _ hg',gb.frozen_at hg',gb.blk_lt hg'⟩,(h1.trans (hb'.mono h1.size)).setCell (p:=⟨g,0,none⟩) h2 _,h2,λ e=>by omega,λ _=>⟨b,V,gb.set_heap hg' _,hset,hm,λ i hi=>by have:=hV i hi;omega⟩,λ e=>by omega⟩
 ·obtain⟨a,V1,hg,hr1,hm1,hv1⟩:=h4 rfl
  have hgl:=gb.blk_lt hg
  have hg':=(hb'.block _ hgl).trans hg
  have hB:=(h1.trans (hb'.mono h1.size)).setCell (p:=⟨g,1,none⟩) h2 (ptr b)
  have hV1:∀i,V1 i→i<W.heap.size:=λ i hi=>(lrep_lt hr1).2 i hi
  have set1:LRep (W'.setCell ⟨g,1,none⟩ (ptr b)) V1 a (Lk.newL l 0 seed room now) 128:=lrep_keep hr1 λ i hi=>(Below.heap_setCell _ _ _ _ λ e=>by
   have:=hv1 i hi
   have e:i=g:=e
   omega).trans (hb'.block i (hV1 i hi))
  have set2:LRep (W'.setCell ⟨g,1,none⟩ (ptr b)) V b (Lk.newL l 1 seed room now) 128:=lrep_keep hr λ i hi=>Below.heap_setCell _ _ _ _ λ e=>by
   have:=hV i hi
   have e:i=g:=e
   omega
  refine⟨⟨cell_of_row _ _ 1 _ _ _ hg',gb.frozen_at hg',gb.blk_lt hg'⟩,hB,h2,λ e=>by omega,λ e=>by omega,λ _=>⟨a,b,⟨V1,V,⟨gb.set_heap hg' _,gc.orow_nil _ _ _ _,set1,set2,(λ i hi hj=>by have:=hV i hj;have:=hV1 i hi;omega),⟨(λ hi=>by have:=hv1 _ hi;omega),(λ hi=>by have:=hV _ hi;omega)⟩,(λ x hx=>by cases hx),Nat.zero_le _,⟨?_,?_⟩⟩,⟨⟨hB.mono (Nat.zero_le _),λ i hi _=>hB.block i hi⟩,λ i hi=>?_⟩⟩,hm1,hm⟩⟩
  ·obtain⟨ts,hd⟩:=hm1.made
   exact hd.up
  ·obtain⟨ts,hd⟩:=hm.made
   exact hd.up
  ·rcases hi with rfl|⟨x,hx,_⟩|e|e
   ·exact Or.inr h2
   ·cases hx
   ·exact Or.inr (Nat.le_trans h2 (Nat.le_of_lt (hv1 i e)))
   ·exact Or.inr (Nat.le_trans h1.size (hV i e))
theorem knew_no (pl:Option Addr) (n d:Nat) (l:List Tox) (seed room now:Int) (w:World) (hl:l.length=n) (hnd:n≤d) (hz:∀t∈l,t.s.size≤140737488351232) (hi:ToxIn w pl n l) (hE:newLE l room≠0):
  Calls Tryz.prog 12 #[.slice pl n d,.int .u64 seed,.int .i64 room,.int .i64 now] w λ e w'=>e=.returned (.tuple #[.pointer none,.int .i64 (newLE l room)])∧Below w.heap.size w w':=by
 have HN:=Lib.hid (λ (W:World) (hb:Below w.heap.size w W)=>lnew_no pl n d l true (wseed seed 0) room now W hl hnd hz (toxs_on hi hb) hE)
 have HS:=Lib.hid (λ W B hc=>stream_w seed 0 W B hc)
 have d1:(newLE l room !=0)=true:=by simpa using hE
 have d2:decide (newLE l room=0)=false:=by simpa using hE
 generalize newLE l room=E at*
 generalize wseed seed 0=sd at*
 clear hl hz hi hE
 go_enter Tryz.func12,Tryz.ntmps12
 go_wp2_with fail
 have hal:Below w.heap.size w (w.alloc (.cells #[.pointer none,.pointer none,.slice none 0 0] 93)):=(Below.refl _ _).alloc (Nat.le_refl _) _
 generalize w.alloc (.cells #[.pointer none,.pointer none,.slice none 0 0] 93)=w1 at*
 have HAL:=Lib.hid hal
 clear hal
 go_loopw [11,12,13,18] (λ _ _ _ i wr=>i=.int .i64 0∧Hid (Below w.heap.size w wr)) (λ _ _ _ _ _=>0)
 case atStart=>exact⟨rfl,HAL⟩
 case round=>
  clear HAL
  obtain⟨rfl,HB⟩:=hrel
  have hnew:=heap_alloc_new wr (.cells #[.int .u64 0] 23)
  have HSS:=Lib.hid (HS.out _ _ (cell_of_row _ _ 0 _ _ _ hnew))
  have HB2:=Lib.hid (HB.out.alloc HB.out.size (.cells #[.int .u64 0] 23))
  clear hnew HS HB
  go_wp2_with fail
  refine HSS.out.mono ?_
  rintro e w4 ⟨rfl,rfl⟩
  go_wp2_with fail
  refine(HN.out _ HB2.out).mono ?_
  rintro e w5 ⟨rfl,hb⟩
  have HB5:=Lib.hid (below_two HB2.out hb)
  clear hb
  go_wp2_with fail
  go_ret2
  exact⟨rfl,HB5.out⟩
end
end Go.Proofs.YtdighjgcnaajgaaGreat
namespace Go.Proofs.YtdighjgcnaajgaaGreat
open Go.RowKit
def KHd (w0 w:World) (V:Own) (g:Nat) (k:Cn) (M:Nat):Prop:=KRep w V g k M∧(∀i,V i→w0.heap.size≤i)∧Below w0.heap.size w0 w
theorem lhd_base {w0 w1 w:World} {V:Own} {g:Nat} {k:Lk} {M:Nat} (h:LHd w1 w V g k M) (hb:Below w0.heap.size w0 w1):LHd w0 w V g k M:=
 ⟨h.1,λ i hi=>Nat.le_trans hb.size (h.2.1 i hi),hb.trans (h.2.2.mono hb.size)⟩
theorem newC_more (l:List Tox) (seed room now:Int) {j:Nat} (h:j<l.length):({Cn.newC l seed room now j with names:=(Cn.newC l seed room now j).names++[(l.getD j noTox).s]}:Cn)=Cn.newC l seed room now (j+1):=by
 unfold Cn.newC
 simp only
 rw[take_next h,List.map_append]
 rfl
theorem newC_len (l:List Tox) (seed room now:Int) {j:Nat} (h:j≤l.length):(Cn.newC l seed room now j).names.length=j:=by
 unfold Cn.newC
 simp only
 rw[List.length_map,List.length_take]
 omega
theorem upL_perm (l:List Tox):(l.map (·.s)).Perm ((upL true l).map (·.s)++(upL false l).map (·.s)):=by
 induction l with
 |nil=>exact List.Perm.refl _
 |cons t r ih=>
  cases hu:t.up with
  |true=>
   have e1:upL true (t::r)=t::upL true r:=by unfold upL;rw[List.filter_cons_of_pos (by simp[hu])]
   have e2:upL false (t::r)=upL false r:=by unfold upL;rw[List.filter_cons_of_neg (by simp[hu])]
   rw[e1,e2]
   exact ih.cons _
  |false=>
   have e1:upL true (t::r)=upL true r:=by unfold upL;rw[List.filter_cons_of_neg (by simp[hu])]
   have e2:upL false (t::r)=t::upL false r:=by unfold upL;rw[List.filter_cons_of_pos (by simp[hu])]
   rw[e1,e2]
   exact(ih.cons _).trans List.perm_middle.symm
theorem newC_prm {l:List Tox} {seed room now:Int} (h1:MkL (Lk.newL l 0 seed room now) l true room now) (h2:MkL (Lk.newL l 1 seed room now) l false room now):(Cn.newC l seed room now l.length).Prm:=by
 obtain⟨_,m1⟩:=h1.made
 obtain⟨_,m2⟩:=h2.made
 unfold Cn.newC Cn.Prm
 simp only
 rw[List.take_length,m1.names,m2.names]
 exact upL_perm l
section
variable {w w' W W':World} {V V1 V2:Own} {g a b T:Nat} {p:Option Addr} {cap:Nat} {k k':Cn} {s s':Told} {M M':Nat}
theorem KMv.own (h:KMv w (λ _=>False) g a b p cap k M W) (hp:k.Prm):∃V,KHd w W V g k M:=by
 obtain⟨V1,V2,h1,h2⟩:=h
 have hf:Fr w W (blkK g p V1 V2):=Fr.mvd ⟨Below.refl _ _,λ i hi=>hi.elim⟩ h2
 exact⟨_,⟨V1,V2,a,b,p,cap,h1,hp,rfl⟩,hf.2,hf.1⟩
theorem KMv.below (h:KMv w (λ _=>False) g a b p cap k M W):Below w.heap.size w W:=by
 obtain⟨V1,V2,h1,h2⟩:=h
 exact(Fr.mvd ⟨Below.refl _ _,λ i hi=>hi.elim⟩ h2).1
set_option maxRecDepth 100000 in
set_option maxHeartbeats 16000000 in
theorem knew (pl:Option Addr) (n d:Nat) (l:List Tox) (seed room now:Int) (w:World) (hl:l.length=n) (hnd:n≤d) (hz:∀t∈l,t.s.size≤140737488351232) (hi:ToxIn w pl n l) (hE:newLE l room=0):
  Calls Tryz.prog 12 #[.slice pl n d,.int .u64 seed,.int .i64 room,.int .i64 now] w λ e w'=>∃g V,e=.returned (.tuple #[ptr g,.int .i64 0])∧KHd w w' V g (Cn.newC l seed room now l.length) 128∧MkL (Lk.newL l 0 seed room now) l true room now∧MkL (Lk.newL l 1 seed room now) l false room now:=by
 have HN:=Lib.hid (λ (W:World) (hb:Below w.heap.size w W) (x:Nat)=>(lnew pl n d l (decide (x=0)) (wseed seed x) room now W hl hnd hz (toxs_on hi hb) hE).mono λ e w' he=>(show∃g V,e=.returned (.tuple #[ptr g,.int .i64 0])∧LHd W w' V g (Lk.newL l x seed room now) 128∧MkL (Lk.newL l x seed room now) l (decide (x=0)) room now from he))
 have HS:=Lib.hid (λ x W B hc=>stream_w seed x W B hc)
 have HL:=Lib.hid hl
 have HI:=Lib.hid hi
 have hl8:=(check_ok (newLE_parts hE).2).1
 have hn8:n≤8:=by omega
 have HP:=Lib.hid (λ h1 h2=>newC_prm (l:=l) (seed:=seed) (room:=room) (now:=now) h1 h2)
 clear hl hz hi hE hl8
 go_enter Tryz.func12,Tryz.ntmps12
 go_wp2_with fail
 have h0:NewI w w.heap.size l seed room now 0 (w.alloc (.cells #[.pointer none,.pointer none,.slice none 0 0] 93)):=⟨(Below.refl _ _).alloc (Nat.le_refl _) _,Nat.le_refl _,λ _=>heap_alloc_new w _,(λ e=>by cases e),(λ e=>by cases e)⟩
 generalize w.alloc (.cells #[.pointer none,.pointer none,.slice none 0 0] 93)=w1 at*
 obtain⟨g,hg⟩:∃g,w.heap.size=g:=⟨_,rfl⟩
 have H0:=Lib.hid (show NewI w g l seed room now 0 w1 by rw[←hg];exact h0)
 have HG:=Lib.hid hg
 simp only[hg]
 clear h0 hg
 go_loopw [11,12,13,18] (λ _ _ _ i wr=>∃x:Nat,x≤2∧i=.int .i64 (x:Int)∧Hid (NewI w g l seed room now x wr)) (λ _ _ _ i _=>2 -(intOf i).toNat)
 case atStart=>exact⟨0,by decide,rfl,H0⟩
 case round=>
  clear H0
  obtain⟨x,hx,rfl,HNI⟩:=hrel
  rcases(show x=0∨x=1∨x=2 by omega)with rfl|rfl|rfl
  ·have hal:Below wr.heap.size wr (wr.alloc (.cells #[.int .u64 0] 23)):=(Below.refl _ _).alloc (Nat.le_refl _) _
   have HSS:=Lib.hid (HS.out 0 _ _ (cell_of_row _ _ 0 _ _ _ (heap_alloc_new wr (.cells #[.int .u64 0] 23))))
   have HNN:=Lib.hid (HN.out _ (HNI.out.1.trans (hal.mono HNI.out.1.size)) 0)
   have HAL:=Lib.hid hal
   have HST:=Lib.hid (λ W' V b (h1:LHd wr W' V b (Lk.newL l 0 seed room now) 128) h2=>HNI.out.step (by decide) h1 h2)
   clear hal HS HN
   go_wp2_with fail
   refine HSS.out.mono ?_
   rintro e w4 ⟨rfl,rfl⟩
   go_wp2_with fail
   refine HNN.out.mono ?_
   rintro e w5 ⟨b,V,rfl,h1,h2⟩
   obtain⟨⟨y1,f1,l1⟩,hni⟩:=HST.out w5 V b (lhd_base h1 HAL.out) h2
   have HNX:=Lib.hid hni
   clear h1 h2 hni HNN HSS HST HNI HAL
   go_wp2_with fail
   go_roundw
   case rel=>exact⟨1,by decide,by first|rfl|go_num,HNX⟩
   case measure=>simp[intOf]
  ·have hal:Below wr.heap.size wr (wr.alloc (.cells #[.int .u64 1] 23)):=(Below.refl _ _).alloc (Nat.le_refl _) _
   have HSS:=Lib.hid (HS.out 1 _ _ (cell_of_row _ _ 0 _ _ _ (heap_alloc_new wr (.cells #[.int .u64 1] 23))))
   have HNN:=Lib.hid (HN.out _ (HNI.out.1.trans (hal.mono HNI.out.1.size)) 1)
   have HAL:=Lib.hid hal
   have HST:=Lib.hid (λ W' V b (h1:LHd wr W' V b (Lk.newL l 1 seed room now) 128) h2=>HNI.out.step (by decide) h1 h2)
   clear hal HS HN
   go_wp2_with fail
   refine HSS.out.mono ?_
   rintro e w4 ⟨rfl,rfl⟩
   go_wp2_with fail
   refine HNN.out.mono ?_
   rintro e w5 ⟨b,V,rfl,h1,h2⟩
   obtain⟨⟨y1,f1,l1⟩,hni⟩:=HST.out w5 V b (lhd_base h1 HAL.out) h2
   have HNX:=Lib.hid hni
   clear h1 h2 hni HNN HSS HST HNI HAL
   go_wp2_with fail
   go_roundw
   case rel=>exact⟨2,by decide,by first|rfl|go_num,HNX⟩
   case measure=>simp[intOf]
  ·obtain⟨_,_,_,_,h2⟩:=HNI.out
   obtain⟨a,b,hk,m1,m2⟩:=h2 rfl
   have HK:=Lib.hid hk
   have HM:=Lib.hid (And.intro m1 m2)
   clear hk m1 m2 h2 HNI HN HS
   rw[show((2:Nat):Int)=2 from rfl]
   go_wp2_with fail
   go_loopw [15,47] (λ _ i w6=>∃(j:Nat) (q:Option Addr) (c:Nat),j≤n∧i=.int .i64 (j:Int)∧Hid (KMv w (λ _=>False) g a b q c (Cn.newC l seed room now j) 128 w6)) (λ _ i _=>n -(intOf i).toNat)
   case atStart=>exact⟨0,none,0,Nat.zero_le _,rfl,HK⟩
   case round=>
    clear HK
    obtain⟨j,q,c,hj,rfl,HK⟩:=hrel
    by_cases hlt:j<n
    ·obtain⟨bl,o,rfl,hcell⟩:=toxs_on HI.out HK.out.below (by omega)
     obtain⟨c0,c1,c2,c3,c4,c5⟩:=hcell j hlt
     have hjl:j<l.length:=by rw[HL.out];exact hlt
     have hnl:=newC_len l seed room now (Nat.le_of_lt hjl)
     have hmore:=newC_more l seed room now hjl
     have hcap:j≤c∧c≤maxLen∧wr.cell? ⟨g,2,none⟩=some (.slice q j c):=by
      obtain⟨V1,V2,h1,_⟩:=HK.out
      have h3:=h1.loads.2.2
      have h4:=h1.row.cap
      rw[hnl]at h3 h4
      exact⟨h4,h1.row.max,h3⟩
     generalize l.getD j noTox=tx at*
     rw[←Nat.add_assoc]at c1 c2 c3 c4 c5
     have hal:Below wr.heap.size wr (wr.alloc (toxObj tx)):=(Below.refl _ _).alloc (Nat.le_refl _) _
     have hnew:=heap_alloc_new wr (toxObj tx)
     have HK4:=Lib.hid (HK.out.on hal)
     have d2:=(hal.cell (World.block_lt_of_cell? _ _ hcap.2.2)).trans hcap.2.2
     have hmx:=hcap.2.1
     have hnc:=hcap.1
     unfold toxObj at hal hnew HK4 d2
     clear hcell HK hcap hal
     go_upto_region 13 with fail
     generalize wr.alloc (.cells #[.string tx.s,.int .i64 tx.k,.bool tx.up,.int .i64 tx.o,.int .i64 tx.a,.int .i64 tx.b] 46)=w4 at*
     have u0:=cell_of_row w4 _ 0 _ _ _ hnew
     generalize wr.heap.size=gt at*
     obtain⟨q5,cp5,w5,e1,⟨y1,y2,y3⟩,hk5⟩:=kapp (HK4.out.on (Below.refl _ w4).drew) tx.s (by rw[hnl];omega)
     rw[hnl]at e1 y1 hk5
     rw[hmore]at hk5
     have HAP:=Lib.hid e1
     have HK5:=Lib.hid hk5
     have hal:Below w4.heap.size w4 (w4.alloc (.cells #[.string tx.s] 9)):=(Below.refl _ _).alloc (Nat.le_refl _) _
     have u0':=(hal.cell (World.block_lt_of_cell? _ _ u0)).trans u0
     have d2':=(hal.cell (World.block_lt_of_cell? _ _ d2)).trans d2
     clear e1 hk5 hmore hnl hal hnew HK4 c0 c1 c2 c3 c4
     go_region_law (first|(refine gc.step_append_eq rfl (.tmp 55) (.tmp 58) 36 36 rfl (.slice q j c) (.slice (some ⟨w4.heap.size,0,none⟩) 1 1) rfl rfl HAP.out ?_))
     all_goals
      clear u0 u0' d2 d2' y1 y2 y3 HAP
      go_wp2_with fail
      go_roundw
      case rel=>exact⟨j+1,q5,cp5,by omega,by go_num,HK5⟩
      case measure=>simp[intOf];omega
    ·obtain rfl:j=n:=by omega
     have hp:=HP.out HM.out.1 HM.out.2
     have hk:=HK.out
     rw[←HL.out]at hk
     obtain⟨V,hF⟩:=hk.own hp
     have HF:=Lib.hid hF
     clear hk hF hp HK
     go_wp2_with fail
     go_ret2
     exact⟨g,V,rfl,HF.out,HM.out.1,HM.out.2⟩
end
end Go.Proofs.YtdighjgcnaajgaaGreat
namespace Go.Proofs.YtdighjgcnaajgaaGreat
open Go.RowKit
namespace Cn
variable {k:Cn}
theorem prm_send (h:k.Prm) (way now:Int) (b:ByteArray):(k.sendK way now b).Prm:=by
 unfold sendK
 split
 ·exact prm_on h _ _ λ _=>rfl
 ·exact h
theorem prm_fin (h:k.Prm) (way now:Int):(k.finK way now).Prm:=by
 unfold finK
 split
 ·exact prm_on h _ _ λ _=>rfl
 ·exact h
theorem prm_cut (h:k.Prm) (now:Int):(k.cutK now).Prm:=prm_on (prm_on h 0 _ λ _=>rfl) 1 _ λ _=>rfl
theorem prm_stp {s:Told} (h:s.k.Prm) (now n0 n1:Int) (i:Nat):(stp now n0 n1 s i).k.Prm:=by
 unfold stp
 split
 ·exact h
 ·exact h
theorem prm_rst {s:Told} (h:s.k.Prm) (now:Int) (i:Nat):(rst now s i).k.Prm:=by
 unfold rst
 split
 ·exact h
 split
 ·exact h
 ·exact h
theorem prm_step (h:k.Prm) (now n0 n1:Int):(k.stepS now n0 n1).k.Prm:=by
 have h1:(k.step1 now n0 n1).k.Prm:=prm_stp (prm_stp (s:=⟨k,noOut,noOut⟩) h now n0 n1 0) now n0 n1 1
 unfold stepS
 split
 ·exact prm_rst (prm_rst h1 now 0) now 1
 ·exact h1
theorem prm_chg (h:k.Prm) (t:Tox) (now:Int):(k.chgK t now).Prm:=prm_on h _ _ λ l=>chg_names l t now
theorem prm_addK (h:k.Prm) {t:Tox} {now:Int} (ho:∀i,Lok (k.lk i)∧(k.lk i).Bal) (hu:t.up=(k.lk (wayT t)).up):(k.addK t now).Prm:=by
 unfold addK
 split
 ·exact h
 split
 ·exact h
 ·rename_i hc _
  exact prm_add h _ (ho _).1 (ho _).2 (way_lt t) (Decidable.not_not.1 hc) hu
theorem prm_dropK (h:k.Prm) (s:ByteArray) (now:Int):(k.dropK s now).Prm:=by
 unfold dropK
 split
 ·rename_i h0
  exact prm_drop h 0 (by decide) h0 λ e=>by cases e
 split
 ·rename_i h0 h1
  exact prm_drop h 1 (by decide) h1 λ _=>Decidable.not_not.1 h0
 ·exact h
end Cn
section
variable {w0 w w':World} {V:Own} {g:Nat} {k k':Cn} {M M':Nat}
theorem inames (h:KRep w V g k M):Calls Tryz.prog 20 #[ptr g] w (NamesOut k.names w):=by
 obtain⟨V1,V2,a,b,p,cap,h1,_,rfl⟩:=h
 exact knames_c h1
theorem icounts (h:KRep w V g k M) (way:Int):Calls Tryz.prog 18 #[ptr g,.int .i64 way] w λ e w'=>e=.returned (k.cnt way)∧Below w.heap.size w w':=by
 obtain⟨V1,V2,a,b,p,cap,h1,_,rfl⟩:=h
 exact kcounts_c h1 way
theorem iover (h:KRep w V g k M):Calls Tryz.prog 17 #[ptr g] w λ e w'=>e=.returned (.bool (decide (k.A.fin≠0∧k.B.fin≠0)))∧Below w.heap.size w w':=by
 obtain⟨V1,V2,a,b,p,cap,h1,_,rfl⟩:=h
 exact kover_c h1
theorem isend (h:KRep w V g k M) (way now:Int) {pb:Option Addr} {nb cb:Nat} {s:ByteArray} (hb:s.size=nb) (hi:Lib.BytesIn w pb nb (gc.nums s)) (hnc:nb≤cb) (hM:M+s.size≤M') (hf:M'≤400000):
  Calls Tryz.prog 30 #[ptr g,.int .i64 way,.int .i64 now,.slice pb nb cb] w λ e w'=>e=.returned (.int .i64 (k.sendN way now s))∧KStp w V g (k.sendK way now s) M' w':=by
 obtain⟨V1,V2,a,b,p,cap,h1,hp,rfl⟩:=h
 exact(ksend_c h1 way now hb hi hnc hM hf).mono λ e w' he=>⟨he.1,he.2.stp (Cn.prm_send hp way now s)⟩
theorem ifin (h:KRep w V g k M) (way now:Int):Calls Tryz.prog 41 #[ptr g,.int .i64 way,.int .i64 now] w λ e w'=>e=.returned (.tuple #[])∧KStp w V g (k.finK way now) M w':=by
 obtain⟨V1,V2,a,b,p,cap,h1,hp,rfl⟩:=h
 exact(kfin_c h1 way now).mono λ e w' he=>⟨he.1,he.2.stp (Cn.prm_fin hp way now)⟩
theorem icut (h:KRep w V g k M) (now:Int):Calls Tryz.prog 42 #[ptr g,.int .i64 now] w λ e w'=>e=.returned (.tuple #[])∧KStp w V g (k.cutK now) M w':=by
 obtain⟨V1,V2,a,b,p,cap,h1,hp,rfl⟩:=h
 exact(kcut_c h1 now).mono λ e w' he=>⟨he.1,he.2.stp (Cn.prm_cut hp now)⟩
theorem istep (h:KRep w V g k M) (now n0 n1:Int):Calls Tryz.prog 31 #[ptr g,.int .i64 now,.agg #[.int .i64 n0,.int .i64 n1]] w λ e w'=>e=.returned (outV (k.stepS now n0 n1))∧KStp w V g (k.stepS now n0 n1).k M w':=by
 obtain⟨V1,V2,a,b,p,cap,h1,hp,rfl⟩:=h
 exact(kstep_c h1 now n0 n1).mono λ e w' he=>⟨he.1,he.2.stp (Cn.prm_step hp now n0 n1)⟩
theorem iadd (h:KRep w V g k M) (t:Tox) (ht:t.s.size≤maxLen) (now:Int) (hM:M+t.s.size≤M') (hf:M'≤400000):Calls Tryz.prog 21 #[ptr g,t.v,.int .i64 now] w λ e w'=>e=.returned (.int .i64 (k.addE t now))∧KStp w V g (k.addK t now) M' w':=by
 obtain⟨V1,V2,a,b,p,cap,h1,hp,rfl⟩:=h
 exact(kadd_c h1 hp t ht now hM hf).mono λ e w' ⟨he,q,d,hk⟩=>⟨he,hk.stp (Cn.prm_addK hp (λ i=>lrep_ok (h1.lk i)) (h1.up_way t))⟩
theorem idrop (h:KRep w V g k M) (s:ByteArray) (now:Int):Calls Tryz.prog 22 #[ptr g,.string s,.int .i64 now] w λ e w'=>e=.returned (.int .i64 (k.dropE s))∧KStp w V g (k.dropK s now) M w':=by
 obtain⟨V1,V2,a,b,p,cap,h1,hp,rfl⟩:=h
 exact(kdrop_c h1 hp s now).mono λ e w' ⟨he,q,d,hk⟩=>⟨he,hk.stp (Cn.prm_dropK hp s now)⟩
theorem ichg (h:KRep w V g k M) (t:Tox) (ht:t.s.size≤maxLen) (now:Int):Calls Tryz.prog 43 #[ptr g,t.v,.int .i64 now] w λ e w'=>e=.returned (.int .i64 (k.chgE t now))∧KStp w V g (k.chgK t now) M w':=by
 obtain⟨V1,V2,a,b,p,cap,h1,hp,rfl⟩:=h
 exact(kchg_c h1 t ht now).mono λ e w' he=>⟨he.1,he.2.stp (Cn.prm_chg hp t now)⟩
theorem krep_lt (h:KRep w V g k M) {i:Nat} (hi:V i):i<w.heap.size:=by
 obtain⟨V1,V2,a,b,p,cap,h1,hp,rfl⟩:=h
 exact h1.lt hi
theorem krep_keep (h:KRep w V g k M) (hk:∀i,V i→w'.heap[i]?=w.heap[i]?):KRep w' V g k M:=by
 obtain⟨V1,V2,a,b,p,cap,h1,hp,rfl⟩:=h
 exact⟨V1,V2,a,b,p,cap,h1.keep hk,hp,rfl⟩
theorem krep_ok (h:KRep w V g k M):(Lok k.A∧k.A.Bal)∧(Lok k.B∧k.B.Bal)∧k.Prm∧k.A.up=true∧k.B.up=false:=by
 obtain⟨V1,V2,a,b,p,cap,h1,hp,rfl⟩:=h
 exact⟨lrep_ok h1.la,lrep_ok h1.lb,hp,h1.ups⟩
theorem lrep_nums {w:World} {V:Own} {g:Nat} {k:Lk} {M:Nat} (h:LRep w V g k M):0≤k.got∧k.got≤k.sent∧0≤k.sent∧k.sent≤400000∧k.got≤400000:=by
 obtain⟨U,ch,p,cap,h1,rfl⟩:=h
 exact h1.nums
theorem krep_nums (h:KRep w V g k M) (i:Nat):0≤(k.lk i).got∧(k.lk i).got≤(k.lk i).sent∧0≤(k.lk i).sent∧(k.lk i).sent≤400000∧(k.lk i).got≤400000:=by
 obtain⟨V1,V2,a,b,p,cap,h1,hp,rfl⟩:=h
 exact lrep_nums (h1.lk i)
theorem KHd.on (h:KHd w0 w V g k M) (hb:Below w.heap.size w w'):KHd w0 w' V g k M:=
 ⟨krep_keep h.1 (λ i hi=>hb.block i (krep_lt h.1 hi)),h.2.1,h.2.2.trans (hb.mono h.2.2.size)⟩
theorem KHd.new (h:KHd w0 w V g k M) {i:Nat} (hi:w.heap.size≤i):¬V i:=λ hu=>by
 have:=krep_lt h.1 hu
 omega
theorem KHd.step (h:KHd w0 w V g k M) (hs:KStp w V g k' M' w'):∃V',KHd w0 w' V' g k' M'∧Rest w V w' V':=by
 obtain⟨V',hr,hm⟩:=hs
 have hf:Fr w0 w' V':=Fr.mvd ⟨h.2.2,h.2.1⟩ hm
 exact⟨V',⟨hr,hf.2,hf.1⟩,λ i hi hu=>⟨hm.1.2 i hi hu,hm.not hi hu⟩⟩
theorem KHd.mono (h:KHd w0 w V g k M) (hM:M≤M') (hf:M'≤400000):KHd w0 w V g k M':=by
 obtain⟨⟨V1,V2,a,b,p,cap,h1,hp,rfl⟩,h2⟩:=h
 exact⟨⟨V1,V2,a,b,p,cap,h1.more hM hf,hp,rfl⟩,h2⟩
theorem KHd.set (h:KHd w0 w V g k M) {b i:Nat} (hc:¬V b) (h0:w0.heap.size≤b) (v:Value):KHd w0 (w.setCell ⟨b,i,none⟩ v) V g k M:=
 ⟨krep_keep h.1 (λ j hj=>Below.heap_setCell _ _ _ _ (λ e=>hc (by have e:j=b:=e;rw[←e];exact hj))),h.2.1,h.2.2.setCell (p:=⟨b,i,none⟩) h0 v⟩
theorem KHd.base {w1:World} (h:KHd w1 w V g k M) (hb:Below w0.heap.size w0 w1):KHd w0 w V g k M:=
 ⟨h.1,λ i hi=>Nat.le_trans hb.size (h.2.1 i hi),hb.trans (h.2.2.mono hb.size)⟩
end
end Go.Proofs.YtdighjgcnaajgaaGreat
