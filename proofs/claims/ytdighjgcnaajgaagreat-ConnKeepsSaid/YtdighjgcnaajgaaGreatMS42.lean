import Derived.Test.YtdighjgcnaajgaaGreatMS40
namespace Go.Proofs.YtdighjgcnaajgaaGreat
open Go.RowKit
section
variable {w w':World}
def emptyC (room:Int):Ch:=⟨[],room,0,false,0⟩
def Made (w0:World) (g:Nat) (c:Ch) (W:World):Prop:=∃p cap q,CAt W g p cap q c 0∧Fr w0 W (blkC g p q)
theorem made_start (w:World) (room:Int):Made w w.heap.size (emptyC room) (w.alloc (.cells #[.slice none 0 0,.int .i64 room,.int .i64 0,.bool false,.int .i64 0] 160)):=by
 have hal:Below w.heap.size w (w.alloc (.cells #[.slice none 0 0,.int .i64 room,.int .i64 0,.bool false,.int .i64 0] 160)):=(Below.refl _ _).alloc (Nat.le_refl _) _
 refine⟨none,0,[],⟨rfl,Nat.zero_le _,heap_alloc_new w _,gc.orow_nil _ _ _ _,λ k hk=>absurd hk (Nat.not_lt_zero k),λ k hk=>absurd hk (Nat.not_lt_zero k),λ i j hi=>absurd hi (Nat.not_lt_zero i),λ k hk=>absurd hk (Nat.not_lt_zero k),⟨Int.le_refl _,Int.le_refl _⟩,by decide⟩,hal,λ i hi=>?_⟩
 rcases hi with rfl|⟨a,ha,_⟩|⟨x,hx,_⟩
 ·exact Nat.le_refl _
 ·cases ha
 ·cases hx
theorem made_on {w0 W W':World} {g:Nat} {c:Ch} (h:Made w0 g c W) (hb:Below W.heap.size W W'):Made w0 g c W':=by
 obtain⟨p,cap,q,h1,h2⟩:=h
 exact⟨p,cap,q,h1.on hb,⟨h2.1.trans (hb.mono h2.1.size),h2.2⟩⟩
theorem sum_map_zero (l:List Prt) (h:∀x∈l,x.s.S.size=0):(l.map λ p=>p.s.S.size).sum=0:=by
 induction l with
 |nil=>rfl
 |cons a r ih=>
  have h1:=h a (by simp)
  have h2:=ih (λ x hx=>h x (by simp[hx]))
  simp only[List.map_cons,List.sum_cons]
  omega
theorem made_more {w0 W:World} {g:Nat} {c:Ch} {pp gg:Nat} {U:Own} {s:St} {bb:Bool} {p:Option Addr} {cap:Nat} {q:List Nd} (h1:CAt W g p cap q c 0) (h2:Fr w0 W (blkC g p q)) (h9:c.L.length<10) (hp:PAt W pp gg U s bb 0) (hd:∀i,oneU pp U i→w0.heap.size≤i) (hdj:∀i,oneU pp U i→¬blkC g p q i) (hs:s.S.size=0):
  ∃p' cap' W',W.cell? ⟨g,0,none⟩=some (.slice p c.L.length cap)∧(∀ty,(Builtin.append_ #[PS,PS] ty #[.slice p c.L.length cap,.slice (some ⟨W.heap.size,0,none⟩) 1 1]).run Tryz.prog (W.alloc (.cells #[ptr pp] PT))=.ok (.slice p' (c.L.length+1) cap') W')∧
   (W'.cell? ⟨g,0,none⟩=some (.slice p c.L.length cap)∧W'.frozen? ⟨g,0,none⟩=false)∧Made w0 g {c with L:=c.L++[(⟨s,bb⟩:Prt)]} (W'.setCell ⟨g,0,none⟩ (.slice p' (c.L.length+1) cap')):=by
 have hal:Below W.heap.size W (W.alloc (.cells #[ptr pp] PT)):=(Below.refl _ _).alloc (Nat.le_refl _) _
 have hnew:=heap_alloc_new W (.cells #[ptr pp] PT)
 obtain⟨i0,hi0,hz0,hz1,hz2⟩:=info_parts pinfo
 have hrow:=(h1.row.on hal)
 obtain⟨p',cap',W',hr1,hr2,hr3,hr4⟩:=gc.app_row (t:=PS) hrow (Nat.zero_le _) Tryz.underlying158 hi0 hz0 hz1 hz2 rfl (by decide) (a:=⟨W.heap.size,0,none⟩) (m:=1) (d:=1) (news:=[ptr pp]) rfl (λ j u hj=>by
  cases j with
  |zero=>cases hj;rw[WideShapes.add_plain];exact cell_of_row _ _ 0 _ _ _ hnew
  |succ j=>cases hj) (λ u hu=>by simp at hu;rw[hu];rfl) (by unfold maxLen;omega) (by omega)
 have hlt:∀i,i<W.heap.size→(∀a,p=some a→a.block≠i)→W'.heap[i]?=W.heap[i]?:=λ i hi hne=>(hr3.block i (Nat.lt_of_lt_of_le hi hal.size) (λ e=>by
  cases p with
  |none=>cases e
  |some a=>
   have e:some i=some a.block:=e
   cases e
   exact hne a rfl rfl)).trans (hal.block i hi)
 have hgl:=gb.blk_lt h1.blk
 have hg1:W'.heap[g]?=W.heap[g]?:=hlt g hgl (λ a ha e=>h1.r_ne_g ha e)
 have hq:=h1.len
 have hob:∀(v:Value) i,i<W.heap.size→(∀a,p=some a→a.block≠i)→i≠g→(W'.setCell ⟨g,0,none⟩ v).heap[i]?=W.heap[i]?:=λ v i hi h1 h2=>(Below.heap_setCell _ _ _ _ h2).trans (hlt i hi h1)
 obtain⟨v,hv⟩:∃v,Value.slice p' (c.L.length+1) cap'=v:=⟨_,rfl⟩
 have hst:∀j,j<c.L.length→Rep (W'.setCell ⟨g,0,none⟩ v) (nd q j).U (nd q j).g (c.at' j).s (nd q j).m:=λ j hj=>rep_on2 (h1.stg j hj) λ i hi=>hob v i ((rep_lt (h1.stg j hj)).2 i hi) (λ a ha e=>h1.not_r hj ha (by rw[e];exact hi)) (λ e=>h1.not_g hj (by rw[←e];exact hi))
 have hpt:∀j,j<c.L.length→(W'.setCell ⟨g,0,none⟩ v).heap[(nd q j).p]?=some (.cells (prtC (nd q j).g (c.at' j).closed) 183 (0,0)):=λ j hj=>(hob v _ (gb.blk_lt (h1.prt j hj)) (λ a ha e=>h1.r_ne_p hj ha e) (h1.p_ne_g hj)).trans (h1.prt j hj)
 have hnw:PAt (W'.setCell ⟨g,0,none⟩ v) pp gg U s bb 0:=hp.keep λ i hi=>hob v i (hp.lt hi) (λ a ha e=>hdj i hi (Or.inr (Or.inl ⟨a,ha,e⟩))) (λ e=>hdj i hi (Or.inl e))
 have hlq:nd (q++[(⟨pp,gg,U,0⟩:Nd)]) c.L.length=⟨pp,gg,U,0⟩:=by
  unfold nd
  rw[List.getD_eq_getElem?_getD,List.getElem?_append_right (by omega),hq,Nat.sub_self]
  rfl
 have hoq:∀j,j<c.L.length→nd (q++[(⟨pp,gg,U,0⟩:Nd)]) j=nd q j:=λ j hj=>by
  unfold nd
  rw[List.getD_eq_getElem?_getD,List.getD_eq_getElem?_getD,List.getElem?_append_left (by omega)]
 have hlc:({c with L:=c.L++[(⟨s,bb⟩:Prt)]}:Ch).at' c.L.length=⟨s,bb⟩:=by
  unfold Ch.at'
  rw[List.getD_eq_getElem?_getD,List.getElem?_append_right (Nat.le_refl _),Nat.sub_self]
  rfl
 have hoc:∀j,j<c.L.length→({c with L:=c.L++[(⟨s,bb⟩:Prt)]}:Ch).at' j=c.at' j:=λ j hj=>by
  unfold Ch.at'
  rw[List.getD_eq_getElem?_getD,List.getD_eq_getElem?_getD,List.getElem?_append_left hj]
 have hsz:∀j,j<c.L.length→(c.at' j).s.S.size=0:=λ j hj=>by
  have h3:=h1.sum j hj
  have h4:=(rep_ok (h1.stg j hj)).1
  omega
 have hsum:∀j,sumA (c.L++[(⟨s,bb⟩:Prt)]) j=0:=λ j=>by
  unfold sumA
  refine sum_map_zero _ λ y hy=>?_
  have hy:=List.mem_of_mem_take hy
  rcases List.mem_append.1 hy with hy|hy
  ·obtain⟨k,hk,rfl⟩:=List.getElem_of_mem hy
   have:=hsz k hk
   unfold Ch.at' at this
   rw[List.getD_eq_getElem?_getD,List.getElem?_eq_getElem hk]at this
   exact this
  ·simp at hy
   rw[hy]
   exact hs
 have hl1:(c.L++[(⟨s,bb⟩:Prt)]).length=c.L.length+1:=by simp
 refine⟨p',cap',W',h1.cell 0,λ ty=>hr1 ty,⟨cell_of_row _ _ 0 _ _ _ (hg1.trans h1.blk),gb.frozen_at (hg1.trans h1.blk)⟩,p',cap',q++[⟨pp,gg,U,0⟩],⟨?_,?_,?_,?_,λ j hj=>?_,λ j hj=>?_,λ i j hi hj hne=>?_,λ j hj=>?_,?_,by decide⟩,⟨⟨?_,?_,?_,?_,λ i hi=>?_⟩,λ i hi=>?_⟩⟩
 ·rw[List.length_append]
  show q.length+1=(c.L++[(⟨s,bb⟩:Prt)]).length
  rw[hl1,hq]
 ·show(c.L++[(⟨s,bb⟩:Prt)]).length≤10
  rw[hl1]
  omega
 ·show _=some (Obj.cells (chC p' (c.L++[(⟨s,bb⟩:Prt)]).length cap' _) _ _)
  rw[hl1]
  have:=hg1.trans h1.blk
  rw[gb.set_heap this]
  rfl
 ·show gc.ORow _ 0 _ 1 p' (c.L++[(⟨s,bb⟩:Prt)]).length cap' _
  rw[hl1,List.map_append]
  exact hr2.set (hg1.trans h1.blk) (by decide) 0 _
 ·have hj:j<c.L.length+1:=by rw[←hl1];exact hj
  rw[hv]
  rcases Nat.lt_or_ge j c.L.length with e|e
  ·rw[hoq j e,hoc j e]
   exact hpt j e
  ·obtain rfl:j=c.L.length:=by omega
   rw[hlq,hlc]
   exact hnw.prt
 ·have hj:j<c.L.length+1:=by rw[←hl1];exact hj
  rw[hv]
  rcases Nat.lt_or_ge j c.L.length with e|e
  ·rw[hoq j e,hoc j e]
   exact hst j e
  ·obtain rfl:j=c.L.length:=by omega
   rw[hlq,hlc]
   exact hnw.stg
 ·have hi:i<c.L.length+1:=by rw[←hl1];exact hi
  have hj:j<c.L.length+1:=by rw[←hl1];exact hj
  rcases Nat.lt_or_ge i c.L.length with e|e<;>rcases Nat.lt_or_ge j c.L.length with f|f
  ·rw[hoq i e,hoq j f]
   exact h1.apart i j e f hne
  ·obtain rfl:j=c.L.length:=by omega
   rw[hoq i e,hlq]
   exact⟨λ ee=>hdj pp (Or.inl rfl) (by have ee:(nd q i).p=pp:=ee;rw[←ee];exact own_p (by omega)),λ x hx hx'=>hdj x (Or.inr hx') (own_U (by omega) hx)⟩
  ·obtain rfl:i=c.L.length:=by omega
   rw[hoq j f,hlq]
   exact⟨λ ee=>hdj pp (Or.inl rfl) (by have ee:pp=(nd q j).p:=ee;rw[ee];exact own_p (by omega)),λ x hx hx'=>hdj x (Or.inr hx) (own_U (by omega) hx')⟩
  ·omega
 ·have hj:j<c.L.length+1:=by rw[←hl1];exact hj
  show(nd (q++[(⟨pp,gg,U,0⟩:Nd)]) j).m+sumA (c.L++[(⟨s,bb⟩:Prt)]) j≤0
  rw[hsum]
  rcases Nat.lt_or_ge j c.L.length with e|e
  ·rw[hoq j e]
   have:=h1.sum j e
   omega
  ·obtain rfl:j=c.L.length:=by omega
   rw[hlq]
   exact Nat.le_refl _
 ·show 0≤c.lost∧c.lost+(sumA (c.L++[(⟨s,bb⟩:Prt)]) _:Nat)≤0
  rw[hsum]
  have:=h1.los
  omega
 ·exact hr3.os.trans (hal.os.trans h2.1.os)
 ·exact hr3.tape.trans (hal.tape.trans h2.1.tape)
 ·exact hr3.output.trans (hal.output.trans h2.1.output)
 ·have:=Nat.le_trans h2.1.size (Nat.le_trans hal.size hr3.size)
  simpa[World.setCell]using this
 ·rw[hob _ i (Nat.lt_of_lt_of_le hi h2.1.size) (λ a ha e=>by have:=h2.2 a.block (Or.inr (Or.inl ⟨a,ha,rfl⟩));omega) (λ e=>by have:=h2.2 g (Or.inl rfl);omega)]
  exact h2.1.block i hi
 ·rcases hi with e|⟨a,ha,e⟩|⟨x,hx,e⟩
  ·exact h2.2 i (Or.inl e)
  ·rcases hr4 a ha with h5|h5
   ·cases p with
    |none=>cases h5
    |some a0=>
     have h5:a0.block=a.block:=Option.some.inj h5
     exact h2.2 i (Or.inr (Or.inl ⟨a0,rfl,h5.trans e⟩))
   ·have:=h2.1.size
    have:=hal.size
    omega
  ·rcases List.mem_append.1 hx with hx|hx
   ·exact h2.2 i (Or.inr (Or.inr ⟨x,hx,e⟩))
   ·simp at hx
    rw[hx]at e
    exact hd i e
end
end Go.Proofs.YtdighjgcnaajgaaGreat
namespace Go.Proofs.YtdighjgcnaajgaaGreat
open Go.RowKit
section
variable {w w':World}
abbrev passP (room now:Int):Prt:=⟨newS noTox 0 room now,false⟩
def mkC (room now:Int) (k:Nat):Ch:=⟨List.replicate k (passP room now),room,0,false,0⟩
theorem mk_len (room now:Int) (k:Nat):(mkC room now k).L.length=k:=by unfold mkC;simp
theorem mk_succ (room now:Int) (k:Nat):({mkC room now k with L:=(mkC room now k).L++[passP room now]}:Ch)=mkC room now (k+1):=by
 unfold mkC
 rw[List.replicate_succ']
theorem mk_two (room now:Int):mkC room now 2=Ch.newC room now:=rfl
theorem made_part {w0 W W1:World} {g:Nat} {room now:Int} {k pp gg:Nat} {U:Own} (hk:k<2) (h:Made w0 g (mkC room now k) W) (hp:PAt W1 pp gg U (newS noTox 0 room now) false 0) (hf:Fr W W1 (oneU pp U)):
  ∃p cap p' cap' W',W1.cell? ⟨g,0,none⟩=some (.slice p k cap)∧(∀ty,(Builtin.append_ #[PS,PS] ty #[.slice p k cap,.slice (some ⟨W1.heap.size,0,none⟩) 1 1]).run Tryz.prog (W1.alloc (.cells #[ptr pp] PT))=.ok (.slice p' (k+1) cap') W')∧
   (W'.cell? ⟨g,0,none⟩=some (.slice p k cap)∧W'.frozen? ⟨g,0,none⟩=false)∧Made w0 g (mkC room now (k+1)) (W'.setCell ⟨g,0,none⟩ (.slice p' (k+1) cap')):=by
 obtain⟨p,cap,q,a1,a2⟩:=h
 have hm:=made_more (a1.on hf.1) ⟨a2.1.trans (hf.1.mono a2.1.size),a2.2⟩ (by rw[mk_len];omega) hp (λ i hi=>Nat.le_trans a2.1.size (hf.2 i hi)) (λ i hi hb=>by
  have:=hf.2 i hi
  have:=a1.lt hb
  omega) rfl
 rw[mk_succ,mk_len]at hm
 exact⟨p,cap,hm⟩
set_option maxRecDepth 100000 in
set_option maxHeartbeats 8000000 in
theorem new_c {room now:Int} (hE:newE noTox room=0) (w:World):Calls Tryz.prog 60 #[.int .i64 room,.int .i64 now] w λ e w'=>∃g,e=.returned (.tuple #[ptr g,.int .i64 0])∧Made w g (Ch.newC room now) w':=by
 have H0:=Lib.hid (show Made w w.heap.size (mkC room now 0) (w.alloc (.cells #[.slice none 0 0,.int .i64 room,.int .i64 0,.bool false,.int .i64 0] 160))from made_start w room)
 have HN:=Lib.hid (λ W=>part_yes (seed:=0) (now:=now) Ch.noTox_s hE W)
 unfold Tox.v noTox at HN
 obtain⟨g,hg⟩:∃g,w.heap.size=g:=⟨_,rfl⟩
 rw[hg]at H0
 clear hE
 go_enter Tryz.func60,Tryz.ntmps60
 go_wp2_with fail
 go_loopw [12] (λ i wr=>∃k:Nat,k≤2∧i=.int .i64 k∧Hid (Made w g (mkC room now k) wr)) (λ i _=>2 -(intOf i).toNat)
 case atStart=>exact⟨0,Nat.zero_le _,rfl,H0⟩
 case round=>
  clear H0
  obtain⟨k,hk,rfl,HK⟩:=hrel
  by_cases hlt:k<2
  ·have HC:=Lib.hid (HN.out wr)
   go_wp2_with fail
   refine HC.out.mono ?_
   rintro e w1 ⟨pp,gg,U,rfl,hp,hf⟩
   obtain⟨p,cap,p',cap',W',x0,happ,⟨z0,f0⟩,hm⟩:=made_part hlt HK.out hp hf
   have HAP:=Lib.hid happ
   have HM:=Lib.hid hm
   clear happ hm hp hf HC HK
   go_wp2_with (at_builtin;refine Lib.wpList_append_run _ rfl _ _ _ _ rfl (.slice p k cap) (.slice (some ⟨w1.heap.size,0,none⟩) 1 1) rfl rfl _ _ (HAP.out _) ?_)
   go_roundw
   case rel=>exact⟨k+1,by omega,by go_num,HM⟩
   case measure=>simp[intOf];omega
  ·obtain rfl:k=2:=by omega
   clear hlt
   have HE:=Lib.hid (show Made w g (Ch.newC room now) wr from HK.out)
   clear HK
   go_wp2_with fail
   go_ret2
   exact⟨g,rfl,HE.out⟩
set_option maxRecDepth 100000 in
set_option maxHeartbeats 8000000 in
theorem new_c_no {room now:Int} (hE:newE noTox room≠0) (w:World):Calls Tryz.prog 60 #[.int .i64 room,.int .i64 now] w λ e w'=>e=.returned (.tuple #[.pointer none,.int .i64 (newE noTox room)])∧Below w.heap.size w w':=by
 have hal:Below w.heap.size w (w.alloc (.cells #[.slice none 0 0,.int .i64 room,.int .i64 0,.bool false,.int .i64 0] 160)):=(Below.refl _ _).alloc (Nat.le_refl _) _
 have HN:=Lib.hid (part_no (seed:=0) (now:=now) Ch.noTox_s hE (w.alloc (.cells #[.slice none 0 0,.int .i64 room,.int .i64 0,.bool false,.int .i64 0] 160)))
 have d1:decide (newE noTox room=0)=false:=by simpa using hE
 have d2:(newE noTox room==0)=false:=by simpa using hE
 have d3:(newE noTox room !=0)=true:=by simpa using hE
 generalize newE noTox room=E at*
 unfold Tox.v noTox at HN
 have HA:=Lib.hid hal
 clear hE hal
 go_enter Tryz.func60,Tryz.ntmps60
 go_wp2_with fail
 go_loopw [12] (λ i wr=>i=.int .i64 0∧wr=w.alloc (.cells #[.slice none 0 0,.int .i64 room,.int .i64 0,.bool false,.int .i64 0] 160)) (λ _ _=>0)
 case atStart=>exact⟨rfl,rfl⟩
 case round=>
  obtain⟨rfl,rfl⟩:=hrel
  go_wp2_with fail
  refine HN.out.mono ?_
  rintro e w1 ⟨rfl,hb⟩
  have HR:=Lib.hid (HA.out.trans (hb.mono HA.out.size))
  clear hb HN HA
  go_wp2_with fail
  go_ret2
  exact⟨rfl,HR.out⟩
end
end Go.Proofs.YtdighjgcnaajgaaGreat
namespace Go.Proofs.YtdighjgcnaajgaaGreat
open Go.RowKit
def cellsT (t:Tox):List Value:=[.string t.s,.int .i64 t.k,.bool t.up,.int .i64 t.o,.int .i64 t.a,.int .i64 t.b]
def flatT (l:List Tox):List Value:=l.flatMap cellsT
theorem flatT_append (l:List Tox) (t:Tox):flatT (l++[t])=flatT l++cellsT t:=by simp[flatT]
theorem cellsT_one (t:Tox):∀u∈cellsT t,u.oneCell'=true:=by
 intro u hu
 simp[cellsT]at hu
 rcases hu with rfl|rfl|rfl|rfl|rfl|rfl<;>rfl
def txL (c:Ch) (k:Nat):List Tox:=(List.range k).map λ j=>(c.at' (j+1)).s.tx
theorem txL_succ (c:Ch) (k:Nat):txL c (k+1)=txL c k++[(c.at' (k+1)).s.tx]:=by
 unfold txL
 rw[List.range_succ,List.map_append]
 rfl
theorem infoT:(Tryz.prog.info? 46).map (λ i=>(i.zero,i.size,i.bytes))=some (some (.agg #[.string ⟨#[]⟩,.int .i64 0,.bool false,.int .i64 0,.int .i64 0,.int .i64 0]),6,56):=by kernel_rfl
theorem app_tox {w0 w:World} {base n c:Nat} {p:Option Addr} {zs:List Tox} (ho:gc.ORow w base 46 6 p n c (flatT zs)) (hb:Below base w0 w) (hbase:base≤w.heap.size) (hn:n≤20) (t:Tox):
  ∃q d w',(∀ty,(Builtin.append_ #[22,22] ty #[.slice p n c,.slice (some ⟨w.heap.size,0,none⟩) 1 1]).run Tryz.prog (w.alloc (toxObj t))=.ok (.slice q (n+1) d) w')∧gc.ORow w' base 46 6 q (n+1) d (flatT (zs++[t]))∧Below base w0 w':=by
 obtain⟨i0,hi0,hz0,hz1,hz2⟩:=info_parts infoT
 have hal:Below w.heap.size w (w.alloc (toxObj t)):=(Below.refl _ _).alloc (Nat.le_refl _) _
 have hnew:=heap_alloc_new w (toxObj t)
 obtain⟨q,d,w',h1,h2,h3,h4⟩:=gc.app_row (t:=22) (ho.on hal) (Nat.le_trans hbase hal.size) Tryz.underlying22 hi0 hz0 hz1 hz2 rfl (by decide) (a:=⟨w.heap.size,0,none⟩) (m:=1) (d:=1) (news:=cellsT t) rfl (λ j u hj=>by
  rw[WideShapes.add_plain]
  have hj1:j<6:=(List.getElem?_eq_some_iff.1 hj).1
  rcases(show j=0∨j=1∨j=2∨j=3∨j=4∨j=5 by omega)with rfl|rfl|rfl|rfl|rfl|rfl<;>(cases hj;exact cell_of_row _ _ _ _ _ _ hnew)) (cellsT_one t) (by unfold maxLen;omega) (by omega)
 rw[←flatT_append]at h2
 refine⟨q,d,w',h1,h2,(hb.trans (hal.mono hbase)).grown h3 (by have:=hal.size;simp;omega) (λ j hj=>?_)⟩
 cases p with
 |none=>cases hj
 |some a=>
  have hj:some a.block=some j:=hj
  cases hj
  exact(ho.lt a rfl).1
section
variable {w w':World} {g:Nat} {p:Option Addr} {cap:Nat} {q:List Nd} {c c':Ch} {M M':Nat}
def ToxOut (c:Ch) (w:World) (e:Ending) (w':World):Prop:=∃a d,e=.returned (.slice a (c.L.length -2) d)∧gc.ORow w' w.heap.size 46 6 a (c.L.length -2) d (flatT (txL c (c.L.length -2)))∧Below w.heap.size w w'
set_option maxRecDepth 100000 in
set_option maxHeartbeats 8000000 in
theorem toxics_c (h:CAt w g p cap q c M) (h2:2≤c.L.length):Calls Tryz.prog 70 #[ptr g] w (ToxOut c w):=by
 have h10:=h.ten
 obtain⟨b,o,rfl,hr,hnc,hmx⟩:=h.rows (by omega)
 have x0:w.cell? ⟨g,0,none⟩=some (.slice (some ⟨b,o,none⟩) c.L.length cap):=h.cell 0
 have HC:=Lib.hid h
 obtain⟨m,hm⟩:∃m,c.L.length=m+2:=⟨c.L.length -2,by omega⟩
 unfold ToxOut
 have hm2:c.L.length -2=m:=by omega
 rw[hm2]
 rw[hm]at x0 hnc
 have HM:=Lib.hid hm
 have hm8:m≤8:=by omega
 have hc1:¬cap=1:=by omega
 have hm1:((m+2:Nat):Int) -1=(m:Int)+1:=by omega
 have hm3:(m:Int)+2 -1=(m:Int)+1:=by omega
 have hiw:IntKind.i64.wrap ((m:Int)+2 -1)=(m:Int)+1:=by rw[hm3];exact wrap_id (by omega) (by omega)
 have hti:((m:Int)+1).toNat=m+1:=by omega
 have hi0:(0:Int)≤(m:Int)+1:=by omega
 have hi1:(1:Int)≤(m:Int)+1:=by omega
 have hi2:(m:Int)+1≤(cap:Int):=by omega
 have hmc:m+1≤cap:=by omega
 clear h hr hm hm2 h2 h10
 go_enter Tryz.func70,Tryz.ntmps70
 go_wp2_with fail
 go_quiet (fail)
 have H0:=Lib.hid (⟨gc.orow_nil (w.drewN nq) w.heap.size 46 6,gc.below_drewN w nq⟩:gc.ORow (w.drewN nq) w.heap.size 46 6 none 0 0 (flatT (txL c 0))∧Below w.heap.size w (w.drewN nq))
 clear x0
 go_wp2_with fail
 go_loopw [3,18] (λ s i wr=>∃(k:Nat) (a:Option Addr) (d:Nat),k≤m∧i=.int .i64 k∧s=.slice a k d∧Hid (gc.ORow wr w.heap.size 46 6 a k d (flatT (txL c k))∧Below w.heap.size w wr)) (λ _ i _=>m -(intOf i).toNat)
 case atStart=>exact⟨0,none,0,Nat.zero_le _,rfl,rfl,H0⟩
 case round=>
  clear H0
  obtain⟨k,a,d,hk,rfl,rfl,HK⟩:=hrel
  by_cases hlt:k<m
  ·have hcr:=HC.out.on HK.out.2
   have hk1:k+1<c.L.length:=by rw[HM.out];omega
   have y0:=hcr.rowk hk1
   rw[show o+(k+1)=o+1+k by omega]at y0
   have z0:=(hcr.pcell hk1).1
   have HT:=Lib.hid (toxic_i (hcr.stg (k+1) hk1))
   obtain⟨t,ht⟩:∃t,(c.at' (k+1)).s.tx=t:=⟨_,rfl⟩
   have HS:=Lib.hid (show txL c (k+1)=txL c k++[t] by rw[txL_succ,ht])
   rw[ht]at HT
   unfold Tox.v at HT
   generalize(nd q (k+1)).p=pk at*
   generalize(nd q (k+1)).g=gk at*
   have HA:=Lib.hid (λ W (hb:Below wr.heap.size wr W)=>app_tox (HK.out.1.on hb) (HK.out.2.trans (hb.mono HK.out.2.size)) (Nat.le_trans HK.out.2.size hb.size) (by omega) t)
   unfold toxObj at HA
   clear hcr hk1 ht HK
   go_wp2_with fail
   refine HT.out.mono ?_
   rintro e w1 ⟨rfl,hb1⟩
   obtain⟨a',d',w2,happ,ho2,hb2⟩:=HA.out w1 hb1
   have HAP:=Lib.hid happ
   have HO:=Lib.hid (show gc.ORow w2 w.heap.size 46 6 a' (k+1) d' (flatT (txL c (k+1)))∧Below w.heap.size w w2 from⟨by rw[HS.out];exact ho2,hb2⟩)
   clear happ ho2 hb2 hb1 HA HT y0 z0 HS
   go_wp2_with (at_builtin;refine Lib.wpList_append_run _ rfl _ _ _ _ rfl (.slice a k d) (.slice (some ⟨w1.heap.size,0,none⟩) 1 1) rfl rfl _ _ (HAP.out _) ?_)
   go_roundw
   case rel=>exact⟨k+1,a',d',by omega,by go_num,rfl,HO⟩
   case measure=>simp[intOf];omega
  ·obtain rfl:k=m:=by omega
   clear hlt
   go_wp2_with fail
   try rw[Exit.noGoto_ret]
   go_ret
   exact⟨a,d,rfl,HK.out.1,HK.out.2⟩
end
end Go.Proofs.YtdighjgcnaajgaaGreat
