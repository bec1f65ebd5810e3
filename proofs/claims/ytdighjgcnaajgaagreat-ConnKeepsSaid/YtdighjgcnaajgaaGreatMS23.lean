import Derived.Test.YtdighjgcnaajgaaGreatMS10
import Derived.Test.YtdighjgcnaajgaaGreatMS17
import Derived.Test.YtdighjgcnaajgaaGreatMS20
import Derived.Test.YtdighjgcnaajgaaGreatMS22
import Derived.Deep.RegionHeldLaw
import Derived.Deep.Cut
namespace Go.Proofs.YtdighjgcnaajgaaGreat
open Go.RowKit
def Tox.v (t:Tox):Value:=.agg #[.string t.s,.int .i64 t.k,.bool t.up,.int .i64 t.o,.int .i64 t.a,.int .i64 t.b]
abbrev ptr (g:Nat):Value:=.pointer (some ⟨g,0,none⟩)
def stC (c:Nat) (s:St):Array Value:=#[ptr c,.string s.tx.s,.int .i64 s.tx.k,.bool s.tx.up,.int .i64 s.tx.o,.int .i64 s.tx.a,.int .i64 s.tx.b,.int .u64 s.d,.int .i64 s.bk.r,.int .i64 s.bk.u,.int .i64 s.bk.l,.int .i64 s.bk.t,.int .i64 s.room,.int .i64 s.passed,.int .i64 s.began,.int .i64 s.clock,.int .i64 s.st,.bool s.closed,.int .i64 s.at',.int .i64 s.pause]
theorem stC_u8 (c:Nat) (s:St) (i:Nat) (x:Int):(stC c s)[i]?≠some (.int .u8 x):=by
 intro h
 have hm:Value.int .u8 x∈(stC c s).toList:=by
  rw[←Array.getElem?_toList]at h
  exact List.mem_of_getElem? h
 unfold stC at hm
 simp at hm
structure Raw (w:World) (base g c:Nat) (u:gc.U) (s:St) (M:Nat):Prop where
 blk:w.heap[g]?=some (.cells (stC c s) 204 (0,0))
 car:gc.Al w base c u s.S s.A s.last M
 base:base≤g
structure Mv (w w':World) (g c:Nat) (u u':gc.U):Prop where
 os:w'.os=w.os
 tape:w'.tape=w.tape
 output:w'.output=w.output
 size:w.heap.size≤w'.heap.size
 block:∀i,i<w.heap.size→i≠g→i≠c→u.1≠some i→u.2≠some i→w'.heap[i]?=w.heap[i]?
 newer:gc.Newer w u u'
variable {w w' w'' w0:World} {base g c M M':Nat} {u u' u'':gc.U} {s s' s'':St}
theorem Mv.refl (w:World) (g c:Nat) (u:gc.U):Mv w w g c u u:=⟨rfl,rfl,rfl,Nat.le_refl _,λ _ _ _ _ _ _=>rfl,gc.newer_refl w u⟩
theorem Mv.trans (h:Mv w w' g c u u') (k:Mv w' w'' g c u' u''):Mv w w'' g c u u'':=by
 have hs:=h.size
 refine⟨k.os.trans h.os,k.tape.trans h.tape,k.output.trans h.output,Nat.le_trans hs k.size,λ i hi hg hc h1 h2=>(k.block i (by omega) hg hc (λ e=>?_) (λ e=>?_)).trans (h.block i hi hg hc h1 h2),gc.newer_trans h.newer hs k.newer⟩
 ·rcases h.newer.1 i e with e|e
  ·exact h1 e
  ·omega
 ·rcases h.newer.2 i e with e|e
  ·exact h2 e
  ·omega
theorem Mv.below (hb:Below w.heap.size w w') (g c:Nat) (u:gc.U):Mv w w' g c u u:=⟨hb.os,hb.tape,hb.output,hb.size,λ i hi _ _ _ _=>hb.block i hi,gc.newer_refl w u⟩
theorem Mv.set (w:World) (g i:Nat) (v:Value) (c:Nat) (u:gc.U):Mv w (w.setCell ⟨g,i,none⟩ v) g c u u:=
 ⟨rfl,rfl,rfl,by simp[World.setCell],λ j _ hg _ _ _=>Below.heap_setCell w ⟨g,i,none⟩ v j hg,gc.newer_refl w u⟩
theorem Raw.cell (h:Raw w base g c u s M) (i:Nat):w.cell? ⟨g,i,none⟩=(stC c s)[i]?:=by
 simp[World.cell?,h.blk]
theorem Raw.frz (h:Raw w base g c u s M) (i:Nat):w.frozen? ⟨g,i,none⟩=false:=by simp[World.frozen?,h.blk]
theorem Raw.lt (h:Raw w base g c u s M):g<w.heap.size:=(Array.getElem?_eq_some_iff.1 h.blk).1
theorem Raw.on (h:Raw w base g c u s M) (hb:Below w.heap.size w w'):Raw w' base g c u s M:=⟨(hb.block _ h.lt).trans h.blk,h.car.on hb,h.base⟩
theorem Raw.drew (h:Raw w base g c u s M):Raw w.drew base g c u s M:=h.on (Below.refl _ w).drew
theorem Raw.apart (h:Raw w base g c u s M):c≠g∧u.1≠some g∧u.2≠some g:=by
 obtain⟨ms,G,hr,_⟩:=h.car
 obtain⟨⟨cs,h0⟩,h1,h2⟩:=hr.typed
 refine⟨λ e=>?_,λ e=>?_,λ e=>?_⟩
 ·rw[e]at h0
  have:=gc.two_types h0 h.blk
  simp at this
 ·obtain⟨_,cs1,h3⟩:=h1 g e
  have:=gc.two_types h3 h.blk
  simp at this
 ·obtain⟨_,cs1,h3⟩:=h2 g e
  have:=gc.two_types h3 h.blk
  simp at this
theorem Raw.set (h:Raw w base g c u s M) {i:Nat} {v:Value} (hS:s'.S=s.S) (hA:s'.A=s.A) (hl:s'.last=s.last) (hc:(stC c s).setIfInBounds i v=stC c s'):Raw (w.setCell ⟨g,i,none⟩ v) base g c u s' M:=by
 obtain⟨a1,a2,a3⟩:=h.apart
 refine⟨?_,?_,h.base⟩
 ·rw[←hc]
  simp[World.setCell,Array.getElem?_modify,h.blk]
 ·rw[hS,hA,hl]
  obtain⟨ms,G,hr,hl'⟩:=h.car
  exact⟨ms,G,hr.keep (Below.heap_setCell _ _ _ _ a1) (λ i e=>Below.heap_setCell _ _ _ _ (λ e'=>a2 (by rw[e];exact congrArg some e'))) (λ i e=>Below.heap_setCell _ _ _ _ (λ e'=>a3 (by rw[e];exact congrArg some e'))),hl'⟩
theorem Raw.as (h:Raw w base g c u s M) (hS:s'.S=s.S) (hA:s'.A=s.A) (hl:s'.last=s.last) (hc:stC c s=stC c s'):Raw w base g c u s' M:=⟨by rw[←hc];exact h.blk,by rw[hS,hA,hl];exact h.car,h.base⟩
theorem Raw.more (h:Raw w base g c u s M) (hM:M≤M') (hf:M'≤1000000):Raw w base g c u s M':=⟨h.blk,h.car.more hM hf,h.base⟩
theorem Raw.put (h:Raw w base g c u s M) {S:ByteArray} {A:List Int} {last:Int} (hp:gc.Put w base c u S A last M' w'):∃u',Raw w' base g c u' {s with S:=S,A:=A,last:=last} M'∧Mv w w' g c u u':=by
 obtain⟨a1,a2,a3⟩:=h.apart
 obtain⟨u',ms,G,hc,hl⟩:=hp
 exact⟨u',⟨(hc.k.block g h.lt (λ e=>a1 e.symm) a2 a3).trans h.blk,⟨ms,G,hc.r,hl⟩,h.base⟩,⟨hc.k.os,hc.k.tape,hc.k.output,hc.k.size,λ i hi _ h1 h2 h3=>hc.k.block i hi h1 h2 h3,hc.n⟩⟩
theorem Raw.putq (h:Raw w base g c u s M) {S:ByteArray} {A:List Int} {last:Int} {q:Option Addr} (hp:gc.PutQ w base c u S A last M' q w'):∃u',Raw w' base g c u' {s with S:=S,A:=A,last:=last} M'∧Mv w w' g c u u'∧gc.Own q c u'∧∀a,q=some a→w.heap.size≤a.block:=by
 obtain⟨a1,a2,a3⟩:=h.apart
 obtain⟨u',ms,G,hc,hl,ho⟩:=hp
 exact⟨u',⟨(hc.k.block g h.lt (λ e=>a1 e.symm) a2 a3).trans h.blk,⟨ms,G,hc.r,hl⟩,h.base⟩,⟨hc.k.os,hc.k.tape,hc.k.output,hc.k.size,λ i hi _ h1 h2 h3=>hc.k.block i hi h1 h2 h3,hc.n⟩,ho⟩
def Did (w:World) (base g c:Nat) (u:gc.U) (s:St) (M:Nat) (w':World):Prop:=∃u',Raw w' base g c u' s M∧Mv w w' g c u u'
structure Og (w w':World) (g:Nat):Prop where
 os:w'.os=w.os
 tape:w'.tape=w.tape
 output:w'.output=w.output
 size:w.heap.size≤w'.heap.size
 block:∀i,i<w.heap.size→i≠g→w'.heap[i]?=w.heap[i]?
theorem Og.refl (w:World) (g:Nat):Og w w g:=⟨rfl,rfl,rfl,Nat.le_refl _,λ _ _ _=>rfl⟩
theorem Og.trans (h:Og w w' g) (k:Og w' w'' g):Og w w'' g:=
 ⟨k.os.trans h.os,k.tape.trans h.tape,k.output.trans h.output,Nat.le_trans h.size k.size,λ i hi hg=>(k.block i (Nat.lt_of_lt_of_le hi h.size) hg).trans (h.block i hi hg)⟩
theorem Og.below (hb:Below w.heap.size w w') (g:Nat):Og w w' g:=⟨hb.os,hb.tape,hb.output,hb.size,λ i hi _=>hb.block i hi⟩
theorem Og.set (w:World) (g i:Nat) (v:Value):Og w (w.setCell ⟨g,i,none⟩ v) g:=
 ⟨rfl,rfl,rfl,by simp[World.setCell],λ j _ hg=>Below.heap_setCell w ⟨g,i,none⟩ v j hg⟩
theorem Og.mv (h:Og w w' g) (c:Nat) (u:gc.U):Mv w w' g c u u:=⟨h.os,h.tape,h.output,h.size,λ i hi hg _ _ _=>h.block i hi hg,gc.newer_refl w u⟩
def Set (w:World) (base g c:Nat) (u:gc.U) (s:St) (M:Nat) (w':World):Prop:=Raw w' base g c u s M∧Og w w' g
theorem Set.did (h:Set w base g c u s M w'):Did w base g c u s M w':=⟨u,h.1,h.2.mv c u⟩
theorem Set.refl (h:Raw w base g c u s M):Set w base g c u s M w:=⟨h,Og.refl _ _⟩
theorem Set.on (h:Set w base g c u s M w') (hb:Below w'.heap.size w' w''):Set w base g c u s M w'':=⟨h.1.on hb,h.2.trans (Og.below hb _)⟩
theorem Set.trans (h:Set w base g c u s M w') (k:Set w' base g c u s' M' w''):Set w base g c u s' M' w'':=⟨k.1,h.2.trans k.2⟩
theorem Set.then (h:Set w base g c u s M w') (k:Did w' base g c u s' M' w''):Did w base g c u s' M' w'':=by
 obtain⟨u',h1,h2⟩:=k
 exact⟨u',h1,(h.2.mv c u).trans h2⟩
theorem Set.set (h:Set w base g c u s M w') {i:Nat} {v:Value} (hS:s'.S=s.S) (hA:s'.A=s.A) (hl:s'.last=s.last) (hc:(stC c s).setIfInBounds i v=stC c s'):Set w base g c u s' M (w'.setCell ⟨g,i,none⟩ v):=⟨h.1.set hS hA hl hc,h.2.trans (Og.set _ _ _ _)⟩
theorem Set.more (h:Set w base g c u s M w') (hM:M≤M') (hf:M'≤1000000):Set w base g c u s M' w':=⟨h.1.more hM hf,h.2⟩
theorem Raw.not_u8 (h:Raw w base g c u s M) {b o:Nat} {x:Int} (hx:w.cell? ⟨b,o,none⟩=some (.int .u8 x)):b≠g:=λ e=>by
 rw[e,h.cell]at hx
 exact stC_u8 _ _ _ _ hx
theorem Raw.bytes (h:Raw w base g c u s M) (ho:Og w w' g) {p:Option Addr} {n:Nat} {xs:List Int} (hi:Lib.BytesIn w p n xs):Lib.BytesIn w' p n xs:=λ hn=>by
 obtain⟨b,o,e,hc⟩:=hi hn
 have h0:=hc 0 (by omega)
 have hg:=h.not_u8 h0
 have hlt:b<w.heap.size:=by
  rcases Nat.lt_or_ge b w.heap.size with hl|hl
  ·exact hl
  ·simp[World.cell?,Array.getElem?_eq_none hl]at h0
 refine⟨b,o,e,λ i hi=>?_⟩
 rw[←hc i hi]
 simp only[World.cell?]
 rw[ho.block b hlt hg]
theorem Did.trans (h:Did w base g c u s M w') (k:∀u',Raw w' base g c u' s M→Did w' base g c u' s' M' w''):Did w base g c u s' M' w'':=by
 obtain⟨u',h1,h2⟩:=h
 obtain⟨u2,h3,h4⟩:=k u' h1
 exact⟨u2,h3,h2.trans h4⟩
structure Ok (s:St) (M:Nat):Prop where
 tx:s.tx=noTox∨s.tx.chk=0
 name:s.tx.s.size≤maxLen
 clock:0≤s.clock∧s.clock≤1099511627776
 passed:0≤s.passed∧s.passed+s.S.size≤M
 room:1≤s.room∧s.room≤4096
 bk:s.tx.k=2→gb.rightB s.bk.r s.bk.u s.bk.l s.bk.t=true
 top:M≤1000000
theorem chk_of {t:Tox} (h:t.chk=0):(1≤t.k∧t.k≤7)∧gx.partsB t.k t.a t.b=true:=by
 unfold Tox.chk gx.checkB at h
 split at h
 ·omega
 ·split at h
  ·omega
  ·split at h
   ·omega
   ·rename_i h1 h2 h3
    refine⟨by omega,?_⟩
    cases hp:gx.partsB t.k t.a t.b with
    |true=>rfl
    |false=>exact absurd (Or.inr (Or.inr hp)) h3
theorem near_is {a:Int} (h:(gx.near a==a)=true):0≤a∧a≤1099511627776:=by
 have h:=eq_of_beq h
 unfold gx.near at h
 (repeat' split at h)<;>omega
theorem Ok.ab (h:Ok s M):(0≤s.tx.a∧s.tx.a≤1099511627776)∧(0≤s.tx.b∧s.tx.b≤1099511627776)∧(0≤s.tx.k∧s.tx.k≤7)∧(s.tx.k=2→1≤s.tx.b∧s.tx.b≤4096)∧(s.tx.k=3→1≤s.tx.a∧s.tx.a≤4096):=by
 rcases h.tx with e|e
 ·rw[e]
  decide
 ·obtain⟨hk,hp⟩:=chk_of e
  unfold gx.partsB at hp
  simp only[Bool.and_eq_true]at hp
  have h1:=near_is hp.1.1
  have h2:=near_is hp.1.2
  refine⟨h1,h2,by omega,λ e2=>?_,λ e3=>?_⟩
  ·have:=hp.2
   rw[if_neg (by omega),if_pos e2]at this
   simpa using this
  ·have:=hp.2
   rw[if_neg (by omega),if_neg (by omega),if_pos e3]at this
   simpa using this
end Go.Proofs.YtdighjgcnaajgaaGreat
namespace Go.Proofs.YtdighjgcnaajgaaGreat
open Go.RowKit
variable {w w' w'' w0:World} {base g c M M':Nat} {u u' u'':gc.U} {s s' s'':St}
theorem near_id {a:Int} (h:0≤a∧a≤1099511627776):gb.near a=a:=by
 unfold gb.near
 (repeat' split)<;>omega
theorem near_rg (a:Int):0≤gb.near a∧gb.near a≤1099511627776:=by
 unfold gb.near
 (repeat' split)<;>omega
theorem tick_max (k now:Int):max k (gb.near (gb.near now+gb.near 0))=tickS k now:=by
 have h0:gb.near 0=0:=by decide
 rw[h0,Int.add_zero,near_id (near_rg now)]
 unfold tickS
 split<;>omega
theorem tick_rg {k now:Int} (h:0≤k∧k≤1099511627776):0≤tickS k now∧tickS k now≤1099511627776:=by
 have:=near_rg now
 unfold tickS
 split<;>omega
def heardS (s:St) (now:Int):St:={s with clock:=tickS s.clock now}
theorem heard_c (s:St) (c:Nat) (now:Int):(stC c s).setIfInBounds 15 (.int .i64 (tickS s.clock now))=stC c (heardS s now):=rfl
set_option maxRecDepth 100000 in
set_option maxHeartbeats 4000000 in
theorem hear_any (h:Raw w base g c u s M) (now:Int):Calls Tryz.prog 158 #[ptr g,.int .i64 now] w λ e w'=>e=.returned (.tuple #[])∧Set w base g c u (heardS s now) M w':=by
 have HA:=Lib.hid (λ W=>gb.add_any now 0 W)
 have hm:=tick_max s.clock now
 have HF:=Lib.hid (((Set.refl h).set (i:=15) (s':=heardS s now) rfl rfl rfl (heard_c s c now)).on (Below.refl _ _).drew)
 have x15:w.cell? ⟨g,15,none⟩=some (.int .i64 s.clock):=h.cell 15
 have e15:w.frozen? ⟨g,15,none⟩=false:=h.frz 15
 clear h
 generalize tickS s.clock now=X at*
 generalize gb.near (gb.near now+gb.near 0)=N at*
 generalize s.clock=k at*
 go_enter Tryz.func158,Tryz.ntmps158
 go_wp2_with fail
 go_region_law
  (first
   |(go_simp;go_at_call 185;(with_reducible refine Calls.mono (HA.out _) ?_);rintro e w4 ⟨rfl,rfl⟩))
 all_goals (
  generalize(w.setCell ⟨g,15,none⟩ (.int .i64 X)).drew=W at*
  go_end0
  exact⟨rfl,HF.out⟩)
set_option maxRecDepth 100000 in
set_option maxHeartbeats 4000000 in
theorem dry_any (h:Raw w base g c u s M) {R:Bool} (hR:decide (s.closed=true∧s.S.size=0∧(s.tx.k≠7∨addT s.at' s.tx.a≤s.clock))=R):Calls Tryz.prog 186 #[ptr g] w λ e w'=>e=.returned (.bool R)∧Below w.heap.size w w':=by
 have hn:gb.near (gb.near s.at'+gb.near s.tx.a)=addT s.at' s.tx.a:=rfl
 have HA:=Lib.hid (λ W=>gb.add_any s.at' s.tx.a W)
 rw[hn]at HA
 have HL:=Lib.hid (gc.len_al h.car)
 have x0:w.cell? ⟨g,0,none⟩=some (.pointer (some ⟨c,0,none⟩)):=h.cell 0
 have x17:w.cell? ⟨g,17,none⟩=some (.bool s.closed):=h.cell 17
 have HC:=Lib.hid (λ W (hb:Below w.heap.size w W)=>(⟨(h.on hb).cell 2,(h.on hb).cell 15,(h.on hb).cell 18,(h.on hb).cell 5⟩:W.cell? ⟨g,2,none⟩=some (.int .i64 s.tx.k)∧W.cell? ⟨g,15,none⟩=some (.int .i64 s.clock)∧W.cell? ⟨g,18,none⟩=some (.int .i64 s.at')∧W.cell? ⟨g,5,none⟩=some (.int .i64 s.tx.a)))
 clear h hn
 have HR:=Lib.hid hR
 clear hR
 generalize addT s.at' s.tx.a=N at*
 generalize s.closed=cl at*
 generalize s.clock=ck at*
 generalize s.at'=at' at*
 generalize s.tx.a=ta at*
 generalize s.tx.k=tk at*
 generalize s.S.size=n at*
 go_enter Tryz.func186,Tryz.ntmps186
 cases cl
 ·go_wp2_with fail
  try rw[Exit.noGoto_ret]
  go_ret
  exact⟨by rw[←HR.out];simp,Below.refl _ _⟩
 ·go_wp2_with fail
  refine HL.out.mono ?_
  rintro e w1 ⟨rfl,hb⟩
  have HB:=Lib.hid hb
  by_cases hS:n=0
  ·subst hS
   obtain⟨y2,y15,y18,y5⟩:=HC.out w1 hb
   clear hb HC x0 x17 HL
   by_cases hk:tk=7
   ·subst hk
    go_wp2_with fail
    go_quiet ((go_at_call 185;exact gc.quiet_left (HA.out _)))
    have HE:=Lib.hid (show Below w.heap.size w (w1.drewN nq)from below_drewN HB.out nq)
    go_wp2_with fail
    try rw[Exit.noGoto_ret]
    go_ret
    exact⟨gb.ret_bool (by rw[←HR.out];simp),HE.out⟩
   ·have hk1:(tk !=7)=true:=by simp[hk]
    have hk2:decide (tk=7)=false:=by simp[hk]
    have HF:=Lib.hid hk
    clear hk
    go_wp2_with fail
    go_quiet (fail)
    have HE:=Lib.hid (show Below w.heap.size w (w1.drewN nq)from below_drewN HB.out nq)
    go_wp2_with fail
    try rw[Exit.noGoto_ret]
    go_ret
    exact⟨gb.ret_bool (by rw[←HR.out];simp[HF.out]),HE.out⟩
  ·have hpos:0<n:=by omega
   clear hb HC x0 x17 HL
   go_wp2_with fail
   try rw[Exit.noGoto_ret]
   go_ret
   exact⟨gb.ret_bool (by rw[←HR.out];simp[hS]),HB.out⟩
end Go.Proofs.YtdighjgcnaajgaaGreat
namespace Go.Proofs.YtdighjgcnaajgaaGreat
open Go.RowKit
variable {w w' w'' w0:World} {base g c M M':Nat} {u u' u'':gc.U} {s s' s'':St}
def foundS (s:St):Int:=
 if s.tx.k=5∧addT s.began s.tx.a≤s.clock then 2
 else if s.tx.k=4 then(if addT s.began s.tx.a≤s.clock then 1 else 0)
 else if s.tx.k=6∧s.tx.a≤s.passed then 1
 else if s.closed=true∧s.S.size=0∧(s.tx.k≠7∨addT s.at' s.tx.a≤s.clock)then 1 else 0
theorem state_found (s:St) (now:Int) (h:s.st=0):stateS s (tickS s.clock now)=foundS (heardS s now):=by
 unfold stateS foundS heardS
 rw[if_neg (by simpa using h)]
set_option maxRecDepth 100000 in
set_option maxHeartbeats 4000000 in
theorem found_any (h:Raw w base g c u s M) {R:Int} (hR:foundS s=R):Calls Tryz.prog 159 #[ptr g] w λ e w'=>e=.returned (.int .i64 R)∧Below w.heap.size w w':=by
 have hn:gb.near (gb.near s.began+gb.near s.tx.a)=addT s.began s.tx.a:=rfl
 have HA:=Lib.hid (λ W=>gb.add_any s.began s.tx.a W)
 rw[hn]at HA
 have HD:=Lib.hid (λ W (hb:Below w.heap.size w W)=>dry_any (h.on hb) rfl)
 have HC:=Lib.hid (λ W (hb:Below w.heap.size w W)=>(⟨(h.on hb).cell 2,(h.on hb).cell 5,(h.on hb).cell 13⟩:W.cell? ⟨g,2,none⟩=some (.int .i64 s.tx.k)∧W.cell? ⟨g,5,none⟩=some (.int .i64 s.tx.a)∧W.cell? ⟨g,13,none⟩=some (.int .i64 s.passed)))
 have x15:w.cell? ⟨g,15,none⟩=some (.int .i64 s.clock):=h.cell 15
 have x14:w.cell? ⟨g,14,none⟩=some (.int .i64 s.began):=h.cell 14
 have x5:w.cell? ⟨g,5,none⟩=some (.int .i64 s.tx.a):=h.cell 5
 clear h hn
 unfold foundS at hR
 obtain⟨D,hD⟩:∃D,decide (s.closed=true∧s.S.size=0∧(s.tx.k≠7∨addT s.at' s.tx.a≤s.clock))=D:=⟨_,rfl⟩
 rw[hD]at HD
 have hR2:(if s.tx.k=5∧addT s.began s.tx.a≤s.clock then(2:Int)else if s.tx.k=4 then(if addT s.began s.tx.a≤s.clock then 1 else 0)else if s.tx.k=6∧s.tx.a≤s.passed then 1 else if D=true then 1 else 0)=R:=by
  rw[←hR,←hD]
  simp only[decide_eq_true_eq]
 clear hR
 obtain⟨o,ho⟩:∃o,decide (addT s.began s.tx.a≤s.clock)=o:=⟨_,rfl⟩
 have hR3:(if s.tx.k=5∧o=true then(2:Int)else if s.tx.k=4 then(if o=true then 1 else 0)else if s.tx.k=6∧s.tx.a≤s.passed then 1 else if D=true then 1 else 0)=R:=by
  rw[←hR2,←ho]
  simp only[decide_eq_true_eq]
 have HR:=Lib.hid hR3
 clear hR2 hR3 hD
 generalize addT s.began s.tx.a=N at*
 generalize s.clock=ck at*
 generalize s.began=bg at*
 generalize s.tx.a=ta at*
 generalize s.tx.k=tk at*
 generalize s.passed=ps at*
 go_enter Tryz.func159,Tryz.ntmps159
 go_wp2_with fail
 go_quiet ((go_at_call 185;exact gc.quiet_left (HA.out _)))
 have hb:Below w.heap.size w (w.drewN nq):=gc.below_drewN w nq
 have HB:=Lib.hid hb
 obtain⟨y2,y5,y13⟩:=HC.out _ hb
 generalize w.drewN nq=w1 at*
 clear hb HC x15 x14 x5 HA ho
 by_cases k5:tk=5
 ·subst k5
  cases o with
  |true=>
   go_wp2_with fail
   try rw[Exit.noGoto_ret]
   go_ret
   exact⟨gb.ret_int (by rw[←HR.out];simp),HB.out⟩
  |false=>
   go_wp2_with fail
   refine(HD.out _ HB.out).mono ?_
   rintro e w2 ⟨rfl,hb⟩
   have HB2:=Lib.hid (gc.seqB HB.out hb)
   clear hb HD y2 y5 y13
   cases D with
   |true=>
    go_wp2_with fail
    try rw[Exit.noGoto_ret]
    go_ret
    exact⟨gb.ret_int (by rw[←HR.out];simp),HB2.out⟩
   |false=>
    go_wp2_with fail
    try rw[Exit.noGoto_ret]
    go_ret
    exact⟨gb.ret_int (by rw[←HR.out];simp),HB2.out⟩
 by_cases k4:tk=4
 ·subst k4
  cases o with
  |true=>
   go_wp2_with fail
   try rw[Exit.noGoto_ret]
   go_ret
   exact⟨gb.ret_int (by rw[←HR.out];simp),HB.out⟩
  |false=>
   go_wp2_with fail
   try rw[Exit.noGoto_ret]
   go_ret
   exact⟨gb.ret_int (by rw[←HR.out];simp),HB.out⟩
 by_cases k6:tk=6
 ·subst k6
  by_cases hp:ta≤ps
  ·go_wp2_with fail
   go_quiet (fail)
   have HB2:=Lib.hid (show Below w.heap.size w (w1.drewN nq)from below_drewN HB.out nq)
   go_wp2_with fail
   try rw[Exit.noGoto_ret]
   go_ret
   exact⟨gb.ret_int (by rw[←HR.out];simp[hp]),HB2.out⟩
  ·have hpd:decide (ta≤ps)=false:=by simpa using hp
   have HP:=Lib.hid hp
   clear hp
   go_wp2_with fail
   go_quiet (fail)
   have HB1:=Lib.hid (show Below w.heap.size w (w1.drewN nq)from below_drewN HB.out nq)
   go_wp2_with fail
   refine(HD.out _ HB1.out).mono ?_
   rintro e w2 ⟨rfl,hb⟩
   have HB2:=Lib.hid (gc.seqB HB1.out hb)
   clear hb HD y2 y5 y13
   cases D with
   |true=>
    go_wp2_with fail
    try rw[Exit.noGoto_ret]
    go_ret
    exact⟨gb.ret_int (by rw[←HR.out];simp),HB2.out⟩
   |false=>
    go_wp2_with fail
    try rw[Exit.noGoto_ret]
    go_ret
    exact⟨gb.ret_int (by rw[←HR.out];simp[HP.out]),HB2.out⟩
 have e5:(tk==5)=false:=by simpa using k5
 have e4:(tk==4)=false:=by simpa using k4
 have e6:(tk==6)=false:=by simpa using k6
 have d5:decide (tk=5)=false:=by simpa using k5
 have d4:decide (tk=4)=false:=by simpa using k4
 have d6:decide (tk=6)=false:=by simpa using k6
 have HK:=Lib.hid (And.intro k5 (And.intro k4 k6))
 clear k5 k4 k6
 go_wp2_with fail
 refine(HD.out _ HB.out).mono ?_
 rintro e w2 ⟨rfl,hb⟩
 have HB2:=Lib.hid (gc.seqB HB.out hb)
 clear hb HD y2 y5 y13
 cases D with
 |true=>
  go_wp2_with fail
  try rw[Exit.noGoto_ret]
  go_ret
  exact⟨gb.ret_int (by rw[←HR.out];simp[HK.out.1,HK.out.2.1,HK.out.2.2]),HB2.out⟩
 |false=>
  go_wp2_with fail
  try rw[Exit.noGoto_ret]
  go_ret
  exact⟨gb.ret_int (by rw[←HR.out];simp[HK.out.1,HK.out.2.1,HK.out.2.2]),HB2.out⟩
theorem look_yes (s:St) (now:Int) (h:s.st=0):lookS s now={heardS s now with st:=foundS (heardS s now)}:=by
 unfold lookS
 rw[state_found s now h]
 rfl
theorem look_no (s:St) (now:Int) (h:s.st≠0):lookS s now=heardS s now:=by
 unfold lookS
 rw[state_of s _ h]
 rfl
set_option maxRecDepth 100000 in
set_option maxHeartbeats 4000000 in
theorem state_1 (h:Raw w base g c u s M) (now:Int) (hs:s.st=0) {F:Int} (hF:foundS (heardS s now)=F):Calls Tryz.prog 123 #[ptr g,.int .i64 now] w λ e w'=>e=.returned (.int .i64 F)∧Set w base g c u {heardS s now with st:=F} M w':=by
 have HH:=Lib.hid (hear_any h now)
 have HS:=Lib.hid hs
 have HF:=Lib.hid hF
 clear h hs hF
 go_enter Tryz.func123,Tryz.ntmps123
 go_wp2_with fail
 refine HH.out.mono ?_
 rintro e w1 ⟨rfl,h1⟩
 have H1:=Lib.hid h1
 have y16:w1.cell? ⟨g,16,none⟩=some (.int .i64 s.st):=h1.1.cell 16
 rw[HS.out]at y16
 clear h1 HH
 go_wp2_with fail
 refine(found_any H1.out.1 HF.out).mono ?_
 rintro e w2 ⟨rfl,hb⟩
 have h2:=H1.out.on hb
 have f16:w2.frozen? ⟨g,16,none⟩=false:=h2.1.frz 16
 have z16:=h2.1.cell 16
 have h3:=h2.set (i:=16) (v:=.int .i64 F) (s':={heardS s now with st:=F}) rfl rfl rfl rfl
 have z2:(w2.setCell ⟨g,16,none⟩ (.int .i64 F)).cell? ⟨g,16,none⟩=some (.int .i64 F):=h3.1.cell 16
 have z16:w2.cell? ⟨g,16,none⟩=some (.int .i64 (heardS s now).st):=z16
 have H3:=Lib.hid h3
 clear hb h2 h3 H1 y16
 go_wp2_with fail
 try rw[Exit.noGoto_ret]
 go_ret
 exact⟨rfl,H3.out⟩
set_option maxRecDepth 100000 in
set_option maxHeartbeats 4000000 in
theorem state_0 (h:Raw w base g c u s M) (now:Int) (hs:s.st≠0):Calls Tryz.prog 123 #[ptr g,.int .i64 now] w λ e w'=>e=.returned (.int .i64 s.st)∧Set w base g c u (heardS s now) M w':=by
 have HH:=Lib.hid (hear_any h now)
 have hd:(s.st==0)=false:=by simpa using hs
 have hd2:decide (s.st=0)=false:=by simpa using hs
 clear h hs
 go_enter Tryz.func123,Tryz.ntmps123
 go_wp2_with fail
 refine HH.out.mono ?_
 rintro e w1 ⟨rfl,h1⟩
 have H1:=Lib.hid h1
 have y16:w1.cell? ⟨g,16,none⟩=some (.int .i64 s.st):=h1.1.cell 16
 clear h1 HH
 go_wp2_with fail
 try rw[Exit.noGoto_ret]
 go_ret
 exact⟨rfl,H1.out⟩
theorem state_any (h:Raw w base g c u s M) (now:Int):Calls Tryz.prog 123 #[ptr g,.int .i64 now] w λ e w'=>e=.returned (.int .i64 (lookS s now).st)∧Set w base g c u (lookS s now) M w':=by
 by_cases hs:s.st=0
 ·rw[look_yes s now hs]
  exact state_1 h now hs rfl
 ·rw[look_no s now hs]
  exact state_0 h now hs
end Go.Proofs.YtdighjgcnaajgaaGreat
namespace Go.Proofs.YtdighjgcnaajgaaGreat
open Go.RowKit
variable {w w' w'' w0:World} {base g c M M':Nat} {u u' u'':gc.U} {s s' s'':St}
theorem wrap_id {a:Int} (h0: -9223372036854775808≤a) (h1:a≤9223372036854775807):IntKind.i64.wrap a=a:=by
 rw[IntKind.wrap_i64]
 omega
theorem len_q (h:Raw w base g c u s M):Calls Tryz.prog 150 #[ptr c] w λ e w'=>e=.returned (.int .i64 (s.S.size:Int))∧w=w':=by
 obtain⟨ms,G,hr,hl⟩:=h.car
 exact(gc.len_raw hr).mono λ _ _ h=>h
set_option maxRecDepth 100000 in
set_option maxHeartbeats 4000000 in
theorem free_any (h:Raw w base g c u s M) (ho:Ok s M) {F:Int} (hF:freeS s=F):Calls Tryz.prog 163 #[ptr g] w λ e w'=>e=.returned (.int .i64 F)∧Below w.heap.size w w':=by
 have HL:=Lib.hid (len_q h.drew)
 have x0:w.cell? ⟨g,0,none⟩=some (.pointer (some ⟨c,0,none⟩)):=h.cell 0
 have x12:w.cell? ⟨g,12,none⟩=some (.int .i64 s.room):=h.cell 12
 have hr:=ho.room
 have hsz:=h.car.size_le
 have hw:IntKind.i64.wrap (s.room -(s.S.size:Int))=s.room -(s.S.size:Int):=wrap_id (by omega) (by omega)
 have hm:max 0 (s.room -(s.S.size:Int))=F:=by
  rw[←hF]
  unfold freeS
  split<;>omega
 have HB:=Lib.hid ((Below.refl w.heap.size w).drew)
 clear h ho hr hsz hF
 go_enter Tryz.func163,Tryz.ntmps163
 go_wp2_with fail
 go_region_law
  (first
   |(go_simp;go_at_call 150;(with_reducible refine Calls.mono HL.out ?_);rintro e w4 ⟨rfl,rfl⟩))
 all_goals (
  go_wp2_with fail
  try rw[Exit.noGoto_ret]
  go_ret
  exact⟨rfl,HB.out⟩)
theorem forced_none {b:ByteArray} (h:b.size=0) (s:St):forceS s b=s:=by
 unfold forceS
 rw[if_pos h]
theorem forced_late {b:ByteArray} (h:b.size≠0) (hk:s.tx.k=1):forceS s b=putS {s with d:=gd.rangeS s.d (s.tx.a -s.tx.b) (s.tx.a+s.tx.b)} (addT s.clock (gd.rangeV s.d (s.tx.a -s.tx.b) (s.tx.a+s.tx.b))) b:=by
 unfold forceS
 rw[if_neg h,if_pos hk]
theorem forced_now {b:ByteArray} (h:b.size≠0) (hk:s.tx.k≠1):forceS s b=putS s s.clock b:=by
 unfold forceS
 rw[if_neg h,if_neg hk]
theorem cput (h:Raw w base g c u s M) (a:Int) {p:Option Addr} {n c':Nat} {b:ByteArray} (hb:b.size=n) (h0:b.size≠0) (hi:Lib.BytesIn w p n (gc.nums b)) (hM:M+b.size≤M') (hf:M'≤1000000):
  Calls Tryz.prog 188 #[ptr c,.int .i64 a,.slice p n c'] w λ e w'=>(∃x,e=.returned (.int .i64 x))∧Did w base g c u (putS s a b) M' w':=by
 refine(gc.put_al h.car a hb hi hM hf).mono ?_
 rintro e w' ⟨rfl,hp⟩
 refine⟨⟨_,rfl⟩,?_⟩
 have he:gc.doC s.S s.A s.last 0 a 0 b=⟨s.S++b,s.A++List.replicate b.size (gc.putT s.last a),gc.putT s.last a,gc.putT s.last a,⟨#[]⟩⟩:=by
  unfold gc.doC
  rw[if_pos rfl,if_neg h0]
 rw[he]at hp
 exact h.put hp
set_option maxRecDepth 100000 in
set_option maxHeartbeats 4000000 in
theorem lay_none (g:Nat) {p:Option Addr} {c':Nat} (w:World):Calls Tryz.prog 160 #[ptr g,.slice p 0 c'] w λ e w'=>e=.returned (.tuple #[])∧w=w':=by
 go_enter Tryz.func160,Tryz.ntmps160
 go_wp2_with fail
 try rw[Exit.noGoto_ret]
 exact bodyPost_ret (v:=.tuple #[]) (by simp[results,Tryz.results160,go_sem]) rfl ⟨rfl,rfl⟩
set_option maxRecDepth 100000 in
set_option maxHeartbeats 4000000 in
theorem lay_now (h:Raw w base g c u s M) (ho:Ok s M) {p:Option Addr} {n c':Nat} {b:ByteArray} (hk:s.tx.k≠1) (hb:b.size=n) (h0:n≠0) (hi:Lib.BytesIn w p n (gc.nums b)) (hM:M+b.size≤M') (hf:M'≤1000000):
  Calls Tryz.prog 160 #[ptr g,.slice p n c'] w λ e w'=>e=.returned (.tuple #[])∧Did w base g c u (putS s s.clock b) M' w':=by
 have HA:=Lib.hid (λ W=>show Calls Tryz.prog 185 #[.int .i64 s.clock,.int .i64 0] W λ e w'=>e=.returned (.int .i64 s.clock)∧W=w' from by
  have h1:=gb.add_any s.clock 0 W
  rw[show gb.near (gb.near s.clock+gb.near 0)=s.clock by
   rw[show gb.near 0=0 by decide,Int.add_zero,near_id (near_rg _),near_id ho.clock]]at h1
  exact h1)
 have HP:=Lib.hid (cput (h.drew) s.clock (c':=c') hb (by omega) (h.bytes (Og.below (Below.refl w.heap.size w).drew g) hi) hM hf)
 have HW:=Lib.hid (λ W=>Set.then (w':=w.drew) (w'':=W) (s':=putS s s.clock b) (M':=M') ((Set.refl h).on (Below.refl w.heap.size w).drew))
 have x0:w.cell? ⟨g,0,none⟩=some (.pointer (some ⟨c,0,none⟩)):=h.cell 0
 have x2:w.cell? ⟨g,2,none⟩=some (.int .i64 s.tx.k):=h.cell 2
 have x15:w.cell? ⟨g,15,none⟩=some (.int .i64 s.clock):=h.cell 15
 have e1:(s.tx.k==1)=false:=by simpa using hk
 have e2:decide (s.tx.k=1)=false:=by simpa using hk
 have hn:(n==0)=false:=by simpa using h0
 have hn2:decide (n=0)=false:=by simpa using h0
 clear h ho hi hM hf hb hk
 generalize s.clock=ck at*
 go_enter Tryz.func160,Tryz.ntmps160
 go_wp2_with fail
 go_region_law
  (first
   |(go_simp;go_at_call 185;(with_reducible refine Calls.mono (HA.out _) ?_);rintro e w4 ⟨rfl,rfl⟩)
   |(go_simp;go_at_call 188;(with_reducible refine Calls.mono HP.out ?_);rintro e w4 ⟨⟨x,rfl⟩,hd⟩))
 all_goals (
  have HD:=Lib.hid (HW.out _ hd)
  clear hd
  go_end0
  exact⟨rfl,HD.out⟩)
end Go.Proofs.YtdighjgcnaajgaaGreat
