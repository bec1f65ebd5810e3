import Derived.Test.YtfdfgnmgpgkknaaGreatMG8
import Derived.Test.YtfdfgnmgpgkknaaGreatMG14
import Derived.Test.YtfdfgnmgpgkknaaGreatMG17
import Derived.Test.YtfdfgnmgpgkknaaGreatMG20
import Derived.Deep.RegionHeldLaw
import Derived.Deep.Cut
set_option maxRecDepth 100000
set_option maxHeartbeats 4000000
open Nat renaming le_trans→zt,le_refl→zg,lt_of_lt_of_le→zy
open Go.RowKit.Below renaming heap_setCell→zn,refl→zh
open Go.Proofs.Tryz renaming prog→zf
open Go.Lib renaming hid→zd
open Go.Calls renaming mono→zr
open Go.Exit renaming noGoto_ret→zl
open Go renaming bodyPost_ret→zk
open Go.Proofs.Tryz
namespace Go.Proofs.YtfdfgnmgpgkknaaGreat
section
open Go.RowKit
def Tox.v (t:Tox):Value:=.agg #[.string t.s,.int .i64 t.k,.bool t.up,.int .i64 t.o,.int .i64 t.a,.int .i64 t.b]
abbrev ptr (g:Nat):Value:=.pointer (some ⟨g,0,none⟩)
def stC (c:Nat) (s:St):Array Value:=#[ptr c,.string s.tx.s,.int .i64 s.tx.k,.bool s.tx.up,.int .i64 s.tx.o,.int .i64 s.tx.a,.int .i64 s.tx.b,.int .u64 s.d,.int .i64 s.bk.r,.int .i64 s.bk.u,.int .i64 s.bk.l,.int .i64 s.bk.t,.int .i64 s.room,.int .i64 s.passed,.int .i64 s.began,.int .i64 s.clock,.int .i64 s.st,.bool s.closed,.int .i64 s.at',.int .i64 s.pause]
theorem D1 (c:Nat) (s:St) (i:Nat) (x:Int):(stC c s)[i]?≠some (.int .u8 x):=by
 intro h
 have hm:Value.int .u8 x∈(stC c s).toList:=by
  rw[←Array.getElem?_toList]at h
  exact List.mem_of_getElem? h
 unfold stC at hm
 simp at hm
structure Raw (w:World) (base g c:Nat) (u:gc.U) (s:St) (M:Nat):Prop where
 blk:w.heap[g]?=some (.cells (stC c s) 113 (0,0))
 car:gc.Al w base c u s.S s.A s.last M
 base:base≤g
structure Mv (w w':World) (g c:Nat) (u u':gc.U):Prop where
 os:w'.os=w.os
 tape:w'.tape=w.tape
 output:w'.output=w.output
 size:w.heap.size≤w'.heap.size
 block:∀i,i<w.heap.size→i≠g→i≠c→u.1≠some i→u.2≠some i→w'.heap[i]?=w.heap[i]?
 newer:gc.jB w u u'
variable {w w' w'' w0:World} {base g c M M':Nat} {u u' u'':gc.U} {s s' s'':St}
theorem Mv.trans (h:Mv w w' g c u u') (k:Mv w' w'' g c u' u''):Mv w w'' g c u u'':=by
 have hs:=h.size
 refine⟨k.os.trans h.os,k.tape.trans h.tape,k.output.trans h.output,zt hs k.size,λ i hi hg hc h1 h2=>(k.block i (by omega) hg hc (λ e=>?_) (λ e=>?_)).trans (h.block i hi hg hc h1 h2),gc.Vr h.newer hs k.newer⟩
 ·rcases h.newer.1 i e with e|e
  ·exact h1 e
  ·omega
 ·rcases h.newer.2 i e with e|e
  ·exact h2 e
  ·omega
theorem Mv.set (w:World) (g i:Nat) (v:Value) (c:Nat) (u:gc.U):Mv w (w.setCell ⟨g,i,none⟩ v) g c u u:=
 ⟨rfl,rfl,rfl,by simp[World.setCell],λ j _ hg _ _ _=>zn w ⟨g,i,none⟩ v j hg,gc.Xu w u⟩
theorem Raw.cell (h:Raw w base g c u s M) (i:Nat):w.cell? ⟨g,i,none⟩=(stC c s)[i]?:=by
 simp[World.cell?,h.blk]
theorem Raw.frz (h:Raw w base g c u s M) (i:Nat):w.frozen? ⟨g,i,none⟩=false:=by simp[World.frozen?,h.blk]
theorem Raw.lt (h:Raw w base g c u s M):g<w.heap.size:=(Array.getElem?_eq_some_iff.1 h.blk).1
theorem Raw.on (h:Raw w base g c u s M) (hb:Below w.heap.size w w'):Raw w' base g c u s M:=⟨(hb.block _ h.lt).trans h.blk,h.car.on hb,h.base⟩
theorem Raw.drew (h:Raw w base g c u s M):Raw w.drew base g c u s M:=h.on (zh _ w).drew
theorem Raw.apart (h:Raw w base g c u s M):c≠g∧u.1≠some g∧u.2≠some g:=by
 obtain⟨ms,G,hr,_⟩:=h.car
 obtain⟨⟨cs,h0⟩,h1,h2⟩:=hr.typed
 refine⟨λ e=>?_,λ e=>?_,λ e=>?_⟩
 ·rw[e]at h0
  have:=gc.Zo h0 h.blk
  simp at this
 ·obtain⟨_,cs1,h3⟩:=h1 g e
  have:=gc.Zo h3 h.blk
  simp at this
 ·obtain⟨_,cs1,h3⟩:=h2 g e
  have:=gc.Zo h3 h.blk
  simp at this
theorem Raw.set (h:Raw w base g c u s M) {i:Nat} {v:Value} (hS:s'.S=s.S) (hA:s'.A=s.A) (hl:s'.last=s.last) (hc:(stC c s).setIfInBounds i v=stC c s'):Raw (w.setCell ⟨g,i,none⟩ v) base g c u s' M:=by
 obtain⟨a1,a2,a3⟩:=h.apart
 refine⟨?_,?_,h.base⟩
 ·rw[←hc]
  simp[World.setCell,Array.getElem?_modify,h.blk]
 ·rw[hS,hA,hl]
  obtain⟨ms,G,hr,hl'⟩:=h.car
  exact⟨ms,G,hr.keep (zn _ _ _ _ a1) (λ i e=>zn _ _ _ _ (λ e'=>a2 (by rw[e];exact congrArg some e'))) (λ i e=>zn _ _ _ _ (λ e'=>a3 (by rw[e];exact congrArg some e'))),hl'⟩
theorem Raw.as (h:Raw w base g c u s M) (hS:s'.S=s.S) (hA:s'.A=s.A) (hl:s'.last=s.last) (hc:stC c s=stC c s'):Raw w base g c u s' M:=⟨by rw[←hc];exact h.blk,by rw[hS,hA,hl];exact h.car,h.base⟩
theorem Raw.more (h:Raw w base g c u s M) (hM:M≤M') (hf:M'≤1000000):Raw w base g c u s M':=⟨h.blk,h.car.more hM hf,h.base⟩
theorem Raw.put (h:Raw w base g c u s M) {S:ByteArray} {A:List Int} {last:Int} (hp:gc.Put w base c u S A last M' w'):∃u',Raw w' base g c u' {s with S:=S,A:=A,last:=last} M'∧Mv w w' g c u u':=by
 obtain⟨a1,a2,a3⟩:=h.apart
 obtain⟨u',ms,G,hc,hl⟩:=hp
 exact⟨u',⟨(hc.k.block g h.lt (λ e=>a1 e.symm) a2 a3).trans h.blk,⟨ms,G,hc.r,hl⟩,h.base⟩,⟨hc.k.os,hc.k.tape,hc.k.output,hc.k.size,λ i hi _ h1 h2 h3=>hc.k.block i hi h1 h2 h3,hc.n⟩⟩
theorem Raw.Ac (h:Raw w base g c u s M) {S:ByteArray} {A:List Int} {last:Int} {q:Option Addr} (hp:gc.AH w base c u S A last M' q w'):∃u',Raw w' base g c u' {s with S:=S,A:=A,last:=last} M'∧Mv w w' g c u u'∧gc.Own q c u':=by
 obtain⟨a1,a2,a3⟩:=h.apart
 obtain⟨u',ms,G,hc,hl,ho⟩:=hp
 exact⟨u',⟨(hc.k.block g h.lt (λ e=>a1 e.symm) a2 a3).trans h.blk,⟨ms,G,hc.r,hl⟩,h.base⟩,⟨hc.k.os,hc.k.tape,hc.k.output,hc.k.size,λ i hi _ h1 h2 h3=>hc.k.block i hi h1 h2 h3,hc.n⟩,ho⟩
def Did (w:World) (base g c:Nat) (u:gc.U) (s:St) (M:Nat) (w':World):Prop:=∃u',Raw w' base g c u' s M∧Mv w w' g c u u'
structure Og (w w':World) (g:Nat):Prop where
 os:w'.os=w.os
 tape:w'.tape=w.tape
 output:w'.output=w.output
 size:w.heap.size≤w'.heap.size
 block:∀i,i<w.heap.size→i≠g→w'.heap[i]?=w.heap[i]?
theorem Og.refl (w:World) (g:Nat):Og w w g:=⟨rfl,rfl,rfl,zg _,λ _ _ _=>rfl⟩
theorem Og.trans (h:Og w w' g) (k:Og w' w'' g):Og w w'' g:=
 ⟨k.os.trans h.os,k.tape.trans h.tape,k.output.trans h.output,zt h.size k.size,λ i hi hg=>(k.block i (zy hi h.size) hg).trans (h.block i hi hg)⟩
theorem Og.below (hb:Below w.heap.size w w') (g:Nat):Og w w' g:=⟨hb.os,hb.tape,hb.output,hb.size,λ i hi _=>hb.block i hi⟩
theorem Og.set (w:World) (g i:Nat) (v:Value):Og w (w.setCell ⟨g,i,none⟩ v) g:=
 ⟨rfl,rfl,rfl,by simp[World.setCell],λ j _ hg=>zn w ⟨g,i,none⟩ v j hg⟩
theorem Og.mv (h:Og w w' g) (c:Nat) (u:gc.U):Mv w w' g c u u:=⟨h.os,h.tape,h.output,h.size,λ i hi hg _ _ _=>h.block i hi hg,gc.Xu w u⟩
def Set (w:World) (base g c:Nat) (u:gc.U) (s:St) (M:Nat) (w':World):Prop:=Raw w' base g c u s M∧Og w w' g
theorem Set.did (h:Set w base g c u s M w'):Did w base g c u s M w':=⟨u,h.1,h.2.mv c u⟩
theorem Set.refl (h:Raw w base g c u s M):Set w base g c u s M w:=⟨h,Og.refl _ _⟩
theorem Set.on (h:Set w base g c u s M w') (hb:Below w'.heap.size w' w''):Set w base g c u s M w'':=⟨h.1.on hb,h.2.trans (Og.below hb _)⟩
theorem Set.trans (h:Set w base g c u s M w') (k:Set w' base g c u s' M' w''):Set w base g c u s' M' w'':=⟨k.1,h.2.trans k.2⟩
theorem Set.then (h:Set w base g c u s M w') (k:Did w' base g c u s' M' w''):Did w base g c u s' M' w'':=by
 obtain⟨u',h1,h2⟩:=k
 exact⟨u',h1,(h.2.mv c u).trans h2⟩
theorem Set.set (h:Set w base g c u s M w') {i:Nat} {v:Value} (hS:s'.S=s.S) (hA:s'.A=s.A) (hl:s'.last=s.last) (hc:(stC c s).setIfInBounds i v=stC c s'):Set w base g c u s' M (w'.setCell ⟨g,i,none⟩ v):=⟨h.1.set hS hA hl hc,h.2.trans (Og.set _ _ _ _)⟩
theorem Set.more (h:Set w base g c u s M w') (hM:M≤M') (hf:M'≤1000000):Set w base g c u s M' w':=⟨h.1.more hM hf,h.2⟩
theorem Raw.O5 (h:Raw w base g c u s M) {b o:Nat} {x:Int} (hx:w.cell? ⟨b,o,none⟩=some (.int .u8 x)):b≠g:=λ e=>by
 rw[e,h.cell]at hx
 exact D1 _ _ _ _ hx
theorem Raw.bytes (h:Raw w base g c u s M) (ho:Og w w' g) {p:Option Addr} {n:Nat} {xs:List Int} (hi:Lib.BytesIn w p n xs):Lib.BytesIn w' p n xs:=λ hn=>by
 obtain⟨b,o,e,hc⟩:=hi hn
 have h0:=hc 0 (by omega)
 have hg:=h.O5 h0
 have hlt:b<w.heap.size:=by
  rcases Nat.lt_or_ge b w.heap.size with hl|hl
  ·exact hl
  ·simp[World.cell?,Array.getElem?_eq_none hl]at h0
 refine⟨b,o,e,λ i hi=>?_⟩
 rw[←hc i hi]
 simp only[World.cell?]
 rw[ho.block b hlt hg]
theorem Did.trans (h:Did w base g c u s M w') (k:∀u',Raw w' base g c u' s M→Did w' base g c u' s' M' w''):Did w base g c u s' M' w'':=by
 obtain⟨u',h1,h2⟩:=h
 obtain⟨u2,h3,h4⟩:=k u' h1
 exact⟨u2,h3,h2.trans h4⟩
structure Ok (s:St) (M:Nat):Prop where
 tx:s.tx=qi∨s.tx.chk=0
 name:s.tx.s.size≤maxLen
 clock:0≤s.clock∧s.clock≤1099511627776
 passed:0≤s.passed∧s.passed+s.S.size≤M
 room:1≤s.room∧s.room≤4096
 bk:s.tx.k=2→gb.qI s.bk.r s.bk.u s.bk.l s.bk.t=true
 top:M≤1000000
theorem Ti {t:Tox} (h:t.chk=0):(1≤t.k∧t.k≤7)∧gx.Zv t.k t.a t.b=true:=by
 unfold Tox.chk gx.Ye at h
 split at h
 ·omega
 ·split at h
  ·omega
  ·split at h
   ·omega
   ·rename_i h1 h2 h3
    refine⟨by omega,?_⟩
    cases hp:gx.Zv t.k t.a t.b with
    |true=>rfl
    |false=>exact absurd (Or.inr (Or.inr hp)) h3
theorem VJ {a:Int} (h:(gx.qe a==a)=true):0≤a∧a≤1099511627776:=by
 have h:=eq_of_beq h
 unfold gx.qe at h
 (repeat' split at h)<;>omega
theorem Ok.ab (h:Ok s M):(0≤s.tx.a∧s.tx.a≤1099511627776)∧(0≤s.tx.b∧s.tx.b≤1099511627776)∧(0≤s.tx.k∧s.tx.k≤7)∧(s.tx.k=2→1≤s.tx.b∧s.tx.b≤4096)∧(s.tx.k=3→1≤s.tx.a∧s.tx.a≤4096):=by
 rcases h.tx with e|e
 ·rw[e]
  decide
 ·obtain⟨hk,hp⟩:=Ti e
  unfold gx.Zv at hp
  simp only[Bool.and_eq_true]at hp
  have h1:=VJ hp.1.1
  have h2:=VJ hp.1.2
  refine⟨h1,h2,by omega,λ e2=>?_,λ e3=>?_⟩
  ·have:=hp.2
   rw[if_neg (by omega),if_pos e2]at this
   simpa using this
  ·have:=hp.2
   rw[if_neg (by omega),if_neg (by omega),if_pos e3]at this
   simpa using this
end
section
open Go.RowKit
variable {w w' w'' w0:World} {base g c M M':Nat} {u u' u'':gc.U} {s s' s'':St}
theorem KY {a:Int} (h:0≤a∧a≤1099511627776):gb.qe a=a:=by
 unfold gb.qe
 (repeat' split)<;>omega
theorem VI (a:Int):0≤gb.qe a∧gb.qe a≤1099511627776:=by
 unfold gb.qe
 (repeat' split)<;>omega
theorem LU (k now:Int):max k (gb.qe (gb.qe now+gb.qe 0))=qM k now:=by
 have h0:gb.qe 0=0:=by decide
 rw[h0,Int.add_zero,KY (VI now)]
 unfold qM
 split<;>omega
theorem VB {k now:Int} (h:0≤k∧k≤1099511627776):0≤qM k now∧qM k now≤1099511627776:=by
 have:=VI now
 unfold qM
 split<;>omega
def qL (s:St) (now:Int):St:={s with clock:=qM s.clock now}
theorem EX (s:St) (c:Nat) (now:Int):(stC c s).setIfInBounds 15 (.int .i64 (qM s.clock now))=stC c (qL s now):=rfl
theorem YR (h:Raw w base g c u s M) (now:Int):Calls zf 73 #[ptr g,.int .i64 now] w λ e w'=>e=.returned (.tuple #[])∧Set w base g c u (qL s now) M w':=by
 have HA:=zd (λ W=>gb.Yv now 0 W)
 have hm:=LU s.clock now
 have HF:=zd (((Set.refl h).set (i:=15) (s':=qL s now) rfl rfl rfl (EX s c now)).on (zh _ _).drew)
 have x15:w.cell? ⟨g,15,none⟩=some (.int .i64 s.clock):=h.cell 15
 have e15:w.frozen? ⟨g,15,none⟩=false:=h.frz 15
 clear h
 generalize qM s.clock now=X at*
 generalize gb.qe (gb.qe now+gb.qe 0)=N at*
 generalize s.clock=k at*
 go_enter func73,ntmps73
 go_wp2_with fail
 go_region_law
  (first
   |(go_simp;go_at_call 97;(with_reducible refine zr (HA.out _) ?_);rintro e w4 ⟨rfl,rfl⟩))
 all_goals (
  generalize(w.setCell ⟨g,15,none⟩ (.int .i64 X)).drew=W at*
  go_end0
  exact⟨rfl,HF.out⟩)
theorem E3 (h:Raw w base g c u s M) {R:Bool} (hR:decide (s.closed=true∧s.S.size=0∧(s.tx.k≠7∨XC s.at' s.tx.a≤s.clock))=R):Calls zf 100 #[ptr g] w λ e w'=>e=.returned (.bool R)∧Below w.heap.size w w':=by
 have hn:gb.qe (gb.qe s.at'+gb.qe s.tx.a)=XC s.at' s.tx.a:=rfl
 have HA:=zd (λ W=>gb.Yv s.at' s.tx.a W)
 rw[hn]at HA
 have HL:=zd (gc.Bx h.car)
 have x0:w.cell? ⟨g,0,none⟩=some (.pointer (some ⟨c,0,none⟩)):=h.cell 0
 have x17:w.cell? ⟨g,17,none⟩=some (.bool s.closed):=h.cell 17
 have HC:=zd (λ W (hb:Below w.heap.size w W)=>(⟨(h.on hb).cell 2,(h.on hb).cell 15,(h.on hb).cell 18,(h.on hb).cell 5⟩:W.cell? ⟨g,2,none⟩=some (.int .i64 s.tx.k)∧W.cell? ⟨g,15,none⟩=some (.int .i64 s.clock)∧W.cell? ⟨g,18,none⟩=some (.int .i64 s.at')∧W.cell? ⟨g,5,none⟩=some (.int .i64 s.tx.a)))
 clear h hn
 have HR:=zd hR
 clear hR
 generalize XC s.at' s.tx.a=N at*
 generalize s.closed=cl at*
 generalize s.clock=ck at*
 generalize s.at'=at' at*
 generalize s.tx.a=ta at*
 generalize s.tx.k=tk at*
 generalize s.S.size=n at*
 go_enter func100,ntmps100
 cases cl
 ·go_wp2_with fail
  try rw[zl]
  go_ret
  exact⟨by rw[←HR.out];simp,zh _ _⟩
 ·go_wp2_with fail
  refine HL.out.mono ?_
  rintro e w1 ⟨rfl,hb⟩
  have HB:=zd hb
  by_cases hS:n=0
  ·subst hS
   obtain⟨y2,y15,y18,y5⟩:=HC.out w1 hb
   clear hb HC x0 x17 HL
   by_cases hk:tk=7
   ·subst hk
    go_wp2_with fail
    go_quiet ((go_at_call 97;exact gc.XL (HA.out _)))
    have HE:=zd (show Below w.heap.size w (w1.drewN nq)from below_drewN HB.out nq)
    go_wp2_with fail
    try rw[zl]
    go_ret
    exact⟨gb.qp (by rw[←HR.out];simp),HE.out⟩
   ·have hk1:(tk !=7)=true:=by simp[hk]
    have hk2:decide (tk=7)=false:=by simp[hk]
    have HF:=zd hk
    clear hk
    go_wp2_with fail
    go_quiet (fail)
    have HE:=zd (show Below w.heap.size w (w1.drewN nq)from below_drewN HB.out nq)
    go_wp2_with fail
    try rw[zl]
    go_ret
    exact⟨gb.qp (by rw[←HR.out];simp[HF.out]),HE.out⟩
  ·have hpos:0<n:=by omega
   clear hb HC x0 x17 HL
   go_wp2_with fail
   try rw[zl]
   go_ret
   exact⟨gb.qp (by rw[←HR.out];simp[hS]),HB.out⟩
end
section
open Go.RowKit
variable {w w' w'' w0:World} {base g c M M':Nat} {u u' u'':gc.U} {s s' s'':St}
def qP (s:St):Int:=
 if s.tx.k=5∧XC s.began s.tx.a≤s.clock then 2
 else if s.tx.k=4 then(if XC s.began s.tx.a≤s.clock then 1 else 0)
 else if s.tx.k=6∧s.tx.a≤s.passed then 1
 else if s.closed=true∧s.S.size=0∧(s.tx.k≠7∨XC s.at' s.tx.a≤s.clock)then 1 else 0
theorem TG (s:St) (now:Int) (h:s.st=0):XA s (qM s.clock now)=qP (qL s now):=by
 unfold XA qP qL
 rw[if_neg (by simpa using h)]
theorem Lp (h:Raw w base g c u s M) {R:Int} (hR:qP s=R):Calls zf 74 #[ptr g] w λ e w'=>e=.returned (.int .i64 R)∧Below w.heap.size w w':=by
 have hn:gb.qe (gb.qe s.began+gb.qe s.tx.a)=XC s.began s.tx.a:=rfl
 have HA:=zd (λ W=>gb.Yv s.began s.tx.a W)
 rw[hn]at HA
 have HD:=zd (λ W (hb:Below w.heap.size w W)=>E3 (h.on hb) rfl)
 have HC:=zd (λ W (hb:Below w.heap.size w W)=>(⟨(h.on hb).cell 2,(h.on hb).cell 5,(h.on hb).cell 13⟩:W.cell? ⟨g,2,none⟩=some (.int .i64 s.tx.k)∧W.cell? ⟨g,5,none⟩=some (.int .i64 s.tx.a)∧W.cell? ⟨g,13,none⟩=some (.int .i64 s.passed)))
 have x15:w.cell? ⟨g,15,none⟩=some (.int .i64 s.clock):=h.cell 15
 have x14:w.cell? ⟨g,14,none⟩=some (.int .i64 s.began):=h.cell 14
 have x5:w.cell? ⟨g,5,none⟩=some (.int .i64 s.tx.a):=h.cell 5
 clear h hn
 unfold qP at hR
 obtain⟨D,hD⟩:∃D,decide (s.closed=true∧s.S.size=0∧(s.tx.k≠7∨XC s.at' s.tx.a≤s.clock))=D:=⟨_,rfl⟩
 rw[hD]at HD
 have hR2:(if s.tx.k=5∧XC s.began s.tx.a≤s.clock then(2:Int)else if s.tx.k=4 then(if XC s.began s.tx.a≤s.clock then 1 else 0)else if s.tx.k=6∧s.tx.a≤s.passed then 1 else if D=true then 1 else 0)=R:=by
  rw[←hR,←hD]
  simp only[decide_eq_true_eq]
 clear hR
 obtain⟨o,ho⟩:∃o,decide (XC s.began s.tx.a≤s.clock)=o:=⟨_,rfl⟩
 have hR3:(if s.tx.k=5∧o=true then(2:Int)else if s.tx.k=4 then(if o=true then 1 else 0)else if s.tx.k=6∧s.tx.a≤s.passed then 1 else if D=true then 1 else 0)=R:=by
  rw[←hR2,←ho]
  simp only[decide_eq_true_eq]
 have HR:=zd hR3
 clear hR2 hR3 hD
 generalize XC s.began s.tx.a=N at*
 generalize s.clock=ck at*
 generalize s.began=bg at*
 generalize s.tx.a=ta at*
 generalize s.tx.k=tk at*
 generalize s.passed=ps at*
 go_enter func74,ntmps74
 go_wp2_with fail
 go_quiet ((go_at_call 97;exact gc.XL (HA.out _)))
 have hb:Below w.heap.size w (w.drewN nq):=gc.below_drewN w nq
 have HB:=zd hb
 obtain⟨y2,y5,y13⟩:=HC.out _ hb
 generalize w.drewN nq=w1 at*
 clear hb HC x15 x14 x5 HA ho
 by_cases k5:tk=5
 ·subst k5
  cases o with
  |true=>
   go_wp2_with fail
   try rw[zl]
   go_ret
   exact⟨gb.qR (by rw[←HR.out];simp),HB.out⟩
  |false=>
   go_wp2_with fail
   refine(HD.out _ HB.out).mono ?_
   rintro e w2 ⟨rfl,hb⟩
   have HB2:=zd (gc.seqB HB.out hb)
   clear hb HD y2 y5 y13
   cases D with
   |true=>
    go_wp2_with fail
    try rw[zl]
    go_ret
    exact⟨gb.qR (by rw[←HR.out];simp),HB2.out⟩
   |false=>
    go_wp2_with fail
    try rw[zl]
    go_ret
    exact⟨gb.qR (by rw[←HR.out];simp),HB2.out⟩
 by_cases k4:tk=4
 ·subst k4
  cases o with
  |true=>
   go_wp2_with fail
   try rw[zl]
   go_ret
   exact⟨gb.qR (by rw[←HR.out];simp),HB.out⟩
  |false=>
   go_wp2_with fail
   try rw[zl]
   go_ret
   exact⟨gb.qR (by rw[←HR.out];simp),HB.out⟩
 by_cases k6:tk=6
 ·subst k6
  by_cases hp:ta≤ps
  ·go_wp2_with fail
   go_quiet (fail)
   have HB2:=zd (show Below w.heap.size w (w1.drewN nq)from below_drewN HB.out nq)
   go_wp2_with fail
   try rw[zl]
   go_ret
   exact⟨gb.qR (by rw[←HR.out];simp[hp]),HB2.out⟩
  ·have hpd:decide (ta≤ps)=false:=by simpa using hp
   have HP:=zd hp
   clear hp
   go_wp2_with fail
   go_quiet (fail)
   have HB1:=zd (show Below w.heap.size w (w1.drewN nq)from below_drewN HB.out nq)
   go_wp2_with fail
   refine(HD.out _ HB1.out).mono ?_
   rintro e w2 ⟨rfl,hb⟩
   have HB2:=zd (gc.seqB HB1.out hb)
   clear hb HD y2 y5 y13
   cases D with
   |true=>
    go_wp2_with fail
    try rw[zl]
    go_ret
    exact⟨gb.qR (by rw[←HR.out];simp),HB2.out⟩
   |false=>
    go_wp2_with fail
    try rw[zl]
    go_ret
    exact⟨gb.qR (by rw[←HR.out];simp[HP.out]),HB2.out⟩
 have e5:(tk==5)=false:=by simpa using k5
 have e4:(tk==4)=false:=by simpa using k4
 have e6:(tk==6)=false:=by simpa using k6
 have d5:decide (tk=5)=false:=by simpa using k5
 have d4:decide (tk=4)=false:=by simpa using k4
 have d6:decide (tk=6)=false:=by simpa using k6
 have HK:=zd (And.intro k5 (And.intro k4 k6))
 clear k5 k4 k6
 go_wp2_with fail
 refine(HD.out _ HB.out).mono ?_
 rintro e w2 ⟨rfl,hb⟩
 have HB2:=zd (gc.seqB HB.out hb)
 clear hb HD y2 y5 y13
 cases D with
 |true=>
  go_wp2_with fail
  try rw[zl]
  go_ret
  exact⟨gb.qR (by rw[←HR.out];simp[HK.out.1,HK.out.2.1,HK.out.2.2]),HB2.out⟩
 |false=>
  go_wp2_with fail
  try rw[zl]
  go_ret
  exact⟨gb.qR (by rw[←HR.out];simp[HK.out.1,HK.out.2.1,HK.out.2.2]),HB2.out⟩
theorem jb (s:St) (now:Int) (h:s.st=0):qc s now={qL s now with st:=qP (qL s now)}:=by
 unfold qc
 rw[TG s now h]
 rfl
theorem ND (s:St) (now:Int) (h:s.st≠0):qc s now=qL s now:=by
 unfold qc
 rw[QU s _ h]
 rfl
theorem F1 (h:Raw w base g c u s M) (now:Int) (hs:s.st=0) {F:Int} (hF:qP (qL s now)=F):Calls zf 45 #[ptr g,.int .i64 now] w λ e w'=>e=.returned (.int .i64 F)∧Set w base g c u {qL s now with st:=F} M w':=by
 have HH:=zd (YR h now)
 have HS:=zd hs
 have HF:=zd hF
 clear h hs hF
 go_enter func45,ntmps45
 go_wp2_with fail
 refine HH.out.mono ?_
 rintro e w1 ⟨rfl,h1⟩
 have H1:=zd h1
 have y16:w1.cell? ⟨g,16,none⟩=some (.int .i64 s.st):=h1.1.cell 16
 rw[HS.out]at y16
 clear h1 HH
 go_wp2_with fail
 refine(Lp H1.out.1 HF.out).mono ?_
 rintro e w2 ⟨rfl,hb⟩
 have h2:=H1.out.on hb
 have f16:w2.frozen? ⟨g,16,none⟩=false:=h2.1.frz 16
 have z16:=h2.1.cell 16
 have h3:=h2.set (i:=16) (v:=.int .i64 F) (s':={qL s now with st:=F}) rfl rfl rfl rfl
 have z2:(w2.setCell ⟨g,16,none⟩ (.int .i64 F)).cell? ⟨g,16,none⟩=some (.int .i64 F):=h3.1.cell 16
 have z16:w2.cell? ⟨g,16,none⟩=some (.int .i64 (qL s now).st):=z16
 have H3:=zd h3
 clear hb h2 h3 H1 y16
 go_wp2_with fail
 try rw[zl]
 go_ret
 exact⟨rfl,H3.out⟩
theorem F2 (h:Raw w base g c u s M) (now:Int) (hs:s.st≠0):Calls zf 45 #[ptr g,.int .i64 now] w λ e w'=>e=.returned (.int .i64 s.st)∧Set w base g c u (qL s now) M w':=by
 have HH:=zd (YR h now)
 have hd:(s.st==0)=false:=by simpa using hs
 have hd2:decide (s.st=0)=false:=by simpa using hs
 clear h hs
 go_enter func45,ntmps45
 go_wp2_with fail
 refine HH.out.mono ?_
 rintro e w1 ⟨rfl,h1⟩
 have H1:=zd h1
 have y16:w1.cell? ⟨g,16,none⟩=some (.int .i64 s.st):=h1.1.cell 16
 clear h1 HH
 go_wp2_with fail
 try rw[zl]
 go_ret
 exact⟨rfl,H1.out⟩
theorem ZE (h:Raw w base g c u s M) (now:Int):Calls zf 45 #[ptr g,.int .i64 now] w λ e w'=>e=.returned (.int .i64 (qc s now).st)∧Set w base g c u (qc s now) M w':=by
 by_cases hs:s.st=0
 ·rw[jb s now hs]
  exact F1 h now hs rfl
 ·rw[ND s now hs]
  exact F2 h now hs
end
section
open Go.RowKit
variable {w w' w'' w0:World} {base g c M M':Nat} {u u' u'':gc.U} {s s' s'':St}
theorem qs {a:Int} (h0: -9223372036854775808≤a) (h1:a≤9223372036854775807):IntKind.i64.wrap a=a:=by
 rw[IntKind.wrap_i64]
 omega
theorem DB (h:Raw w base g c u s M):Calls zf 78 #[ptr c] w λ e w'=>e=.returned (.int .i64 (s.S.size:Int))∧w=w':=by
 obtain⟨ms,G,hr,hl⟩:=h.car
 exact(gc.K8 hr).mono λ _ _ h=>h
theorem MA (h:Raw w base g c u s M) (ho:Ok s M) {F:Int} (hF:Zt s=F):Calls zf 67 #[ptr g] w λ e w'=>e=.returned (.int .i64 F)∧Below w.heap.size w w':=by
 have HL:=zd (DB h.drew)
 have x0:w.cell? ⟨g,0,none⟩=some (.pointer (some ⟨c,0,none⟩)):=h.cell 0
 have x12:w.cell? ⟨g,12,none⟩=some (.int .i64 s.room):=h.cell 12
 have hr:=ho.room
 have hsz:=h.car.size_le
 have hw:IntKind.i64.wrap (s.room -(s.S.size:Int))=s.room -(s.S.size:Int):=qs (by omega) (by omega)
 have hm:max 0 (s.room -(s.S.size:Int))=F:=by
  rw[←hF]
  unfold Zt
  split<;>omega
 have HB:=zd ((zh w.heap.size w).drew)
 clear h ho hr hsz hF
 go_enter func67,ntmps67
 go_wp2_with fail
 go_region_law
  (first
   |(go_simp;go_at_call 78;(with_reducible refine zr HL.out ?_);rintro e w4 ⟨rfl,rfl⟩))
 all_goals (
  go_wp2_with fail
  try rw[zl]
  go_ret
  exact⟨rfl,HB.out⟩)
theorem MC {b:ByteArray} (h:b.size=0) (s:St):qG s b=s:=by
 unfold qG
 rw[if_pos h]
theorem MD {b:ByteArray} (h:b.size≠0) (hk:s.tx.k=1):qG s b=KN {s with d:=gd.Vo s.d (s.tx.a -s.tx.b) (s.tx.a+s.tx.b)} (XC s.clock (gd.Vn s.d (s.tx.a -s.tx.b) (s.tx.a+s.tx.b))) b:=by
 unfold qG
 rw[if_neg h,if_pos hk]
theorem S1 {b:ByteArray} (h:b.size≠0) (hk:s.tx.k≠1):qG s b=KN s s.clock b:=by
 unfold qG
 rw[if_neg h,if_neg hk]
theorem Au (h:Raw w base g c u s M) (a:Int) {p:Option Addr} {n c':Nat} {b:ByteArray} (hb:b.size=n) (h0:b.size≠0) (hi:Lib.BytesIn w p n (gc.nums b)) (hM:M+b.size≤M') (hf:M'≤1000000):
  Calls zf 96 #[ptr c,.int .i64 a,.slice p n c'] w λ e w'=>(∃x,e=.returned (.int .i64 x))∧Did w base g c u (KN s a b) M' w':=by
 refine(gc.Bc h.car a hb hi hM hf).mono ?_
 rintro e w' ⟨rfl,hp⟩
 refine⟨⟨_,rfl⟩,?_⟩
 have he:gc.doC s.S s.A s.last 0 a 0 b=⟨s.S++b,s.A++List.replicate b.size (gc.Xl s.last a),gc.Xl s.last a,gc.Xl s.last a,⟨#[]⟩⟩:=by
  unfold gc.doC
  rw[if_pos rfl,if_neg h0]
 rw[he]at hp
 exact h.put hp
theorem GH (g:Nat) {p:Option Addr} {c':Nat} (w:World):Calls zf 68 #[ptr g,.slice p 0 c'] w λ e w'=>e=.returned (.tuple #[])∧w=w':=by
 go_enter func68,ntmps68
 go_wp2_with fail
 try rw[zl]
 exact zk (v:=.tuple #[]) (by simp[results,results68,go_sem]) rfl ⟨rfl,rfl⟩
theorem EI (h:Raw w base g c u s M) (ho:Ok s M) {p:Option Addr} {n c':Nat} {b:ByteArray} (hk:s.tx.k≠1) (hb:b.size=n) (h0:n≠0) (hi:Lib.BytesIn w p n (gc.nums b)) (hM:M+b.size≤M') (hf:M'≤1000000):
  Calls zf 68 #[ptr g,.slice p n c'] w λ e w'=>e=.returned (.tuple #[])∧Did w base g c u (KN s s.clock b) M' w':=by
 have HA:=zd (λ W=>show Calls zf 97 #[.int .i64 s.clock,.int .i64 0] W λ e w'=>e=.returned (.int .i64 s.clock)∧W=w' from by
  have h1:=gb.Yv s.clock 0 W
  rw[show gb.qe (gb.qe s.clock+gb.qe 0)=s.clock by
   rw[show gb.qe 0=0 by decide,Int.add_zero,KY (VI _),KY ho.clock]]at h1
  exact h1)
 have HP:=zd (Au (h.drew) s.clock (c':=c') hb (by omega) (h.bytes (Og.below (zh w.heap.size w).drew g) hi) hM hf)
 have HW:=zd (λ W=>Set.then (w':=w.drew) (w'':=W) (s':=KN s s.clock b) (M':=M') ((Set.refl h).on (zh w.heap.size w).drew))
 have x0:w.cell? ⟨g,0,none⟩=some (.pointer (some ⟨c,0,none⟩)):=h.cell 0
 have x2:w.cell? ⟨g,2,none⟩=some (.int .i64 s.tx.k):=h.cell 2
 have x15:w.cell? ⟨g,15,none⟩=some (.int .i64 s.clock):=h.cell 15
 have e1:(s.tx.k==1)=false:=by simpa using hk
 have e2:decide (s.tx.k=1)=false:=by simpa using hk
 have hn:(n==0)=false:=by simpa using h0
 have hn2:decide (n=0)=false:=by simpa using h0
 clear h ho hi hM hf hb hk
 generalize s.clock=ck at*
 go_enter func68,ntmps68
 go_wp2_with fail
 go_region_law
  (first
   |(go_simp;go_at_call 97;(with_reducible refine zr (HA.out _) ?_);rintro e w4 ⟨rfl,rfl⟩)
   |(go_simp;go_at_call 96;(with_reducible refine zr HP.out ?_);rintro e w4 ⟨⟨x,rfl⟩,hd⟩))
 all_goals (
  have HD:=zd (HW.out _ hd)
  clear hd
  go_end0
  exact⟨rfl,HD.out⟩)
end
end Go.Proofs.YtfdfgnmgpgkknaaGreat
