import Derived.Test.YtdighjgcnaajgaaGreatMS29
import Derived.Deep.MidRow
import Derived.Laws.CopyOwn
namespace Go.Proofs.YtdighjgcnaajgaaGreat
open Go.RowKit
variable {w w' w'' w0:World} {base g c M M' q:Nat} {u u' u'':gc.U} {s s' s'':St}
def PIs (w:World) (q:Nat):Prop:=∃cs,w.heap[q]?=some (.cells cs 204 (0,0))∧cs.size=20
def pcells (w:World) (q:Nat):Array Value:=match w.heap[q]? with
 |some (.cells cs _ _)=>cs
 |_=>#[]
def PVal (cs:Array Value):Prop:=cs.size=20∧cs.all (·.oneCell')=true
theorem pval (c:Nat) (s:St):PVal (stC c s):=⟨rfl,by simp[stC,Value.oneCell']⟩
theorem pcells_of {cs:Array Value} (h:w.heap[q]?=some (.cells cs 204 (0,0))):pcells w q=cs:=by
 unfold pcells
 rw[h]
def loadP (v:Value):Sem Value:=Instr.loadAt 204 v
def storeP (v x:Value):Sem Unit:=Instr.storeAt 204 v x
theorem to_loadP (v:Value):Instr.loadAt 204 v=loadP v:=rfl
theorem to_storeP (v x:Value):Instr.storeAt 204 v x=storeP v x:=rfl
theorem size20:(Tryz.prog.info? 204).map (·.size)=some 20:=by kernel_rfl
theorem run_loadP (h:PIs w q):(loadP (.pointer (some ⟨q,0,none⟩))).run Tryz.prog w=.ok (.agg (pcells w q)) w:=by
 obtain⟨cs,h,hs⟩:=h
 rw[pcells_of h]
 have:=run_loadVar_mid (P:=Tryz.prog) w q 0 204 cs.toList _ (λ j v hv=>by
  have hc:w.cell? ⟨q,j,none⟩=cs[j]?:=by simp[World.cell?,h]
  rw[Nat.zero_add,hc,←Array.getElem?_toList]
  exact hv) Tryz.underlying204 rfl (by rw[size20,Array.length_toList,hs])
 unfold loadP
 simp only[Instr.loadAt,Instr.sureAddr,Sem.run_bind,Sem.run_pure,Result.andThen_ok,this]
theorem run_storeP {cs:Array Value} (h:PIs w q) (hv:PVal cs):(storeP (.pointer (some ⟨q,0,none⟩)) (.agg cs)).run Tryz.prog w=.ok () (w.setRow q cs):=by
 obtain⟨cs0,h,hs⟩:=h
 unfold storeP
 simp only[Instr.storeAt,Instr.sureAddr,Sem.run_bind,Sem.run_pure,Result.andThen_ok,run_storeVar_row (P:=Tryz.prog) w q _ 204 _ cs h (by rw[size20,hv.1]) (by rw[hs,hv.1]) hv.2]
attribute [local go_sem ↓] to_loadP to_storeP
attribute [local go_sem] run_loadP run_storeP pval
def CopyOut (s:St) (M:Nat) (w:World) (e:Ending) (w':World):Prop:=∃g c u,e=.returned (ptr g)∧Raw w' w.heap.size g c u s M∧Below w.heap.size w w'
set_option maxRecDepth 100000 in
set_option maxHeartbeats 8000000 in
theorem copy_any (h:Raw w base g c u s M):Calls Tryz.prog 115 #[ptr g] w (CopyOut s M w):=by
 have hb0:Below w.heap.size w (w.alloc (.cells #[.pointer none,.string ⟨#[]⟩,.int .i64 0,.bool false,.int .i64 0,.int .i64 0,.int .i64 0,.int .u64 0,.int .i64 0,.int .i64 0,.int .i64 0,.int .i64 0,.int .i64 0,.int .i64 0,.int .i64 0,.int .i64 0,.int .i64 0,.bool false,.int .i64 0,.int .i64 0] 204)):=(Below.refl _ _).alloc (Nat.le_refl _) _
 have hg0:=heap_alloc_new w (.cells #[.pointer none,.string ⟨#[]⟩,.int .i64 0,.bool false,.int .i64 0,.int .i64 0,.int .i64 0,.int .u64 0,.int .i64 0,.int .i64 0,.int .i64 0,.int .i64 0,.int .i64 0,.int .i64 0,.int .i64 0,.int .i64 0,.int .i64 0,.bool false,.int .i64 0,.int .i64 0] 204)
 obtain⟨W0,hW0⟩:∃W0,w.alloc (.cells #[.pointer none,.string ⟨#[]⟩,.int .i64 0,.bool false,.int .i64 0,.int .i64 0,.int .i64 0,.int .u64 0,.int .i64 0,.int .i64 0,.int .i64 0,.int .i64 0,.int .i64 0,.int .i64 0,.int .i64 0,.int .i64 0,.int .i64 0,.bool false,.int .i64 0,.int .i64 0] 204)=W0:=⟨_,rfl⟩
 rw[hW0]at hb0 hg0
 have i1:PIs w g:=⟨_,h.blk,rfl⟩
 have k1:=pcells_of h.blk
 have i0:PIs W0 w.heap.size:=⟨_,hg0,rfl⟩
 have hlt:=gb.blk_lt hg0
 have hb1:=below_setRow hb0 (Nat.le_refl _) (stC c s)
 have hg1:(W0.setRow w.heap.size (stC c s)).heap[w.heap.size]?=some (.cells (stC c s) 204 (0,0)):=setRow_heap W0 w.heap.size _ _ _ _ hg0
 have h1:=h.on hb1
 have HB1:=Lib.hid hb1
 have HG1:=Lib.hid hg1
 have H1:=Lib.hid h1
 clear h hb0 hg0 hb1 hg1 h1
 go_enter Tryz.func115,Tryz.ntmps115
 go_upto_region 2 with fail
 clear hW0 i1 k1 i0 hlt
 generalize W0.setRow w.heap.size (stC c s)=w1 at*
 have x0:w1.cell? ⟨g,0,none⟩=some (.pointer (some ⟨c,0,none⟩)):=H1.out.cell 0
 go_wp2_with fail
 clear x0
 refine(gc.copy_al H1.out.car).mono ?_
 rintro e w2 ⟨c2,u2,rfl,hal,hb2⟩
 have hg2:=(hb2.block _ (gb.blk_lt HG1.out)).trans HG1.out
 have HB2:=Lib.hid (HB1.out.trans (hb2.mono HB1.out.size))
 have hsz:w.heap.size≤w1.heap.size:=HB1.out.size
 have y0:w2.cell? ⟨w.heap.size,0,none⟩=some (.pointer (some ⟨c,0,none⟩)):=cell_of_row _ _ 0 _ _ _ hg2
 have f0:w2.frozen? ⟨w.heap.size,0,none⟩=false:=gb.frozen_at hg2
 have hlt:=gb.blk_lt hg2
 have hr:Raw (w2.setCell ⟨w.heap.size,0,none⟩ (.pointer (some ⟨c2,0,none⟩))) w.heap.size w.heap.size c2 u2 s M:=by
  have hx:(w2.setCell ⟨w.heap.size,0,none⟩ (.pointer (some ⟨c2,0,none⟩))).heap[w.heap.size]?=some (.cells ((stC c s).setIfInBounds 0 (.pointer (some ⟨c2,0,none⟩))) 204 (0,0)):=gb.set_heap (i:=0) hg2 _
  obtain⟨ms,G,hr,hl⟩:=hal
  have hlt1:=gb.blk_lt HG1.out
  have hrl:=hr.lt
  have hru:=hr.u_base
  refine⟨hx,al_base (base:=w1.heap.size) ⟨ms,G,hr.keep (Below.heap_setCell _ _ _ _ (show c2≠w.heap.size by omega)) (λ i e=>Below.heap_setCell _ _ _ _ (show i≠w.heap.size by have:=(hru.1 i e).1;omega)) (λ i e=>Below.heap_setCell _ _ _ _ (show i≠w.heap.size by have:=(hru.2 i e).1;omega)),hl⟩ hsz,Nat.le_refl _⟩
 have hbf:=HB2.out.setCell (p:=⟨w.heap.size,0,none⟩) (Nat.le_refl _) (.pointer (some ⟨c2,0,none⟩))
 have HR:=Lib.hid hr
 have HBF:=Lib.hid hbf
 clear hr hbf hg2 hal hb2 hsz
 go_wp2_with fail
 generalize w2.setCell ⟨w.heap.size,0,none⟩ (.pointer (some ⟨c2,0,none⟩))=w3 at*
 try rw[Exit.noGoto_ret]
 go_ret
 exact⟨w.heap.size,c2,u2,rfl,HR.out,HBF.out⟩
theorem copy_i {w:World} {U:Own} {g M:Nat} {s:St} (h:Rep w U g s M):Calls Tryz.prog 115 #[ptr g] w λ e w'=>∃g2 U2,e=.returned (ptr g2)∧Rep w' U2 g2 s M∧(∀i,U2 i→w.heap.size≤i)∧Below w.heap.size w w':=by
 obtain⟨base,c,u,s',hr,ho,hs,rfl⟩:=h
 refine(copy_any hr).mono ?_
 rintro e w' ⟨g2,c2,u2,rfl,hr2,hb⟩
 refine⟨g2,blkU g2 c2 u2,rfl,⟨_,c2,u2,s',hr2,ho,hs,rfl⟩,λ i hi=>?_,hb⟩
 have hu:=hr2.car.u_base
 rcases hi with rfl|rfl|h|h
 ·exact hr2.base
 ·obtain⟨ms,G,h1,_⟩:=hr2.car
  exact h1.lt.1
 ·exact(hu.1 i h).1
 ·exact(hu.2 i h).1
end Go.Proofs.YtdighjgcnaajgaaGreat
namespace Go.Proofs.YtdighjgcnaajgaaGreat
open Go.RowKit
theorem Ok.give_cut {s:St} {M:Nat} (ho:Ok s M) (n:Int) {K:Nat} (hK:K≤s.S.size):Ok (cutS (giveS s n).1 K) M:=by
 have hk:=give_keeps s n
 exact cut_of (s:=s) ho hk.1 hk.2.2.2.2.1 hk.2.2.2.1 hk.2.2.2.2.2.1 hk.2.2.2.2.2.2.2.2.2 (give_right ho n) hK
theorem Ok.takeS {s:St} {M:Nat} (ho:Ok s M) (hl:s.A.length=s.S.size) (now most:Int):Ok (takeS s now most).1 M:=by
 unfold Go.Proofs.YtdighjgcnaajgaaGreat.takeS
 dsimp only
 split
 ·exact ho.look now
 ·refine(ho.look now).give_cut _ ?_
  have:=gc.takeK_le (lookS s now).A (lookS s now).clock (giveS (lookS s now) (if most<((gc.readyN (lookS s now).A (lookS s now).clock:Nat):Int)then most else((gc.readyN (lookS s now).A (lookS s now).clock:Nat):Int))).2
  have hl':(lookS s now).A.length=(lookS s now).S.size:=hl
  omega
theorem Ok.doS {s:St} {M M':Nat} (ho:Ok s M) (hl:s.A.length=s.S.size) (o:Op) (ht:o.t.s.size≤maxLen) (hM:M+o.s.size≤M') (hf:M'≤1000000):Ok (doS s o).1 M':=by
 unfold Go.Proofs.YtdighjgcnaajgaaGreat.doS
 by_cases k0:o.kind=0
 ·rw[if_pos k0]
  exact ho.bring o.now hM hf
 rw[if_neg k0]
 by_cases k1:o.kind=1
 ·rw[if_pos k1]
  exact ho.push o.now hM hf
 rw[if_neg k1]
 by_cases k2:o.kind=2
 ·rw[if_pos k2]
  exact(ho.takeS hl o.now o.n).more (by omega) hf
 rw[if_neg k2]
 by_cases k3:o.kind=3
 ·rw[if_pos k3]
  exact(ho.close o.now).more (by omega) hf
 rw[if_neg k3]
 by_cases k4:o.kind=4
 ·rw[if_pos k4]
  exact(ho.look o.now).more (by omega) hf
 rw[if_neg k4]
 by_cases k5:o.kind=5
 ·rw[if_pos k5]
  exact(ho.upd o.t ht o.now).more (by omega) hf
 rw[if_neg k5]
 by_cases k6:o.kind=6
 ·rw[if_pos k6]
  refine(⟨ho.tx,ho.name,ho.clock,⟨ho.passed.1,?_⟩,ho.room,ho.bk,ho.top⟩:Ok (drainS s).1 M).more (by omega) hf
  have:=ho.passed
  show s.passed+((0:Nat):Int)≤M
  omega
 rw[if_neg k6]
 exact ho.more (by omega) hf
theorem len_force {s:St} (hl:s.A.length=s.S.size) (b:ByteArray):(forceS s b).A.length=(forceS s b).S.size:=by
 unfold forceS
 split
 ·exact hl
 ·split
  ·show(s.A++List.replicate b.size _).length=(s.S++b).size
   rw[List.length_append,List.length_replicate,ByteArray.size_append,hl]
  ·show(s.A++List.replicate b.size _).length=(s.S++b).size
   rw[List.length_append,List.length_replicate,ByteArray.size_append,hl]
theorem len_do {s:St} (hl:s.A.length=s.S.size) (o:Op):(doS s o).1.A.length=(doS s o).1.S.size:=by
 unfold doS
 by_cases k0:o.kind=0
 ·rw[if_pos k0]
  unfold bringS
  dsimp only
  split
  ·exact hl
  ·exact len_force (s:=lookS s o.now) hl _
 rw[if_neg k0]
 by_cases k1:o.kind=1
 ·rw[if_pos k1]
  unfold pushS
  dsimp only
  split
  ·exact hl
  ·exact len_force (s:=lookS s o.now) hl _
 rw[if_neg k1]
 by_cases k2:o.kind=2
 ·rw[if_pos k2]
  unfold takeS
  dsimp only
  split
  ·exact hl
  ·have hk:=give_keeps (lookS s o.now) (if o.n<((gc.readyN (lookS s o.now).A (lookS s o.now).clock:Nat):Int)then o.n else((gc.readyN (lookS s o.now).A (lookS s o.now).clock:Nat):Int))
   show(List.drop _ (giveS _ _).1.A).length=((giveS _ _).1.S.extract _ (giveS _ _).1.S.size).size
   rw[hk.1,hk.2.1,List.length_drop,ByteArray.size_extract]
   have hl':(lookS s o.now).A.length=(lookS s o.now).S.size:=hl
   omega
 rw[if_neg k2]
 by_cases k3:o.kind=3
 ·rw[if_pos k3]
  unfold closeS
  split<;>exact hl
 rw[if_neg k3]
 by_cases k4:o.kind=4
 ·rw[if_pos k4]
  exact hl
 rw[if_neg k4]
 by_cases k5:o.kind=5
 ·rw[if_pos k5]
  unfold updS
  (repeat' split)<;>exact hl
 rw[if_neg k5]
 by_cases k6:o.kind=6
 ·rw[if_pos k6]
  rfl
 rw[if_neg k6]
 exact hl
theorem rep_not {w:World} {U:Own} {g:Nat} {s:St} {M:Nat} (h:Rep w U g s M) {i:Nat} {cs:Array Value} {T:TypeId} {fr:Nat×Nat} (hi:w.heap[i]?=some (.cells cs T fr)) (h1:T≠204) (h2:T≠225) (h3:T≠5) (h4:T≠249):¬U i:=by
 obtain⟨base,c,u,s',hr,_,_,rfl⟩:=h
 obtain⟨ms,G,hR,_⟩:=hr.car
 obtain⟨⟨c0,t0⟩,t1,t2⟩:=hR.typed
 rintro(rfl|rfl|e|e)
 ·exact h1 (gc.two_types hi hr.blk)
 ·exact h2 (gc.two_types hi t0)
 ·obtain⟨_,c1,t3⟩:=t1 i e
  exact h3 (gc.two_types hi t3)
 ·obtain⟨_,c1,t3⟩:=t2 i e
  exact h4 (gc.two_types hi t3)
theorem kept_cells {w w':World} {U U':Own} {g:Nat} {s:St} {M:Nat} (h:Rep w U g s M) (hr:Rest w U w' U') {i:Nat} {cs:Array Value} {T:TypeId} {fr:Nat×Nat} (hi:w.heap[i]?=some (.cells cs T fr)) (h1:T≠204) (h2:T≠225) (h3:T≠5) (h4:T≠249):w'.heap[i]?=some (.cells cs T fr):=
 (hr i (Array.getElem?_eq_some_iff.1 hi).1 (rep_not h hi h1 h2 h3 h4)).1.trans hi
theorem rep_on2 {w w':World} {U:Own} {g:Nat} {s:St} {M:Nat} (h:Rep w U g s M) (hb:∀i,U i→w'.heap[i]?=w.heap[i]?):Rep w' U g s M:=by
 obtain⟨base,c,u,s',hr,ho,hs,rfl⟩:=h
 obtain⟨ms,G,h1,h2⟩:=hr.car
 exact⟨base,c,u,s',⟨(hb g (Or.inl rfl)).trans hr.blk,⟨ms,G,h1.keep (hb c (Or.inr (Or.inl rfl))) (λ i e=>hb i (Or.inr (Or.inr (Or.inl e)))) (λ i e=>hb i (Or.inr (Or.inr (Or.inr e)))),h2⟩,hr.base⟩,ho,hs,rfl⟩
theorem kept_other {w0 w w':World} {U U' U2:Own} {g2:Nat} {s2:St} {M2:Nat} (hr:Rest w U w' U') (hb:Below w0.heap.size w0 w') (h2:Hd w0 w U2 g2 s2 M2) (hd:∀i,U2 i→¬U i):Hd w0 w' U2 g2 s2 M2∧∀i,U2 i→¬U' i:=by
 have hl:=(rep_lt h2.1).2
 exact⟨⟨rep_on2 h2.1 (λ i hi=>(hr i (hl i hi) (hd i hi)).1),h2.2.1,hb⟩,λ i hi=>(hr i (hl i hi) (hd i hi)).2⟩
end Go.Proofs.YtdighjgcnaajgaaGreat
namespace Go.Proofs.YtdighjgcnaajgaaGreat
open Go.RowKit
structure Prt where
 s:St
 closed:Bool
def nilSt:St:=⟨noTox,0,⟨0,0,0,0⟩,⟨#[]⟩,[],0,0,0,0,0,0,false,0,0⟩
def noPrt:Prt:=⟨nilSt,false⟩
structure Ch where
 L:List Prt
 room:Int
 lost:Int
 shut:Bool
 state:Int
namespace Ch
def at' (c:Ch) (k:Nat):Prt:=c.L.getD k noPrt
def onC (c:Ch) (k:Nat) (o:Op):Ch:={c with L:=c.L.set k ⟨(doS (c.at' k).s o).1,(c.at' k).closed||o.kind==3⟩}
def ansC (c:Ch) (k:Nat) (o:Op):Ans:=(doS (c.at' k).s o).2
def oPut (now:Int) (b:ByteArray):Op:=⟨0,now,0,b,noTox⟩
def oPush (now:Int) (b:ByteArray):Op:=⟨1,now,0,b,noTox⟩
def oTake (now n:Int):Op:=⟨2,now,n,⟨#[]⟩,noTox⟩
def oClose (now:Int):Op:=⟨3,now,0,⟨#[]⟩,noTox⟩
def oLook (now:Int):Op:=⟨4,now,0,⟨#[]⟩,noTox⟩
def oUpd (now:Int) (t:Tox):Op:=⟨5,now,0,⟨#[]⟩,t⟩
def oDrain:Op:=⟨6,0,0,⟨#[]⟩,noTox⟩
def held (c:Ch):Nat:=(c.L.map λ p=>p.s.S.size).sum
def newC (room now:Int):Ch:=⟨[⟨newS noTox 0 room now,false⟩,⟨newS noTox 0 room now,false⟩],room,0,false,0⟩
def loseN (c:Ch):Nat→Ch
 |0=>c
 |n+1=>let d:=loseN c n;{d.onC n oDrain with lost:=d.lost+(d.ansC n oDrain).s.size}
def lose (c:Ch) (n:Nat):Ch:={c.loseN n with shut:=true}
def breakC (c:Ch):Ch:=if c.state=1 then c else{c.lose c.L.length with state:=2}
def insE (c:Ch) (a:Int) (t:Tox):Int:=
 if a<0∨(c.L.length:Int) -2<a∨8≤(c.L.length:Int) -2 then 110 else newE t c.room
def insN (c:Ch) (k:Nat) (t:Tox) (seed now:Int):Ch:=
 let d:Ch:={c with L:=c.L.take (k+1)++⟨newS t seed c.room now,false⟩::c.L.drop (k+1)}
 if(d.at' (k+2)).closed=true then d.onC (k+1) (oClose now)else d
def rem1 (c:Ch) (k:Nat):Ch:={c with L:=c.L.take (k+1)++c.L.drop (k+2)}
def rem2 (c:Ch) (k:Nat) (now:Int):Ch:=(c.rem1 k).onC (k+1) (oPush now (c.at' (k+1)).s.S)
def gone (c:Ch) (k:Nat) (now:Int):Int:=((c.at' (k+1)).s.S.size:Int) -((((c.rem2 k now).at' (k+1)).s.S.size:Int) -((c.rem1 k).at' (k+1)).s.S.size)
def rem3 (c:Ch) (k:Nat) (now:Int):Ch:=
 if 0<c.gone k now then({c.rem2 k now with lost:=c.lost+c.gone k now}:Ch).lose (k+1)else c.rem2 k now
def remC (c:Ch) (k:Nat) (now:Int):Ch:=
 if(c.at' (k+1)).closed=true then(c.rem3 k now).onC (k+1) (oClose now)else c.rem3 k now
def looks (c:Ch) (now:Int):Nat→Ch
 |0=>c
 |n+1=>(c.looks now n).onC n (oLook now)
def anyB (c:Ch) (now:Int):Nat→Bool
 |0=>false
 |n+1=>c.anyB now n||decide (((c.looks now n).ansC n (oLook now)).n=2)
def flow1 (c:Ch) (now:Int) (i:Nat):Ch:=
 let d:=c.onC (i+1) (oLook now)
 if(c.ansC (i+1) (oLook now)).n=0 then
  let o:=oTake now (freeS (d.at' (i+1)).s)
  (d.onC i o).onC (i+1) (oPush now (d.ansC i o).s)
 else d
def flow (c:Ch) (now:Int):Nat→Ch
 |0=>c
 |n+1=>(c.flow now n).flow1 now n
def ends1 (c:Ch) (now:Int) (i:Nat):Ch:=
 let d:=c.onC i (oLook now)
 if(c.ansC i (oLook now)).n=1 then(d.lose (i+1)).onC (i+1) (oClose now)else d
def ends (c:Ch) (now:Int):Nat→Ch
 |0=>c
 |n+1=>(c.ends now n).ends1 now n
def step3 (c:Ch) (now:Int):Ch:=((c.looks now c.L.length).flow now (c.L.length -1)).ends now (c.L.length -1)
def stepC (c:Ch) (now:Int):Ch:=
 if c.state≠0 then c
 else if c.anyB now c.L.length=true then(c.looks now c.L.length).breakC
 else{(c.step3 now).onC (c.L.length -1) (oLook now)with state:=((c.step3 now).ansC (c.L.length -1) (oLook now)).n}
end Ch
structure COp where
 kind:Int
 now:Int
 n:Int
 s:ByteArray
 t:Tox
 seed:Int
namespace Ch
def doN (c:Ch) (o:COp):Ch:=
 if o.kind=0 then(if c.shut=true∨c.state≠0 then c else c.onC 0 (oPut o.now o.s))
 else if o.kind=1 then(if c.state=0 then{c.onC 0 (oClose o.now)with shut:=true}else c)
 else if o.kind=2 then c.breakC
 else if o.kind=3 then c.stepC o.now
 else if o.kind=4 then(if c.state=2 then c else c.onC (c.L.length -1) (oTake o.now o.n))
 else if o.kind=5 then(if c.insE o.n o.t≠0 then c else c.insN o.n.toNat o.t o.seed o.now)
 else if o.kind=6 then(if 0≤o.n∧o.n<(c.L.length:Int) -2 then c.remC o.n.toNat o.now else c)
 else if o.kind=7 then(if 0≤o.n∧o.n<(c.L.length:Int) -2 then c.onC (o.n.toNat+1) (oUpd o.now o.t)else c)
 else c
def doA (c:Ch) (o:COp):Ans:=
 if o.kind=0 then(if c.shut=true∨c.state≠0 then noAns else⟨(c.ansC 0 (oPut o.now o.s)).n,⟨#[]⟩,0⟩)
 else if o.kind=1 then noAns
 else if o.kind=2 then noAns
 else if o.kind=3 then⟨(c.stepC o.now).state,⟨#[]⟩,0⟩
 else if o.kind=4 then(if c.state=2 then noAns else⟨0,(c.ansC (c.L.length -1) (oTake o.now o.n)).s,0⟩)
 else if o.kind=5 then⟨0,⟨#[]⟩,c.insE o.n o.t⟩
 else if o.kind=6 then(if 0≤o.n∧o.n<(c.L.length:Int) -2 then noAns else⟨0,⟨#[]⟩,110⟩)
 else if o.kind=7 then(if 0≤o.n∧o.n<(c.L.length:Int) -2 then⟨0,⟨#[]⟩,(c.ansC (o.n.toNat+1) (oUpd o.now o.t)).e⟩else⟨0,⟨#[]⟩,110⟩)
 else noAns
@[simp] theorem len_on (c:Ch) (k:Nat) (o:Op):(c.onC k o).L.length=c.L.length:=by simp[onC]
@[simp] theorem len_loseN (c:Ch) (n:Nat):(c.loseN n).L.length=c.L.length:=by
 induction n with
 |zero=>rfl
 |succ n ih=>show((c.loseN n).onC n oDrain).L.length=_;rw[len_on,ih]
@[simp] theorem len_lose (c:Ch) (n:Nat):(c.lose n).L.length=c.L.length:=len_loseN c n
@[simp] theorem len_break (c:Ch):c.breakC.L.length=c.L.length:=by
 unfold breakC
 split
 ·rfl
 ·exact len_lose c _
@[simp] theorem len_looks (c:Ch) (now:Int) (n:Nat):(c.looks now n).L.length=c.L.length:=by
 induction n with
 |zero=>rfl
 |succ n ih=>show((c.looks now n).onC n _).L.length=_;rw[len_on,ih]
@[simp] theorem len_flow1 (c:Ch) (now:Int) (n:Nat):(c.flow1 now n).L.length=c.L.length:=by
 unfold flow1
 dsimp only
 split<;>simp only[len_on]
@[simp] theorem len_flow (c:Ch) (now:Int) (n:Nat):(c.flow now n).L.length=c.L.length:=by
 induction n with
 |zero=>rfl
 |succ n ih=>show((c.flow now n).flow1 now n).L.length=_;rw[len_flow1,ih]
@[simp] theorem len_ends1 (c:Ch) (now:Int) (n:Nat):(c.ends1 now n).L.length=c.L.length:=by
 unfold ends1
 dsimp only
 split<;>simp only[len_on,len_lose]
@[simp] theorem len_ends (c:Ch) (now:Int) (n:Nat):(c.ends now n).L.length=c.L.length:=by
 induction n with
 |zero=>rfl
 |succ n ih=>show((c.ends now n).ends1 now n).L.length=_;rw[len_ends1,ih]
theorem len_step (c:Ch) (now:Int):(c.stepC now).L.length=c.L.length:=by
 unfold stepC
 split
 ·rfl
 ·split
  ·rw[len_break,len_looks]
  ·show((c.step3 now).onC _ _).L.length=_
   rw[len_on]
   unfold step3
   rw[len_ends,len_flow,len_looks]
theorem len_ins (c:Ch) (k:Nat) (t:Tox) (seed now:Int) (h:k+2≤c.L.length):(c.insN k t seed now).L.length=c.L.length+1:=by
 unfold insN
 dsimp only
 split
 ·rw[len_on];simp;omega
 ·simp;omega
theorem len_rem1 (c:Ch) (k:Nat) (h:k+3≤c.L.length):(c.rem1 k).L.length+1=c.L.length:=by
 unfold rem1
 simp
 omega
theorem len_rem (c:Ch) (k:Nat) (now:Int) (h:k+3≤c.L.length):(c.remC k now).L.length+1=c.L.length:=by
 have h1:=len_rem1 c k h
 have h3:(c.rem3 k now).L.length=(c.rem1 k).L.length:=by
  unfold rem3
  split
  ·rw[len_lose];exact len_on _ _ _
  ·exact len_on _ _ _
 unfold remC
 split
 ·rw[len_on,h3];exact h1
 ·rw[h3];exact h1
theorem len_doN (c:Ch) (o:COp) (h:2≤c.L.length∧c.L.length≤10):2≤(c.doN o).L.length∧(c.doN o).L.length≤10:=by
 unfold doN
 split
 ·split
  ·exact h
  ·rw[len_on];exact h
 split
 ·split
  ·show 2≤(c.onC 0 _).L.length∧(c.onC 0 _).L.length≤10
   rw[len_on];exact h
  ·exact h
 split
 ·rw[len_break];exact h
 split
 ·rw[len_step];exact h
 split
 ·split
  ·exact h
  ·rw[len_on];exact h
 split
 ·split
  ·exact h
  ·rename_i _ _ _ _ _ _ he
   have hb:¬(o.n<0∨(c.L.length:Int) -2<o.n∨8≤(c.L.length:Int) -2):=λ hb=>he (by unfold insE;rw[if_pos hb];decide)
   rw[len_ins _ _ _ _ _ (by omega)]
   omega
 split
 ·split
  ·have:=len_rem c o.n.toNat o.now (by omega)
   omega
  ·exact h
 split
 ·split
  ·rw[len_on];exact h
  ·exact h
 ·exact h
end Ch
end Go.Proofs.YtdighjgcnaajgaaGreat
namespace Go.Proofs.YtdighjgcnaajgaaGreat
open Go.RowKit
namespace Ch
theorem sum_set (l:List Nat) (k x:Nat) (h:k<l.length):(l.set k x).sum+l.getD k 0=l.sum+x:=by
 induction l generalizing k with
 |nil=>cases h
 |cons a r ih=>
  cases k with
  |zero=>simp[List.getD];omega
  |succ k=>
   have:=ih k (by simpa using h)
   simp only[List.set_cons_succ,List.sum_cons,List.getD_cons_succ]
   omega
theorem held_set (l:List Prt) (k:Nat) (p:Prt) (h:k<l.length):((l.set k p).map λ p=>p.s.S.size).sum+(l.getD k noPrt).s.S.size=(l.map λ p=>p.s.S.size).sum+p.s.S.size:=by
 have h1:=sum_set (l.map λ p=>p.s.S.size) k p.s.S.size (by simpa using h)
 rw[←List.map_set]at h1
 have h2:(l.map λ p=>p.s.S.size).getD k 0=(l.getD k noPrt).s.S.size:=by
  rw[List.getD_eq_getElem?_getD,List.getD_eq_getElem?_getD,List.getElem?_map,List.getElem?_eq_getElem h]
  rfl
 rw[h2]at h1
 exact h1
theorem held_on (c:Ch) (k:Nat) (o:Op) (h:k<c.L.length):(c.onC k o).held+(c.at' k).s.S.size=c.held+(doS (c.at' k).s o).1.S.size:=held_set c.L k _ h
theorem at_on (c:Ch) (k:Nat) (o:Op) (h:k<c.L.length):(c.onC k o).at' k=⟨(doS (c.at' k).s o).1,(c.at' k).closed||o.kind==3⟩:=by
 unfold onC at'
 simp[List.getD_eq_getElem?_getD,List.getElem?_set_self h]
theorem at_other (c:Ch) (k i:Nat) (o:Op) (h:k≠i):(c.onC k o).at' i=c.at' i:=by
 unfold onC at'
 simp[List.getD_eq_getElem?_getD,List.getElem?_set_ne h]
theorem sz_put (s:St) (now:Int) (b:ByteArray):((doS s (oPut now b)).1.S.size:Int)=s.S.size+(doS s (oPut now b)).2.n:=by
 show(((bringS s now b).1.S.size:Nat):Int)=s.S.size+(bringS s now b).2
 have h:=bring_n s now b
 rw[bring_S,ByteArray.size_append,ByteArray.size_extract]
 omega
theorem sz_push (s:St) (now:Int) (b:ByteArray):(doS s (oPush now b)).1.S.size=s.S.size+if(lookS s now).st=0 then b.size else 0:=by
 show(pushS s now b).S.size=_
 rw[push_S,ByteArray.size_append]
 split<;>rfl
theorem sz_take (s:St) (now n:Int):(doS s (oTake now n)).1.S.size+(doS s (oTake now n)).2.s.size=s.S.size:=by
 show(takeS s now n).1.S.size+(takeS s now n).2.size=_
 have h:=congrArg ByteArray.size (take_S s now n)
 rw[ByteArray.size_append]at h
 omega
theorem sz_close (s:St) (now:Int):(doS s (oClose now)).1.S.size=s.S.size:=by
 show(closeS s now).S.size=_
 rw[close_S]
theorem sz_look (s:St) (now:Int):(doS s (oLook now)).1.S.size=s.S.size:=rfl
theorem sz_upd (s:St) (now:Int) (t:Tox):(doS s (oUpd now t)).1.S.size=s.S.size:=by
 show(updS s t now).1.S.size=_
 rw[upd_S]
theorem sz_drain (s:St):(doS s oDrain).1.S.size=0∧(doS s oDrain).2.s.size=s.S.size:=⟨rfl,rfl⟩
def bal (c:Ch):Int:=c.held+c.lost
theorem bal_same (c:Ch) (k:Nat) (o:Op) (h:k<c.L.length) (ho:(doS (c.at' k).s o).1.S.size=(c.at' k).s.S.size):(c.onC k o).bal=c.bal:=by
 have:=held_on c k o h
 unfold bal
 show((c.onC k o).held:Int)+c.lost=_
 omega
theorem bal_close (c:Ch) (k:Nat) (now:Int) (h:k<c.L.length):(c.onC k (oClose now)).bal=c.bal:=bal_same c k _ h (sz_close _ _)
theorem bal_look (c:Ch) (k:Nat) (now:Int) (h:k<c.L.length):(c.onC k (oLook now)).bal=c.bal:=bal_same c k _ h (sz_look _ _)
theorem bal_loseN (c:Ch) (n:Nat) (h:n≤c.L.length):(c.loseN n).bal=c.bal:=by
 induction n with
 |zero=>rfl
 |succ n ih=>
  have h1:=ih (by omega)
  have h2:=held_on (c.loseN n) n oDrain (by rw[len_loseN];omega)
  have h3:=sz_drain ((c.loseN n).at' n).s
  rw[←h1]
  show(((c.loseN n).onC n oDrain).held:Int)+((c.loseN n).lost+((c.loseN n).ansC n oDrain).s.size)=(c.loseN n).held+(c.loseN n).lost
  unfold ansC
  omega
theorem bal_lose (c:Ch) (n:Nat) (h:n≤c.L.length):(c.lose n).bal=c.bal:=bal_loseN c n h
theorem bal_break (c:Ch):c.breakC.bal=c.bal:=by
 unfold breakC
 split
 ·rfl
 ·exact bal_lose c _ (Nat.le_refl _)
theorem bal_looks (c:Ch) (now:Int) (n:Nat) (h:n≤c.L.length):(c.looks now n).bal=c.bal:=by
 induction n with
 |zero=>rfl
 |succ n ih=>
  rw[←ih (by omega)]
  exact bal_look _ _ _ (by rw[len_looks];omega)
theorem bal_flow1 (c:Ch) (now:Int) (i:Nat) (h:i+1<c.L.length):(c.flow1 now i).bal=c.bal:=by
 unfold flow1
 dsimp only
 have hb:=bal_look c (i+1) now h
 split
 ·rename_i hn
  have hn:(lookS (c.at' (i+1)).s now).st=0:=hn
  generalize hd:c.onC (i+1) (oLook now)=d at*
  have hl:d.L.length=c.L.length:=by rw[←hd,len_on]
  have ha:(d.at' (i+1)).s=lookS (c.at' (i+1)).s now:=by rw[←hd,at_on c _ _ h];rfl
  generalize freeS (d.at' (i+1)).s=m at*
  have h1:=held_on d i (oTake now m) (by omega)
  have h4:(d.onC i (oTake now m)).at' (i+1)=d.at' (i+1):=at_other d i (i+1) _ (by omega)
  have h2:=held_on (d.onC i (oTake now m)) (i+1) (oPush now (d.ansC i (oTake now m)).s) (by rw[len_on];omega)
  rw[h4]at h2
  have h5:=sz_push (d.at' (i+1)).s now (d.ansC i (oTake now m)).s
  rw[if_pos (by rw[ha,look_look];exact hn)]at h5
  have h6:=sz_take (d.at' i).s now m
  rw[←hb]
  show(((d.onC i (oTake now m)).onC (i+1) (oPush now (d.ansC i (oTake now m)).s)).held:Int)+d.lost=d.held+d.lost
  unfold ansC at*
  omega
 ·exact hb
theorem bal_flow (c:Ch) (now:Int) (n:Nat) (h:n<c.L.length):(c.flow now n).bal=c.bal:=by
 induction n with
 |zero=>rfl
 |succ n ih=>
  rw[←ih (by omega)]
  exact bal_flow1 _ _ _ (by rw[len_flow];exact h)
theorem bal_ends1 (c:Ch) (now:Int) (i:Nat) (h:i+1<c.L.length):(c.ends1 now i).bal=c.bal:=by
 unfold ends1
 dsimp only
 split
 ·rw[bal_close _ _ _ (by rw[len_lose,len_on];exact h),bal_lose _ _ (by rw[len_on];omega),bal_look _ _ _ (by omega)]
 ·exact bal_look _ _ _ (by omega)
theorem bal_ends (c:Ch) (now:Int) (n:Nat) (h:n<c.L.length):(c.ends now n).bal=c.bal:=by
 induction n with
 |zero=>rfl
 |succ n ih=>
  rw[←ih (by omega)]
  exact bal_ends1 _ _ _ (by rw[len_ends];exact h)
theorem bal_step (c:Ch) (now:Int) (h:2≤c.L.length):(c.stepC now).bal=c.bal:=by
 unfold stepC
 split
 ·rfl
 ·split
  ·rw[bal_break,bal_looks _ _ _ (Nat.le_refl _)]
  ·have hl:(c.step3 now).L.length=c.L.length:=by unfold step3;rw[len_ends,len_flow,len_looks]
   have h1:=bal_look (c.step3 now) (c.L.length -1) now (by rw[hl];omega)
   show((c.step3 now).onC (c.L.length -1) (oLook now)).bal=_
   rw[h1]
   unfold step3
   rw[bal_ends _ _ _ (by rw[len_flow,len_looks];omega),bal_flow _ _ _ (by rw[len_looks];omega),bal_looks _ _ _ (Nat.le_refl _)]
theorem bal_ins (c:Ch) (k:Nat) (t:Tox) (seed now:Int) (h:k+2≤c.L.length):(c.insN k t seed now).bal=c.bal:=by
 have h0:(({c with L:=c.L.take (k+1)++⟨newS t seed c.room now,false⟩::c.L.drop (k+1)}:Ch)).bal=c.bal:=by
  unfold bal held
  have:((c.L.take (k+1)).map λ p=>p.s.S.size).sum+((c.L.drop (k+1)).map λ p=>p.s.S.size).sum=(c.L.map λ p=>p.s.S.size).sum:=by
   rw[←List.sum_append,←List.map_append,List.take_append_drop]
  simp only[List.map_append,List.map_cons,List.sum_append,List.sum_cons]
  have hz:(newS t seed c.room now).S.size=0:=rfl
  rw[hz]
  omega
 unfold insN
 dsimp only
 split
 ·rw[bal_close _ _ _ (by simp;omega)]
  exact h0
 ·exact h0
theorem held_rem1 (c:Ch) (k:Nat) (h:k+3≤c.L.length):(c.rem1 k).held+(c.at' (k+1)).s.S.size=c.held:=by
 have h1:c.L.drop (k+1)=c.at' (k+1)::c.L.drop (k+2):=by
  rw[List.drop_eq_getElem_cons (by omega)]
  unfold at'
  rw[List.getD_eq_getElem?_getD,List.getElem?_eq_getElem (by omega)]
  rfl
 have h2:((c.L.take (k+1)).map λ p=>p.s.S.size).sum+((c.L.drop (k+1)).map λ p=>p.s.S.size).sum=(c.L.map λ p=>p.s.S.size).sum:=by
  rw[←List.sum_append,←List.map_append,List.take_append_drop]
 rw[h1]at h2
 unfold held rem1
 simp only[List.map_append,List.map_cons,List.sum_append,List.sum_cons]at*
 omega
theorem bal_rem (c:Ch) (k:Nat) (now:Int) (h:k+3≤c.L.length):(c.remC k now).bal=c.bal:=by
 have hl:=len_rem1 c k h
 have h1:=held_rem1 c k h
 have h2:=held_on (c.rem1 k) (k+1) (oPush now (c.at' (k+1)).s.S) (by omega)
 have h3:=at_on (c.rem1 k) (k+1) (oPush now (c.at' (k+1)).s.S) (by omega)
 have h4:=sz_push ((c.rem1 k).at' (k+1)).s now (c.at' (k+1)).s.S
 have hg:c.gone k now=((c.at' (k+1)).s.S.size:Int) -(if(lookS ((c.rem1 k).at' (k+1)).s now).st=0 then(c.at' (k+1)).s.S.size else 0:Nat):=by
  unfold gone rem2
  rw[h3,h4]
  omega
 have h5:(c.rem3 k now).bal=c.bal:=by
  unfold rem3
  split
  ·rw[bal_lose _ _ (by show k+1≤((c.rem1 k).onC _ _).L.length;rw[len_on];omega)]
   show(((c.rem1 k).onC (k+1) (oPush now (c.at' (k+1)).s.S)).held:Int)+(c.lost+c.gone k now)=c.held+c.lost
   omega
  ·show(((c.rem1 k).onC (k+1) (oPush now (c.at' (k+1)).s.S)).held:Int)+c.lost=c.held+c.lost
   split at h4<;>rename_i hc
   ·omega
   ·rw[if_neg hc]at hg
    omega
 unfold remC
 split
 ·rw[bal_close _ _ _ (by
   have:(c.rem3 k now).L.length=(c.rem1 k).L.length:=by
    unfold rem3
    split
    ·rw[len_lose];exact len_on _ _ _
    ·exact len_on _ _ _
   omega)]
  exact h5
 ·exact h5
theorem nil_bal (x:Int):x+((⟨#[]⟩:ByteArray).size:Int)=x+0:=rfl
theorem bal_do (c:Ch) (o:COp) (h:2≤c.L.length∧c.L.length≤10):(c.doN o).bal+(c.doA o).s.size=c.bal+if o.kind=0 then(c.doA o).n else 0:=by
 unfold doN doA
 by_cases k0:o.kind=0
 ·rw[if_pos k0,if_pos k0,if_pos k0]
  split
  ·exact nil_bal _
  ·have h1:=held_on c 0 (oPut o.now o.s) (by omega)
   have h2:=sz_put (c.at' 0).s o.now o.s
   show(((c.onC 0 (oPut o.now o.s)).held:Int)+c.lost)+((0:Nat):Int)=c.held+c.lost+_
   unfold ansC
   simp only
   omega
 rw[if_neg k0,if_neg k0,if_neg k0]
 by_cases k1:o.kind=1
 ·rw[if_pos k1,if_pos k1]
  split
  ·have:=bal_close c 0 o.now (by omega)
   show(c.onC 0 (oClose o.now)).bal+_=_
   rw[this]
   exact nil_bal _
  ·exact nil_bal _
 rw[if_neg k1,if_neg k1]
 by_cases k2:o.kind=2
 ·rw[if_pos k2,if_pos k2,bal_break]
  exact nil_bal _
 rw[if_neg k2,if_neg k2]
 by_cases k3:o.kind=3
 ·rw[if_pos k3,if_pos k3,bal_step _ _ h.1]
  exact nil_bal _
 rw[if_neg k3,if_neg k3]
 by_cases k4:o.kind=4
 ·rw[if_pos k4,if_pos k4]
  split
  ·exact nil_bal _
  ·have h1:=held_on c (c.L.length -1) (oTake o.now o.n) (by omega)
   have h2:=sz_take (c.at' (c.L.length -1)).s o.now o.n
   show(((c.onC (c.L.length -1) (oTake o.now o.n)).held:Int)+c.lost)+_=c.held+c.lost+0
   unfold ansC
   simp only
   omega
 rw[if_neg k4,if_neg k4]
 by_cases k5:o.kind=5
 ·rw[if_pos k5,if_pos k5]
  split
  ·exact nil_bal _
  ·rename_i he
   have hb:¬(o.n<0∨(c.L.length:Int) -2<o.n∨8≤(c.L.length:Int) -2):=λ hb=>he (by unfold insE;rw[if_pos hb];decide)
   rw[bal_ins _ _ _ _ _ (by omega)]
   exact nil_bal _
 rw[if_neg k5,if_neg k5]
 by_cases k6:o.kind=6
 ·rw[if_pos k6,if_pos k6]
  split
  ·rw[bal_rem _ _ _ (by omega)]
   exact nil_bal _
  ·exact nil_bal _
 rw[if_neg k6,if_neg k6]
 by_cases k7:o.kind=7
 ·rw[if_pos k7,if_pos k7]
  split
  ·rw[bal_same _ _ _ (by omega) (sz_upd _ _ _)]
   exact nil_bal _
  ·exact nil_bal _
 rw[if_neg k7,if_neg k7]
 exact nil_bal _
end Ch
end Go.Proofs.YtdighjgcnaajgaaGreat
namespace Go.Proofs.YtdighjgcnaajgaaGreat
open Go.RowKit
namespace Ch
theorem lost_loseN (c:Ch) (n:Nat):c.lost≤(c.loseN n).lost:=by
 induction n with
 |zero=>exact Int.le_refl _
 |succ n ih=>
  show c.lost≤(c.loseN n).lost+(((c.loseN n).ansC n oDrain).s.size:Nat)
  omega
theorem lost_break (c:Ch):c.lost≤c.breakC.lost:=by
 unfold breakC
 split
 ·exact Int.le_refl _
 ·exact lost_loseN c _
theorem lost_looks (c:Ch) (now:Int) (n:Nat):(c.looks now n).lost=c.lost:=by
 induction n with
 |zero=>rfl
 |succ n ih=>exact ih
theorem lost_flow1 (c:Ch) (now:Int) (i:Nat):(c.flow1 now i).lost=c.lost:=by
 unfold flow1
 dsimp only
 split<;>rfl
theorem lost_flow (c:Ch) (now:Int) (n:Nat):(c.flow now n).lost=c.lost:=by
 induction n with
 |zero=>rfl
 |succ n ih=>exact(lost_flow1 _ _ _).trans ih
theorem lost_ends1 (c:Ch) (now:Int) (i:Nat):c.lost≤(c.ends1 now i).lost:=by
 unfold ends1
 dsimp only
 split
 ·exact lost_loseN (c.onC i (oLook now)) (i+1)
 ·exact Int.le_refl _
theorem lost_ends (c:Ch) (now:Int) (n:Nat):c.lost≤(c.ends now n).lost:=by
 induction n with
 |zero=>exact Int.le_refl _
 |succ n ih=>exact Int.le_trans ih (lost_ends1 _ _ _)
theorem lost_step (c:Ch) (now:Int):c.lost≤(c.stepC now).lost:=by
 unfold stepC
 split
 ·exact Int.le_refl _
 ·split
  ·have:=lost_break (c.looks now c.L.length)
   rw[lost_looks]at this
   exact this
  ·show c.lost≤(c.step3 now).lost
   unfold step3
   have:=lost_ends ((c.looks now c.L.length).flow now (c.L.length -1)) now (c.L.length -1)
   rw[lost_flow,lost_looks]at this
   exact this
theorem lost_ins (c:Ch) (k:Nat) (t:Tox) (seed now:Int):(c.insN k t seed now).lost=c.lost:=by
 unfold insN
 dsimp only
 split<;>rfl
theorem lost_rem (c:Ch) (k:Nat) (now:Int):c.lost≤(c.remC k now).lost:=by
 have h:c.lost≤(c.rem3 k now).lost:=by
  unfold rem3
  split
  ·have:=lost_loseN ({c.rem2 k now with lost:=c.lost+c.gone k now}:Ch) (k+1)
   have h2:({c.rem2 k now with lost:=c.lost+c.gone k now}:Ch).lost=c.lost+c.gone k now:=rfl
   show c.lost≤(({c.rem2 k now with lost:=c.lost+c.gone k now}:Ch).loseN (k+1)).lost
   omega
  ·exact Int.le_refl _
 unfold remC
 split<;>exact h
theorem lost_do (c:Ch) (o:COp):c.lost≤(c.doN o).lost:=by
 unfold doN
 split
 ·split<;>exact Int.le_refl _
 split
 ·split<;>exact Int.le_refl _
 split
 ·exact lost_break c
 split
 ·exact lost_step c _
 split
 ·split<;>exact Int.le_refl _
 split
 ·split
  ·exact Int.le_refl _
  ·rw[lost_ins];exact Int.le_refl _
 split
 ·split
  ·exact lost_rem c _ _
  ·exact Int.le_refl _
 split
 ·split<;>exact Int.le_refl _
 ·exact Int.le_refl _
theorem state_loseN (c:Ch) (n:Nat):(c.loseN n).state=c.state:=by
 induction n with
 |zero=>rfl
 |succ n ih=>exact ih
theorem state_rem (c:Ch) (k:Nat) (now:Int):(c.remC k now).state=c.state:=by
 have h:(c.rem3 k now).state=c.state:=by
  unfold rem3
  split
  ·exact state_loseN _ _
  ·rfl
 unfold remC
 split<;>exact h
theorem state_ins (c:Ch) (k:Nat) (t:Tox) (seed now:Int):(c.insN k t seed now).state=c.state:=by
 unfold insN
 dsimp only
 split<;>rfl
theorem state_do (c:Ch) (o:COp) (h:c.state=1∨c.state=2):(c.doN o).state=c.state∧(o.kind=0→(c.doA o).n=0)∧(c.state=2→(c.doA o).s.size=0):=by
 have h0:c.state≠0:=by omega
 refine⟨?_,λ hk=>?_,λ h2=>?_⟩
 ·unfold doN
  split
  ·split<;>rfl
  split
  ·first|rfl|rw[if_neg h0]
  split
  ·unfold breakC
   split
   ·rfl
   ·show(2:Int)=_
    omega
  split
  ·unfold stepC
   rw[if_pos h0]
  split
  ·split<;>rfl
  split
  ·split
   ·rfl
   ·exact state_ins c _ _ _ _
  split
  ·split
   ·exact state_rem c _ _
   ·rfl
  split
  ·split<;>rfl
  ·rfl
 ·unfold doA
  rw[if_pos hk,if_pos (Or.inr h0)]
  rfl
 ·unfold doA
  split
  ·rw[if_pos (Or.inr h0)]
   rfl
  split
  ·rfl
  split
  ·rfl
  split
  ·rfl
  split
  ·first|rfl|(rw[if_pos h2];rfl)
  split
  ·rfl
  split
  ·split<;>rfl
  split
  ·split<;>rfl
  ·rfl
theorem none_held (c:Ch) (o:COp) (h:2≤c.L.length∧c.L.length≤10) (hs:c.state=2) (hh:c.held=0):(c.doN o).held=0:=by
 have h1:=bal_do c o h
 have h2:=lost_do c o
 have h3:=state_do c o (Or.inr hs)
 have h4:(if o.kind=0 then(c.doA o).n else 0)=0:=by
  split
  ·exact h3.2.1 (by assumption)
  ·rfl
 rw[h4,h3.2.2 hs]at h1
 unfold bal at h1
 omega
theorem held_loseAll (c:Ch) (n:Nat) (h:n≤c.L.length):∀i,i<n→((c.loseN n).at' i).s.S.size=0:=by
 induction n with
 |zero=>intro i hi;cases hi
 |succ n ih=>
  intro i hi
  show(((c.loseN n).onC n oDrain).at' i).s.S.size=0
  by_cases e:n=i
  ·subst e
   rw[at_on _ _ _ (by rw[len_loseN];omega)]
   rfl
  ·rw[at_other _ _ _ _ e]
   exact ih (by omega) i (by omega)
theorem sum_zero (l:List Prt) (h:∀i,i<l.length→(l.getD i noPrt).s.S.size=0):(l.map λ p=>p.s.S.size).sum=0:=by
 induction l with
 |nil=>rfl
 |cons p r ih=>
  have h0:=h 0 (by simp)
  have h1:=ih (λ i hi=>by
   have:=h (i+1) (by simpa using hi)
   rwa[List.getD_cons_succ]at this)
  simp only[List.getD_cons_zero]at h0
  simp only[List.map_cons,List.sum_cons]
  omega
theorem held_break (c:Ch) (h:c.state≠1):c.breakC.held=0∧c.breakC.state=2∧c.breakC.shut=true:=by
 unfold breakC
 rw[if_neg h]
 refine⟨sum_zero _ λ i hi=>?_,rfl,rfl⟩
 have hi':i<c.L.length:=by
  have:(c.loseN c.L.length).L.length=c.L.length:=len_loseN _ _
  have hh:i<(c.loseN c.L.length).L.length:=hi
  omega
 exact held_loseAll c c.L.length (Nat.le_refl _) i hi'
end Ch
end Go.Proofs.YtdighjgcnaajgaaGreat
