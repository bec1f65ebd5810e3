import Derived.Test.YtfdfgnmgpgkknaaGreatMG23
import Derived.Deep.MidRow
import Derived.Laws.CopyOwn
set_option maxRecDepth 100000
set_option maxHeartbeats 8000000
open Go.Proofs.Tryz renaming prog→zf
open Go.RowKit.Below renaming refl→zh,heap_setCell→zn
open Nat renaming le_refl→zg
open Go renaming heap_alloc_new→zo,cell_of_row→ze
open Go.Lib renaming hid→zd
open Go.Exit renaming noGoto_ret→zl
open List renaming set_cons_succ→zp,getD_eq_getElem?_getD→zi,getElem?_eq_getElem→zj,length_take→zw,take_succ_cons→zx
open Go.Proofs.Tryz
namespace Go.Proofs.YtfdfgnmgpgkknaaGreat
section
open Go.RowKit
variable {w w' w'' w0:World} {base g c M M' q:Nat} {u u' u'':gc.U} {s s' s'':St}
def PIs (w:World) (q:Nat):Prop:=∃cs,w.heap[q]?=some (.cells cs 113 (0,0))∧cs.size=20
def Sw (w:World) (q:Nat):Array Value:=match w.heap[q]? with
 |some (.cells cs _ _)=>cs
 |_=>#[]
def AI (cs:Array Value):Prop:=cs.size=20∧cs.all (·.oneCell')=true
theorem AO (c:Nat) (s:St):AI (stC c s):=⟨rfl,by simp[stC,Value.oneCell']⟩
theorem jY {cs:Array Value} (h:w.heap[q]?=some (.cells cs 113 (0,0))):Sw w q=cs:=by
 unfold Sw
 rw[h]
def Gy (v:Value):Sem Value:=Instr.loadAt 113 v
def M3 (v x:Value):Sem Unit:=Instr.storeAt 113 v x
theorem LR (v:Value):Instr.loadAt 113 v=Gy v:=rfl
theorem N7 (v x:Value):Instr.storeAt 113 v x=M3 v x:=rfl
theorem Oc:(Tryz.prog.info? 113).map (·.size)=some 20:=by kernel_rfl
theorem Pp (h:PIs w q):(Gy (.pointer (some ⟨q,0,none⟩))).run zf w=.ok (.agg (Sw w q)) w:=by
 obtain⟨cs,h,hs⟩:=h
 rw[jY h]
 have:=run_loadVar_mid (P:=zf) w q 0 113 cs.toList _ (λ j v hv=>by
  have hc:w.cell? ⟨q,j,none⟩=cs[j]?:=by simp[World.cell?,h]
  rw[Nat.zero_add,hc,←Array.getElem?_toList]
  exact hv) underlying113 rfl (by rw[Oc,Array.length_toList,hs])
 unfold Gy
 simp only[Instr.loadAt,Instr.sureAddr,Sem.run_bind,Sem.run_pure,Result.andThen_ok,this]
theorem Sd {cs:Array Value} (h:PIs w q) (hv:AI cs):(M3 (.pointer (some ⟨q,0,none⟩)) (.agg cs)).run zf w=.ok () (w.setRow q cs):=by
 obtain⟨cs0,h,hs⟩:=h
 unfold M3
 simp only[Instr.storeAt,Instr.sureAddr,Sem.run_bind,Sem.run_pure,Result.andThen_ok,run_storeVar_row (P:=zf) w q _ 113 _ cs h (by rw[Oc,hv.1]) (by rw[hs,hv.1]) hv.2]
attribute [local go_sem ↓] LR N7
attribute [local go_sem] Pp Sd AO
def Dn (s:St) (M:Nat) (w:World) (e:Ending) (w':World):Prop:=∃g c u,e=.returned (ptr g)∧Raw w' w.heap.size g c u s M∧Below w.heap.size w w'
theorem Fm (h:Raw w base g c u s M):Calls zf 35 #[ptr g] w (Dn s M w):=by
 have hb0:Below w.heap.size w (w.alloc (.cells #[.pointer none,.string ⟨#[]⟩,.int .i64 0,.bool false,.int .i64 0,.int .i64 0,.int .i64 0,.int .u64 0,.int .i64 0,.int .i64 0,.int .i64 0,.int .i64 0,.int .i64 0,.int .i64 0,.int .i64 0,.int .i64 0,.int .i64 0,.bool false,.int .i64 0,.int .i64 0] 113)):=(zh _ _).alloc (zg _) _
 have hg0:=zo w (.cells #[.pointer none,.string ⟨#[]⟩,.int .i64 0,.bool false,.int .i64 0,.int .i64 0,.int .i64 0,.int .u64 0,.int .i64 0,.int .i64 0,.int .i64 0,.int .i64 0,.int .i64 0,.int .i64 0,.int .i64 0,.int .i64 0,.int .i64 0,.bool false,.int .i64 0,.int .i64 0] 113)
 obtain⟨W0,hW0⟩:∃W0,w.alloc (.cells #[.pointer none,.string ⟨#[]⟩,.int .i64 0,.bool false,.int .i64 0,.int .i64 0,.int .i64 0,.int .u64 0,.int .i64 0,.int .i64 0,.int .i64 0,.int .i64 0,.int .i64 0,.int .i64 0,.int .i64 0,.int .i64 0,.int .i64 0,.bool false,.int .i64 0,.int .i64 0] 113)=W0:=⟨_,rfl⟩
 rw[hW0]at hb0 hg0
 have i1:PIs w g:=⟨_,h.blk,rfl⟩
 have k1:=jY h.blk
 have i0:PIs W0 w.heap.size:=⟨_,hg0,rfl⟩
 have hlt:=gb.qd hg0
 have hb1:=below_setRow hb0 (zg _) (stC c s)
 have hg1:(W0.setRow w.heap.size (stC c s)).heap[w.heap.size]?=some (.cells (stC c s) 113 (0,0)):=setRow_heap W0 w.heap.size _ _ _ _ hg0
 have h1:=h.on hb1
 have HB1:=zd hb1
 have HG1:=zd hg1
 have H1:=zd h1
 clear h hb0 hg0 hb1 hg1 h1
 go_enter func35,ntmps35
 go_upto_region 2 with fail
 clear hW0 i1 k1 i0 hlt
 generalize W0.setRow w.heap.size (stC c s)=w1 at*
 have x0:w1.cell? ⟨g,0,none⟩=some (.pointer (some ⟨c,0,none⟩)):=H1.out.cell 0
 go_wp2_with fail
 clear x0
 refine(gc.E6 H1.out.car).mono ?_
 rintro e w2 ⟨c2,u2,rfl,hal,hb2⟩
 have hg2:=(hb2.block _ (gb.qd HG1.out)).trans HG1.out
 have HB2:=zd (HB1.out.trans (hb2.mono HB1.out.size))
 have hsz:w.heap.size≤w1.heap.size:=HB1.out.size
 have y0:w2.cell? ⟨w.heap.size,0,none⟩=some (.pointer (some ⟨c,0,none⟩)):=ze _ _ 0 _ _ _ hg2
 have f0:w2.frozen? ⟨w.heap.size,0,none⟩=false:=gb.qa hg2
 have hlt:=gb.qd hg2
 have hr:Raw (w2.setCell ⟨w.heap.size,0,none⟩ (.pointer (some ⟨c2,0,none⟩))) w.heap.size w.heap.size c2 u2 s M:=by
  have hx:(w2.setCell ⟨w.heap.size,0,none⟩ (.pointer (some ⟨c2,0,none⟩))).heap[w.heap.size]?=some (.cells ((stC c s).setIfInBounds 0 (.pointer (some ⟨c2,0,none⟩))) 113 (0,0)):=gb.qo (i:=0) hg2 _
  obtain⟨ms,G,hr,hl⟩:=hal
  have hlt1:=gb.qd HG1.out
  have hrl:=hr.lt
  have hru:=hr.UQ
  refine⟨hx,QL (base:=w1.heap.size) ⟨ms,G,hr.keep (zn _ _ _ _ (show c2≠w.heap.size by omega)) (λ i e=>zn _ _ _ _ (show i≠w.heap.size by have:=(hru.1 i e).1;omega)) (λ i e=>zn _ _ _ _ (show i≠w.heap.size by have:=(hru.2 i e).1;omega)),hl⟩ hsz,zg _⟩
 have hbf:=HB2.out.setCell (p:=⟨w.heap.size,0,none⟩) (zg _) (.pointer (some ⟨c2,0,none⟩))
 have HR:=zd hr
 have HBF:=zd hbf
 clear hr hbf hg2 hal hb2 hsz
 go_wp2_with fail
 generalize w2.setCell ⟨w.heap.size,0,none⟩ (.pointer (some ⟨c2,0,none⟩))=w3 at*
 try rw[zl]
 go_ret
 exact⟨w.heap.size,c2,u2,rfl,HR.out,HBF.out⟩
theorem BE {w:World} {U:Own} {g M:Nat} {s:St} (h:Rep w U g s M):Calls zf 35 #[ptr g] w λ e w'=>∃g2 U2,e=.returned (ptr g2)∧Rep w' U2 g2 s M∧(∀i,U2 i→w.heap.size≤i)∧Below w.heap.size w w':=by
 obtain⟨base,c,u,s',hr,ho,hs,rfl⟩:=h
 refine(Fm hr).mono ?_
 rintro e w' ⟨g2,c2,u2,rfl,hr2,hb⟩
 refine⟨g2,jH g2 c2 u2,rfl,⟨_,c2,u2,s',hr2,ho,hs,rfl⟩,λ i hi=>?_,hb⟩
 have hu:=hr2.car.UQ
 rcases hi with rfl|rfl|h|h
 ·exact hr2.base
 ·obtain⟨ms,G,h1,_⟩:=hr2.car
  exact h1.lt.1
 ·exact(hu.1 i h).1
 ·exact(hu.2 i h).1
end
section
open Go.RowKit
theorem Ok.G9 {s:St} {M:Nat} (ho:Ok s M) (n:Int) {K:Nat} (hK:K≤s.S.size):Ok (VR (qC s n).1 K) M:=by
 have hk:=XN s n
 exact Fk (s:=s) ho hk.1 hk.2.2.2.2.1 hk.2.2.2.1 hk.2.2.2.2.2.1 hk.2.2.2.2.2.2.2.2.2 (jl ho n) hK
theorem Ok.Zw {s:St} {M:Nat} (ho:Ok s M) (hl:s.A.length=s.S.size) (now most:Int):Ok (Zw s now most).1 M:=by
 unfold Go.Proofs.YtfdfgnmgpgkknaaGreat.Zw
 dsimp only
 split
 ·exact ho.look now
 ·refine(ho.look now).G9 _ ?_
  have:=gc.Vj (qc s now).A (qc s now).clock (qC (qc s now) (if most<((gc.qn (qc s now).A (qc s now).clock:Nat):Int)then most else((gc.qn (qc s now).A (qc s now).clock:Nat):Int))).2
  have hl':(qc s now).A.length=(qc s now).S.size:=hl
  omega
theorem Ok.doS {s:St} {M M':Nat} (ho:Ok s M) (hl:s.A.length=s.S.size) (o:Op) (ht:o.t.s.size≤maxLen) (hM:M+o.s.size≤M') (hf:M'≤1000000):Ok (doS s o).1 M':=by
 unfold Go.Proofs.YtfdfgnmgpgkknaaGreat.doS
 by_cases k0:o.kind=0
 ·rw[if_pos k0]
  exact ho.NX o.now hM hf
 rw[if_neg k0]
 by_cases k1:o.kind=1
 ·rw[if_pos k1]
  exact ho.push o.now hM hf
 rw[if_neg k1]
 by_cases k2:o.kind=2
 ·rw[if_pos k2]
  exact(ho.Zw hl o.now o.n).more (by omega) hf
 rw[if_neg k2]
 by_cases k3:o.kind=3
 ·rw[if_pos k3]
  exact(ho.close o.now).more (by omega) hf
 rw[if_neg k3]
 by_cases k4:o.kind=4
 ·rw[if_pos k4]
  exact(ho.look o.now).more (by omega) hf
 rw[if_neg k4]
 by_cases k5:o.kind=5
 ·rw[if_pos k5]
  exact(ho.upd o.t ht o.now).more (by omega) hf
 rw[if_neg k5]
 by_cases k6:o.kind=6
 ·rw[if_pos k6]
  refine(⟨ho.tx,ho.name,ho.clock,⟨ho.passed.1,?_⟩,ho.room,ho.bk,ho.top⟩:Ok (Z1 s).1 M).more (by omega) hf
  have:=ho.passed
  show s.passed+((0:Nat):Int)≤M
  omega
 rw[if_neg k6]
 exact ho.more (by omega) hf
theorem Kf {s:St} (hl:s.A.length=s.S.size) (b:ByteArray):(qG s b).A.length=(qG s b).S.size:=by
 unfold qG
 split
 ·exact hl
 ·split
  ·show(s.A++List.replicate b.size _).length=(s.S++b).size
   rw[List.length_append,List.length_replicate,ByteArray.size_append,hl]
  ·show(s.A++List.replicate b.size _).length=(s.S++b).size
   rw[List.length_append,List.length_replicate,ByteArray.size_append,hl]
theorem GC {s:St} (hl:s.A.length=s.S.size) (o:Op):(doS s o).1.A.length=(doS s o).1.S.size:=by
 unfold doS
 by_cases k0:o.kind=0
 ·rw[if_pos k0]
  unfold qU
  dsimp only
  split
  ·exact hl
  ·exact Kf (s:=qc s o.now) hl _
 rw[if_neg k0]
 by_cases k1:o.kind=1
 ·rw[if_pos k1]
  unfold Zy
  dsimp only
  split
  ·exact hl
  ·exact Kf (s:=qc s o.now) hl _
 rw[if_neg k1]
 by_cases k2:o.kind=2
 ·rw[if_pos k2]
  unfold Zw
  dsimp only
  split
  ·exact hl
  ·have hk:=XN (qc s o.now) (if o.n<((gc.qn (qc s o.now).A (qc s o.now).clock:Nat):Int)then o.n else((gc.qn (qc s o.now).A (qc s o.now).clock:Nat):Int))
   show(List.drop _ (qC _ _).1.A).length=((qC _ _).1.S.extract _ (qC _ _).1.S.size).size
   rw[hk.1,hk.2.1,List.length_drop,ByteArray.size_extract]
   have hl':(qc s o.now).A.length=(qc s o.now).S.size:=hl
   omega
 rw[if_neg k2]
 by_cases k3:o.kind=3
 ·rw[if_pos k3]
  unfold qS
  split<;>exact hl
 rw[if_neg k3]
 by_cases k4:o.kind=4
 ·rw[if_pos k4]
  exact hl
 rw[if_neg k4]
 by_cases k5:o.kind=5
 ·rw[if_pos k5]
  unfold Xg
  (repeat' split)<;>exact hl
 rw[if_neg k5]
 by_cases k6:o.kind=6
 ·rw[if_pos k6]
  rfl
 rw[if_neg k6]
 exact hl
theorem Y1 {w:World} {U:Own} {g:Nat} {s:St} {M:Nat} (h:Rep w U g s M) {i:Nat} {cs:Array Value} {T:TypeId} {fr:Nat×Nat} (hi:w.heap[i]?=some (.cells cs T fr)) (h1:T≠113) (h2:T≠137) (h3:T≠5) (h4:T≠142):¬U i:=by
 obtain⟨base,c,u,s',hr,_,_,rfl⟩:=h
 obtain⟨ms,G,hR,_⟩:=hr.car
 obtain⟨⟨c0,t0⟩,t1,t2⟩:=hR.typed
 rintro(rfl|rfl|e|e)
 ·exact h1 (gc.Zo hi hr.blk)
 ·exact h2 (gc.Zo hi t0)
 ·obtain⟨_,c1,t3⟩:=t1 i e
  exact h3 (gc.Zo hi t3)
 ·obtain⟨_,c1,t3⟩:=t2 i e
  exact h4 (gc.Zo hi t3)
theorem XY {w w':World} {U:Own} {g:Nat} {s:St} {M:Nat} (h:Rep w U g s M) (hb:∀i,U i→w'.heap[i]?=w.heap[i]?):Rep w' U g s M:=by
 obtain⟨base,c,u,s',hr,ho,hs,rfl⟩:=h
 obtain⟨ms,G,h1,h2⟩:=hr.car
 exact⟨base,c,u,s',⟨(hb g (Or.inl rfl)).trans hr.blk,⟨ms,G,h1.keep (hb c (Or.inr (Or.inl rfl))) (λ i e=>hb i (Or.inr (Or.inr (Or.inl e)))) (λ i e=>hb i (Or.inr (Or.inr (Or.inr e)))),h2⟩,hr.base⟩,ho,hs,rfl⟩
end
section
open Go.RowKit
structure Prt where
 s:St
 closed:Bool
def Af:St:=⟨qi,0,⟨0,0,0,0⟩,⟨#[]⟩,[],0,0,0,0,0,0,false,0,0⟩
def Zp:Prt:=⟨Af,false⟩
structure Ch where
 L:List Prt
 room:Int
 lost:Int
 shut:Bool
 state:Int
namespace Ch
def at' (c:Ch) (k:Nat):Prt:=c.L.getD k Zp
def onC (c:Ch) (k:Nat) (o:Op):Ch:={c with L:=c.L.set k ⟨(doS (c.at' k).s o).1,(c.at' k).closed||o.kind==3⟩}
def ql (c:Ch) (k:Nat) (o:Op):Ans:=(doS (c.at' k).s o).2
def JV (now:Int) (b:ByteArray):Op:=⟨0,now,0,b,qi⟩
def qJ (now:Int) (b:ByteArray):Op:=⟨1,now,0,b,qi⟩
def qH (now n:Int):Op:=⟨2,now,n,⟨#[]⟩,qi⟩
def qA (now:Int):Op:=⟨3,now,0,⟨#[]⟩,qi⟩
def qh (now:Int):Op:=⟨4,now,0,⟨#[]⟩,qi⟩
def Ve (now:Int) (t:Tox):Op:=⟨5,now,0,⟨#[]⟩,t⟩
def qv:Op:=⟨6,0,0,⟨#[]⟩,qi⟩
def held (c:Ch):Nat:=(c.L.map λ p=>p.s.S.size).sum
def Vf (room now:Int):Ch:=⟨[⟨Zh qi 0 room now,false⟩,⟨Zh qi 0 room now,false⟩],room,0,false,0⟩
def qg (c:Ch):Nat→Ch
 |0=>c
 |n+1=>let d:=qg c n;{d.onC n qv with lost:=d.lost+(d.ql n qv).s.size}
def Za (c:Ch) (n:Nat):Ch:={c.qg n with shut:=true}
def qX (c:Ch):Ch:=if c.state=1 then c else{c.Za c.L.length with state:=2}
def JN (c:Ch) (a:Int) (t:Tox):Int:=
 if a<0∨(c.L.length:Int) -2<a∨8≤(c.L.length:Int) -2 then 110 else Zx t c.room
def X9 (c:Ch) (k:Nat) (t:Tox) (seed now:Int):Ch:=
 let d:Ch:={c with L:=c.L.take (k+1)++⟨Zh t seed c.room now,false⟩::c.L.drop (k+1)}
 if(d.at' (k+2)).closed=true then d.onC (k+1) (qA now)else d
def qK (c:Ch) (k:Nat):Ch:={c with L:=c.L.take (k+1)++c.L.drop (k+2)}
def XJ (c:Ch) (k:Nat) (now:Int):Ch:=(c.qK k).onC (k+1) (qJ now (c.at' (k+1)).s.S)
def gone (c:Ch) (k:Nat) (now:Int):Int:=((c.at' (k+1)).s.S.size:Int) -((((c.XJ k now).at' (k+1)).s.S.size:Int) -((c.qK k).at' (k+1)).s.S.size)
def Xe (c:Ch) (k:Nat) (now:Int):Ch:=
 if 0<c.gone k now then({c.XJ k now with lost:=c.lost+c.gone k now}:Ch).Za (k+1)else c.XJ k now
def ZW (c:Ch) (k:Nat) (now:Int):Ch:=
 if(c.at' (k+1)).closed=true then(c.Xe k now).onC (k+1) (qA now)else c.Xe k now
def looks (c:Ch) (now:Int):Nat→Ch
 |0=>c
 |n+1=>(c.looks now n).onC n (qh now)
def Vb (c:Ch) (now:Int):Nat→Bool
 |0=>false
 |n+1=>c.Vb now n||decide (((c.looks now n).ql n (qh now)).n=2)
def ZI (c:Ch) (now:Int) (i:Nat):Ch:=
 let d:=c.onC (i+1) (qh now)
 if(c.ql (i+1) (qh now)).n=0 then
  let o:=qH now (Zt (d.at' (i+1)).s)
  (d.onC i o).onC (i+1) (qJ now (d.ql i o).s)
 else d
def Xf (c:Ch) (now:Int):Nat→Ch
 |0=>c
 |n+1=>(c.Xf now n).ZI now n
def Xd (c:Ch) (now:Int) (i:Nat):Ch:=
 let d:=c.onC i (qh now)
 if(c.ql i (qh now)).n=1 then(d.Za (i+1)).onC (i+1) (qA now)else d
def ends (c:Ch) (now:Int):Nat→Ch
 |0=>c
 |n+1=>(c.ends now n).Xd now n
def Zi (c:Ch) (now:Int):Ch:=((c.looks now c.L.length).Xf now (c.L.length -1)).ends now (c.L.length -1)
def ZA (c:Ch) (now:Int):Ch:=
 if c.state≠0 then c
 else if c.Vb now c.L.length=true then(c.looks now c.L.length).qX
 else{(c.Zi now).onC (c.L.length -1) (qh now)with state:=((c.Zi now).ql (c.L.length -1) (qh now)).n}
end Ch
structure COp where
 kind:Int
 now:Int
 n:Int
 s:ByteArray
 t:Tox
 seed:Int
namespace Ch
def doN (c:Ch) (o:COp):Ch:=
 if o.kind=0 then(if c.shut=true∨c.state≠0 then c else c.onC 0 (JV o.now o.s))
 else if o.kind=1 then(if c.state=0 then{c.onC 0 (qA o.now)with shut:=true}else c)
 else if o.kind=2 then c.qX
 else if o.kind=3 then c.ZA o.now
 else if o.kind=4 then(if c.state=2 then c else c.onC (c.L.length -1) (qH o.now o.n))
 else if o.kind=5 then(if c.JN o.n o.t≠0 then c else c.X9 o.n.toNat o.t o.seed o.now)
 else if o.kind=6 then(if 0≤o.n∧o.n<(c.L.length:Int) -2 then c.ZW o.n.toNat o.now else c)
 else if o.kind=7 then(if 0≤o.n∧o.n<(c.L.length:Int) -2 then c.onC (o.n.toNat+1) (Ve o.now o.t)else c)
 else c
def doA (c:Ch) (o:COp):Ans:=
 if o.kind=0 then(if c.shut=true∨c.state≠0 then qT else⟨(c.ql 0 (JV o.now o.s)).n,⟨#[]⟩,0⟩)
 else if o.kind=1 then qT
 else if o.kind=2 then qT
 else if o.kind=3 then⟨(c.ZA o.now).state,⟨#[]⟩,0⟩
 else if o.kind=4 then(if c.state=2 then qT else⟨0,(c.ql (c.L.length -1) (qH o.now o.n)).s,0⟩)
 else if o.kind=5 then⟨0,⟨#[]⟩,c.JN o.n o.t⟩
 else if o.kind=6 then(if 0≤o.n∧o.n<(c.L.length:Int) -2 then qT else⟨0,⟨#[]⟩,110⟩)
 else if o.kind=7 then(if 0≤o.n∧o.n<(c.L.length:Int) -2 then⟨0,⟨#[]⟩,(c.ql (o.n.toNat+1) (Ve o.now o.t)).e⟩else⟨0,⟨#[]⟩,110⟩)
 else qT
@[simp] theorem qk (c:Ch) (k:Nat) (o:Op):(c.onC k o).L.length=c.L.length:=by simp[onC]
@[simp] theorem ZH (c:Ch) (n:Nat):(c.qg n).L.length=c.L.length:=by
 induction n with
 |zero=>rfl
 |succ n ih=>show((c.qg n).onC n qv).L.length=_;rw[qk,ih]
@[simp] theorem ZL (c:Ch) (n:Nat):(c.Za n).L.length=c.L.length:=ZH c n
@[simp] theorem Kg (c:Ch):c.qX.L.length=c.L.length:=by
 unfold qX
 split
 ·rfl
 ·exact ZL c _
@[simp] theorem qy (c:Ch) (now:Int) (n:Nat):(c.looks now n).L.length=c.L.length:=by
 induction n with
 |zero=>rfl
 |succ n ih=>show((c.looks now n).onC n _).L.length=_;rw[qk,ih]
@[simp] theorem Qb (c:Ch) (now:Int) (n:Nat):(c.ZI now n).L.length=c.L.length:=by
 unfold ZI
 dsimp only
 split<;>simp only[qk]
@[simp] theorem ZS (c:Ch) (now:Int) (n:Nat):(c.Xf now n).L.length=c.L.length:=by
 induction n with
 |zero=>rfl
 |succ n ih=>show((c.Xf now n).ZI now n).L.length=_;rw[Qb,ih]
@[simp] theorem P8 (c:Ch) (now:Int) (n:Nat):(c.Xd now n).L.length=c.L.length:=by
 unfold Xd
 dsimp only
 split<;>simp only[qk,ZL]
@[simp] theorem XV (c:Ch) (now:Int) (n:Nat):(c.ends now n).L.length=c.L.length:=by
 induction n with
 |zero=>rfl
 |succ n ih=>show((c.ends now n).Xd now n).L.length=_;rw[P8,ih]
theorem Gz (c:Ch) (now:Int):(c.ZA now).L.length=c.L.length:=by
 unfold ZA
 split
 ·rfl
 ·split
  ·rw[Kg,qy]
  ·show((c.Zi now).onC _ _).L.length=_
   rw[qk]
   unfold Zi
   rw[XV,ZS,qy]
theorem EE (c:Ch) (k:Nat) (t:Tox) (seed now:Int) (h:k+2≤c.L.length):(c.X9 k t seed now).L.length=c.L.length+1:=by
 unfold X9
 dsimp only
 split
 ·rw[qk];simp;omega
 ·simp;omega
theorem Xm (c:Ch) (k:Nat) (h:k+3≤c.L.length):(c.qK k).L.length+1=c.L.length:=by
 unfold qK
 simp
 omega
theorem ED (c:Ch) (k:Nat) (now:Int) (h:k+3≤c.L.length):(c.ZW k now).L.length+1=c.L.length:=by
 have h1:=Xm c k h
 have h3:(c.Xe k now).L.length=(c.qK k).L.length:=by
  unfold Xe
  split
  ·rw[ZL];exact qk _ _ _
  ·exact qk _ _ _
 unfold ZW
 split
 ·rw[qk,h3];exact h1
 ·rw[h3];exact h1
theorem EF (c:Ch) (o:COp) (h:2≤c.L.length∧c.L.length≤10):2≤(c.doN o).L.length∧(c.doN o).L.length≤10:=by
 unfold doN
 split
 ·split
  ·exact h
  ·rw[qk];exact h
 split
 ·split
  ·show 2≤(c.onC 0 _).L.length∧(c.onC 0 _).L.length≤10
   rw[qk];exact h
  ·exact h
 split
 ·rw[Kg];exact h
 split
 ·rw[Gz];exact h
 split
 ·split
  ·exact h
  ·rw[qk];exact h
 split
 ·split
  ·exact h
  ·rename_i _ _ _ _ _ _ he
   have hb:¬(o.n<0∨(c.L.length:Int) -2<o.n∨8≤(c.L.length:Int) -2):=λ hb=>he (by unfold JN;rw[if_pos hb];decide)
   rw[EE _ _ _ _ _ (by omega)]
   omega
 split
 ·split
  ·have:=ED c o.n.toNat o.now (by omega)
   omega
  ·exact h
 split
 ·split
  ·rw[qk];exact h
  ·exact h
 ·exact h
end Ch
open Go.RowKit
namespace Ch
theorem No (l:List Nat) (k x:Nat) (h:k<l.length):(l.set k x).sum+l.getD k 0=l.sum+x:=by
 induction l generalizing k with
 |nil=>cases h
 |cons a r ih=>
  cases k with
  |zero=>simp[List.getD];omega
  |succ k=>
   have:=ih k (by simpa using h)
   simp only[zp,List.sum_cons,List.getD_cons_succ]
   omega
theorem jj (l:List Prt) (k:Nat) (p:Prt) (h:k<l.length):((l.set k p).map λ p=>p.s.S.size).sum+(l.getD k Zp).s.S.size=(l.map λ p=>p.s.S.size).sum+p.s.S.size:=by
 have h1:=No (l.map λ p=>p.s.S.size) k p.s.S.size (by simpa using h)
 rw[←List.map_set]at h1
 have h2:(l.map λ p=>p.s.S.size).getD k 0=(l.getD k Zp).s.S.size:=by
  rw[zi,zi,List.getElem?_map,zj h]
  rfl
 rw[h2]at h1
 exact h1
theorem Y6 (c:Ch) (k:Nat) (o:Op) (h:k<c.L.length):(c.onC k o).held+(c.at' k).s.S.size=c.held+(doS (c.at' k).s o).1.S.size:=jj c.L k _ h
theorem XB (c:Ch) (k:Nat) (o:Op) (h:k<c.L.length):(c.onC k o).at' k=⟨(doS (c.at' k).s o).1,(c.at' k).closed||o.kind==3⟩:=by
 unfold onC at'
 simp[zi,List.getElem?_set_self h]
theorem Zd (c:Ch) (k i:Nat) (o:Op) (h:k≠i):(c.onC k o).at' i=c.at' i:=by
 unfold onC at'
 simp[zi,List.getElem?_set_ne h]
theorem MX (s:St) (now:Int) (b:ByteArray):((doS s (JV now b)).1.S.size:Int)=s.S.size+(doS s (JV now b)).2.n:=by
 show(((qU s now b).1.S.size:Nat):Int)=s.S.size+(qU s now b).2
 have h:=QK s now b
 rw[Dd,ByteArray.size_append,ByteArray.size_extract]
 omega
theorem Jc (s:St) (now:Int) (b:ByteArray):(doS s (qJ now b)).1.S.size=s.S.size+if(qc s now).st=0 then b.size else 0:=by
 show(Zy s now b).S.size=_
 rw[Bf,ByteArray.size_append]
 split<;>rfl
theorem JU (s:St) (now n:Int):(doS s (qH now n)).1.S.size+(doS s (qH now n)).2.s.size=s.S.size:=by
 show(Zw s now n).1.S.size+(Zw s now n).2.size=_
 have h:=congrArg ByteArray.size (DZ s now n)
 rw[ByteArray.size_append]at h
 omega
theorem Ug (s:St) (now:Int):(doS s (qA now)).1.S.size=s.S.size:=by
 show(qS s now).S.size=_
 rw[UJ]
theorem FV (s:St) (now:Int):(doS s (qh now)).1.S.size=s.S.size:=rfl
theorem QP (s:St) (now:Int) (t:Tox):(doS s (Ve now t)).1.S.size=s.S.size:=by
 show(Xg s t now).1.S.size=_
 rw[Dp]
theorem Uf (s:St):(doS s qv).1.S.size=0∧(doS s qv).2.s.size=s.S.size:=⟨rfl,rfl⟩
def bal (c:Ch):Int:=c.held+c.lost
theorem jA (c:Ch) (k:Nat) (o:Op) (h:k<c.L.length) (ho:(doS (c.at' k).s o).1.S.size=(c.at' k).s.S.size):(c.onC k o).bal=c.bal:=by
 have:=Y6 c k o h
 unfold bal
 show((c.onC k o).held:Int)+c.lost=_
 omega
theorem YX (c:Ch) (k:Nat) (now:Int) (h:k<c.L.length):(c.onC k (qA now)).bal=c.bal:=jA c k _ h (Ug _ _)
theorem YW (c:Ch) (k:Nat) (now:Int) (h:k<c.L.length):(c.onC k (qh now)).bal=c.bal:=jA c k _ h (FV _ _)
theorem Kv (c:Ch) (n:Nat) (h:n≤c.L.length):(c.qg n).bal=c.bal:=by
 induction n with
 |zero=>rfl
 |succ n ih=>
  have h1:=ih (by omega)
  have h2:=Y6 (c.qg n) n qv (by rw[ZH];omega)
  have h3:=Uf ((c.qg n).at' n).s
  rw[←h1]
  show(((c.qg n).onC n qv).held:Int)+((c.qg n).lost+((c.qg n).ql n qv).s.size)=(c.qg n).held+(c.qg n).lost
  unfold ql
  omega
theorem Vv (c:Ch) (n:Nat) (h:n≤c.L.length):(c.Za n).bal=c.bal:=Kv c n h
theorem Kw (c:Ch):c.qX.bal=c.bal:=by
 unfold qX
 split
 ·rfl
 ·exact Vv c _ (zg _)
theorem Qh (c:Ch) (now:Int) (n:Nat) (h:n≤c.L.length):(c.looks now n).bal=c.bal:=by
 induction n with
 |zero=>rfl
 |succ n ih=>
  rw[←ih (by omega)]
  exact YW _ _ _ (by rw[qy];omega)
theorem LF (c:Ch) (now:Int) (i:Nat) (h:i+1<c.L.length):(c.ZI now i).bal=c.bal:=by
 unfold ZI
 dsimp only
 have hb:=YW c (i+1) now h
 split
 ·rename_i hn
  have hn:(qc (c.at' (i+1)).s now).st=0:=hn
  generalize hd:c.onC (i+1) (qh now)=d at*
  have hl:d.L.length=c.L.length:=by rw[←hd,qk]
  have ha:(d.at' (i+1)).s=qc (c.at' (i+1)).s now:=by rw[←hd,XB c _ _ h];rfl
  generalize Zt (d.at' (i+1)).s=m at*
  have h1:=Y6 d i (qH now m) (by omega)
  have h4:(d.onC i (qH now m)).at' (i+1)=d.at' (i+1):=Zd d i (i+1) _ (by omega)
  have h2:=Y6 (d.onC i (qH now m)) (i+1) (qJ now (d.ql i (qH now m)).s) (by rw[qk];omega)
  rw[h4]at h2
  have h5:=Jc (d.at' (i+1)).s now (d.ql i (qH now m)).s
  rw[if_pos (by rw[ha,VM];exact hn)]at h5
  have h6:=JU (d.at' i).s now m
  rw[←hb]
  show(((d.onC i (qH now m)).onC (i+1) (qJ now (d.ql i (qH now m)).s)).held:Int)+d.lost=d.held+d.lost
  unfold ql at*
  omega
 ·exact hb
theorem MN (c:Ch) (now:Int) (n:Nat) (h:n<c.L.length):(c.Xf now n).bal=c.bal:=by
 induction n with
 |zero=>rfl
 |succ n ih=>
  rw[←ih (by omega)]
  exact LF _ _ _ (by rw[ZS];exact h)
theorem LG (c:Ch) (now:Int) (i:Nat) (h:i+1<c.L.length):(c.Xd now i).bal=c.bal:=by
 unfold Xd
 dsimp only
 split
 ·rw[YX _ _ _ (by rw[ZL,qk];exact h),Vv _ _ (by rw[qk];omega),YW _ _ _ (by omega)]
 ·exact YW _ _ _ (by omega)
theorem MO (c:Ch) (now:Int) (n:Nat) (h:n<c.L.length):(c.ends now n).bal=c.bal:=by
 induction n with
 |zero=>rfl
 |succ n ih=>
  rw[←ih (by omega)]
  exact LG _ _ _ (by rw[XV];exact h)
theorem Fz (c:Ch) (now:Int) (h:2≤c.L.length):(c.ZA now).bal=c.bal:=by
 unfold ZA
 split
 ·rfl
 ·split
  ·rw[Kw,Qh _ _ _ (zg _)]
  ·have hl:(c.Zi now).L.length=c.L.length:=by unfold Zi;rw[XV,ZS,qy]
   have h1:=YW (c.Zi now) (c.L.length -1) now (by rw[hl];omega)
   show((c.Zi now).onC (c.L.length -1) (qh now)).bal=_
   rw[h1]
   unfold Zi
   rw[MO _ _ _ (by rw[ZS,qy];omega),MN _ _ _ (by rw[qy];omega),Qh _ _ _ (zg _)]
theorem Df (c:Ch) (k:Nat) (t:Tox) (seed now:Int) (h:k+2≤c.L.length):(c.X9 k t seed now).bal=c.bal:=by
 have h0:(({c with L:=c.L.take (k+1)++⟨Zh t seed c.room now,false⟩::c.L.drop (k+1)}:Ch)).bal=c.bal:=by
  unfold bal held
  have:((c.L.take (k+1)).map λ p=>p.s.S.size).sum+((c.L.drop (k+1)).map λ p=>p.s.S.size).sum=(c.L.map λ p=>p.s.S.size).sum:=by
   rw[←List.sum_append,←List.map_append,List.take_append_drop]
  simp only[List.map_append,List.map_cons,List.sum_append,List.sum_cons]
  have hz:(Zh t seed c.room now).S.size=0:=rfl
  rw[hz]
  omega
 unfold X9
 dsimp only
 split
 ·rw[YX _ _ _ (by simp;omega)]
  exact h0
 ·exact h0
theorem Ln (c:Ch) (k:Nat) (h:k+3≤c.L.length):(c.qK k).held+(c.at' (k+1)).s.S.size=c.held:=by
 have h1:c.L.drop (k+1)=c.at' (k+1)::c.L.drop (k+2):=by
  rw[List.drop_eq_getElem_cons (by omega)]
  unfold at'
  rw[zi,zj (by omega)]
  rfl
 have h2:((c.L.take (k+1)).map λ p=>p.s.S.size).sum+((c.L.drop (k+1)).map λ p=>p.s.S.size).sum=(c.L.map λ p=>p.s.S.size).sum:=by
  rw[←List.sum_append,←List.map_append,List.take_append_drop]
 rw[h1]at h2
 unfold held qK
 simp only[List.map_append,List.map_cons,List.sum_append,List.sum_cons]at*
 omega
theorem NZ (c:Ch) (k:Nat) (now:Int) (h:k+3≤c.L.length):(c.ZW k now).bal=c.bal:=by
 have hl:=Xm c k h
 have h1:=Ln c k h
 have h2:=Y6 (c.qK k) (k+1) (qJ now (c.at' (k+1)).s.S) (by omega)
 have h3:=XB (c.qK k) (k+1) (qJ now (c.at' (k+1)).s.S) (by omega)
 have h4:=Jc ((c.qK k).at' (k+1)).s now (c.at' (k+1)).s.S
 have hg:c.gone k now=((c.at' (k+1)).s.S.size:Int) -(if(qc ((c.qK k).at' (k+1)).s now).st=0 then(c.at' (k+1)).s.S.size else 0:Nat):=by
  unfold gone XJ
  rw[h3,h4]
  omega
 have h5:(c.Xe k now).bal=c.bal:=by
  unfold Xe
  split
  ·rw[Vv _ _ (by show k+1≤((c.qK k).onC _ _).L.length;rw[qk];omega)]
   show(((c.qK k).onC (k+1) (qJ now (c.at' (k+1)).s.S)).held:Int)+(c.lost+c.gone k now)=c.held+c.lost
   omega
  ·show(((c.qK k).onC (k+1) (qJ now (c.at' (k+1)).s.S)).held:Int)+c.lost=c.held+c.lost
   split at h4<;>rename_i hc
   ·omega
   ·rw[if_neg hc]at hg
    omega
 unfold ZW
 split
 ·rw[YX _ _ _ (by
   have:(c.Xe k now).L.length=(c.qK k).L.length:=by
    unfold Xe
    split
    ·rw[ZL];exact qk _ _ _
    ·exact qk _ _ _
   omega)]
  exact h5
 ·exact h5
theorem XQ (x:Int):x+((⟨#[]⟩:ByteArray).size:Int)=x+0:=rfl
theorem BK (c:Ch) (o:COp) (h:2≤c.L.length∧c.L.length≤10):(c.doN o).bal+(c.doA o).s.size=c.bal+if o.kind=0 then(c.doA o).n else 0:=by
 unfold doN doA
 by_cases k0:o.kind=0
 ·rw[if_pos k0,if_pos k0,if_pos k0]
  split
  ·exact XQ _
  ·have h1:=Y6 c 0 (JV o.now o.s) (by omega)
   have h2:=MX (c.at' 0).s o.now o.s
   show(((c.onC 0 (JV o.now o.s)).held:Int)+c.lost)+((0:Nat):Int)=c.held+c.lost+_
   unfold ql
   simp only
   omega
 rw[if_neg k0,if_neg k0,if_neg k0]
 by_cases k1:o.kind=1
 ·rw[if_pos k1,if_pos k1]
  split
  ·have:=YX c 0 o.now (by omega)
   show(c.onC 0 (qA o.now)).bal+_=_
   rw[this]
   exact XQ _
  ·exact XQ _
 rw[if_neg k1,if_neg k1]
 by_cases k2:o.kind=2
 ·rw[if_pos k2,if_pos k2,Kw]
  exact XQ _
 rw[if_neg k2,if_neg k2]
 by_cases k3:o.kind=3
 ·rw[if_pos k3,if_pos k3,Fz _ _ h.1]
  exact XQ _
 rw[if_neg k3,if_neg k3]
 by_cases k4:o.kind=4
 ·rw[if_pos k4,if_pos k4]
  split
  ·exact XQ _
  ·have h1:=Y6 c (c.L.length -1) (qH o.now o.n) (by omega)
   have h2:=JU (c.at' (c.L.length -1)).s o.now o.n
   show(((c.onC (c.L.length -1) (qH o.now o.n)).held:Int)+c.lost)+_=c.held+c.lost+0
   unfold ql
   simp only
   omega
 rw[if_neg k4,if_neg k4]
 by_cases k5:o.kind=5
 ·rw[if_pos k5,if_pos k5]
  split
  ·exact XQ _
  ·rename_i he
   have hb:¬(o.n<0∨(c.L.length:Int) -2<o.n∨8≤(c.L.length:Int) -2):=λ hb=>he (by unfold JN;rw[if_pos hb];decide)
   rw[Df _ _ _ _ _ (by omega)]
   exact XQ _
 rw[if_neg k5,if_neg k5]
 by_cases k6:o.kind=6
 ·rw[if_pos k6,if_pos k6]
  split
  ·rw[NZ _ _ _ (by omega)]
   exact XQ _
  ·exact XQ _
 rw[if_neg k6,if_neg k6]
 by_cases k7:o.kind=7
 ·rw[if_pos k7,if_pos k7]
  split
  ·rw[jA _ _ _ (by omega) (QP _ _ _)]
   exact XQ _
  ·exact XQ _
 rw[if_neg k7,if_neg k7]
 exact XQ _
end Ch
open Go.RowKit
namespace Ch
theorem Yb (c:Ch) (n:Nat):c.lost≤(c.qg n).lost:=by
 induction n with
 |zero=>exact Int.le_refl _
 |succ n ih=>
  show c.lost≤(c.qg n).lost+(((c.qg n).ql n qv).s.size:Nat)
  omega
theorem Q9 (c:Ch):c.lost≤c.qX.lost:=by
 unfold qX
 split
 ·exact Int.le_refl _
 ·exact Yb c _
theorem Jo (c:Ch) (now:Int) (n:Nat):(c.looks now n).lost=c.lost:=by
 induction n with
 |zero=>rfl
 |succ n ih=>exact ih
theorem SL (c:Ch) (now:Int) (i:Nat):(c.ZI now i).lost=c.lost:=by
 unfold ZI
 dsimp only
 split<;>rfl
theorem U7 (c:Ch) (now:Int) (n:Nat):(c.Xf now n).lost=c.lost:=by
 induction n with
 |zero=>rfl
 |succ n ih=>exact(SL _ _ _).trans ih
theorem SM (c:Ch) (now:Int) (i:Nat):c.lost≤(c.Xd now i).lost:=by
 unfold Xd
 dsimp only
 split
 ·exact Yb (c.onC i (qh now)) (i+1)
 ·exact Int.le_refl _
theorem Kd (c:Ch) (now:Int) (n:Nat):c.lost≤(c.ends now n).lost:=by
 induction n with
 |zero=>exact Int.le_refl _
 |succ n ih=>exact Int.le_trans ih (SM _ _ _)
theorem P4 (c:Ch) (now:Int):c.lost≤(c.ZA now).lost:=by
 unfold ZA
 split
 ·exact Int.le_refl _
 ·split
  ·have:=Q9 (c.looks now c.L.length)
   rw[Jo]at this
   exact this
  ·show c.lost≤(c.Zi now).lost
   unfold Zi
   have:=Kd ((c.looks now c.L.length).Xf now (c.L.length -1)) now (c.L.length -1)
   rw[U7,Jo]at this
   exact this
theorem Me (c:Ch) (k:Nat) (t:Tox) (seed now:Int):(c.X9 k t seed now).lost=c.lost:=by
 unfold X9
 dsimp only
 split<;>rfl
theorem Gt (c:Ch) (k:Nat) (now:Int):c.lost≤(c.ZW k now).lost:=by
 have h:c.lost≤(c.Xe k now).lost:=by
  unfold Xe
  split
  ·have:=Yb ({c.XJ k now with lost:=c.lost+c.gone k now}:Ch) (k+1)
   have h2:({c.XJ k now with lost:=c.lost+c.gone k now}:Ch).lost=c.lost+c.gone k now:=rfl
   show c.lost≤(({c.XJ k now with lost:=c.lost+c.gone k now}:Ch).qg (k+1)).lost
   omega
  ·exact Int.le_refl _
 unfold ZW
 split<;>exact h
theorem EC (c:Ch) (o:COp):c.lost≤(c.doN o).lost:=by
 unfold doN
 split
 ·split<;>exact Int.le_refl _
 split
 ·split<;>exact Int.le_refl _
 split
 ·exact Q9 c
 split
 ·exact P4 c _
 split
 ·split<;>exact Int.le_refl _
 split
 ·split
  ·exact Int.le_refl _
  ·rw[Me];exact Int.le_refl _
 split
 ·split
  ·exact Gt c _ _
  ·exact Int.le_refl _
 split
 ·split<;>exact Int.le_refl _
 ·exact Int.le_refl _
theorem Qp (c:Ch) (n:Nat):(c.qg n).state=c.state:=by
 induction n with
 |zero=>rfl
 |succ n ih=>exact ih
theorem Ph (c:Ch) (k:Nat) (now:Int):(c.ZW k now).state=c.state:=by
 have h:(c.Xe k now).state=c.state:=by
  unfold Xe
  split
  ·exact Qp _ _
  ·rfl
 unfold ZW
 split<;>exact h
theorem Pj (c:Ch) (k:Nat) (t:Tox) (seed now:Int):(c.X9 k t seed now).state=c.state:=by
 unfold X9
 dsimp only
 split<;>rfl
theorem Jf (c:Ch) (n:Nat) (h:n≤c.L.length):∀i,i<n→((c.qg n).at' i).s.S.size=0:=by
 induction n with
 |zero=>intro i hi;cases hi
 |succ n ih=>
  intro i hi
  show(((c.qg n).onC n qv).at' i).s.S.size=0
  by_cases e:n=i
  ·subst e
   rw[XB _ _ _ (by rw[ZH];omega)]
   rfl
  ·rw[Zd _ _ _ _ e]
   exact ih (by omega) i (by omega)
theorem QQ (l:List Prt) (h:∀i,i<l.length→(l.getD i Zp).s.S.size=0):(l.map λ p=>p.s.S.size).sum=0:=by
 induction l with
 |nil=>rfl
 |cons p r ih=>
  have h0:=h 0 (by simp)
  have h1:=ih (λ i hi=>by
   have:=h (i+1) (by simpa using hi)
   rwa[List.getD_cons_succ]at this)
  simp only[List.getD_cons_zero]at h0
  simp only[List.map_cons,List.sum_cons]
  omega
theorem SY (c:Ch) (h:c.state≠1):c.qX.held=0∧c.qX.state=2∧c.qX.shut=true:=by
 unfold qX
 rw[if_neg h]
 refine⟨QQ _ λ i hi=>?_,rfl,rfl⟩
 have hi':i<c.L.length:=by
  have:(c.qg c.L.length).L.length=c.L.length:=ZH _ _
  have hh:i<(c.qg c.L.length).L.length:=hi
  omega
 exact Jf c c.L.length (zg _) i hi'
end Ch
open Go.RowKit
namespace Ch
def pre (c:Ch) (k:Nat):Nat:=((c.L.take (k+1)).map λ p=>p.s.S.size).sum
theorem Bg (c:Ch) (k i:Nat) (o:Op) (h:i<k):(c.onC k o).pre i=c.pre i:=by
 unfold pre onC
 simp only
 rw[List.take_set_of_le (by omega)]
theorem KO (c:Ch) (k i:Nat) (o:Op) (h:k≤i) (hk:k<c.L.length):(c.onC k o).pre i+(c.at' k).s.S.size=c.pre i+(doS (c.at' k).s o).1.S.size:=by
 unfold pre onC
 simp only
 rw[List.take_set]
 have h1:=jj (c.L.take (i+1)) k ⟨(doS (c.at' k).s o).1,(c.at' k).closed||o.kind==3⟩ (by rw[zw];omega)
 have h2:(c.L.take (i+1)).getD k Zp=c.at' k:=by
  unfold at'
  rw[zi,zi,List.getElem?_take_of_lt (by omega)]
 rw[h2]at h1
 exact h1
structure Fine (c:Ch) (M:Nat):Prop where
 len:2≤c.L.length∧c.L.length≤10
 top:M≤400000
 ok:∀k,k<c.L.length→Ok (c.at' k).s M∧(c.at' k).s.A.length=(c.at' k).s.S.size
 pre:∀k,k<c.L.length→(c.at' k).s.passed+c.pre k≤M
theorem Xq (c:Ch) (k:Nat) (h:k<c.L.length):(c.at' k).s.S.size≤c.pre k:=by
 have h1:=KO c k k ⟨9,0,0,⟨#[]⟩,qi⟩ (zg _) h
 have h2:=No ((c.L.take (k+1)).map λ p=>p.s.S.size) k 0 (by rw[List.length_map,zw];omega)
 have h3:((c.L.take (k+1)).map λ p=>p.s.S.size).getD k 0=(c.at' k).s.S.size:=by
  unfold at'
  rw[zi,zi,List.getElem?_map,List.getElem?_take_of_lt (by omega),zj h]
  rfl
 rw[h3]at h2
 show _≤((c.L.take (k+1)).map λ p=>p.s.S.size).sum
 omega
theorem Tg {c:Ch} {M M':Nat} (hc:Fine c M) (k:Nat) (hk:k<c.L.length) (o:Op) (d:Nat) (ht:o.t.s.size≤maxLen) (hf:M'≤400000) (hM:M≤M') (ho:M+o.s.size≤1000000)
  (h1:(doS (c.at' k).s o).1.passed+(doS (c.at' k).s o).1.S.size≤(c.at' k).s.passed+(c.at' k).s.S.size+d) (h2:(doS (c.at' k).s o).1.S.size≤(c.at' k).s.S.size+d)
  (hd:∀j,k≤j→j<c.L.length→(c.at' j).s.passed+c.pre j+d≤M'):Fine (c.onC k o) M':=by
 have hpre:∀j,j<c.L.length→((c.onC k o).at' j).s.passed+(c.onC k o).pre j≤M':=λ j hj=>by
  by_cases e:k=j
  ·subst e
   rw[XB _ _ _ hk]
   have e1:=KO c k k o (zg _) hk
   have e2:=hd k (zg _) hk
   show(doS (c.at' k).s o).1.passed+_≤_
   omega
  ·rw[Zd _ _ _ _ e]
   by_cases l:j<k
   ·rw[Bg _ _ _ _ l]
    have:=hc.pre j hj
    omega
   ·have e1:=KO c k j o (by omega) hk
    have e2:=hd j (by omega) hj
    omega
 refine⟨by rw[qk];exact hc.len,hf,λ j hj=>?_,λ j hj=>hpre j (by rwa[qk]at hj)⟩
 rw[qk]at hj
 have hb:=hpre j hj
 have hs:=Xq (c.onC k o) j (by rw[qk];exact hj)
 by_cases e:k=j
 ·subst e
  rw[XB _ _ _ hk]at*
  have hok:=(hc.ok k hk).1.doS (hc.ok k hk).2 o ht (zg _) ho
  exact⟨⟨hok.tx,hok.name,hok.clock,⟨hok.passed.1,by
   show(doS (c.at' k).s o).1.passed+((doS (c.at' k).s o).1.S.size:Int)≤M'
   have hs':(doS (c.at' k).s o).1.S.size≤(c.onC k o).pre k:=hs
   have hb':(doS (c.at' k).s o).1.passed+((c.onC k o).pre k:Int)≤M':=hb
   omega⟩,hok.room,hok.bk,by omega⟩,GC (hc.ok k hk).2 o⟩
 ·rw[Zd _ _ _ _ e]
  exact⟨(hc.ok j hj).1.more hM (by omega),(hc.ok j hj).2⟩
theorem jZ (s:St) (now:Int):(doS s (qA now)).1.passed=s.passed∧(doS s (qh now)).1.passed=s.passed∧(doS s qv).1.passed=s.passed:=by
 refine⟨?_,rfl,rfl⟩
 show(qS s now).passed=_
 unfold qS
 split<;>rfl
theorem TZ (s:St) (now n:Int) (hl:s.A.length=s.S.size):(doS s (qH now n)).1.passed+(doS s (qH now n)).1.S.size=s.passed+s.S.size∧(doS s (qH now n)).1.S.size≤s.S.size:=by
 have h:=JU s now n
 refine⟨?_,by omega⟩
 show(Zw s now n).1.passed+((Zw s now n).1.S.size:Int)=_
 unfold Zw
 dsimp only
 split
 ·rfl
 ·generalize hm:(if n<((gc.qn (qc s now).A (qc s now).clock:Nat):Int)then n else((gc.qn (qc s now).A (qc s now).clock:Nat):Int))=m
  have hk:=XN (qc s now) m
  have hK:=gc.Vj (qc s now).A (qc s now).clock (qC (qc s now) m).2
  have hl':(qc s now).A.length=(qc s now).S.size:=hl
  show(qC (qc s now) m).1.passed+((gc.Zz (qc s now).A (qc s now).clock (qC (qc s now) m).2:Nat):Int)+(((qC (qc s now) m).1.S.extract _ (qC (qc s now) m).1.S.size).size:Int)=_
  rw[hk.1,hk.2.2.2.2.2.1,ByteArray.size_extract]
  have e1:(qc s now).S=s.S:=rfl
  have e2:(qc s now).passed=s.passed:=rfl
  rw[e1,e2]
  rw[e1]at hl'
  omega
end Ch
open Go.RowKit
namespace Ch
theorem Fine.same {c c':Ch} {M:Nat} (h:Fine c M) (e:c'.L=c.L):Fine c' M:=by
 have ha:∀k,c'.at' k=c.at' k:=λ k=>by unfold at';rw[e]
 have hp:∀k,c'.pre k=c.pre k:=λ k=>by unfold Ch.pre;rw[e]
 exact⟨by rw[e];exact h.len,h.top,λ k hk=>by rw[ha];exact h.ok k (by rwa[e]at hk),λ k hk=>by rw[ha,hp];exact h.pre k (by rwa[e]at hk)⟩
theorem Fine.EW {c:Ch} {M:Nat} (h:Fine c M):c.held≤M:=by
 have h1:=h.len
 have h2:=h.pre (c.L.length -1) (by omega)
 have h3:=(h.ok (c.L.length -1) (by omega)).1.passed
 have h4:c.pre (c.L.length -1)=c.held:=by
  unfold Ch.pre held
  rw[List.take_of_length_le (by omega)]
 omega
theorem JW:qi.s.size≤maxLen:=by decide
section
variable {c:Ch} {M:Nat}
theorem Fine.mono {M':Nat} (h:Fine c M) (hM:M≤M') (hf:M'≤400000):Fine c M':=
 ⟨h.len,hf,λ k hk=>⟨(h.ok k hk).1.more hM (by omega),(h.ok k hk).2⟩,λ k hk=>by have:=h.pre k hk;omega⟩
theorem Fine.still (h:Fine c M) (k:Nat) (hk:k<c.L.length) (o:Op) (ht:o.t.s.size≤maxLen) (ho:o.s.size=0)
  (h1:(doS (c.at' k).s o).1.passed+(doS (c.at' k).s o).1.S.size≤(c.at' k).s.passed+(c.at' k).s.S.size) (h2:(doS (c.at' k).s o).1.S.size≤(c.at' k).s.S.size):Fine (c.onC k o) M:=
 Tg h k hk o 0 ht h.top (zg _) (by have:=h.top;omega) (by omega) (by omega) (λ j _ hj=>by have:=h.pre j hj;omega)
theorem Fine.close (h:Fine c M) (k:Nat) (hk:k<c.L.length) (now:Int):Fine (c.onC k (qA now)) M:=
 h.still k hk _ JW rfl (by rw[(jZ _ now).1,Ug];exact Int.le_refl _) (by rw[Ug];exact zg _)
theorem Fine.look (h:Fine c M) (k:Nat) (hk:k<c.L.length) (now:Int):Fine (c.onC k (qh now)) M:=
 h.still k hk _ JW rfl (Int.le_refl _) (zg _)
theorem Fine.drain (h:Fine c M) (k:Nat) (hk:k<c.L.length):Fine (c.onC k qv) M:=
 h.still k hk _ JW rfl (by rw[(jZ _ 0).2.2,(Uf _).1];omega) (by rw[(Uf _).1];exact Nat.zero_le _)
theorem Fine.take (h:Fine c M) (k:Nat) (hk:k<c.L.length) (now n:Int):Fine (c.onC k (qH now n)) M:=
 have e:=TZ (c.at' k).s now n (h.ok k hk).2
 h.still k hk _ JW rfl (by rw[e.1];exact Int.le_refl _) e.2
theorem MU (s:St) (t:Tox) (now:Int):(Xg s t now).1.passed=s.passed:=by
 unfold Xg
 (repeat' split)<;>rfl
theorem Fine.upd (h:Fine c M) (k:Nat) (hk:k<c.L.length) (now:Int) (t:Tox) (ht:t.s.size≤maxLen):Fine (c.onC k (Ve now t)) M:=
 h.still k hk _ ht rfl (by rw[QP];show(Xg (c.at' k).s t now).1.passed+_≤_;rw[MU];exact Int.le_refl _) (by rw[QP];exact zg _)
theorem Fine.qg (h:Fine c M) (n:Nat) (hn:n≤c.L.length):Fine (c.qg n) M:=by
 induction n with
 |zero=>exact h
 |succ n ih=>exact((ih (by omega)).drain n (by rw[ZH];omega)).same rfl
theorem Fine.Za (h:Fine c M) (n:Nat) (hn:n≤c.L.length):Fine (c.Za n) M:=(h.qg n hn).same rfl
theorem Fine.break (h:Fine c M):Fine c.qX M:=by
 unfold qX
 split
 ·exact h
 ·exact(h.Za _ (zg _)).same rfl
theorem Fine.looks (h:Fine c M) (now:Int) (n:Nat) (hn:n≤c.L.length):Fine (c.looks now n) M:=by
 induction n with
 |zero=>exact h
 |succ n ih=>exact(ih (by omega)).look n (by rw[qy];omega) now
theorem UC (s:St) (b:ByteArray):(qG s b).passed=s.passed:=by
 unfold qG
 split
 ·rfl
 ·split<;>rfl
theorem TY (s:St) (now:Int) (b:ByteArray):(Zy s now b).passed=s.passed:=by
 unfold Zy
 dsimp only
 split
 ·rfl
 ·exact UC _ _
theorem Tl (s:St) (now:Int) (b:ByteArray):(qU s now b).1.passed=s.passed:=by
 unfold qU
 dsimp only
 split
 ·rfl
 ·exact UC _ _
theorem Fine.push (h:Fine c M) (k:Nat) (hk:k<c.L.length) (now:Int) (b:ByteArray) (hb:b.size≤400000) (hd:∀j,k≤j→j<c.L.length→(c.at' j).s.passed+c.pre j+b.size≤M):Fine (c.onC k (qJ now b)) M:=by
 have e:=Jc (c.at' k).s now b
 have e2:(doS (c.at' k).s (qJ now b)).1.passed=(c.at' k).s.passed:=TY _ _ _
 have e3:(doS (c.at' k).s (qJ now b)).1.S.size≤(c.at' k).s.S.size+b.size:=by rw[e];split<;>omega
 exact Tg h k hk _ b.size JW h.top (zg _) (by have:=h.top;show M+b.size≤_;omega) (by omega) e3 hd
theorem Fine.put (h:Fine c M) (now:Int) (b:ByteArray) (hb:M+b.size≤400000):Fine (c.onC 0 (JV now b)) (M+b.size):=by
 have h0:=h.len
 have e:=MX (c.at' 0).s now b
 have e1:=kh (c.at' 0).s (JV now b) rfl
 have e2:(doS (c.at' 0).s (JV now b)).1.passed=(c.at' 0).s.passed:=Tl _ _ _
 have e4:(JV now b).s.size=b.size:=rfl
 exact Tg h 0 (by omega) _ b.size JW hb (by omega) (by show M+b.size≤_;omega) (by omega) (by omega) (λ j _ hj=>by have:=h.pre j hj;omega)
theorem Fine.ZI (h:Fine c M) (now:Int) (i:Nat) (hi:i+1<c.L.length):Fine (c.ZI now i) M:=by
 have h1:=h.look (i+1) hi now
 unfold Ch.ZI
 dsimp only
 split
 ·have hl:(c.onC (i+1) (qh now)).L.length=c.L.length:=qk _ _ _
  generalize c.onC (i+1) (qh now)=d at*
  generalize Zt (d.at' (i+1)).s=m at*
  have h2:=h1.take i (by omega) now m
  have e:=JU (d.at' i).s now m
  have hs:=Xq d i (by omega)
  have hp:=h1.pre i (by omega)
  have hq:=(h1.ok i (by omega)).1.passed.1
  have ht:=h1.top
  refine h2.push (i+1) (by rw[qk];omega) now _ (by unfold ql;omega) λ j hj hj'=>?_
  rw[qk]at hj'
  rw[Zd _ _ _ _ (by omega)]
  have e1:=KO d i j (qH now m) (by omega) (by omega)
  have e2:=h1.pre j hj'
  unfold ql
  omega
 ·exact h1
theorem Fine.Xf (h:Fine c M) (now:Int) (n:Nat) (hn:n<c.L.length):Fine (c.Xf now n) M:=by
 induction n with
 |zero=>exact h
 |succ n ih=>exact(ih (by omega)).ZI now n (by rw[ZS];exact hn)
theorem Fine.Xd (h:Fine c M) (now:Int) (i:Nat) (hi:i+1<c.L.length):Fine (c.Xd now i) M:=by
 have h1:=h.look i (by omega) now
 unfold Ch.Xd
 dsimp only
 split
 ·exact(h1.Za (i+1) (by rw[qk];omega)).close (i+1) (by rw[ZL,qk];omega) now
 ·exact h1
theorem Fine.ends (h:Fine c M) (now:Int) (n:Nat) (hn:n<c.L.length):Fine (c.ends now n) M:=by
 induction n with
 |zero=>exact h
 |succ n ih=>exact(ih (by omega)).Xd now n (by rw[XV];exact hn)
theorem Fine.step (h:Fine c M) (now:Int):Fine (c.ZA now) M:=by
 have h0:=h.len
 have h1:=h.looks now c.L.length (zg _)
 unfold ZA
 split
 ·exact h
 ·split
  ·exact h1.break
  ·have h2:=h1.Xf now (c.L.length -1) (by rw[qy];omega)
   have h3:=h2.ends now (c.L.length -1) (by rw[ZS,qy];omega)
   exact(h3.look (c.L.length -1) (by rw[XV,ZS,qy];omega) now).same rfl
end
end Ch
open Go.RowKit
namespace Ch
section
variable {c:Ch} {M:Nat}
def Zb (l:List Prt) (k:Nat) (p:Prt):List Prt:=l.take (k+1)++p::l.drop (k+1)
theorem Yo (l:List Prt) (k j:Nat) (p:Prt) (h:k+1≤l.length) (hj:j≤k):(Zb l k p).getD j Zp=l.getD j Zp:=by
 unfold Zb
 rw[zi,zi,List.getElem?_append_left (by rw[zw];omega),List.getElem?_take_of_lt (by omega)]
theorem Yp (l:List Prt) (k:Nat) (p:Prt) (h:k+1≤l.length):(Zb l k p).getD (k+1) Zp=p:=by
 unfold Zb
 rw[zi,List.getElem?_append_right (by rw[zw];omega),zw]
 rw[show k+1 -min (k+1) l.length=0 by omega]
 rfl
theorem JX (l:List Prt) (k j:Nat) (p:Prt) (h:k+1≤l.length) (hj:k+1≤j):(Zb l k p).getD (j+1) Zp=l.getD j Zp:=by
 unfold Zb
 rw[zi,zi,List.getElem?_append_right (by rw[zw];omega),zw]
 rw[show j+1 -min (k+1) l.length=(j -(k+1))+1 by omega,List.getElem?_cons_succ,List.getElem?_drop]
 congr 2
 omega
def VX (l:List Prt) (j:Nat):Nat:=((l.take (j+1)).map λ p=>p.s.S.size).sum
theorem MY (l:List Prt) (k j:Nat) (p:Prt) (h:k+1≤l.length) (hj:j≤k):VX (Zb l k p) j=VX l j:=by
 unfold VX Zb
 rw[List.take_append_of_le_length (by rw[zw];omega),List.take_take,show min (j+1) (k+1)=j+1 by omega]
theorem KF (l:List Prt) (k j:Nat) (p:Prt) (h:k+1≤l.length) (hj:k≤j):VX (Zb l k p) (j+1)=VX l j+p.s.S.size:=by
 unfold VX Zb
 rw[List.take_append,zw,List.take_of_length_le (by rw[zw];omega)]
 rw[show j+1+1 -min (k+1) l.length=(j -k)+1 by omega,zx]
 have e:l.take (j+1)=l.take (k+1)++(l.drop (k+1)).take (j -k):=by
  rw[←List.take_add,show k+1+(j -k)=j+1 by omega]
 rw[e]
 simp only[List.map_append,List.map_cons,List.sum_append,List.sum_cons]
 omega
theorem Xb (l:List Prt) (k:Nat) (p:Prt) (h:k+1≤l.length):(Zb l k p).length=l.length+1:=by
 unfold Zb
 simp
 omega
theorem Fine.OT (h:Fine c M) (k:Nat) (hk:k+2≤c.L.length) (h8:c.L.length<10) (p:Prt) (hp:Ok p.s 0) (hl:p.s.A.length=p.s.S.size) (hz:p.s.S.size=0) (h0:p.s.passed=0):Fine {c with L:=Zb c.L k p} M:=by
 refine⟨?_,h.top,λ j hj=>?_,λ j hj=>?_⟩
 ·show 2≤(Zb c.L k p).length∧(Zb c.L k p).length≤10
  rw[Xb _ _ _ (by omega)]
  omega
 ·have hj:j<(Zb c.L k p).length:=hj
  rw[Xb _ _ _ (by omega)]at hj
  show Ok ((Zb c.L k p).getD j Zp).s M∧((Zb c.L k p).getD j Zp).s.A.length=((Zb c.L k p).getD j Zp).s.S.size
  rcases Nat.lt_trichotomy j (k+1)with g|rfl|g
  ·rw[Yo _ _ _ _ (by omega) (by omega)]
   exact h.ok j (by omega)
  ·rw[Yp _ _ _ (by omega)]
   exact⟨hp.more (Nat.zero_le _) (by have:=h.top;omega),hl⟩
  ·obtain⟨i,rfl⟩:∃i,j=i+1:=⟨j -1,by omega⟩
   rw[JX _ _ _ _ (by omega) (by omega)]
   exact h.ok i (by omega)
 ·have hj:j<(Zb c.L k p).length:=hj
  rw[Xb _ _ _ (by omega)]at hj
  show((Zb c.L k p).getD j Zp).s.passed+(VX (Zb c.L k p) j:Int)≤M
  rcases Nat.lt_trichotomy j (k+1)with g|rfl|g
  ·rw[Yo _ _ _ _ (by omega) (by omega),MY _ _ _ _ (by omega) (by omega)]
   exact h.pre j (by omega)
  ·rw[Yp _ _ _ (by omega),KF _ _ _ _ (by omega) (zg _),hz,h0]
   have h1:=h.pre k (by omega)
   have h2:=(h.ok k (by omega)).1.passed.1
   have h3:c.pre k=VX c.L k:=rfl
   omega
  ·obtain⟨i,rfl⟩:∃i,j=i+1:=⟨j -1,by omega⟩
   rw[JX _ _ _ _ (by omega) (by omega),KF _ _ _ _ (by omega) (by omega),hz]
   have h1:=h.pre i (by omega)
   exact h1
theorem Fine.ins (h:Fine c M) (k:Nat) (t:Tox) (seed now:Int) (hk:k+2≤c.L.length) (h8:c.L.length<10) (ht:t.s.size≤maxLen) (hE:Zx t c.room=0):Fine (c.X9 k t seed now) M:=by
 have ho:=Ur hE
 have h1:=h.OT k hk h8 ⟨Zh t seed c.room now,false⟩ (KT ht ho.1 ho.2.1 ho.2.2) rfl rfl rfl
 unfold X9
 dsimp only
 split
 ·exact h1.close (k+1) (by show k+1<(Zb c.L k _).length;rw[Xb _ _ _ (by omega)];omega) now
 ·exact h1
def ZO (l:List Prt) (k:Nat):List Prt:=l.take (k+1)++l.drop (k+2)
theorem KQ (l:List Prt) (k:Nat) (h:k+1<l.length):Zb (ZO l k) k (l.getD (k+1) Zp)=l:=by
 unfold Zb ZO
 have e1:(l.take (k+1)++l.drop (k+2)).take (k+1)=l.take (k+1):=by
  rw[List.take_append_of_le_length (by rw[zw];omega),List.take_take,Nat.min_self]
 have e2:(l.take (k+1)++l.drop (k+2)).drop (k+1)=l.drop (k+2):=by
  rw[List.drop_append_of_le_length (by rw[zw];omega),List.drop_take]
  simp
 rw[e1,e2,zi,zj h]
 have e3:l.drop (k+1)=l[k+1]::l.drop (k+2):=List.drop_eq_getElem_cons h
 show l.take (k+1)++l[k+1]::l.drop (k+2)=l
 rw[←e3,List.take_append_drop]
end
end Ch
open Go.RowKit
namespace Ch
section
variable {c:Ch} {M:Nat}
theorem YP (l:List Prt) (k:Nat) (h:k+2≤l.length):(ZO l k).length+1=l.length:=by
 unfold ZO
 simp
 omega
theorem Vp (l:List Prt) (k j:Nat) (h:k+2≤l.length) (hj:j≤k):(ZO l k).getD j Zp=l.getD j Zp:=by
 have e:=Yo (ZO l k) k j (l.getD (k+1) Zp) (by have:=YP l k h;omega) hj
 rw[KQ _ _ (by omega)]at e
 exact e.symm
theorem Ya (l:List Prt) (k j:Nat) (h:k+2≤l.length) (hj:k+1≤j):(ZO l k).getD j Zp=l.getD (j+1) Zp:=by
 have e:=JX (ZO l k) k j (l.getD (k+1) Zp) (by have:=YP l k h;omega) hj
 rw[KQ _ _ (by omega)]at e
 exact e.symm
theorem Q4 (l:List Prt) (k j:Nat) (h:k+2≤l.length) (hj:j≤k):VX (ZO l k) j=VX l j:=by
 have e:=MY (ZO l k) k j (l.getD (k+1) Zp) (by have:=YP l k h;omega) hj
 rw[KQ _ _ (by omega)]at e
 exact e.symm
theorem Q5 (l:List Prt) (k j:Nat) (h:k+2≤l.length) (hj:k≤j):VX l (j+1)=VX (ZO l k) j+(l.getD (k+1) Zp).s.S.size:=by
 have e:=KF (ZO l k) k j (l.getD (k+1) Zp) (by have:=YP l k h;omega) hj
 rw[KQ _ _ (by omega)]at e
 exact e
theorem Fine.qK (h:Fine c M) (k:Nat) (hk:k+3≤c.L.length):Fine (c.qK k) M∧∀j,k+1≤j→j<(c.qK k).L.length→((c.qK k).at' j).s.passed+(c.qK k).pre j+(c.at' (k+1)).s.S.size≤M:=by
 have hl:=YP c.L k (by omega)
 have hc:=h.len
 have hj1:∀j,k+1≤j→j<(c.qK k).L.length→((c.qK k).at' j).s.passed+(c.qK k).pre j+(c.at' (k+1)).s.S.size≤M:=λ j hj hj'=>by
  have hj':j<(ZO c.L k).length:=hj'
  have e1:=h.pre (j+1) (by omega)
  have e2:=Q5 c.L k j (by omega) (by omega)
  have e3:=Ya c.L k j (by omega) hj
  show((ZO c.L k).getD j Zp).s.passed+(VX (ZO c.L k) j:Int)+((c.L.getD (k+1) Zp).s.S.size:Int)≤M
  have e1:(c.L.getD (j+1) Zp).s.passed+(VX c.L (j+1):Int)≤M:=e1
  rw[e3]
  omega
 refine⟨⟨?_,h.top,λ j hj=>?_,λ j hj=>?_⟩,hj1⟩
 ·show 2≤(ZO c.L k).length∧(ZO c.L k).length≤10
  omega
 ·have hj:j<(ZO c.L k).length:=hj
  show Ok ((ZO c.L k).getD j Zp).s M∧((ZO c.L k).getD j Zp).s.A.length=((ZO c.L k).getD j Zp).s.S.size
  by_cases g:j≤k
  ·rw[Vp _ _ _ (by omega) g]
   exact h.ok j (by omega)
  ·rw[Ya _ _ _ (by omega) (by omega)]
   exact h.ok (j+1) (by omega)
 ·by_cases g:j≤k
  ·show((ZO c.L k).getD j Zp).s.passed+(VX (ZO c.L k) j:Int)≤M
   have hj:j<(ZO c.L k).length:=hj
   rw[Vp _ _ _ (by omega) g,Q4 _ _ _ (by omega) g]
   exact h.pre j (by omega)
  ·have:=hj1 j (by omega) hj
   omega
theorem Fine.rem (h:Fine c M) (k:Nat) (now:Int) (hk:k+3≤c.L.length):Fine (c.ZW k now) M:=by
 obtain⟨h1,hd⟩:=h.qK k hk
 have hl:=Xm c k hk
 have hs:=Xq c (k+1) (by omega)
 have hp:=h.pre (k+1) (by omega)
 have hq:=(h.ok (k+1) (by omega)).1.passed.1
 have ht:=h.top
 have h2:Fine (c.XJ k now) M:=h1.push (k+1) (by omega) now _ (by omega) hd
 have hl2:(c.XJ k now).L.length=(c.qK k).L.length:=qk _ _ _
 have h3:Fine (c.Xe k now) M∧(c.Xe k now).L.length=(c.qK k).L.length:=by
  unfold Xe
  split
  ·refine⟨(h2.same (c':={c.XJ k now with lost:=c.lost+c.gone k now}) rfl).Za (k+1) (by show k+1≤(c.XJ k now).L.length;omega),?_⟩
   rw[ZL]
   exact hl2
  ·exact⟨h2,hl2⟩
 unfold ZW
 split
 ·exact h3.1.close (k+1) (by omega) now
 ·exact h3.1
theorem Fine.doN (h:Fine c M) (o:COp) (ht:o.t.s.size≤maxLen) (hM:M+o.s.size≤400000):Fine (c.doN o) (M+o.s.size):=by
 have hl:=h.len
 have hm:=h.mono (Nat.le_add_right M o.s.size) hM
 unfold Ch.doN
 split
 ·split
  ·exact hm
  ·exact h.put o.now o.s hM
 split
 ·split
  ·exact(hm.close 0 (by omega) o.now).same rfl
  ·exact hm
 split
 ·exact hm.break
 split
 ·exact hm.step o.now
 split
 ·split
  ·exact hm
  ·exact hm.take (c.L.length -1) (by omega) o.now o.n
 split
 ·split
  ·exact hm
  ·rename_i he
   have hb:¬(o.n<0∨(c.L.length:Int) -2<o.n∨8≤(c.L.length:Int) -2):=λ hb=>he (by unfold JN;rw[if_pos hb];decide)
   have hE:Zx o.t c.room=0:=by
    have:c.JN o.n o.t=0:=by omega
    unfold JN at this
    rwa[if_neg hb]at this
   exact hm.ins o.n.toNat o.t o.seed o.now (by omega) (by omega) ht hE
 split
 ·split
  ·exact hm.rem o.n.toNat o.now (by omega)
  ·exact hm
 split
 ·split
  ·exact hm.upd (o.n.toNat+1) (by omega) o.now o.t ht
  ·exact hm
 ·exact hm
theorem Fine.new {room now:Int} (h:Zx qi room=0):Fine (Vf room now) 0:=by
 have ho:=Ur h
 have h1:Ok (Zh qi 0 room now) 0:=KT JW ho.1 ho.2.1 ho.2.2
 refine⟨(show 2≤2∧2≤10 by decide),by decide,λ k hk=>?_,λ k hk=>?_⟩
 ·have hk:k<2:=hk
  match k,hk with
  |0,_=>exact⟨h1,rfl⟩
  |1,_=>exact⟨h1,rfl⟩
 ·have hk:k<2:=hk
  match k,hk with
  |0,_=>exact Int.le_refl _
  |1,_=>exact Int.le_refl _
end
end Ch
open Go.RowKit
namespace Ch
def Pf (a b:ByteArray):Prop:=∃r,b=a++r
theorem Pf.on (x:ByteArray) {a b:ByteArray} (h:Pf a b):Pf (x++a) (x++b):=by
 obtain⟨r,rfl⟩:=h
 exact⟨r,by rw[ByteArray.append_assoc]⟩
end Ch
open Go.RowKit
namespace Ch
end Ch
open Go.RowKit
namespace Ch
def UN (s:St):Prop:=(s.tx.k≠4∧s.tx.k≠5∧s.tx.k≠6)∧(s.st=0∨(s.st=1∧s.closed=true∧s.S.size=0))
theorem Xi {s:St} (h:UN s) (now:Int):UN (qc s now):=by
 obtain⟨hk,hs⟩:=h
 refine⟨hk,?_⟩
 show XA s (qM s.clock now)=0∨(XA s (qM s.clock now)=1∧s.closed=true∧s.S.size=0)
 unfold XA
 rcases hs with hs|⟨hs,hc,hz⟩
 ·rw[if_neg (by omega),if_neg (by omega),if_neg (by omega),if_neg (by omega)]
  split
  ·rename_i h
   exact Or.inr ⟨rfl,h.1,h.2.1⟩
  ·exact Or.inl rfl
 ·rw[if_pos (by omega)]
  exact Or.inr ⟨hs,hc,hz⟩
theorem QS {s:St} (h:UN s) (h0:s.st=0) (b:ByteArray):UN (qG s b):=by
 unfold qG
 split
 ·exact h
 ·split
  ·exact⟨h.1,Or.inl h0⟩
  ·exact⟨h.1,Or.inl h0⟩
theorem QH (s:St) (n:Int):(qC s n).1.st=s.st∧(qC s n).1.tx=s.tx∧(qC s n).1.closed=s.closed:=by
 unfold qC
 (repeat' split)<;>exact⟨rfl,rfl,rfl⟩
theorem FY {s:St} (h:UN s) (o:Op):UN (doS s o).1:=by
 unfold doS
 by_cases k0:o.kind=0
 ·rw[if_pos k0]
  show UN (qU s o.now o.s).1
  unfold qU
  dsimp only
  split
  ·exact Xi h _
  ·exact QS (Xi h _) (by omega) _
 rw[if_neg k0]
 by_cases k1:o.kind=1
 ·rw[if_pos k1]
  show UN (Zy s o.now o.s)
  unfold Zy
  dsimp only
  split
  ·exact Xi h _
  ·exact QS (Xi h _) (by omega) _
 rw[if_neg k1]
 by_cases k2:o.kind=2
 ·rw[if_pos k2]
  show UN (Zw s o.now o.n).1
  unfold Zw
  dsimp only
  split
  ·exact Xi h _
  ·have hl:=Xi h o.now
   generalize qc s o.now=s1 at*
   refine⟨?_,Or.inl ?_⟩
   ·show(qC s1 _).1.tx.k≠4∧(qC s1 _).1.tx.k≠5∧(qC s1 _).1.tx.k≠6
    rw[(QH s1 _).2.1]
    exact hl.1
   ·show(qC s1 _).1.st=0
    rw[(QH s1 _).1]
    omega
 rw[if_neg k2]
 by_cases k3:o.kind=3
 ·rw[if_pos k3]
  show UN (qS s o.now)
  unfold qS
  split
  ·exact h
  ·refine⟨h.1,?_⟩
   rcases h.2 with hs|⟨hs,hc,hz⟩
   ·exact Or.inl hs
   ·exact Or.inr ⟨hs,rfl,hz⟩
 rw[if_neg k3]
 by_cases k4:o.kind=4
 ·rw[if_pos k4]
  exact Xi h _
 rw[if_neg k4]
 by_cases k5:o.kind=5
 ·rw[if_pos k5]
  show UN (Xg s o.t o.now).1
  unfold Xg
  split
  ·exact h
  ·rename_i e
   split
   ·exact h
   ·split
    ·exact h
    ·have hl:=Xi h o.now
     refine⟨?_,hl.2⟩
     show o.t.k≠4∧o.t.k≠5∧o.t.k≠6
     have:=h.1
     omega
 rw[if_neg k5]
 by_cases k6:o.kind=6
 ·rw[if_pos k6]
  refine⟨h.1,?_⟩
  rcases h.2 with hs|⟨hs,hc,hz⟩
  ·exact Or.inl hs
  ·exact Or.inr ⟨hs,hc,rfl⟩
 rw[if_neg k6]
 exact h
theorem L8 (t:Tox) (seed room now:Int) (h:t.k≠4∧t.k≠5∧t.k≠6):UN (Zh t seed room now):=⟨h,Or.inl rfl⟩
theorem UD (s:St) (b:ByteArray):(qG s b).closed=s.closed:=by
 unfold qG
 split
 ·rfl
 ·split<;>rfl
theorem Ks (s:St) (o:Op):(doS s o).1.closed=(s.closed||o.kind==3):=by
 unfold doS
 by_cases k0:o.kind=0
 ·rw[if_pos k0,show(o.kind==3)=false by simp[k0],Bool.or_false]
  show(qU s o.now o.s).1.closed=_
  unfold qU
  dsimp only
  split
  ·rfl
  ·exact UD _ _
 rw[if_neg k0]
 by_cases k1:o.kind=1
 ·rw[if_pos k1,show(o.kind==3)=false by simp[k1],Bool.or_false]
  show(Zy s o.now o.s).closed=_
  unfold Zy
  dsimp only
  split
  ·rfl
  ·exact UD _ _
 rw[if_neg k1]
 by_cases k2:o.kind=2
 ·rw[if_pos k2,show(o.kind==3)=false by simp[k2],Bool.or_false]
  show(Zw s o.now o.n).1.closed=_
  unfold Zw
  dsimp only
  split
  ·rfl
  ·exact(QH _ _).2.2
 rw[if_neg k2]
 by_cases k3:o.kind=3
 ·rw[if_pos k3,show(o.kind==3)=true by simp[k3],Bool.or_true]
  show(qS s o.now).closed=_
  unfold qS
  split
  ·assumption
  ·rfl
 rw[if_neg k3,show(o.kind==3)=false by simp[k3],Bool.or_false]
 by_cases k4:o.kind=4
 ·rw[if_pos k4]
  rfl
 rw[if_neg k4]
 by_cases k5:o.kind=5
 ·rw[if_pos k5]
  show(Xg s o.t o.now).1.closed=_
  unfold Xg
  (repeat' split)<;>rfl
 rw[if_neg k5]
 by_cases k6:o.kind=6
 ·rw[if_pos k6]
  rfl
 rw[if_neg k6]
end Ch
open Go.RowKit
namespace Ch
structure Safe (c:Ch):Prop where
 ok:∀k,k<c.L.length→UN (c.at' k).s
 flag:∀k,k<c.L.length→(c.at' k).closed=(c.at' k).s.closed
 src:∀k,k<c.L.length→(c.at' k).s.closed=true→c.shut=true∧∀j,j<k→(c.at' j).s.S.size=0
theorem Safe.on {c:Ch} (h:Safe c) (k:Nat) (hk:k<c.L.length) (o:Op) (h1:o.kind=3→c.shut=true∧∀j,j<k→(c.at' j).s.S.size=0)
  (h2:∀i,k<i→i<c.L.length→(c.at' i).s.closed=true→(doS (c.at' k).s o).1.S.size=0):Safe (c.onC k o):=by
 refine⟨λ i hi=>?_,λ i hi=>?_,λ i hi hc=>?_⟩<;>rw[qk]at hi
 ·by_cases e:k=i
  ·subst e
   rw[XB _ _ _ hk]
   exact FY (h.ok k hk) o
  ·rw[Zd _ _ _ _ e]
   exact h.ok i hi
 ·by_cases e:k=i
  ·subst e
   rw[XB _ _ _ hk]
   show((c.at' k).closed||o.kind==3)=(doS (c.at' k).s o).1.closed
   rw[Ks,h.flag k hk]
  ·rw[Zd _ _ _ _ e]
   exact h.flag i hi
 ·by_cases e:k=i
  ·subst e
   rw[XB _ _ _ hk]at hc
   have hc:(doS (c.at' k).s o).1.closed=true:=hc
   rw[Ks]at hc
   have hh:c.shut=true∧∀j,j<k→(c.at' j).s.S.size=0:=by
    cases hq:(c.at' k).s.closed with
    |true=>exact h.src k hk hq
    |false=>
     rw[hq,Bool.false_or]at hc
     exact h1 (by simpa using hc)
   exact⟨hh.1,λ j hj=>by rw[Zd _ _ _ _ (by omega)];exact hh.2 j hj⟩
  ·rw[Zd _ _ _ _ e]at hc
   have hh:=h.src i hi hc
   refine⟨hh.1,λ j hj=>?_⟩
   by_cases e2:k=j
   ·subst e2
    rw[XB _ _ _ hk]
    exact h2 i hj hi hc
   ·rw[Zd _ _ _ _ e2]
    exact hh.2 j hj
section
variable {c:Ch}
theorem Safe.less (h:Safe c) (k:Nat) (hk:k<c.L.length) (o:Op) (h3:o.kind≠3) (hz:(doS (c.at' k).s o).1.S.size≤(c.at' k).s.S.size):Safe (c.onC k o):=
 h.on k hk o (λ e=>absurd e h3) (λ i hi hi' hc=>by have:=(h.src i hi' hc).2 k hi;omega)
theorem Safe.take (h:Safe c) (k:Nat) (hk:k<c.L.length) (now n:Int):Safe (c.onC k (qH now n)):=
 h.less k hk _ (show(2:Int)≠3 by decide) (by have:=JU (c.at' k).s now n;omega)
theorem Vw (c:Ch) (n i:Nat) (hi:n≤i):(c.qg n).at' i=c.at' i:=by
 induction n with
 |zero=>rfl
 |succ n ih=>
  show((c.qg n).onC n qv).at' i=c.at' i
  rw[Zd _ _ _ _ (by omega)]
  exact ih (by omega)
end
end Ch
end
end Go.Proofs.YtfdfgnmgpgkknaaGreat
