import Derived.Test.YtfdfgnmgpgkknaaGreatMG22
import Derived.Test.YtfdfgnmgpgkknaaGreatMG20
import Derived.Deep.Cut
set_option maxRecDepth 100000
set_option maxHeartbeats 8000000
open Go renaming cell_of_row→ze,heap_alloc_new→zo,bodyPost_ret→zk
open Go.RowKit.Below renaming refl→zh,heap_setCell→zn
open Nat renaming le_refl→zg,le_trans→zt,lt_of_lt_of_le→zy
open Go.Proofs.Tryz renaming prog→zf
open Go.Lib renaming hid→zd
open List renaming take_succ_cons→zx
open Go.Exit renaming noGoto_ret→zl
open Go.Calls renaming mono→zr
open Go.Proofs.Tryz
namespace Go.Proofs.YtfdfgnmgpgkknaaGreat
section
open Go.RowKit
variable {w w' w'' w0:World} {base g c M M':Nat} {u u' u'':gc.U} {s s' s'' s1 s2:St}
def qV (t:Tox):Obj:=.cells #[.string t.s,.int .i64 t.k,.bool t.up,.int .i64 t.o,.int .i64 t.a,.int .i64 t.b] 35
def Qj (w:World) (q:Nat) (t:Tox):Prop:=w.heap[q]?=some (qV t)
theorem Qj.lt {q:Nat} {t:Tox} (h:Qj w q t):q<w.heap.size:=(Array.getElem?_eq_some_iff.1 h).1
theorem Qj.on {q:Nat} {t:Tox} (h:Qj w q t) (hb:Below w.heap.size w w'):Qj w' q t:=(hb.block _ h.lt).trans h
theorem Qj.og {q:Nat} {t:Tox} (h:Qj w q t) (ho:Og w w' g) (hq:q≠g):Qj w' q t:=(ho.block _ h.lt hq).trans h
theorem Qj.cell {q:Nat} {t:Tox} (h:Qj w q t):w.cell? ⟨q,0,none⟩=some (.string t.s)∧w.cell? ⟨q,1,none⟩=some (.int .i64 t.k)∧w.cell? ⟨q,2,none⟩=some (.bool t.up)∧w.cell? ⟨q,3,none⟩=some (.int .i64 t.o)∧w.cell? ⟨q,4,none⟩=some (.int .i64 t.a)∧w.cell? ⟨q,5,none⟩=some (.int .i64 t.b):=
 ⟨ze _ _ 0 _ _ _ h,ze _ _ 1 _ _ _ h,ze _ _ 2 _ _ _ h,ze _ _ 3 _ _ _ h,ze _ _ 4 _ _ _ h,ze _ _ 5 _ _ _ h⟩
theorem Xh (w:World) (t:Tox):Qj (w.alloc (qV t)) w.heap.size t:=zo w (qV t)
theorem Z8 (w:World) (t:Tox):Below w.heap.size w (w.alloc (qV t)):=(zh _ _).alloc (zg _) _
theorem DW (h:Raw w base g c u s M) (t:Tox) (now:Int) (hk:t.k≠s.tx.k):Calls zf 65 #[ptr g,t.v,.int .i64 now] w λ e w'=>e=.returned (.int .i64 91)∧Set w base g c u s M w':=by
 have hb0:=Z8 w t
 have ha0:=Xh w t
 have hS:=(Set.refl h).on hb0
 have hsz:=ha0.lt
 obtain⟨W0,hW0⟩:∃W0,w.alloc (qV t)=W0:=⟨_,rfl⟩
 rw[hW0]at hb0 ha0 hS hsz
 have x2:W0.cell? ⟨g,2,none⟩=some (.int .i64 s.tx.k):=hS.1.cell 2
 have hne:w.heap.size≠g:=by have:=h.lt;omega
 obtain⟨_,y1,_,_,_,_⟩:=ha0.cell
 have HS:=zd (hS.on (zh _ _).drew)
 have HT:=zd (ha0.on (zh _ _).drew)
 have e1:(t.k !=s.tx.k)=true:=by simpa using hk
 have e2:decide (t.k=s.tx.k)=false:=by simpa using hk
 clear hne
 clear h hS hb0 ha0
 unfold qV at hW0
 unfold Tox.v
 go_enter func65,ntmps65
 go_wp2_with fail
 clear hW0
 refine wp_region_still_tail 7 (by kernel_rfl) (by kernel_rfl) ?_
 simp only[zx,List.take_zero,List.drop_succ_cons,List.drop_zero]
 repeat still_step
 refine wpStill_nil ?_
 go_wp2_with fail
 try rw[zl]
 go_ret
 exact⟨rfl,HS.out⟩
theorem BV (h:Raw w base g c u s M) (t:Tox) (now:Int) (hk:t.k=s.tx.k) (h0:t.k=0):Calls zf 65 #[ptr g,t.v,.int .i64 now] w λ e w'=>e=.returned (.int .i64 0)∧Set w base g c u s M w':=by
 have hb0:=Z8 w t
 have ha0:=Xh w t
 have hS:=(Set.refl h).on hb0
 have hsz:=ha0.lt
 obtain⟨W0,hW0⟩:∃W0,w.alloc (qV t)=W0:=⟨_,rfl⟩
 rw[hW0]at hb0 ha0 hS hsz
 have x2:W0.cell? ⟨g,2,none⟩=some (.int .i64 s.tx.k):=hS.1.cell 2
 have hne:w.heap.size≠g:=by have:=h.lt;omega
 obtain⟨_,y1,_,_,_,_⟩:=ha0.cell
 have HS:=zd (hS.on (zh _ _).drew)
 have HT:=zd (ha0.on (zh _ _).drew)
 rw[←hk]at x2
 have e1:(t.k==0)=true:=by simpa using h0
 have e2:decide (t.k=0)=true:=by simpa using h0
 clear hk hne h0
 clear h hS hb0 ha0
 unfold qV at hW0
 unfold Tox.v
 go_enter func65,ntmps65
 go_wp2_with fail
 clear hW0
 refine wp_region_still_tail 7 (by kernel_rfl) (by kernel_rfl) ?_
 simp only[zx,List.take_zero,List.drop_succ_cons,List.drop_zero]
 repeat still_step
 refine wpStill_nil ?_
 go_wp2_with fail
 try rw[zl]
 go_ret
 exact⟨rfl,HS.out⟩
end
section
open Go.RowKit
variable {w w' w'' w0:World} {base g c M M':Nat} {u u' u'':gc.U} {s s' s'' s1 s2:St}
def KI (w:World) (g:Nat) (t:Tox):World:=(((((w.setCell ⟨g,1,none⟩ (.string t.s)).setCell ⟨g,2,none⟩ (.int .i64 t.k)).setCell ⟨g,3,none⟩ (.bool t.up)).setCell ⟨g,4,none⟩ (.int .i64 t.o)).setCell ⟨g,5,none⟩ (.int .i64 t.a)).setCell ⟨g,6,none⟩ (.int .i64 t.b)
theorem Set.tox (h:Set w base g c u s M w') (t:Tox):Set w base g c u {s with tx:=t} M (KI w' g t):=
 (((((h.set (i:=1) (s':={s with tx:=⟨t.s,s.tx.k,s.tx.up,s.tx.o,s.tx.a,s.tx.b⟩}) rfl rfl rfl rfl).set (i:=2) (s':={s with tx:=⟨t.s,t.k,s.tx.up,s.tx.o,s.tx.a,s.tx.b⟩}) rfl rfl rfl rfl).set (i:=3) (s':={s with tx:=⟨t.s,t.k,t.up,s.tx.o,s.tx.a,s.tx.b⟩}) rfl rfl rfl rfl).set (i:=4) (s':={s with tx:=⟨t.s,t.k,t.up,t.o,s.tx.a,s.tx.b⟩}) rfl rfl rfl rfl).set (i:=5) (s':={s with tx:=⟨t.s,t.k,t.up,t.o,t.a,s.tx.b⟩}) rfl rfl rfl rfl).set (i:=6) (s':={s with tx:=t}) rfl rfl rfl rfl
theorem Tr (h:Raw w base g c u s M):w.cell? ⟨g,1,none⟩=some (.string s.tx.s)∧w.cell? ⟨g,2,none⟩=some (.int .i64 s.tx.k)∧w.cell? ⟨g,3,none⟩=some (.bool s.tx.up)∧w.cell? ⟨g,4,none⟩=some (.int .i64 s.tx.o)∧w.cell? ⟨g,5,none⟩=some (.int .i64 s.tx.a)∧w.cell? ⟨g,6,none⟩=some (.int .i64 s.tx.b):=⟨h.cell 1,h.cell 2,h.cell 3,h.cell 4,h.cell 5,h.cell 6⟩
theorem LO (h:Raw w base g c u s M):w.frozen? ⟨g,1,none⟩=false∧w.frozen? ⟨g,2,none⟩=false∧w.frozen? ⟨g,3,none⟩=false∧w.frozen? ⟨g,4,none⟩=false∧w.frozen? ⟨g,5,none⟩=false∧w.frozen? ⟨g,6,none⟩=false:=⟨h.frz 1,h.frz 2,h.frz 3,h.frz 4,h.frz 5,h.frz 6⟩
theorem Og.KI (w:World) (g:Nat) (t:Tox):Og w (KI w g t) g:=(((((Og.set w g 1 _).trans (Og.set _ g 2 _)).trans (Og.set _ g 3 _)).trans (Og.set _ g 4 _)).trans (Og.set _ g 5 _)).trans (Og.set _ g 6 _)
theorem BU (h:Raw w base g c u s M) (t:Tox) (ht:t.s.size≤maxLen) (now:Int) (hk:t.k=s.tx.k) (h0:t.k≠0) {E:Int} (hE:t.chk=E) (hE0:E≠0):Calls zf 65 #[ptr g,t.v,.int .i64 now] w λ e w'=>e=.returned (.int .i64 E)∧Set w base g c u s M w':=by
 have hb0:=Z8 w t
 have ha0:=Xh w t
 have hS:=(Set.refl h).on hb0
 have hsz:=ha0.lt
 obtain⟨W0,hW0⟩:∃W0,w.alloc (qV t)=W0:=⟨_,rfl⟩
 rw[hW0]at hb0 ha0 hS hsz
 have x2:W0.cell? ⟨g,2,none⟩=some (.int .i64 s.tx.k):=hS.1.cell 2
 have hne:w.heap.size≠g:=by have:=h.lt;omega
 obtain⟨y0,y1,y2,y3,y4,y5⟩:=ha0.cell
 have HS:=zd (hS.on (zh _ _).drew)
 have HT:=zd (ha0.on (zh _ _).drew)
 rw[←hk]at x2
 have e1:(t.k==0)=false:=by simpa using h0
 have e2:decide (t.k=0)=false:=by simpa using h0
 have HCK:=zd (λ W=>show Calls zf 79 #[.agg #[.string t.s,.int .i64 t.k,.bool t.up,.int .i64 t.o,.int .i64 t.a,.int .i64 t.b]] W λ e w'=>e=.returned (.int .i64 E)∧Below W.heap.size W w' from by rw[←hE];exact gx.Jr t.s ht t.k t.up t.o t.a t.b W)
 have e3:(E !=0)=true:=by simpa using hE0
 have e4:decide (E=0)=false:=by simpa using hE0
 clear hk hne h0 hE hE0 ht
 clear h hS hb0 ha0
 unfold qV at hW0
 unfold Tox.v
 go_enter func65,ntmps65
 go_wp2_with fail
 clear hW0
 refine wp_region_still_tail 7 (by kernel_rfl) (by kernel_rfl) ?_
 simp only[zx,List.take_zero,List.drop_succ_cons,List.drop_zero]
 repeat still_step
 refine wpStill_nil ?_
 go_wp2_with fail
 refine(HCK.out _).mono ?_
 rintro e w1 ⟨rfl,hb⟩
 have HS1:=zd (HS.out.on hb)
 clear hb HS HT
 go_wp2_with fail
 try rw[zl]
 go_ret
 exact⟨rfl,HS1.out⟩
theorem DU (h:Raw w base g c u s M) (t:Tox) (ht:t.s.size≤maxLen) (now:Int) (hk:t.k=s.tx.k) (h0:t.k≠0) (hE:t.chk=0) (h2:t.k≠2):Calls zf 65 #[ptr g,t.v,.int .i64 now] w λ e w'=>e=.returned (.int .i64 0)∧Set w base g c u {qc s now with tx:=t} M w':=by
 have hb0:=Z8 w t
 have ha0:=Xh w t
 have hS:=(Set.refl h).on hb0
 have hsz:=ha0.lt
 obtain⟨W0,hW0⟩:∃W0,w.alloc (qV t)=W0:=⟨_,rfl⟩
 rw[hW0]at hb0 ha0 hS hsz
 have x2:W0.cell? ⟨g,2,none⟩=some (.int .i64 s.tx.k):=hS.1.cell 2
 have hne:w.heap.size≠g:=by have:=h.lt;omega
 obtain⟨y0,y1,y2,y3,y4,y5⟩:=ha0.cell
 have HS:=zd (hS.on (zh _ _).drew)
 have HT:=zd (ha0.on (zh _ _).drew)
 rw[←hk]at x2
 have e1:(t.k==0)=false:=by simpa using h0
 have e2:decide (t.k=0)=false:=by simpa using h0
 have HCK:=zd (λ W=>show Calls zf 79 #[.agg #[.string t.s,.int .i64 t.k,.bool t.up,.int .i64 t.o,.int .i64 t.a,.int .i64 t.b]] W λ e w'=>e=.returned (.int .i64 0)∧Below W.heap.size W w' from by rw[←hE];exact gx.Jr t.s ht t.k t.up t.o t.a t.b W)
 have e3:(t.k==2)=false:=by simpa using h2
 have e4:decide (t.k=2)=false:=by simpa using h2
 have HNE:=zd hne
 clear hk hne h0 hE ht h2
 clear h hS hb0 ha0
 unfold qV at hW0
 unfold Tox.v
 go_enter func65,ntmps65
 go_wp2_with fail
 clear hW0
 refine wp_region_still_tail 7 (by kernel_rfl) (by kernel_rfl) ?_
 simp only[zx,List.take_zero,List.drop_succ_cons,List.drop_zero]
 repeat still_step
 refine wpStill_nil ?_
 go_wp2_with fail
 refine(HCK.out _).mono ?_
 rintro e w1 ⟨rfl,hb⟩
 have HS1:=zd (HS.out.on hb)
 have HT1:=zd (HT.out.on hb)
 clear hb HS HT x2 y0 y1 y2 y3 y4 y5 HCK
 go_wp2_with fail
 refine(ZE HS1.out.1 now).mono ?_
 rintro e w2 ⟨rfl,hs2⟩
 have HS2:=zd (HS1.out.trans hs2)
 have ht2:=HT1.out.og hs2.2 HNE.out
 obtain⟨y0,y1,y2,y3,y4,y5⟩:=ht2.cell
 obtain⟨x1,x2,x3,x4,x5,x6⟩:=Tr HS2.out.1
 obtain⟨f1,f2,f3,f4,f5,f6⟩:=LO HS2.out.1
 have HS3:=zd (HS2.out.tox t)
 have HT3:=zd (ht2.og (Og.KI w2 g t) HNE.out)
 clear hs2 ht2 HS1 HT1
 go_upto_region 10 with fail
 generalize hW:KI w2 g t=w3 at*
 unfold KI at hW
 rw[hW]
 clear hW x1 x2 x3 x4 x5 x6 f1 f2 f3 f4 f5 f6 y0 y1 y2 y3 y4 y5 HS2
 obtain⟨_,y1,_,_,_,_⟩:=HT3.out.cell
 go_wp2_with fail
 try rw[zl]
 go_ret
 exact⟨rfl,HS3.out⟩
end
section
open Go.RowKit
variable {w w' w'' w0:World} {base g c M M':Nat} {u u' u'':gc.U} {s s' s'' s1 s2:St}
theorem DV (h:Raw w base g c u s M) (t:Tox) (ht:t.s.size≤maxLen) (now:Int) (hk:t.k=s.tx.k) (h0:t.k≠0) (hE:t.chk=0) (h2:t.k=2) (hr:gb.qI s.bk.r s.bk.u s.bk.l s.bk.t=true) (hcl:0≤s.clock∧s.clock≤1099511627776):Calls zf 65 #[ptr g,t.v,.int .i64 now] w λ e w'=>e=.returned (.int .i64 0)∧Set w base g c u {qc s now with tx:=t,bk:=Nf (qc s now).bk t.a t.b (qc s now).clock} M w':=by
 have hb0:=Z8 w t
 have ha0:=Xh w t
 have hS:=(Set.refl h).on hb0
 have hsz:=ha0.lt
 obtain⟨W0,hW0⟩:∃W0,w.alloc (qV t)=W0:=⟨_,rfl⟩
 rw[hW0]at hb0 ha0 hS hsz
 have x2:W0.cell? ⟨g,2,none⟩=some (.int .i64 s.tx.k):=hS.1.cell 2
 have hne:w.heap.size≠g:=by have:=h.lt;omega
 obtain⟨y0,y1,y2,y3,y4,y5⟩:=ha0.cell
 have HS:=zd (hS.on (zh _ _).drew)
 have HT:=zd (ha0.on (zh _ _).drew)
 rw[←hk]at x2
 have e1:(t.k==0)=false:=by simpa using h0
 have e2:decide (t.k=0)=false:=by simpa using h0
 have HCK:=zd (λ W=>show Calls zf 79 #[.agg #[.string t.s,.int .i64 t.k,.bool t.up,.int .i64 t.o,.int .i64 t.a,.int .i64 t.b]] W λ e w'=>e=.returned (.int .i64 0)∧Below W.heap.size W w' from by rw[←hE];exact gx.Jr t.s ht t.k t.up t.o t.a t.b W)
 have e3:(t.k==2)=true:=by simpa using h2
 have e4:decide (t.k=2)=true:=by simpa using h2
 have HNE:=zd hne
 obtain⟨_,hpp⟩:=Ti hE
 unfold gx.Zv at hpp
 simp only[Bool.and_eq_true]at hpp
 have hp1:=VJ hpp.1.1
 have hp2:=VJ hpp.1.2
 have hp3:=hpp.2
 rw[if_neg (by omega),if_pos h2]at hp3
 have hp3:1≤t.b∧t.b≤4096:=by simpa using hp3
 have hck:=VB (now:=now) hcl
 have hrn:gb.qI t.a t.b t.b (qc s now).clock=true:=(gb.qY _ _ _ _).2 ⟨hp1,hp2,hp2,hck,by omega,Int.le_refl _⟩
 have hch:Nf (qc s now).bk t.a t.b (qc s now).clock=⟨t.a,t.b,gb.Ju t.b (gb.ZJ s.bk.r s.bk.u s.bk.l s.bk.t (qc s now).clock),gb.ZV s.bk.r s.bk.u s.bk.l s.bk.t (qc s now).clock⟩:=rfl
 have HCH:=zd (λ W=>gb.Fq hr hrn (n:=(qc s now).clock) rfl rfl W)
 rw[hch]
 generalize gb.Ju t.b (gb.ZJ s.bk.r s.bk.u s.bk.l s.bk.t (qc s now).clock)=V at*
 generalize gb.ZV s.bk.r s.bk.u s.bk.l s.bk.t (qc s now).clock=T at*
 clear hk hne h0 hE ht h2 hp1 hp2 hp3 hpp hck hrn hr hch hcl
 clear h hS hb0 ha0
 unfold qV at hW0
 unfold Tox.v
 go_enter func65,ntmps65
 go_wp2_with fail
 clear hW0
 refine wp_region_still_tail 7 (by kernel_rfl) (by kernel_rfl) ?_
 simp only[zx,List.take_zero,List.drop_succ_cons,List.drop_zero]
 repeat still_step
 refine wpStill_nil ?_
 go_wp2_with fail
 refine(HCK.out _).mono ?_
 rintro e w1 ⟨rfl,hb⟩
 have HS1:=zd (HS.out.on hb)
 have HT1:=zd (HT.out.on hb)
 clear hb HS HT x2 y0 y1 y2 y3 y4 y5 HCK
 go_wp2_with fail
 refine(ZE HS1.out.1 now).mono ?_
 rintro e w2 ⟨rfl,hs2⟩
 have HS2:=zd (HS1.out.trans hs2)
 have ht2:=HT1.out.og hs2.2 HNE.out
 obtain⟨y0,y1,y2,y3,y4,y5⟩:=ht2.cell
 obtain⟨x1,x2,x3,x4,x5,x6⟩:=Tr HS2.out.1
 obtain⟨f1,f2,f3,f4,f5,f6⟩:=LO HS2.out.1
 have HS3:=zd (HS2.out.tox t)
 have HT3:=zd (ht2.og (Og.KI w2 g t) HNE.out)
 clear hs2 ht2 HS1 HT1
 go_upto_region 10 with fail
 generalize hW:KI w2 g t=w3 at*
 unfold KI at hW
 rw[hW]
 clear hW x1 x2 x3 x4 x5 x6 f1 f2 f3 f4 f5 f6 y0 y1 y2 y3 y4 y5 HS2
 obtain⟨_,y1,_,_,y4,y5⟩:=HT3.out.cell
 have x15:w3.cell? ⟨g,15,none⟩=some (.int .i64 (qc s now).clock):=HS3.out.1.cell 15
 obtain⟨x8,x9,x10,x11⟩:w3.cell? ⟨g,8,none⟩=some (.int .i64 s.bk.r)∧w3.cell? ⟨g,9,none⟩=some (.int .i64 s.bk.u)∧w3.cell? ⟨g,10,none⟩=some (.int .i64 s.bk.l)∧w3.cell? ⟨g,11,none⟩=some (.int .i64 s.bk.t):=Vu (s:={qc s now with tx:=t}) HS3.out.1
 have HC:=zd (λ W (hb:Below w3.drew.heap.size w3.drew W)=>(⟨Vu (s:={qc s now with tx:=t}) (HS3.out.1.drew.on hb),Ni (s:={qc s now with tx:=t}) (HS3.out.1.drew.on hb),Set.bk (s:={qc s now with tx:=t}) ((HS3.out.on (zh w3.heap.size w3).drew).on hb) ⟨t.a,t.b,V,T⟩⟩:(W.cell? ⟨g,8,none⟩=some (.int .i64 s.bk.r)∧W.cell? ⟨g,9,none⟩=some (.int .i64 s.bk.u)∧W.cell? ⟨g,10,none⟩=some (.int .i64 s.bk.l)∧W.cell? ⟨g,11,none⟩=some (.int .i64 s.bk.t))∧(W.frozen? ⟨g,8,none⟩=false∧W.frozen? ⟨g,9,none⟩=false∧W.frozen? ⟨g,10,none⟩=false∧W.frozen? ⟨g,11,none⟩=false)∧Set w base g c u {qc s now with tx:=t,bk:=⟨t.a,t.b,V,T⟩} M (QW W g ⟨t.a,t.b,V,T⟩)))
 clear HS3 HT3
 go_wp2_with fail
 go_region_law
  (first
   |(go_simp;go_at_call 92;(with_reducible refine zr (HCH.out _) ?_);rintro e w4 ⟨rfl,hb⟩;(obtain⟨⟨z8,z9,z10,z11⟩,⟨f8,f9,f10,f11⟩,hs⟩:=HC.out w4 hb);clear hb))
 all_goals (
  have HS:=zd hs
  clear hs
  go_wp2_with fail
  generalize hW:QW w4 g ⟨t.a,t.b,V,T⟩=W9 at*
  unfold QW at hW
  dsimp only at hW
  try rw[hW]
  try rw[zl]
  go_ret
  exact⟨rfl,HS.out⟩)
end
section
open Go.RowKit
variable {w w' w'' w0:World} {base g c M M':Nat} {u u' u'':gc.U} {s s' s'' s1 s2:St}
theorem j4 {T K:Nat} {p:Option Addr} {n c:Nat} {zs:List Value} (h:gc.ORow w base T K p n c zs) {b:Nat} (hb:b≤base):gc.ORow w b T K p n c zs:=⟨h.len,h.cap,h.max,h.non,λ a e=>by
 obtain⟨b',o,cur,h1,h2,h3⟩:=h.som a e
 exact⟨b',o,cur,h1,zt hb h2,h3⟩⟩
theorem QL {S:ByteArray} {A:List Int} {last:Int} (h:gc.Al w base c u S A last M) {b:Nat} (hb:b≤base):gc.Al w b c u S A last M:=by
 obtain⟨ms,G,⟨p,n,c,q,m,d,hr,he⟩,hl⟩:=h
 exact⟨ms,G,⟨p,n,c,q,m,d,⟨hr.blk,j4 hr.row hb,j4 hr.mks hb,zt hb hr.base⟩,he⟩,hl⟩
theorem Um {B:Nat} (h:Below B w0 w) (hB:B≤w.heap.size) (hg:B≤g) (ho:Og w w' g):Below B w0 w':=
 ⟨ho.os.trans h.os,ho.tape.trans h.tape,ho.output.trans h.output,zt h.size ho.size,λ i hi=>(ho.block i (zy hi hB) (by omega)).trans (h.block i hi)⟩
def ZN (t:Tox) (seed room:Int):St:=⟨t,seed,⟨0,0,0,0⟩,⟨#[]⟩,[],0,room,0,0,0,0,false,0,0⟩
theorem YC (now:Int):qM 0 now=gb.qe now:=by
 have:=VI now
 unfold qM
 split<;>omega
theorem VV {t:Tox} (h1:t.s.toList=[]) (h2:t.k=0) (h3:¬t.up=true) (h4:t.o=0) (h5:t.a=0) (h6:t.b=0):t=qi:=by
 obtain⟨s,k,up,o,a,b⟩:=t
 dsimp only at*
 subst h2 h4 h5 h6
 have e0:(⟨#[]⟩:ByteArray).toList=[]:=by rw[Lib.toList_data]
 have e1:s=⟨#[]⟩:=by
  rcases Decidable.em (s=⟨#[]⟩)with h|h
  ·exact h
  ·have h':=gx.Fy h
   rw[e0,h1]at h'
   simp at h'
 have e2:up=false:=by simpa using h3
 rw[e1,e2]
 rfl
theorem Zn {t:Tox} (h:¬t.s.toList=[]∨¬t.k=0∨t.up=true∨¬t.o=0∨¬t.a=0∨¬t.b=0):t≠qi:=by
 rintro rfl
 have e:(⟨#[]⟩:ByteArray).toList=[]:=by rw[Lib.toList_data]
 simp only[qi,e]at h
 simp at h
def FK (E:Int) (w:World) (e:Ending) (w':World):Prop:=e=.returned (.tuple #[.pointer none,.int .i64 E])∧Below w.heap.size w w'
def Tn (s:St) (w:World) (e:Ending) (w':World):Prop:=∃g c u,e=.returned (.tuple #[ptr g,.int .i64 0])∧Raw w' w.heap.size g c u s 0∧Below w.heap.size w w'
theorem Ex (t:Tox) (ht:t.s.size≤maxLen) (seed room now:Int) {E:Int} (hE:t.chk=E) (hE0:E≠0) (h0:t≠qi) (w:World):Calls zf 49 #[t.v,.int .u64 seed,.int .i64 room,.int .i64 now] w (FK E w):=by
 have hb0:=Z8 w t
 have ha0:=Xh w t
 have hsz:=ha0.lt
 obtain⟨W0,hW0⟩:∃W0,w.alloc (qV t)=W0:=⟨_,rfl⟩
 rw[hW0]at hb0 ha0 hsz
 obtain⟨y0,y1,y2,y3,y4,y5⟩:=ha0.cell
 have HCK:=zd (λ W=>show Calls zf 79 #[.agg #[.string t.s,.int .i64 t.k,.bool t.up,.int .i64 t.o,.int .i64 t.a,.int .i64 t.b]] W λ e w'=>e=.returned (.int .i64 E)∧Below W.heap.size W w' from by rw[←hE];exact gx.Jr t.s ht t.k t.up t.o t.a t.b W)
 have HNE:=zd (show decide (t≠qi)=true by simpa using h0)
 have e3:(E !=0)=true:=by simpa using hE0
 have e4:decide (E=0)=false:=by simpa using hE0
 clear hE hE0 ht h0
 have HT:=zd ha0
 have HB:=zd hb0
 clear hb0 ha0
 unfold qV at hW0
 unfold Tox.v
 go_enter func49,ntmps49
 go_upto_region 1 with fail
 clear hW0
 go_cut[0,14]from 12 (λ _ v wc=>v=.bool (decide (t≠qi))∧wc=W0)
 case first=>
  go_wp2_with fail
  all_goals (
   go_meet
   first
    |exact⟨congrArg Value.bool (decide_eq_true (p:=t≠qi) (Zn (Or.inl (by assumption)))).symm,rfl⟩
    |exact⟨congrArg Value.bool (decide_eq_true (p:=t≠qi) (Zn (Or.inr (Or.inl (by assumption))))).symm,rfl⟩
    |exact⟨congrArg Value.bool (decide_eq_true (p:=t≠qi) (Zn (Or.inr (Or.inr (Or.inl (by assumption)))))).symm,rfl⟩
    |exact⟨congrArg Value.bool (decide_eq_true (p:=t≠qi) (Zn (Or.inr (Or.inr (Or.inr (Or.inl (by assumption))))))).symm,rfl⟩
    |exact⟨congrArg Value.bool (decide_eq_true (p:=t≠qi) (Zn (Or.inr (Or.inr (Or.inr (Or.inr (Or.inl (by assumption)))))))).symm,rfl⟩
    |exact⟨congrArg Value.bool (decide_eq_true (p:=t≠qi) (Zn (Or.inr (Or.inr (Or.inr (Or.inr (Or.inr (by assumption)))))))).symm,rfl⟩
    |exact⟨congrArg Value.bool (decide_eq_false (p:=t≠qi) (λ h=>h (VV (by assumption) (by assumption) (by assumption) (by assumption) (by assumption) (by assumption)))).symm,rfl⟩)
 case rest=>
 obtain⟨rfl,rfl⟩:=hcut
 rw[HNE.out]
 go_wp2_with fail
 refine(HCK.out _).mono ?_
 rintro e w1 ⟨rfl,hb⟩
 have HB1:=zd (gc.seqB HB.out hb)
 have HT1:=zd (HT.out.on hb)
 clear hb HB HT y0 y1 y2 y3 y4 y5 HCK hsz
 go_wp2_with fail
 try rw[zl]
 exact zk (v:=.tuple #[.pointer none,.int .i64 E]) (by simp[results,results49,go_sem]) rfl ⟨rfl,HB1.out⟩
theorem SD (t:Tox) (ht:t.s.size≤maxLen) (seed room now:Int) (hE:t.chk=0) (h0:t≠qi) (hr:room<1∨4096<room) (w:World):Calls zf 49 #[t.v,.int .u64 seed,.int .i64 room,.int .i64 now] w (FK 1 w):=by
 have hb0:=Z8 w t
 have ha0:=Xh w t
 have hsz:=ha0.lt
 obtain⟨W0,hW0⟩:∃W0,w.alloc (qV t)=W0:=⟨_,rfl⟩
 rw[hW0]at hb0 ha0 hsz
 obtain⟨y0,y1,y2,y3,y4,y5⟩:=ha0.cell
 have HCK:=zd (λ W=>show Calls zf 79 #[.agg #[.string t.s,.int .i64 t.k,.bool t.up,.int .i64 t.o,.int .i64 t.a,.int .i64 t.b]] W λ e w'=>e=.returned (.int .i64 0)∧Below W.heap.size W w' from by rw[←hE];exact gx.Jr t.s ht t.k t.up t.o t.a t.b W)
 have HNE:=zd (show decide (t≠qi)=true by simpa using h0)
 clear hE ht h0
 have HRM:=zd hr
 clear hr
 have HT:=zd ha0
 have HB:=zd hb0
 clear hb0 ha0
 unfold qV at hW0
 unfold Tox.v
 go_enter func49,ntmps49
 go_upto_region 1 with fail
 clear hW0
 go_cut[0,14]from 12 (λ _ v wc=>v=.bool (decide (t≠qi))∧wc=W0)
 case first=>
  go_wp2_with fail
  all_goals (
   go_meet
   first
    |exact⟨congrArg Value.bool (decide_eq_true (p:=t≠qi) (Zn (Or.inl (by assumption)))).symm,rfl⟩
    |exact⟨congrArg Value.bool (decide_eq_true (p:=t≠qi) (Zn (Or.inr (Or.inl (by assumption))))).symm,rfl⟩
    |exact⟨congrArg Value.bool (decide_eq_true (p:=t≠qi) (Zn (Or.inr (Or.inr (Or.inl (by assumption)))))).symm,rfl⟩
    |exact⟨congrArg Value.bool (decide_eq_true (p:=t≠qi) (Zn (Or.inr (Or.inr (Or.inr (Or.inl (by assumption))))))).symm,rfl⟩
    |exact⟨congrArg Value.bool (decide_eq_true (p:=t≠qi) (Zn (Or.inr (Or.inr (Or.inr (Or.inr (Or.inl (by assumption)))))))).symm,rfl⟩
    |exact⟨congrArg Value.bool (decide_eq_true (p:=t≠qi) (Zn (Or.inr (Or.inr (Or.inr (Or.inr (Or.inr (by assumption)))))))).symm,rfl⟩
    |exact⟨congrArg Value.bool (decide_eq_false (p:=t≠qi) (λ h=>h (VV (by assumption) (by assumption) (by assumption) (by assumption) (by assumption) (by assumption)))).symm,rfl⟩)
 case rest=>
 obtain⟨rfl,rfl⟩:=hcut
 rw[HNE.out]
 go_wp2_with fail
 refine(HCK.out _).mono ?_
 rintro e w1 ⟨rfl,hb⟩
 have HB1:=zd (gc.seqB HB.out hb)
 have HT1:=zd (HT.out.on hb)
 clear hb HB HT y0 y1 y2 y3 y4 y5 HCK hsz
 go_wp2_with fail
 all_goals (have hr:=HRM.out)
 all_goals first|(exfalso;omega)|skip
 all_goals (
  try rw[zl]
  exact zk (v:=.tuple #[.pointer none,.int .i64 1]) (by simp[results,results49,go_sem]) rfl ⟨rfl,HB1.out⟩)
theorem SE (t:Tox) (seed room now:Int) (h0:t=qi) (hr:room<1∨4096<room) (w:World):Calls zf 49 #[t.v,.int .u64 seed,.int .i64 room,.int .i64 now] w (FK 1 w):=by
 have hb0:=Z8 w t
 have ha0:=Xh w t
 have hsz:=ha0.lt
 obtain⟨W0,hW0⟩:∃W0,w.alloc (qV t)=W0:=⟨_,rfl⟩
 rw[hW0]at hb0 ha0 hsz
 obtain⟨y0,y1,y2,y3,y4,y5⟩:=ha0.cell
 have HNE:=zd (show decide (t≠qi)=false by simpa using h0)
 clear h0
 have HRM:=zd hr
 clear hr
 have HT:=zd ha0
 have HB:=zd hb0
 clear hb0 ha0
 unfold qV at hW0
 unfold Tox.v
 go_enter func49,ntmps49
 go_upto_region 1 with fail
 clear hW0
 go_cut[0,14]from 12 (λ _ v wc=>v=.bool (decide (t≠qi))∧wc=W0)
 case first=>
  go_wp2_with fail
  all_goals (
   go_meet
   first
    |exact⟨congrArg Value.bool (decide_eq_true (p:=t≠qi) (Zn (Or.inl (by assumption)))).symm,rfl⟩
    |exact⟨congrArg Value.bool (decide_eq_true (p:=t≠qi) (Zn (Or.inr (Or.inl (by assumption))))).symm,rfl⟩
    |exact⟨congrArg Value.bool (decide_eq_true (p:=t≠qi) (Zn (Or.inr (Or.inr (Or.inl (by assumption)))))).symm,rfl⟩
    |exact⟨congrArg Value.bool (decide_eq_true (p:=t≠qi) (Zn (Or.inr (Or.inr (Or.inr (Or.inl (by assumption))))))).symm,rfl⟩
    |exact⟨congrArg Value.bool (decide_eq_true (p:=t≠qi) (Zn (Or.inr (Or.inr (Or.inr (Or.inr (Or.inl (by assumption)))))))).symm,rfl⟩
    |exact⟨congrArg Value.bool (decide_eq_true (p:=t≠qi) (Zn (Or.inr (Or.inr (Or.inr (Or.inr (Or.inr (by assumption)))))))).symm,rfl⟩
    |exact⟨congrArg Value.bool (decide_eq_false (p:=t≠qi) (λ h=>h (VV (by assumption) (by assumption) (by assumption) (by assumption) (by assumption) (by assumption)))).symm,rfl⟩)
 case rest=>
 obtain⟨rfl,rfl⟩:=hcut
 rw[HNE.out]
 have HB1:=HB
 have HT1:=HT
 clear HB HT y0 y1 y2 y3 y4 y5 hsz
 generalize wc=w1 at*
 go_wp2_with fail
 all_goals (have hr:=HRM.out)
 all_goals first|(exfalso;omega)|skip
 all_goals (
  try rw[zl]
  exact zk (v:=.tuple #[.pointer none,.int .i64 1]) (by simp[results,results49,go_sem]) rfl ⟨rfl,HB1.out⟩)
end
section
open Go.RowKit
variable {w w' w'' w0:World} {base g c M M':Nat} {u u' u'':gc.U} {s s' s'' s1 s2:St}
theorem Gd (t:Tox) (seed room now:Int) (h:t.k≠2):({qL (ZN t seed room) now with began:=qM 0 now}:St)=Zh t seed room now:=by
 unfold Zh qL ZN
 dsimp only
 rw[if_neg h,YC]
theorem Ew (t:Tox) (seed room now:Int) (h:t.k=2):({qL (ZN t seed room) now with began:=qM 0 now,bk:=⟨t.a,t.b,t.b,qM 0 now⟩}:St)=Zh t seed room now:=by
 unfold Zh qL ZN
 dsimp only
 rw[if_pos h,YC]
theorem Ga (t:Tox) (ht:t.s.size≤maxLen) (seed room now:Int) (hE:t.chk=0) (h0:t≠qi) (hr1:1≤room) (hr2:room≤4096) (hk:t.k≠2) (w:World):Calls zf 49 #[t.v,.int .u64 seed,.int .i64 room,.int .i64 now] w (Tn (Zh t seed room now) w):=by
 have hb0:=Z8 w t
 have ha0:=Xh w t
 have hsz:=ha0.lt
 obtain⟨W0,hW0⟩:∃W0,w.alloc (qV t)=W0:=⟨_,rfl⟩
 rw[hW0]at hb0 ha0 hsz
 obtain⟨y0,y1,y2,y3,y4,y5⟩:=ha0.cell
 have HCK:=zd (λ W=>show Calls zf 79 #[.agg #[.string t.s,.int .i64 t.k,.bool t.up,.int .i64 t.o,.int .i64 t.a,.int .i64 t.b]] W λ e w'=>e=.returned (.int .i64 0)∧Below W.heap.size W w' from by rw[←hE];exact gx.Jr t.s ht t.k t.up t.o t.a t.b W)
 have HNE:=zd (show decide (t≠qi)=true by simpa using h0)
 have er1:decide (room<1)=false:=by simp;omega
 have er2:decide (4096<room)=false:=by simp;omega
 have e5:(t.k==2)=false:=by simpa using hk
 have e6:decide (t.k=2)=false:=by simpa using hk
 have HEQ:=zd (Gd t seed room now hk)
 clear hE ht h0 hr1 hr2 hk
 have HT:=zd ha0
 have HB:=zd hb0
 clear hb0 ha0
 unfold qV at hW0
 unfold Tox.v
 go_enter func49,ntmps49
 go_upto_region 1 with fail
 clear hW0
 go_cut[0,14]from 12 (λ _ v wc=>v=.bool (decide (t≠qi))∧wc=W0)
 case first=>
  go_wp2_with fail
  all_goals (
   go_meet
   first
    |exact⟨congrArg Value.bool (decide_eq_true (p:=t≠qi) (Zn (Or.inl (by assumption)))).symm,rfl⟩
    |exact⟨congrArg Value.bool (decide_eq_true (p:=t≠qi) (Zn (Or.inr (Or.inl (by assumption))))).symm,rfl⟩
    |exact⟨congrArg Value.bool (decide_eq_true (p:=t≠qi) (Zn (Or.inr (Or.inr (Or.inl (by assumption)))))).symm,rfl⟩
    |exact⟨congrArg Value.bool (decide_eq_true (p:=t≠qi) (Zn (Or.inr (Or.inr (Or.inr (Or.inl (by assumption))))))).symm,rfl⟩
    |exact⟨congrArg Value.bool (decide_eq_true (p:=t≠qi) (Zn (Or.inr (Or.inr (Or.inr (Or.inr (Or.inl (by assumption)))))))).symm,rfl⟩
    |exact⟨congrArg Value.bool (decide_eq_true (p:=t≠qi) (Zn (Or.inr (Or.inr (Or.inr (Or.inr (Or.inr (by assumption)))))))).symm,rfl⟩
    |exact⟨congrArg Value.bool (decide_eq_false (p:=t≠qi) (λ h=>h (VV (by assumption) (by assumption) (by assumption) (by assumption) (by assumption) (by assumption)))).symm,rfl⟩)
 case rest=>
 obtain⟨rfl,rfl⟩:=hcut
 rw[HNE.out]
 go_wp2_with fail
 refine(HCK.out _).mono ?_
 rintro e w1 ⟨rfl,hb⟩
 have HB1:=zd (gc.seqB HB.out hb)
 have HT1:=zd (HT.out.on hb)
 clear hb HB HT y0 y1 y2 y3 y4 y5 HCK hsz
 go_wp2_with fail
 have HNC:=zd (gc.SF w1.drew)
 have HX:=zd (λ W (hb:Below w1.drew.heap.size w1.drew W)=>((HT1.out.on (zh _ w1).drew).on hb).cell)
 obtain⟨y0,y1,y2,y3,y4,y5⟩:=HT1.out.cell
 go_region_law
  (first
   |(go_simp;go_at_call 80;(with_reducible refine zr HNC.out ?_);rintro e w2 ⟨c,u,rfl,hal,hb⟩;obtain⟨z0,z1,z2,z3,z4,z5⟩:=HX.out w2 hb))
 all_goals (
  have hbw:Below w1.heap.size w1 w2:=gc.seqB (zh _ w1).drew hb
  have hb2:Below w2.heap.size w2 (w2.alloc (.cells (stC c (ZN t seed room)) 113)):=(zh _ _).alloc (zg _) _
  have hwl:w.heap.size≤w1.heap.size:=HB1.out.size
  have hw2:w1.heap.size≤w2.heap.size:=hbw.size
  have hst:Raw (w2.alloc (.cells (stC c (ZN t seed room)) 113)) w.heap.size w2.heap.size c u (ZN t seed room) 0:=⟨zo w2 _,QL (hal.on hb2) hwl,by omega⟩
  have hbn:=gc.seqB (gc.seqB HB1.out hbw) hb2
  have htn:=(HT1.out.on hbw).on hb2
  have hne:w.heap.size≠w2.heap.size:=by have:=HT1.out.lt;omega
  obtain⟨W3,hW3⟩:∃W3,w2.alloc (.cells (stC c (ZN t seed room)) 113)=W3:=⟨_,rfl⟩
  rw[hW3]at hst hbn htn
  have HST:=zd hst
  have HBN:=zd hbn
  have HTN:=zd htn
  have HNEQ:=zd hne
  have HLE:=zd (show w.heap.size≤w2.heap.size by omega)
  unfold stC ZN at hW3
  dsimp only at hW3
  clear hst hbn htn hne hb hbw hb2 hal hwl hw2 z0 z1 z2 z3 z4 z5 y0 y1 y2 y3 y4 y5 HNC HX HT1 HB1
  generalize w2.heap.size=g at*
  go_wp2_with fail
  clear hW3
  refine(YR HST.out now).mono ?_
  rintro e w4 ⟨rfl,h4⟩
  have x15:w4.cell? ⟨g,15,none⟩=some (.int .i64 (qM 0 now)):=h4.1.cell 15
  have x14:w4.cell? ⟨g,14,none⟩=some (.int .i64 0):=h4.1.cell 14
  have f14:w4.frozen? ⟨g,14,none⟩=false:=h4.1.frz 14
  have h5:=h4.set (i:=14) (v:=.int .i64 (qM 0 now)) (s':={qL (ZN t seed room) now with began:=qM 0 now}) rfl rfl rfl rfl
  have HT5:=zd ((HTN.out.og h4.2 HNEQ.out).og (Og.set w4 g 14 (.int .i64 (qM 0 now))) HNEQ.out)
  have H5:=zd h5
  clear h4 h5 HST HTN
  go_upto_region 10 with fail
  generalize w4.setCell ⟨g,14,none⟩ (.int .i64 (qM 0 now))=w5 at*
  clear x15 x14 f14
  obtain⟨_,y1,_,_,y4,y5⟩:=HT5.out.cell
  have HB5:=zd (Um HBN.out HBN.out.size HLE.out H5.out.2)
  clear HBN HT5
  go_wp2_with fail
  try rw[zl]
  exact zk (v:=.tuple #[ptr g,.int .i64 0]) (by simp[results,results49,go_sem]) rfl ⟨g,c,u,rfl,HEQ.out▸H5.out.1,HB5.out⟩)
theorem Gb (t:Tox) (seed room now:Int) (h0:t=qi) (hr1:1≤room) (hr2:room≤4096) (w:World):Calls zf 49 #[t.v,.int .u64 seed,.int .i64 room,.int .i64 now] w (Tn (Zh t seed room now) w):=by
 have hb0:=Z8 w t
 have ha0:=Xh w t
 have hsz:=ha0.lt
 obtain⟨W0,hW0⟩:∃W0,w.alloc (qV t)=W0:=⟨_,rfl⟩
 rw[hW0]at hb0 ha0 hsz
 obtain⟨y0,y1,y2,y3,y4,y5⟩:=ha0.cell
 have HNE:=zd (show decide (t≠qi)=false by simpa using h0)
 have hk:t.k≠2:=by rw[h0];decide
 have er1:decide (room<1)=false:=by simp;omega
 have er2:decide (4096<room)=false:=by simp;omega
 have e5:(t.k==2)=false:=by simpa using hk
 have e6:decide (t.k=2)=false:=by simpa using hk
 have HEQ:=zd (Gd t seed room now hk)
 clear h0 hr1 hr2 hk
 have HT:=zd ha0
 have HB:=zd hb0
 clear hb0 ha0
 unfold qV at hW0
 unfold Tox.v
 go_enter func49,ntmps49
 go_upto_region 1 with fail
 clear hW0
 go_cut[0,14]from 12 (λ _ v wc=>v=.bool (decide (t≠qi))∧wc=W0)
 case first=>
  go_wp2_with fail
  all_goals (
   go_meet
   first
    |exact⟨congrArg Value.bool (decide_eq_true (p:=t≠qi) (Zn (Or.inl (by assumption)))).symm,rfl⟩
    |exact⟨congrArg Value.bool (decide_eq_true (p:=t≠qi) (Zn (Or.inr (Or.inl (by assumption))))).symm,rfl⟩
    |exact⟨congrArg Value.bool (decide_eq_true (p:=t≠qi) (Zn (Or.inr (Or.inr (Or.inl (by assumption)))))).symm,rfl⟩
    |exact⟨congrArg Value.bool (decide_eq_true (p:=t≠qi) (Zn (Or.inr (Or.inr (Or.inr (Or.inl (by assumption))))))).symm,rfl⟩
    |exact⟨congrArg Value.bool (decide_eq_true (p:=t≠qi) (Zn (Or.inr (Or.inr (Or.inr (Or.inr (Or.inl (by assumption)))))))).symm,rfl⟩
    |exact⟨congrArg Value.bool (decide_eq_true (p:=t≠qi) (Zn (Or.inr (Or.inr (Or.inr (Or.inr (Or.inr (by assumption)))))))).symm,rfl⟩
    |exact⟨congrArg Value.bool (decide_eq_false (p:=t≠qi) (λ h=>h (VV (by assumption) (by assumption) (by assumption) (by assumption) (by assumption) (by assumption)))).symm,rfl⟩)
 case rest=>
 obtain⟨rfl,rfl⟩:=hcut
 rw[HNE.out]
 have HB1:=HB
 have HT1:=HT
 clear HB HT y0 y1 y2 y3 y4 y5 hsz
 generalize wc=w1 at*
 go_wp2_with fail
 have HNC:=zd (gc.SF w1.drew)
 have HX:=zd (λ W (hb:Below w1.drew.heap.size w1.drew W)=>((HT1.out.on (zh _ w1).drew).on hb).cell)
 obtain⟨y0,y1,y2,y3,y4,y5⟩:=HT1.out.cell
 go_region_law
  (first
   |(go_simp;go_at_call 80;(with_reducible refine zr HNC.out ?_);rintro e w2 ⟨c,u,rfl,hal,hb⟩;obtain⟨z0,z1,z2,z3,z4,z5⟩:=HX.out w2 hb))
 all_goals (
  have hbw:Below w1.heap.size w1 w2:=gc.seqB (zh _ w1).drew hb
  have hb2:Below w2.heap.size w2 (w2.alloc (.cells (stC c (ZN t seed room)) 113)):=(zh _ _).alloc (zg _) _
  have hwl:w.heap.size≤w1.heap.size:=HB1.out.size
  have hw2:w1.heap.size≤w2.heap.size:=hbw.size
  have hst:Raw (w2.alloc (.cells (stC c (ZN t seed room)) 113)) w.heap.size w2.heap.size c u (ZN t seed room) 0:=⟨zo w2 _,QL (hal.on hb2) hwl,by omega⟩
  have hbn:=gc.seqB (gc.seqB HB1.out hbw) hb2
  have htn:=(HT1.out.on hbw).on hb2
  have hne:w.heap.size≠w2.heap.size:=by have:=HT1.out.lt;omega
  obtain⟨W3,hW3⟩:∃W3,w2.alloc (.cells (stC c (ZN t seed room)) 113)=W3:=⟨_,rfl⟩
  rw[hW3]at hst hbn htn
  have HST:=zd hst
  have HBN:=zd hbn
  have HTN:=zd htn
  have HNEQ:=zd hne
  have HLE:=zd (show w.heap.size≤w2.heap.size by omega)
  unfold stC ZN at hW3
  dsimp only at hW3
  clear hst hbn htn hne hb hbw hb2 hal hwl hw2 z0 z1 z2 z3 z4 z5 y0 y1 y2 y3 y4 y5 HNC HX HT1 HB1
  generalize w2.heap.size=g at*
  go_wp2_with fail
  clear hW3
  refine(YR HST.out now).mono ?_
  rintro e w4 ⟨rfl,h4⟩
  have x15:w4.cell? ⟨g,15,none⟩=some (.int .i64 (qM 0 now)):=h4.1.cell 15
  have x14:w4.cell? ⟨g,14,none⟩=some (.int .i64 0):=h4.1.cell 14
  have f14:w4.frozen? ⟨g,14,none⟩=false:=h4.1.frz 14
  have h5:=h4.set (i:=14) (v:=.int .i64 (qM 0 now)) (s':={qL (ZN t seed room) now with began:=qM 0 now}) rfl rfl rfl rfl
  have HT5:=zd ((HTN.out.og h4.2 HNEQ.out).og (Og.set w4 g 14 (.int .i64 (qM 0 now))) HNEQ.out)
  have H5:=zd h5
  clear h4 h5 HST HTN
  go_upto_region 10 with fail
  generalize w4.setCell ⟨g,14,none⟩ (.int .i64 (qM 0 now))=w5 at*
  clear x15 x14 f14
  obtain⟨_,y1,_,_,y4,y5⟩:=HT5.out.cell
  have HB5:=zd (Um HBN.out HBN.out.size HLE.out H5.out.2)
  clear HBN HT5
  go_wp2_with fail
  try rw[zl]
  exact zk (v:=.tuple #[ptr g,.int .i64 0]) (by simp[results,results49,go_sem]) rfl ⟨g,c,u,rfl,HEQ.out▸H5.out.1,HB5.out⟩)
end
section
open Go.RowKit
variable {w w' w'' w0:World} {base g c M M':Nat} {u u' u'':gc.U} {s s' s'' s1 s2:St}
theorem UK {t:Tox} (hE:t.chk=0) (hk:t.k=2) (now:Int):gb.qI t.a t.b t.b (qM 0 now)=true:=by
 obtain⟨_,hpp⟩:=Ti hE
 unfold gx.Zv at hpp
 simp only[Bool.and_eq_true]at hpp
 have hp1:=VJ hpp.1.1
 have hp2:=VJ hpp.1.2
 have hp3:=hpp.2
 rw[if_neg (by omega),if_pos hk]at hp3
 have hp3:1≤t.b∧t.b≤4096:=by simpa using hp3
 have hck:=VI now
 rw[←YC]at hck
 exact(gb.qY _ _ _ _).2 ⟨hp1,hp2,hp2,hck,by omega,Int.le_refl _⟩
theorem Bs (t:Tox) (ht:t.s.size≤maxLen) (seed room now:Int) (hE:t.chk=0) (h0:t≠qi) (hr1:1≤room) (hr2:room≤4096) (hk:t.k=2) (w:World):Calls zf 49 #[t.v,.int .u64 seed,.int .i64 room,.int .i64 now] w (Tn (Zh t seed room now) w):=by
 have hb0:=Z8 w t
 have ha0:=Xh w t
 have hsz:=ha0.lt
 obtain⟨W0,hW0⟩:∃W0,w.alloc (qV t)=W0:=⟨_,rfl⟩
 rw[hW0]at hb0 ha0 hsz
 obtain⟨y0,y1,y2,y3,y4,y5⟩:=ha0.cell
 have HCK:=zd (λ W=>show Calls zf 79 #[.agg #[.string t.s,.int .i64 t.k,.bool t.up,.int .i64 t.o,.int .i64 t.a,.int .i64 t.b]] W λ e w'=>e=.returned (.int .i64 0)∧Below W.heap.size W w' from by rw[←hE];exact gx.Jr t.s ht t.k t.up t.o t.a t.b W)
 have HNE:=zd (show decide (t≠qi)=true by simpa using h0)
 have er1:decide (room<1)=false:=by simp;omega
 have er2:decide (4096<room)=false:=by simp;omega
 have HE5:=zd (show(t.k==2)=true by simpa using hk)
 have HE6:=zd (show decide (t.k=2)=true by simpa using hk)
 have HEQ:=zd (Ew t seed room now hk)
 have hrn:=UK hE hk now
 have HBN2:=zd (λ W=>gb.Ge hrn W)
 clear hE ht h0 hr1 hr2 hk hrn
 have HT:=zd ha0
 have HB:=zd hb0
 clear hb0 ha0
 unfold qV at hW0
 unfold Tox.v
 go_enter func49,ntmps49
 go_upto_region 1 with fail
 clear hW0
 go_cut[0,14]from 12 (λ _ v wc=>v=.bool (decide (t≠qi))∧wc=W0)
 case first=>
  go_wp2_with fail
  all_goals (
   go_meet
   first
    |exact⟨congrArg Value.bool (decide_eq_true (p:=t≠qi) (Zn (Or.inl (by assumption)))).symm,rfl⟩
    |exact⟨congrArg Value.bool (decide_eq_true (p:=t≠qi) (Zn (Or.inr (Or.inl (by assumption))))).symm,rfl⟩
    |exact⟨congrArg Value.bool (decide_eq_true (p:=t≠qi) (Zn (Or.inr (Or.inr (Or.inl (by assumption)))))).symm,rfl⟩
    |exact⟨congrArg Value.bool (decide_eq_true (p:=t≠qi) (Zn (Or.inr (Or.inr (Or.inr (Or.inl (by assumption))))))).symm,rfl⟩
    |exact⟨congrArg Value.bool (decide_eq_true (p:=t≠qi) (Zn (Or.inr (Or.inr (Or.inr (Or.inr (Or.inl (by assumption)))))))).symm,rfl⟩
    |exact⟨congrArg Value.bool (decide_eq_true (p:=t≠qi) (Zn (Or.inr (Or.inr (Or.inr (Or.inr (Or.inr (by assumption)))))))).symm,rfl⟩
    |exact⟨congrArg Value.bool (decide_eq_false (p:=t≠qi) (λ h=>h (VV (by assumption) (by assumption) (by assumption) (by assumption) (by assumption) (by assumption)))).symm,rfl⟩)
 case rest=>
 obtain⟨rfl,rfl⟩:=hcut
 rw[HNE.out]
 go_wp2_with fail
 refine(HCK.out _).mono ?_
 rintro e w1 ⟨rfl,hb⟩
 have HB1:=zd (gc.seqB HB.out hb)
 have HT1:=zd (HT.out.on hb)
 clear hb HB HT y0 y1 y2 y3 y4 y5 HCK hsz
 go_wp2_with fail
 have HNC:=zd (gc.SF w1.drew)
 have HX:=zd (λ W (hb:Below w1.drew.heap.size w1.drew W)=>((HT1.out.on (zh _ w1).drew).on hb).cell)
 obtain⟨y0,y1,y2,y3,y4,y5⟩:=HT1.out.cell
 go_region_law
  (first
   |(go_simp;go_at_call 80;(with_reducible refine zr HNC.out ?_);rintro e w2 ⟨c,u,rfl,hal,hb⟩;obtain⟨z0,z1,z2,z3,z4,z5⟩:=HX.out w2 hb))
 all_goals (
  have hbw:Below w1.heap.size w1 w2:=gc.seqB (zh _ w1).drew hb
  have hb2:Below w2.heap.size w2 (w2.alloc (.cells (stC c (ZN t seed room)) 113)):=(zh _ _).alloc (zg _) _
  have hwl:w.heap.size≤w1.heap.size:=HB1.out.size
  have hw2:w1.heap.size≤w2.heap.size:=hbw.size
  have hst:Raw (w2.alloc (.cells (stC c (ZN t seed room)) 113)) w.heap.size w2.heap.size c u (ZN t seed room) 0:=⟨zo w2 _,QL (hal.on hb2) hwl,by omega⟩
  have hbn:=gc.seqB (gc.seqB HB1.out hbw) hb2
  have htn:=(HT1.out.on hbw).on hb2
  have hne:w.heap.size≠w2.heap.size:=by have:=HT1.out.lt;omega
  obtain⟨W3,hW3⟩:∃W3,w2.alloc (.cells (stC c (ZN t seed room)) 113)=W3:=⟨_,rfl⟩
  rw[hW3]at hst hbn htn
  have HST:=zd hst
  have HBN:=zd hbn
  have HTN:=zd htn
  have HNEQ:=zd hne
  have HLE:=zd (show w.heap.size≤w2.heap.size by omega)
  unfold stC ZN at hW3
  dsimp only at hW3
  clear hst hbn htn hne hb hbw hb2 hal hwl hw2 z0 z1 z2 z3 z4 z5 y0 y1 y2 y3 y4 y5 HNC HX HT1 HB1
  generalize w2.heap.size=g at*
  go_wp2_with fail
  clear hW3
  refine(YR HST.out now).mono ?_
  rintro e w4 ⟨rfl,h4⟩
  have x15:w4.cell? ⟨g,15,none⟩=some (.int .i64 (qM 0 now)):=h4.1.cell 15
  have x14:w4.cell? ⟨g,14,none⟩=some (.int .i64 0):=h4.1.cell 14
  have f14:w4.frozen? ⟨g,14,none⟩=false:=h4.1.frz 14
  have h5:=h4.set (i:=14) (v:=.int .i64 (qM 0 now)) (s':={qL (ZN t seed room) now with began:=qM 0 now}) rfl rfl rfl rfl
  have HT5:=zd ((HTN.out.og h4.2 HNEQ.out).og (Og.set w4 g 14 (.int .i64 (qM 0 now))) HNEQ.out)
  have H5:=zd h5
  clear h4 h5 HST HTN
  go_upto_region 10 with fail
  generalize w4.setCell ⟨g,14,none⟩ (.int .i64 (qM 0 now))=w5 at*
  clear x15 x14 f14
  obtain⟨_,y1,_,_,y4,y5⟩:=HT5.out.cell
  have HB5:=zd (Um HBN.out HBN.out.size HLE.out H5.out.2)
  clear HBN HT5
  have x15:w5.cell? ⟨g,15,none⟩=some (.int .i64 (qM 0 now)):=H5.out.1.cell 15
  have HC:=zd (λ W (hb:Below w5.drew.heap.size w5.drew W)=>(⟨Vu (s:={qL (ZN t seed room) now with began:=qM 0 now}) (H5.out.1.drew.on hb),Ni (s:={qL (ZN t seed room) now with began:=qM 0 now}) (H5.out.1.drew.on hb),Set.bk (s:={qL (ZN t seed room) now with began:=qM 0 now}) ((H5.out.on (zh w5.heap.size w5).drew).on hb) ⟨t.a,t.b,t.b,qM 0 now⟩,((HB5.out.trans ((zh _ w5).drew.mono HB5.out.size)).trans (hb.mono HB5.out.size))⟩:(W.cell? ⟨g,8,none⟩=some (.int .i64 0)∧W.cell? ⟨g,9,none⟩=some (.int .i64 0)∧W.cell? ⟨g,10,none⟩=some (.int .i64 0)∧W.cell? ⟨g,11,none⟩=some (.int .i64 0))∧(W.frozen? ⟨g,8,none⟩=false∧W.frozen? ⟨g,9,none⟩=false∧W.frozen? ⟨g,10,none⟩=false∧W.frozen? ⟨g,11,none⟩=false)∧Set W3 w.heap.size g c u {qL (ZN t seed room) now with began:=qM 0 now,bk:=⟨t.a,t.b,t.b,qM 0 now⟩} 0 (QW W g ⟨t.a,t.b,t.b,qM 0 now⟩)∧Below w.heap.size w W))
  clear H5 HB5
  have e5:=HE5.out
  have e6:=HE6.out
  go_wp2_with fail
  go_region_law
   (first
    |(go_simp;go_at_call 81;(with_reducible refine zr (HBN2.out _) ?_);rintro e w6 ⟨rfl,hb⟩;(obtain⟨⟨z8,z9,z10,z11⟩,⟨f8,f9,f10,f11⟩,hs,hbl⟩:=HC.out w6 hb);clear hb)))
 all_goals (
  have HS:=zd hs
  have HBL:=zd (Um hbl hbl.size HLE.out (((((Og.set w6 g 8 (.int .i64 t.a)).trans (Og.set _ g 9 (.int .i64 t.b))).trans (Og.set _ g 10 (.int .i64 t.b))).trans (Og.set _ g 11 (.int .i64 (qM 0 now)))):Og w6 (QW w6 g ⟨t.a,t.b,t.b,qM 0 now⟩) g))
  clear hs hbl
  go_wp2_with fail
  generalize hW:QW w6 g ⟨t.a,t.b,t.b,qM 0 now⟩=W9 at*
  unfold QW at hW
  dsimp only at hW
  try rw[hW]
  try rw[zl]
  exact zk (v:=.tuple #[ptr g,.int .i64 0]) (by simp[results,results49,go_sem]) rfl ⟨g,c,u,rfl,HEQ.out▸HS.out.1,HBL.out⟩)
end
section
open Go.RowKit
abbrev Own:=Nat→Prop
def jH (g c:Nat) (u:gc.U):Own:=λ i=>i=g∨i=c∨u.1=some i∨u.2=some i
def Rep (w:World) (U:Own) (g:Nat) (s:St) (M:Nat):Prop:=∃base c u s',Raw w base g c u s' M∧Ok s' M∧Sim s' s∧U=jH g c u
theorem JK {w:World} {U:Own} {g:Nat} {s:St} {M:Nat} (h:Rep w U g s M):U g∧∀i,U i→i<w.heap.size:=by
 obtain⟨base,c,u,s',hr,_,_,rfl⟩:=h
 refine⟨Or.inl rfl,λ i hi=>?_⟩
 have hu:=hr.car.UQ
 rcases hi with rfl|rfl|h|h
 ·exact hr.lt
 ·obtain⟨ms,G,h1,_⟩:=hr.car
  exact h1.lt.2
 ·exact(hu.1 i h).2
 ·exact(hu.2 i h).2
theorem OE {w w':World} {U:Own} {g:Nat} {s:St} {M:Nat} (h:Rep w U g s M) (_hs:w.heap.size≤w'.heap.size) (hb:∀i,U i→w'.heap[i]?=w.heap[i]?):Rep w' U g s M:=by
 obtain⟨base,c,u,s',hr,ho,hs,rfl⟩:=h
 obtain⟨ms,G,h1,h2⟩:=hr.car
 exact⟨base,c,u,s',⟨(hb g (Or.inl rfl)).trans hr.blk,⟨ms,G,h1.keep (hb c (Or.inr (Or.inl rfl))) (λ i e=>hb i (Or.inr (Or.inr (Or.inl e)))) (λ i e=>hb i (Or.inr (Or.inr (Or.inr e)))),h2⟩,hr.base⟩,ho,hs,rfl⟩
theorem OG {w:World} {U:Own} {g:Nat} {s:St} {M M':Nat} (h:Rep w U g s M) (hM:M≤M') (hf:M'≤1000000):Rep w U g s M':=by
 obtain⟨base,c,u,s',hr,ho,hs,e⟩:=h
 exact⟨base,c,u,s',hr.more hM hf,ho.more hM hf,hs,e⟩
def Kp (w:World) (U:Own) (w':World):Prop:=Below 0 w w'∧∀i,i<w.heap.size→¬U i→w'.heap[i]?=w.heap[i]?
def Stp (w:World) (U:Own) (g:Nat) (s:St) (M:Nat) (w':World):Prop:=∃U',Rep w' U' g s M∧Kp w U w'∧∀i,U' i→U i∨w.heap.size≤i
def Far (q:Option Addr) (K:Nat) (U:Own) (w:World):Prop:=0<K→∀a,q=some a→¬U a.block∧a.block<w.heap.size
def BN (w:World) (U:Own) (g:Nat) (s:St) (M:Nat) (q:Option Addr) (K:Nat) (w':World):Prop:=∃U',Rep w' U' g s M∧Kp w U w'∧(∀i,U' i→U i∨w.heap.size≤i)∧Far q K U' w'
def Dl (w:World) (U:Own) (g:Nat) (s:St) (M:Nat) (T:ByteArray) (K:Nat) (e:Ending) (w':World):Prop:=∃q d,e=.returned (.slice q K d)∧Lib.BytesIn w' q K (gc.nums T)∧T.size=K∧K≤d∧d≤9223372036854775807∧BN w U g s M q K w'
theorem BN.stp {w:World} {U:Own} {g:Nat} {s:St} {M:Nat} {q:Option Addr} {K:Nat} {w':World} (h:BN w U g s M q K w'):Stp w U g s M w':=by
 obtain⟨U',h1,h2,h3,_⟩:=h
 exact⟨U',h1,h2,h3⟩
theorem Stp.size {w:World} {U:Own} {g:Nat} {s:St} {M:Nat} {w':World} (h:Stp w U g s M w'):w.heap.size≤w'.heap.size:=by
 obtain⟨U',_,⟨hb,_⟩,_⟩:=h
 exact hb.size
def Hd (w0 w:World) (U:Own) (g:Nat) (s:St) (M:Nat):Prop:=Rep w U g s M∧(∀i,U i→w0.heap.size≤i)∧Below w0.heap.size w0 w
section
variable {w0 w w':World} {U:Own} {g:Nat} {s s':St} {M M':Nat}
theorem Hd.on (h:Hd w0 w U g s M) (hb:Below w.heap.size w w'):Hd w0 w' U g s M:=
 ⟨OE h.1 hb.size (λ i hi=>hb.block i ((JK h.1).2 i hi)),h.2.1,h.2.2.trans (hb.mono h.2.2.size)⟩
def Rest (w:World) (U:Own) (w':World) (U':Own):Prop:=∀i,i<w.heap.size→¬U i→w'.heap[i]?=w.heap[i]?∧¬U' i
theorem Hd.mono (h:Hd w0 w U g s M) (hM:M≤M') (hf:M'≤1000000):Hd w0 w U g s M':=⟨OG h.1 hM hf,h.2⟩
theorem Hd.set (h:Hd w0 w U g s M) {c k:Nat} (hc:¬U c) (h0:w0.heap.size≤c) (v:Value):Hd w0 (w.setCell ⟨c,k,none⟩ v) U g s M:=
 ⟨OE h.1 (by simp[World.setCell]) (λ i hi=>zn _ _ _ _ (λ e=>hc (by have e':i=c:=e;rw[←e'];exact hi))),h.2.1,h.2.2.setCell (p:=⟨c,k,none⟩) h0 v⟩
end
section
variable {w w':World} {base g c:Nat} {u u':gc.U} {s s':St} {M M':Nat}
theorem DC (h:Mv w w' g c u u'):Kp w (jH g c u) w':=⟨⟨h.os,h.tape,h.output,zt (Nat.zero_le _) h.size|>λ _=>h.size,λ i hi=>absurd hi (Nat.not_lt_zero i)⟩,λ i hi hu=>h.block i hi (λ e=>hu (Or.inl e)) (λ e=>hu (Or.inr (Or.inl e))) (λ e=>hu (Or.inr (Or.inr (Or.inl e)))) (λ e=>hu (Or.inr (Or.inr (Or.inr e))))⟩
theorem Gc (h:Mv w w' g c u u'):∀i,jH g c u' i→jH g c u i∨w.heap.size≤i:=λ i hi=>by
 rcases hi with e|e|e|e
 ·exact Or.inl (Or.inl e)
 ·exact Or.inl (Or.inr (Or.inl e))
 ·rcases h.newer.1 i e with h1|h1
  ·exact Or.inl (Or.inr (Or.inr (Or.inl h1)))
  ·exact Or.inr h1
 ·rcases h.newer.2 i e with h1|h1
  ·exact Or.inl (Or.inr (Or.inr (Or.inr h1)))
  ·exact Or.inr h1
theorem QR {s2:St} (h:Did w base g c u s2 M' w') (ho:Ok s2 M') (hs:Sim s2 s):Stp w (jH g c u) g s M' w':=by
 obtain⟨u',h1,h2⟩:=h
 exact⟨jH g c u',⟨base,c,u',s2,h1,ho,hs,rfl⟩,DC h2,Gc h2⟩
theorem G8 {s2:St} {T:ByteArray} {K:Nat} {e:Ending} (h:Tk w base g c u s2 M' T K e w') (ho:Ok s2 M') (hs:Sim s2 s):Dl w (jH g c u) g s M' T K e w':=by
 obtain⟨q,d,h1,h2,h3,h4,h5,u',h6,h7,h8⟩:=h
 refine⟨q,d,h1,h2,h3,h4,h5,jH g c u',⟨base,c,u',s2,h6,ho,hs,rfl⟩,DC h7,Gc h7,λ hK a ha=>?_⟩
 obtain⟨b,o,hq,hc⟩:=h2 hK
 have h0:=hc 0 hK
 have hg:=h6.O5 h0
 have ho':=h8 a ha
 rw[hq]at ha
 injection ha with ha
 subst ha
 refine⟨λ hu=>?_,?_⟩
 ·rcases hu with e|e|e|e
  ·exact hg e
  ·exact ho'.1 e
  ·exact ho'.2.1 e
  ·exact ho'.2.2 e
 ·rcases Nat.lt_or_ge b w'.heap.size with hl|hl
  ·exact hl
  ·simp[World.cell?,Array.getElem?_eq_none hl]at h0
end
theorem KT {t:Tox} {seed room now:Int} (ht:t.s.size≤maxLen) (hx:t=qi∨t.chk=0) (h1:1≤room) (h2:room≤4096):Ok (Zh t seed room now) 0:=by
 refine⟨hx,ht,VI now,⟨Int.le_refl _,Int.le_refl _⟩,⟨h1,h2⟩,λ hk=>?_,by decide⟩
 have hk:t.k=2:=hk
 rcases hx with e|e
 ·rw[e]at hk
  exact absurd hk (by decide)
 ·have hb:=UK e hk now
  rw[YC]at hb
  unfold Zh
  dsimp only
  rw[if_pos hk]
  exact hb
theorem KX {t:Tox} {seed room now:Int} {w w':World} {e:Ending} (ho:Ok (Zh t seed room now) 0) (h:Tn (Zh t seed room now) w e w'):
  ∃g U,e=.returned (.tuple #[ptr g,.int .i64 0])∧Rep w' U g (Zh t seed room now) 0∧(∀i,U i→w.heap.size≤i)∧Below w.heap.size w w':=by
 obtain⟨g,c,u,he,hr,hb⟩:=h
 refine⟨g,jH g c u,he,⟨w.heap.size,c,u,_,hr,ho,Uh _,rfl⟩,λ i hi=>?_,hb⟩
 have hu:=hr.car.UQ
 rcases hi with rfl|rfl|h|h
 ·exact hr.base
 ·obtain⟨ms,G,h1,_⟩:=hr.car
  exact h1.lt.1
 ·exact(hu.1 i h).1
 ·exact(hu.2 i h).1
theorem Ur {t:Tox} {room:Int} (h:Zx t room=0):(t=qi∨t.chk=0)∧1≤room∧room≤4096:=by
 unfold Zx at h
 by_cases h1:t≠qi∧t.chk≠0
 ·rw[if_pos h1]at h
  exact absurd h h1.2
 ·rw[if_neg h1]at h
  refine⟨?_,?_⟩
  ·by_cases e:t=qi
   ·exact Or.inl e
   ·by_cases e2:t.chk=0
    ·exact Or.inr e2
    ·exact absurd ⟨e,e2⟩ h1
  ·split at h<;>omega
theorem Bp {t:Tox} {seed room now:Int} (ht:t.s.size≤maxLen) (h:Zx t room=0) (w:World):Calls zf 49 #[t.v,.int .u64 seed,.int .i64 room,.int .i64 now] w λ e w'=>
  ∃g U,e=.returned (.tuple #[ptr g,.int .i64 0])∧Rep w' U g (Zh t seed room now) 0∧(∀i,U i→w.heap.size≤i)∧Below w.heap.size w w':=by
 obtain⟨hx,h1,h2⟩:=Ur h
 have ho:=KT (seed:=seed) (now:=now) ht hx h1 h2
 by_cases h0:t=qi
 ·exact(Gb t seed room now h0 h1 h2 w).mono λ _ _ hh=>KX ho hh
 ·have hc:t.chk=0:=hx.resolve_left h0
  by_cases hk:t.k=2
  ·exact(Bs t ht seed room now hc h0 h1 h2 hk w).mono λ _ _ hh=>KX ho hh
  ·exact(Ga t ht seed room now hc h0 h1 h2 hk w).mono λ _ _ hh=>KX ho hh
theorem Br {t:Tox} {seed room now:Int} (ht:t.s.size≤maxLen) (h:Zx t room≠0) (w:World):Calls zf 49 #[t.v,.int .u64 seed,.int .i64 room,.int .i64 now] w λ e w'=>
  e=.returned (.tuple #[.pointer none,.int .i64 (Zx t room)])∧Below w.heap.size w w':=by
 unfold Zx at h⊢
 by_cases h1:t≠qi∧t.chk≠0
 ·rw[if_pos h1]
  exact Ex t ht seed room now rfl h1.2 h1.1 w
 ·rw[if_neg h1]at h⊢
  have hr:room<1∨4096<room:=by
   rcases Decidable.em (room<1∨4096<room)with h2|h2
   ·exact h2
   ·rw[if_neg h2]at h
    exact absurd rfl h
  rw[if_pos hr]
  by_cases h0:t=qi
  ·exact SE t seed room now h0 hr w
  ·have hc:t.chk=0:=by
    rcases Decidable.em (t.chk=0)with e|e
    ·exact e
    ·exact absurd ⟨h0,e⟩ h1
   exact SD t ht seed room now hc h0 hr w
section
variable {w:World} {U:Own} {g:Nat} {s:St} {M M':Nat}
theorem Ad (h:Rep w U g s M) (now:Int) {p:Option Addr} {n c:Nat} {b:ByteArray} (hb:b.size=n) (hi:Lib.BytesIn w p n (gc.nums b)) (hM:M+b.size≤M') (hf:M'≤1000000) (hnc:n≤c:=by omega):
  Calls zf 37 #[ptr g,.int .i64 now,.slice p n c] w λ e w'=>e=.returned (.int .i64 (qU s now b).2)∧Stp w U g (qU s now b).1 M' w':=by
 obtain⟨base,c',u,s',hr,ho,hs,rfl⟩:=h
 have hsb:=hs.NX now b
 rw[←hsb.2]
 refine(Em hr ho now hb hi hnc hM hf).mono ?_
 rintro e w' ⟨rfl,hd⟩
 exact⟨rfl,QR hd (ho.NX now hM hf) hsb.1⟩
theorem NP (h:Rep w U g s M) (now:Int) {p:Option Addr} {n c:Nat} {b:ByteArray} (hb:b.size=n) (hi:Lib.BytesIn w p n (gc.nums b)) (hM:M+b.size≤M') (hf:M'≤1000000):
  Calls zf 62 #[ptr g,.int .i64 now,.slice p n c] w λ e w'=>e=.returned (.tuple #[])∧Stp w U g (Zy s now b) M' w':=by
 obtain⟨base,c',u,s',hr,ho,hs,rfl⟩:=h
 refine(Lq hr ho now hb hi hM hf).mono ?_
 rintro e w' ⟨rfl,hd⟩
 exact⟨rfl,QR hd (ho.push now hM hf) (hs.push now b)⟩
theorem LW (h:Rep w U g s M) (now most:Int) {T:ByteArray} (hT:(Zw s now most).2=T):
  Calls zf 46 #[ptr g,.int .i64 now,.int .i64 most] w (Dl w U g (Zw s now most).1 M T T.size):=by
 obtain⟨base,c',u,s',hr,ho,hs,rfl⟩:=h
 have hst:=hs.take ho now most
 rw[hT]at hst
 exact(LX hr ho now most (s2:=(Qo s' now most).1) (T:=T) (by rw[←hst.2])).mono λ _ _ hh=>G8 hh (ho.take hr.car.inv now most) hst.1
theorem E8 (h:Rep w U g s M) (now:Int):Calls zf 69 #[ptr g,.int .i64 now] w λ e w'=>e=.returned (.tuple #[])∧Stp w U g (qS s now) M w':=by
 obtain⟨base,c',u,s',hr,ho,hs,rfl⟩:=h
 refine(Ly hr now).mono ?_
 rintro e w' ⟨rfl,hd⟩
 exact⟨rfl,QR hd.did (ho.close now) (hs.close now)⟩
theorem QB (h:Rep w U g s M) (now:Int):Calls zf 45 #[ptr g,.int .i64 now] w λ e w'=>e=.returned (.int .i64 (qc s now).st)∧Stp w U g (qc s now) M w':=by
 obtain⟨base,c',u,s',hr,ho,hs,rfl⟩:=h
 rw[←(hs.look now).st]
 refine(ZE hr now).mono ?_
 rintro e w' ⟨rfl,hd⟩
 exact⟨rfl,QR hd.did (ho.look now) (hs.look now)⟩
theorem Ok.upd (h:Ok s M) (t:Tox) (ht:t.s.size≤maxLen) (now:Int):Ok (Xg s t now).1 M:=by
 unfold Xg
 split
 ·exact h
 ·split
  ·exact h
  ·split
   ·exact h
   ·rename_i h1 h2 h3
    have hc:t.chk=0:=by
     rcases Decidable.em (t.chk=0)with e|e
     ·exact e
     ·exact absurd e h3
    have hck:=VB (now:=now) h.clock
    refine⟨Or.inr hc,ht,hck,h.passed,h.room,λ hk=>?_,h.top⟩
    have hk:t.k=2:=hk
    dsimp only
    rw[if_pos hk]
    have hs2:s.tx.k=2:=by omega
    have hf:=gb.X4 (h.bk hs2) (qc s now).clock
    have hfr:=(gb.qY _ _ _ _).1 hf
    have hr:=(gb.qY _ _ _ _).1 (UK hc hk now)
    unfold Nf
    dsimp only
    refine(gb.qY _ _ _ _).2 ⟨hr.1,hr.2.1,?_,hfr.2.2.2.1,hr.2.2.2.2.1,?_⟩
    ·show 0≤(if _ then _ else _:Int)∧(if _ then _ else _:Int)≤_
     split
     ·exact hr.2.1
     ·exact hfr.2.2.1
    ·show(if _ then _ else _:Int)≤_
     split
     ·exact Int.le_refl _
     ·omega
theorem FN {w:World} {base g c:Nat} {u:gc.U} (h:Raw w base g c u s M) (ho:Ok s M) (t:Tox) (ht:t.s.size≤maxLen) (now:Int):Calls zf 65 #[ptr g,t.v,.int .i64 now] w λ e w'=>e=.returned (.int .i64 (Xg s t now).2)∧Set w base g c u (Xg s t now).1 M w':=by
 unfold Xg
 by_cases h1:t.k=s.tx.k
 ·rw[if_neg (by omega)]
  by_cases h2:t.k=0
  ·rw[if_pos h2]
   exact BV h t now h1 h2
  ·rw[if_neg h2]
   by_cases h3:t.chk=0
   ·rw[if_neg (by omega)]
    dsimp only
    by_cases h4:t.k=2
    ·rw[if_pos h4]
     exact DV h t ht now h1 h2 h3 h4 (ho.bk (by omega)) ho.clock
    ·rw[if_neg h4]
     exact DU h t ht now h1 h2 h3 h4
   ·rw[if_pos h3]
    exact BU h t ht now h1 h2 rfl h3
 ·rw[if_pos h1]
  exact DW h t now h1
theorem LM (h:Rep w U g s M) (t:Tox) (ht:t.s.size≤maxLen) (now:Int):Calls zf 65 #[ptr g,t.v,.int .i64 now] w λ e w'=>e=.returned (.int .i64 (Xg s t now).2)∧Stp w U g (Xg s t now).1 M w':=by
 obtain⟨base,c',u,s',hr,ho,hs,rfl⟩:=h
 have hsu:=hs.upd t now
 rw[←hsu.2]
 refine(FN hr ho t ht now).mono ?_
 rintro e w' ⟨rfl,hd⟩
 exact⟨rfl,QR hd.did (ho.upd t ht now) hsu.1⟩
theorem G6 (h:Rep w U g s M):Calls zf 47 #[ptr g] w λ e w'=>e=.returned (.int .i64 (s.S.size:Int))∧w=w':=by
 obtain⟨base,c',u,s',hr,ho,hs,rfl⟩:=h
 rw[←hs.S]
 exact G7 hr
end
end
end Go.Proofs.YtfdfgnmgpgkknaaGreat
