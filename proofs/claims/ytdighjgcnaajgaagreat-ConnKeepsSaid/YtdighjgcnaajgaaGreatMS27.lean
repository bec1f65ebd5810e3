import Derived.Test.YtdighjgcnaajgaaGreatMS26
import Derived.Test.YtdighjgcnaajgaaGreatMS22
import Derived.Deep.Cut
namespace Go.Proofs.YtdighjgcnaajgaaGreat
open Go.RowKit
variable {w w' w'' w0:World} {base g c M M':Nat} {u u' u'':gc.U} {s s' s'' s1 s2:St}
def txCells (t:Tox):Obj:=.cells #[.string t.s,.int .i64 t.k,.bool t.up,.int .i64 t.o,.int .i64 t.a,.int .i64 t.b] 46
def TxAt (w:World) (q:Nat) (t:Tox):Prop:=w.heap[q]?=some (txCells t)
theorem TxAt.lt {q:Nat} {t:Tox} (h:TxAt w q t):q<w.heap.size:=(Array.getElem?_eq_some_iff.1 h).1
theorem TxAt.on {q:Nat} {t:Tox} (h:TxAt w q t) (hb:Below w.heap.size w w'):TxAt w' q t:=(hb.block _ h.lt).trans h
theorem TxAt.og {q:Nat} {t:Tox} (h:TxAt w q t) (ho:Og w w' g) (hq:q≠g):TxAt w' q t:=(ho.block _ h.lt hq).trans h
theorem TxAt.cell {q:Nat} {t:Tox} (h:TxAt w q t):w.cell? ⟨q,0,none⟩=some (.string t.s)∧w.cell? ⟨q,1,none⟩=some (.int .i64 t.k)∧w.cell? ⟨q,2,none⟩=some (.bool t.up)∧w.cell? ⟨q,3,none⟩=some (.int .i64 t.o)∧w.cell? ⟨q,4,none⟩=some (.int .i64 t.a)∧w.cell? ⟨q,5,none⟩=some (.int .i64 t.b):=
 ⟨cell_of_row _ _ 0 _ _ _ h,cell_of_row _ _ 1 _ _ _ h,cell_of_row _ _ 2 _ _ _ h,cell_of_row _ _ 3 _ _ _ h,cell_of_row _ _ 4 _ _ _ h,cell_of_row _ _ 5 _ _ _ h⟩
theorem tx_alloc (w:World) (t:Tox):TxAt (w.alloc (txCells t)) w.heap.size t:=heap_alloc_new w (txCells t)
theorem tx_below (w:World) (t:Tox):Below w.heap.size w (w.alloc (txCells t)):=(Below.refl _ _).alloc (Nat.le_refl _) _
set_option maxRecDepth 100000 in
set_option maxHeartbeats 8000000 in
theorem upd_91 (h:Raw w base g c u s M) (t:Tox) (now:Int) (hk:t.k≠s.tx.k):Calls Tryz.prog 148 #[ptr g,t.v,.int .i64 now] w λ e w'=>e=.returned (.int .i64 91)∧Set w base g c u s M w':=by
 have hb0:=tx_below w t
 have ha0:=tx_alloc w t
 have hS:=(Set.refl h).on hb0
 have hsz:=ha0.lt
 obtain⟨W0,hW0⟩:∃W0,w.alloc (txCells t)=W0:=⟨_,rfl⟩
 rw[hW0]at hb0 ha0 hS hsz
 have x2:W0.cell? ⟨g,2,none⟩=some (.int .i64 s.tx.k):=hS.1.cell 2
 have hne:w.heap.size≠g:=by have:=h.lt;omega
 obtain⟨_,y1,_,_,_,_⟩:=ha0.cell
 have HS:=Lib.hid (hS.on (Below.refl _ _).drew)
 have HT:=Lib.hid (ha0.on (Below.refl _ _).drew)
 have e1:(t.k !=s.tx.k)=true:=by simpa using hk
 have e2:decide (t.k=s.tx.k)=false:=by simpa using hk
 clear hne
 clear h hS hb0 ha0
 unfold txCells at hW0
 unfold Tox.v
 go_enter Tryz.func148,Tryz.ntmps148
 go_wp2_with fail
 clear hW0
 refine wp_region_still_tail 7 (by kernel_rfl) (by kernel_rfl) ?_
 simp only[List.take_succ_cons,List.take_zero,List.drop_succ_cons,List.drop_zero]
 repeat still_step
 refine wpStill_nil ?_
 go_wp2_with fail
 try rw[Exit.noGoto_ret]
 go_ret
 exact⟨rfl,HS.out⟩
set_option maxRecDepth 100000 in
set_option maxHeartbeats 8000000 in
theorem upd_0 (h:Raw w base g c u s M) (t:Tox) (now:Int) (hk:t.k=s.tx.k) (h0:t.k=0):Calls Tryz.prog 148 #[ptr g,t.v,.int .i64 now] w λ e w'=>e=.returned (.int .i64 0)∧Set w base g c u s M w':=by
 have hb0:=tx_below w t
 have ha0:=tx_alloc w t
 have hS:=(Set.refl h).on hb0
 have hsz:=ha0.lt
 obtain⟨W0,hW0⟩:∃W0,w.alloc (txCells t)=W0:=⟨_,rfl⟩
 rw[hW0]at hb0 ha0 hS hsz
 have x2:W0.cell? ⟨g,2,none⟩=some (.int .i64 s.tx.k):=hS.1.cell 2
 have hne:w.heap.size≠g:=by have:=h.lt;omega
 obtain⟨_,y1,_,_,_,_⟩:=ha0.cell
 have HS:=Lib.hid (hS.on (Below.refl _ _).drew)
 have HT:=Lib.hid (ha0.on (Below.refl _ _).drew)
 rw[←hk]at x2
 have e1:(t.k==0)=true:=by simpa using h0
 have e2:decide (t.k=0)=true:=by simpa using h0
 clear hk hne h0
 clear h hS hb0 ha0
 unfold txCells at hW0
 unfold Tox.v
 go_enter Tryz.func148,Tryz.ntmps148
 go_wp2_with fail
 clear hW0
 refine wp_region_still_tail 7 (by kernel_rfl) (by kernel_rfl) ?_
 simp only[List.take_succ_cons,List.take_zero,List.drop_succ_cons,List.drop_zero]
 repeat still_step
 refine wpStill_nil ?_
 go_wp2_with fail
 try rw[Exit.noGoto_ret]
 go_ret
 exact⟨rfl,HS.out⟩
end Go.Proofs.YtdighjgcnaajgaaGreat
namespace Go.Proofs.YtdighjgcnaajgaaGreat
open Go.RowKit
variable {w w' w'' w0:World} {base g c M M':Nat} {u u' u'':gc.U} {s s' s'' s1 s2:St}
def setT (w:World) (g:Nat) (t:Tox):World:=(((((w.setCell ⟨g,1,none⟩ (.string t.s)).setCell ⟨g,2,none⟩ (.int .i64 t.k)).setCell ⟨g,3,none⟩ (.bool t.up)).setCell ⟨g,4,none⟩ (.int .i64 t.o)).setCell ⟨g,5,none⟩ (.int .i64 t.a)).setCell ⟨g,6,none⟩ (.int .i64 t.b)
theorem Set.tox (h:Set w base g c u s M w') (t:Tox):Set w base g c u {s with tx:=t} M (setT w' g t):=
 (((((h.set (i:=1) (s':={s with tx:=⟨t.s,s.tx.k,s.tx.up,s.tx.o,s.tx.a,s.tx.b⟩}) rfl rfl rfl rfl).set (i:=2) (s':={s with tx:=⟨t.s,t.k,s.tx.up,s.tx.o,s.tx.a,s.tx.b⟩}) rfl rfl rfl rfl).set (i:=3) (s':={s with tx:=⟨t.s,t.k,t.up,s.tx.o,s.tx.a,s.tx.b⟩}) rfl rfl rfl rfl).set (i:=4) (s':={s with tx:=⟨t.s,t.k,t.up,t.o,s.tx.a,s.tx.b⟩}) rfl rfl rfl rfl).set (i:=5) (s':={s with tx:=⟨t.s,t.k,t.up,t.o,t.a,s.tx.b⟩}) rfl rfl rfl rfl).set (i:=6) (s':={s with tx:=t}) rfl rfl rfl rfl
theorem tx_cells (h:Raw w base g c u s M):w.cell? ⟨g,1,none⟩=some (.string s.tx.s)∧w.cell? ⟨g,2,none⟩=some (.int .i64 s.tx.k)∧w.cell? ⟨g,3,none⟩=some (.bool s.tx.up)∧w.cell? ⟨g,4,none⟩=some (.int .i64 s.tx.o)∧w.cell? ⟨g,5,none⟩=some (.int .i64 s.tx.a)∧w.cell? ⟨g,6,none⟩=some (.int .i64 s.tx.b):=⟨h.cell 1,h.cell 2,h.cell 3,h.cell 4,h.cell 5,h.cell 6⟩
theorem tx_frz (h:Raw w base g c u s M):w.frozen? ⟨g,1,none⟩=false∧w.frozen? ⟨g,2,none⟩=false∧w.frozen? ⟨g,3,none⟩=false∧w.frozen? ⟨g,4,none⟩=false∧w.frozen? ⟨g,5,none⟩=false∧w.frozen? ⟨g,6,none⟩=false:=⟨h.frz 1,h.frz 2,h.frz 3,h.frz 4,h.frz 5,h.frz 6⟩
theorem Og.setT (w:World) (g:Nat) (t:Tox):Og w (setT w g t) g:=(((((Og.set w g 1 _).trans (Og.set _ g 2 _)).trans (Og.set _ g 3 _)).trans (Og.set _ g 4 _)).trans (Og.set _ g 5 _)).trans (Og.set _ g 6 _)
set_option maxRecDepth 100000 in
set_option maxHeartbeats 8000000 in
theorem upd_e (h:Raw w base g c u s M) (t:Tox) (ht:t.s.size≤maxLen) (now:Int) (hk:t.k=s.tx.k) (h0:t.k≠0) {E:Int} (hE:t.chk=E) (hE0:E≠0):Calls Tryz.prog 148 #[ptr g,t.v,.int .i64 now] w λ e w'=>e=.returned (.int .i64 E)∧Set w base g c u s M w':=by
 have hb0:=tx_below w t
 have ha0:=tx_alloc w t
 have hS:=(Set.refl h).on hb0
 have hsz:=ha0.lt
 obtain⟨W0,hW0⟩:∃W0,w.alloc (txCells t)=W0:=⟨_,rfl⟩
 rw[hW0]at hb0 ha0 hS hsz
 have x2:W0.cell? ⟨g,2,none⟩=some (.int .i64 s.tx.k):=hS.1.cell 2
 have hne:w.heap.size≠g:=by have:=h.lt;omega
 obtain⟨y0,y1,y2,y3,y4,y5⟩:=ha0.cell
 have HS:=Lib.hid (hS.on (Below.refl _ _).drew)
 have HT:=Lib.hid (ha0.on (Below.refl _ _).drew)
 rw[←hk]at x2
 have e1:(t.k==0)=false:=by simpa using h0
 have e2:decide (t.k=0)=false:=by simpa using h0
 have HCK:=Lib.hid (λ W=>show Calls Tryz.prog 50 #[.agg #[.string t.s,.int .i64 t.k,.bool t.up,.int .i64 t.o,.int .i64 t.a,.int .i64 t.b]] W λ e w'=>e=.returned (.int .i64 E)∧Below W.heap.size W w' from by rw[←hE];exact gx.check_any t.s ht t.k t.up t.o t.a t.b W)
 have e3:(E !=0)=true:=by simpa using hE0
 have e4:decide (E=0)=false:=by simpa using hE0
 clear hk hne h0 hE hE0 ht
 clear h hS hb0 ha0
 unfold txCells at hW0
 unfold Tox.v
 go_enter Tryz.func148,Tryz.ntmps148
 go_wp2_with fail
 clear hW0
 refine wp_region_still_tail 7 (by kernel_rfl) (by kernel_rfl) ?_
 simp only[List.take_succ_cons,List.take_zero,List.drop_succ_cons,List.drop_zero]
 repeat still_step
 refine wpStill_nil ?_
 go_wp2_with fail
 refine(HCK.out _).mono ?_
 rintro e w1 ⟨rfl,hb⟩
 have HS1:=Lib.hid (HS.out.on hb)
 clear hb HS HT
 go_wp2_with fail
 try rw[Exit.noGoto_ret]
 go_ret
 exact⟨rfl,HS1.out⟩
set_option maxRecDepth 100000 in
set_option maxHeartbeats 8000000 in
theorem upd_ok (h:Raw w base g c u s M) (t:Tox) (ht:t.s.size≤maxLen) (now:Int) (hk:t.k=s.tx.k) (h0:t.k≠0) (hE:t.chk=0) (h2:t.k≠2):Calls Tryz.prog 148 #[ptr g,t.v,.int .i64 now] w λ e w'=>e=.returned (.int .i64 0)∧Set w base g c u {lookS s now with tx:=t} M w':=by
 have hb0:=tx_below w t
 have ha0:=tx_alloc w t
 have hS:=(Set.refl h).on hb0
 have hsz:=ha0.lt
 obtain⟨W0,hW0⟩:∃W0,w.alloc (txCells t)=W0:=⟨_,rfl⟩
 rw[hW0]at hb0 ha0 hS hsz
 have x2:W0.cell? ⟨g,2,none⟩=some (.int .i64 s.tx.k):=hS.1.cell 2
 have hne:w.heap.size≠g:=by have:=h.lt;omega
 obtain⟨y0,y1,y2,y3,y4,y5⟩:=ha0.cell
 have HS:=Lib.hid (hS.on (Below.refl _ _).drew)
 have HT:=Lib.hid (ha0.on (Below.refl _ _).drew)
 rw[←hk]at x2
 have e1:(t.k==0)=false:=by simpa using h0
 have e2:decide (t.k=0)=false:=by simpa using h0
 have HCK:=Lib.hid (λ W=>show Calls Tryz.prog 50 #[.agg #[.string t.s,.int .i64 t.k,.bool t.up,.int .i64 t.o,.int .i64 t.a,.int .i64 t.b]] W λ e w'=>e=.returned (.int .i64 0)∧Below W.heap.size W w' from by rw[←hE];exact gx.check_any t.s ht t.k t.up t.o t.a t.b W)
 have e3:(t.k==2)=false:=by simpa using h2
 have e4:decide (t.k=2)=false:=by simpa using h2
 have HNE:=Lib.hid hne
 clear hk hne h0 hE ht h2
 clear h hS hb0 ha0
 unfold txCells at hW0
 unfold Tox.v
 go_enter Tryz.func148,Tryz.ntmps148
 go_wp2_with fail
 clear hW0
 refine wp_region_still_tail 7 (by kernel_rfl) (by kernel_rfl) ?_
 simp only[List.take_succ_cons,List.take_zero,List.drop_succ_cons,List.drop_zero]
 repeat still_step
 refine wpStill_nil ?_
 go_wp2_with fail
 refine(HCK.out _).mono ?_
 rintro e w1 ⟨rfl,hb⟩
 have HS1:=Lib.hid (HS.out.on hb)
 have HT1:=Lib.hid (HT.out.on hb)
 clear hb HS HT x2 y0 y1 y2 y3 y4 y5 HCK
 go_wp2_with fail
 refine(state_any HS1.out.1 now).mono ?_
 rintro e w2 ⟨rfl,hs2⟩
 have HS2:=Lib.hid (HS1.out.trans hs2)
 have ht2:=HT1.out.og hs2.2 HNE.out
 obtain⟨y0,y1,y2,y3,y4,y5⟩:=ht2.cell
 obtain⟨x1,x2,x3,x4,x5,x6⟩:=tx_cells HS2.out.1
 obtain⟨f1,f2,f3,f4,f5,f6⟩:=tx_frz HS2.out.1
 have HS3:=Lib.hid (HS2.out.tox t)
 have HT3:=Lib.hid (ht2.og (Og.setT w2 g t) HNE.out)
 clear hs2 ht2 HS1 HT1
 go_upto_region 10 with fail
 generalize hW:setT w2 g t=w3 at*
 unfold setT at hW
 rw[hW]
 clear hW x1 x2 x3 x4 x5 x6 f1 f2 f3 f4 f5 f6 y0 y1 y2 y3 y4 y5 HS2
 obtain⟨_,y1,_,_,_,_⟩:=HT3.out.cell
 go_wp2_with fail
 try rw[Exit.noGoto_ret]
 go_ret
 exact⟨rfl,HS3.out⟩
end Go.Proofs.YtdighjgcnaajgaaGreat
namespace Go.Proofs.YtdighjgcnaajgaaGreat
open Go.RowKit
variable {w w' w'' w0:World} {base g c M M':Nat} {u u' u'':gc.U} {s s' s'' s1 s2:St}
set_option maxRecDepth 100000 in
set_option maxHeartbeats 8000000 in
theorem upd_bw (h:Raw w base g c u s M) (t:Tox) (ht:t.s.size≤maxLen) (now:Int) (hk:t.k=s.tx.k) (h0:t.k≠0) (hE:t.chk=0) (h2:t.k=2) (hr:gb.rightB s.bk.r s.bk.u s.bk.l s.bk.t=true) (hcl:0≤s.clock∧s.clock≤1099511627776):Calls Tryz.prog 148 #[ptr g,t.v,.int .i64 now] w λ e w'=>e=.returned (.int .i64 0)∧Set w base g c u {lookS s now with tx:=t,bk:=chgB (lookS s now).bk t.a t.b (lookS s now).clock} M w':=by
 have hb0:=tx_below w t
 have ha0:=tx_alloc w t
 have hS:=(Set.refl h).on hb0
 have hsz:=ha0.lt
 obtain⟨W0,hW0⟩:∃W0,w.alloc (txCells t)=W0:=⟨_,rfl⟩
 rw[hW0]at hb0 ha0 hS hsz
 have x2:W0.cell? ⟨g,2,none⟩=some (.int .i64 s.tx.k):=hS.1.cell 2
 have hne:w.heap.size≠g:=by have:=h.lt;omega
 obtain⟨y0,y1,y2,y3,y4,y5⟩:=ha0.cell
 have HS:=Lib.hid (hS.on (Below.refl _ _).drew)
 have HT:=Lib.hid (ha0.on (Below.refl _ _).drew)
 rw[←hk]at x2
 have e1:(t.k==0)=false:=by simpa using h0
 have e2:decide (t.k=0)=false:=by simpa using h0
 have HCK:=Lib.hid (λ W=>show Calls Tryz.prog 50 #[.agg #[.string t.s,.int .i64 t.k,.bool t.up,.int .i64 t.o,.int .i64 t.a,.int .i64 t.b]] W λ e w'=>e=.returned (.int .i64 0)∧Below W.heap.size W w' from by rw[←hE];exact gx.check_any t.s ht t.k t.up t.o t.a t.b W)
 have e3:(t.k==2)=true:=by simpa using h2
 have e4:decide (t.k=2)=true:=by simpa using h2
 have HNE:=Lib.hid hne
 obtain⟨_,hpp⟩:=chk_of hE
 unfold gx.partsB at hpp
 simp only[Bool.and_eq_true]at hpp
 have hp1:=near_is hpp.1.1
 have hp2:=near_is hpp.1.2
 have hp3:=hpp.2
 rw[if_neg (by omega),if_pos h2]at hp3
 have hp3:1≤t.b∧t.b≤4096:=by simpa using hp3
 have hck:=tick_rg (now:=now) hcl
 have hrn:gb.rightB t.a t.b t.b (lookS s now).clock=true:=(gb.rightB_iff _ _ _ _).2 ⟨hp1,hp2,hp2,hck,by omega,Int.le_refl _⟩
 have hch:chgB (lookS s now).bk t.a t.b (lookS s now).clock=⟨t.a,t.b,gb.trimL t.b (gb.fillL s.bk.r s.bk.u s.bk.l s.bk.t (lookS s now).clock),gb.fillT s.bk.r s.bk.u s.bk.l s.bk.t (lookS s now).clock⟩:=rfl
 have HCH:=Lib.hid (λ W=>gb.change_b hr hrn (n:=(lookS s now).clock) rfl rfl W)
 rw[hch]
 generalize gb.trimL t.b (gb.fillL s.bk.r s.bk.u s.bk.l s.bk.t (lookS s now).clock)=V at*
 generalize gb.fillT s.bk.r s.bk.u s.bk.l s.bk.t (lookS s now).clock=T at*
 clear hk hne h0 hE ht h2 hp1 hp2 hp3 hpp hck hrn hr hch hcl
 clear h hS hb0 ha0
 unfold txCells at hW0
 unfold Tox.v
 go_enter Tryz.func148,Tryz.ntmps148
 go_wp2_with fail
 clear hW0
 refine wp_region_still_tail 7 (by kernel_rfl) (by kernel_rfl) ?_
 simp only[List.take_succ_cons,List.take_zero,List.drop_succ_cons,List.drop_zero]
 repeat still_step
 refine wpStill_nil ?_
 go_wp2_with fail
 refine(HCK.out _).mono ?_
 rintro e w1 ⟨rfl,hb⟩
 have HS1:=Lib.hid (HS.out.on hb)
 have HT1:=Lib.hid (HT.out.on hb)
 clear hb HS HT x2 y0 y1 y2 y3 y4 y5 HCK
 go_wp2_with fail
 refine(state_any HS1.out.1 now).mono ?_
 rintro e w2 ⟨rfl,hs2⟩
 have HS2:=Lib.hid (HS1.out.trans hs2)
 have ht2:=HT1.out.og hs2.2 HNE.out
 obtain⟨y0,y1,y2,y3,y4,y5⟩:=ht2.cell
 obtain⟨x1,x2,x3,x4,x5,x6⟩:=tx_cells HS2.out.1
 obtain⟨f1,f2,f3,f4,f5,f6⟩:=tx_frz HS2.out.1
 have HS3:=Lib.hid (HS2.out.tox t)
 have HT3:=Lib.hid (ht2.og (Og.setT w2 g t) HNE.out)
 clear hs2 ht2 HS1 HT1
 go_upto_region 10 with fail
 generalize hW:setT w2 g t=w3 at*
 unfold setT at hW
 rw[hW]
 clear hW x1 x2 x3 x4 x5 x6 f1 f2 f3 f4 f5 f6 y0 y1 y2 y3 y4 y5 HS2
 obtain⟨_,y1,_,_,y4,y5⟩:=HT3.out.cell
 have x15:w3.cell? ⟨g,15,none⟩=some (.int .i64 (lookS s now).clock):=HS3.out.1.cell 15
 obtain⟨x8,x9,x10,x11⟩:w3.cell? ⟨g,8,none⟩=some (.int .i64 s.bk.r)∧w3.cell? ⟨g,9,none⟩=some (.int .i64 s.bk.u)∧w3.cell? ⟨g,10,none⟩=some (.int .i64 s.bk.l)∧w3.cell? ⟨g,11,none⟩=some (.int .i64 s.bk.t):=bk_cells (s:={lookS s now with tx:=t}) HS3.out.1
 have HC:=Lib.hid (λ W (hb:Below w3.drew.heap.size w3.drew W)=>(⟨bk_cells (s:={lookS s now with tx:=t}) (HS3.out.1.drew.on hb),bk_frz (s:={lookS s now with tx:=t}) (HS3.out.1.drew.on hb),Set.bk (s:={lookS s now with tx:=t}) ((HS3.out.on (Below.refl w3.heap.size w3).drew).on hb) ⟨t.a,t.b,V,T⟩⟩:(W.cell? ⟨g,8,none⟩=some (.int .i64 s.bk.r)∧W.cell? ⟨g,9,none⟩=some (.int .i64 s.bk.u)∧W.cell? ⟨g,10,none⟩=some (.int .i64 s.bk.l)∧W.cell? ⟨g,11,none⟩=some (.int .i64 s.bk.t))∧(W.frozen? ⟨g,8,none⟩=false∧W.frozen? ⟨g,9,none⟩=false∧W.frozen? ⟨g,10,none⟩=false∧W.frozen? ⟨g,11,none⟩=false)∧Set w base g c u {lookS s now with tx:=t,bk:=⟨t.a,t.b,V,T⟩} M (setB W g ⟨t.a,t.b,V,T⟩)))
 clear HS3 HT3
 go_wp2_with fail
 go_region_law
  (first
   |(go_simp;go_at_call 177;(with_reducible refine Calls.mono (HCH.out _) ?_);rintro e w4 ⟨rfl,hb⟩;(obtain⟨⟨z8,z9,z10,z11⟩,⟨f8,f9,f10,f11⟩,hs⟩:=HC.out w4 hb);clear hb))
 all_goals (
  have HS:=Lib.hid hs
  clear hs
  go_wp2_with fail
  generalize hW:setB w4 g ⟨t.a,t.b,V,T⟩=W9 at*
  unfold setB at hW
  dsimp only at hW
  try rw[hW]
  try rw[Exit.noGoto_ret]
  go_ret
  exact⟨rfl,HS.out⟩)
end Go.Proofs.YtdighjgcnaajgaaGreat
namespace Go.Proofs.YtdighjgcnaajgaaGreat
open Go.RowKit
variable {w w' w'' w0:World} {base g c M M':Nat} {u u' u'':gc.U} {s s' s'' s1 s2:St}
theorem orow_base {T K:Nat} {p:Option Addr} {n c:Nat} {zs:List Value} (h:gc.ORow w base T K p n c zs) {b:Nat} (hb:b≤base):gc.ORow w b T K p n c zs:=⟨h.len,h.cap,h.max,h.non,λ a e=>by
 obtain⟨b',o,cur,h1,h2,h3⟩:=h.som a e
 exact⟨b',o,cur,h1,Nat.le_trans hb h2,h3⟩⟩
theorem al_base {S:ByteArray} {A:List Int} {last:Int} (h:gc.Al w base c u S A last M) {b:Nat} (hb:b≤base):gc.Al w b c u S A last M:=by
 obtain⟨ms,G,⟨p,n,c,q,m,d,hr,he⟩,hl⟩:=h
 exact⟨ms,G,⟨p,n,c,q,m,d,⟨hr.blk,orow_base hr.row hb,orow_base hr.mks hb,Nat.le_trans hb hr.base⟩,he⟩,hl⟩
theorem og_below {B:Nat} (h:Below B w0 w) (hB:B≤w.heap.size) (hg:B≤g) (ho:Og w w' g):Below B w0 w':=
 ⟨ho.os.trans h.os,ho.tape.trans h.tape,ho.output.trans h.output,Nat.le_trans h.size ho.size,λ i hi=>(ho.block i (Nat.lt_of_lt_of_le hi hB) (by omega)).trans (h.block i hi)⟩
def blankS (t:Tox) (seed room:Int):St:=⟨t,seed,⟨0,0,0,0⟩,⟨#[]⟩,[],0,room,0,0,0,0,false,0,0⟩
theorem tick_zero (now:Int):tickS 0 now=gb.near now:=by
 have:=near_rg now
 unfold tickS
 split<;>omega
theorem tox_eq {t:Tox} (h1:t.s.toList=[]) (h2:t.k=0) (h3:¬t.up=true) (h4:t.o=0) (h5:t.a=0) (h6:t.b=0):t=noTox:=by
 obtain⟨s,k,up,o,a,b⟩:=t
 dsimp only at*
 subst h2 h4 h5 h6
 have e0:(⟨#[]⟩:ByteArray).toList=[]:=by rw[Lib.toList_data]
 have e1:s=⟨#[]⟩:=by
  rcases Decidable.em (s=⟨#[]⟩)with h|h
  ·exact h
  ·have h':=gx.beq_list h
   rw[e0,h1]at h'
   simp at h'
 have e2:up=false:=by simpa using h3
 rw[e1,e2]
 rfl
theorem tox_ne {t:Tox} (h:¬t.s.toList=[]∨¬t.k=0∨t.up=true∨¬t.o=0∨¬t.a=0∨¬t.b=0):t≠noTox:=by
 rintro rfl
 have e:(⟨#[]⟩:ByteArray).toList=[]:=by rw[Lib.toList_data]
 simp only[noTox,e]at h
 simp at h
def NewNo (E:Int) (w:World) (e:Ending) (w':World):Prop:=e=.returned (.tuple #[.pointer none,.int .i64 E])∧Below w.heap.size w w'
def NewYes (s:St) (w:World) (e:Ending) (w':World):Prop:=∃g c u,e=.returned (.tuple #[ptr g,.int .i64 0])∧Raw w' w.heap.size g c u s 0∧Below w.heap.size w w'
set_option maxRecDepth 100000 in
set_option maxHeartbeats 8000000 in
theorem new_chk (t:Tox) (ht:t.s.size≤maxLen) (seed room now:Int) {E:Int} (hE:t.chk=E) (hE0:E≠0) (h0:t≠noTox) (w:World):Calls Tryz.prog 136 #[t.v,.int .u64 seed,.int .i64 room,.int .i64 now] w (NewNo E w):=by
 have hb0:=tx_below w t
 have ha0:=tx_alloc w t
 have hsz:=ha0.lt
 obtain⟨W0,hW0⟩:∃W0,w.alloc (txCells t)=W0:=⟨_,rfl⟩
 rw[hW0]at hb0 ha0 hsz
 obtain⟨y0,y1,y2,y3,y4,y5⟩:=ha0.cell
 have HCK:=Lib.hid (λ W=>show Calls Tryz.prog 50 #[.agg #[.string t.s,.int .i64 t.k,.bool t.up,.int .i64 t.o,.int .i64 t.a,.int .i64 t.b]] W λ e w'=>e=.returned (.int .i64 E)∧Below W.heap.size W w' from by rw[←hE];exact gx.check_any t.s ht t.k t.up t.o t.a t.b W)
 have HNE:=Lib.hid (show decide (t≠noTox)=true by simpa using h0)
 have e3:(E !=0)=true:=by simpa using hE0
 have e4:decide (E=0)=false:=by simpa using hE0
 clear hE hE0 ht h0
 have HT:=Lib.hid ha0
 have HB:=Lib.hid hb0
 clear hb0 ha0
 unfold txCells at hW0
 unfold Tox.v
 go_enter Tryz.func136,Tryz.ntmps136
 go_upto_region 1 with fail
 clear hW0
 go_cut[0,14]from 12 (λ _ v wc=>v=.bool (decide (t≠noTox))∧wc=W0)
 case first=>
  go_wp2_with fail
  all_goals (
   go_meet
   first
    |exact⟨congrArg Value.bool (decide_eq_true (p:=t≠noTox) (tox_ne (Or.inl (by assumption)))).symm,rfl⟩
    |exact⟨congrArg Value.bool (decide_eq_true (p:=t≠noTox) (tox_ne (Or.inr (Or.inl (by assumption))))).symm,rfl⟩
    |exact⟨congrArg Value.bool (decide_eq_true (p:=t≠noTox) (tox_ne (Or.inr (Or.inr (Or.inl (by assumption)))))).symm,rfl⟩
    |exact⟨congrArg Value.bool (decide_eq_true (p:=t≠noTox) (tox_ne (Or.inr (Or.inr (Or.inr (Or.inl (by assumption))))))).symm,rfl⟩
    |exact⟨congrArg Value.bool (decide_eq_true (p:=t≠noTox) (tox_ne (Or.inr (Or.inr (Or.inr (Or.inr (Or.inl (by assumption)))))))).symm,rfl⟩
    |exact⟨congrArg Value.bool (decide_eq_true (p:=t≠noTox) (tox_ne (Or.inr (Or.inr (Or.inr (Or.inr (Or.inr (by assumption)))))))).symm,rfl⟩
    |exact⟨congrArg Value.bool (decide_eq_false (p:=t≠noTox) (λ h=>h (tox_eq (by assumption) (by assumption) (by assumption) (by assumption) (by assumption) (by assumption)))).symm,rfl⟩)
 case rest=>
 obtain⟨rfl,rfl⟩:=hcut
 rw[HNE.out]
 go_wp2_with fail
 refine(HCK.out _).mono ?_
 rintro e w1 ⟨rfl,hb⟩
 have HB1:=Lib.hid (gc.seqB HB.out hb)
 have HT1:=Lib.hid (HT.out.on hb)
 clear hb HB HT y0 y1 y2 y3 y4 y5 HCK hsz
 go_wp2_with fail
 try rw[Exit.noGoto_ret]
 exact bodyPost_ret (v:=.tuple #[.pointer none,.int .i64 E]) (by simp[results,Tryz.results136,go_sem]) rfl ⟨rfl,HB1.out⟩
set_option maxRecDepth 100000 in
set_option maxHeartbeats 8000000 in
theorem new_room_t (t:Tox) (ht:t.s.size≤maxLen) (seed room now:Int) (hE:t.chk=0) (h0:t≠noTox) (hr:room<1∨4096<room) (w:World):Calls Tryz.prog 136 #[t.v,.int .u64 seed,.int .i64 room,.int .i64 now] w (NewNo 1 w):=by
 have hb0:=tx_below w t
 have ha0:=tx_alloc w t
 have hsz:=ha0.lt
 obtain⟨W0,hW0⟩:∃W0,w.alloc (txCells t)=W0:=⟨_,rfl⟩
 rw[hW0]at hb0 ha0 hsz
 obtain⟨y0,y1,y2,y3,y4,y5⟩:=ha0.cell
 have HCK:=Lib.hid (λ W=>show Calls Tryz.prog 50 #[.agg #[.string t.s,.int .i64 t.k,.bool t.up,.int .i64 t.o,.int .i64 t.a,.int .i64 t.b]] W λ e w'=>e=.returned (.int .i64 0)∧Below W.heap.size W w' from by rw[←hE];exact gx.check_any t.s ht t.k t.up t.o t.a t.b W)
 have HNE:=Lib.hid (show decide (t≠noTox)=true by simpa using h0)
 clear hE ht h0
 have HRM:=Lib.hid hr
 clear hr
 have HT:=Lib.hid ha0
 have HB:=Lib.hid hb0
 clear hb0 ha0
 unfold txCells at hW0
 unfold Tox.v
 go_enter Tryz.func136,Tryz.ntmps136
 go_upto_region 1 with fail
 clear hW0
 go_cut[0,14]from 12 (λ _ v wc=>v=.bool (decide (t≠noTox))∧wc=W0)
 case first=>
  go_wp2_with fail
  all_goals (
   go_meet
   first
    |exact⟨congrArg Value.bool (decide_eq_true (p:=t≠noTox) (tox_ne (Or.inl (by assumption)))).symm,rfl⟩
    |exact⟨congrArg Value.bool (decide_eq_true (p:=t≠noTox) (tox_ne (Or.inr (Or.inl (by assumption))))).symm,rfl⟩
    |exact⟨congrArg Value.bool (decide_eq_true (p:=t≠noTox) (tox_ne (Or.inr (Or.inr (Or.inl (by assumption)))))).symm,rfl⟩
    |exact⟨congrArg Value.bool (decide_eq_true (p:=t≠noTox) (tox_ne (Or.inr (Or.inr (Or.inr (Or.inl (by assumption))))))).symm,rfl⟩
    |exact⟨congrArg Value.bool (decide_eq_true (p:=t≠noTox) (tox_ne (Or.inr (Or.inr (Or.inr (Or.inr (Or.inl (by assumption)))))))).symm,rfl⟩
    |exact⟨congrArg Value.bool (decide_eq_true (p:=t≠noTox) (tox_ne (Or.inr (Or.inr (Or.inr (Or.inr (Or.inr (by assumption)))))))).symm,rfl⟩
    |exact⟨congrArg Value.bool (decide_eq_false (p:=t≠noTox) (λ h=>h (tox_eq (by assumption) (by assumption) (by assumption) (by assumption) (by assumption) (by assumption)))).symm,rfl⟩)
 case rest=>
 obtain⟨rfl,rfl⟩:=hcut
 rw[HNE.out]
 go_wp2_with fail
 refine(HCK.out _).mono ?_
 rintro e w1 ⟨rfl,hb⟩
 have HB1:=Lib.hid (gc.seqB HB.out hb)
 have HT1:=Lib.hid (HT.out.on hb)
 clear hb HB HT y0 y1 y2 y3 y4 y5 HCK hsz
 go_wp2_with fail
 all_goals (have hr:=HRM.out)
 all_goals first|(exfalso;omega)|skip
 all_goals (
  try rw[Exit.noGoto_ret]
  exact bodyPost_ret (v:=.tuple #[.pointer none,.int .i64 1]) (by simp[results,Tryz.results136,go_sem]) rfl ⟨rfl,HB1.out⟩)
set_option maxRecDepth 100000 in
set_option maxHeartbeats 8000000 in
theorem new_room_f (t:Tox) (seed room now:Int) (h0:t=noTox) (hr:room<1∨4096<room) (w:World):Calls Tryz.prog 136 #[t.v,.int .u64 seed,.int .i64 room,.int .i64 now] w (NewNo 1 w):=by
 have hb0:=tx_below w t
 have ha0:=tx_alloc w t
 have hsz:=ha0.lt
 obtain⟨W0,hW0⟩:∃W0,w.alloc (txCells t)=W0:=⟨_,rfl⟩
 rw[hW0]at hb0 ha0 hsz
 obtain⟨y0,y1,y2,y3,y4,y5⟩:=ha0.cell
 have HNE:=Lib.hid (show decide (t≠noTox)=false by simpa using h0)
 clear h0
 have HRM:=Lib.hid hr
 clear hr
 have HT:=Lib.hid ha0
 have HB:=Lib.hid hb0
 clear hb0 ha0
 unfold txCells at hW0
 unfold Tox.v
 go_enter Tryz.func136,Tryz.ntmps136
 go_upto_region 1 with fail
 clear hW0
 go_cut[0,14]from 12 (λ _ v wc=>v=.bool (decide (t≠noTox))∧wc=W0)
 case first=>
  go_wp2_with fail
  all_goals (
   go_meet
   first
    |exact⟨congrArg Value.bool (decide_eq_true (p:=t≠noTox) (tox_ne (Or.inl (by assumption)))).symm,rfl⟩
    |exact⟨congrArg Value.bool (decide_eq_true (p:=t≠noTox) (tox_ne (Or.inr (Or.inl (by assumption))))).symm,rfl⟩
    |exact⟨congrArg Value.bool (decide_eq_true (p:=t≠noTox) (tox_ne (Or.inr (Or.inr (Or.inl (by assumption)))))).symm,rfl⟩
    |exact⟨congrArg Value.bool (decide_eq_true (p:=t≠noTox) (tox_ne (Or.inr (Or.inr (Or.inr (Or.inl (by assumption))))))).symm,rfl⟩
    |exact⟨congrArg Value.bool (decide_eq_true (p:=t≠noTox) (tox_ne (Or.inr (Or.inr (Or.inr (Or.inr (Or.inl (by assumption)))))))).symm,rfl⟩
    |exact⟨congrArg Value.bool (decide_eq_true (p:=t≠noTox) (tox_ne (Or.inr (Or.inr (Or.inr (Or.inr (Or.inr (by assumption)))))))).symm,rfl⟩
    |exact⟨congrArg Value.bool (decide_eq_false (p:=t≠noTox) (λ h=>h (tox_eq (by assumption) (by assumption) (by assumption) (by assumption) (by assumption) (by assumption)))).symm,rfl⟩)
 case rest=>
 obtain⟨rfl,rfl⟩:=hcut
 rw[HNE.out]
 have HB1:=HB
 have HT1:=HT
 clear HB HT y0 y1 y2 y3 y4 y5 hsz
 generalize wc=w1 at*
 go_wp2_with fail
 all_goals (have hr:=HRM.out)
 all_goals first|(exfalso;omega)|skip
 all_goals (
  try rw[Exit.noGoto_ret]
  exact bodyPost_ret (v:=.tuple #[.pointer none,.int .i64 1]) (by simp[results,Tryz.results136,go_sem]) rfl ⟨rfl,HB1.out⟩)
end Go.Proofs.YtdighjgcnaajgaaGreat
