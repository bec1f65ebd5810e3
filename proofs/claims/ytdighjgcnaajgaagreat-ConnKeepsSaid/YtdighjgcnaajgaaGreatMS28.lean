import Derived.Test.YtdighjgcnaajgaaGreatMS27
namespace Go.Proofs.YtdighjgcnaajgaaGreat
open Go.RowKit
variable {w w' w'' w0:World} {base g c M M':Nat} {u u' u'':gc.U} {s s' s'' s1 s2:St}
theorem new_is (t:Tox) (seed room now:Int) (h:t.k≠2):({heardS (blankS t seed room) now with began:=tickS 0 now}:St)=newS t seed room now:=by
 unfold newS heardS blankS
 dsimp only
 rw[if_neg h,tick_zero]
theorem new_isB (t:Tox) (seed room now:Int) (h:t.k=2):({heardS (blankS t seed room) now with began:=tickS 0 now,bk:=⟨t.a,t.b,t.b,tickS 0 now⟩}:St)=newS t seed room now:=by
 unfold newS heardS blankS
 dsimp only
 rw[if_pos h,tick_zero]
set_option maxRecDepth 100000 in
set_option maxHeartbeats 8000000 in
theorem new_ok_t (t:Tox) (ht:t.s.size≤maxLen) (seed room now:Int) (hE:t.chk=0) (h0:t≠noTox) (hr1:1≤room) (hr2:room≤4096) (hk:t.k≠2) (w:World):Calls Tryz.prog 136 #[t.v,.int .u64 seed,.int .i64 room,.int .i64 now] w (NewYes (newS t seed room now) w):=by
 have hb0:=tx_below w t
 have ha0:=tx_alloc w t
 have hsz:=ha0.lt
 obtain⟨W0,hW0⟩:∃W0,w.alloc (txCells t)=W0:=⟨_,rfl⟩
 rw[hW0]at hb0 ha0 hsz
 obtain⟨y0,y1,y2,y3,y4,y5⟩:=ha0.cell
 have HCK:=Lib.hid (λ W=>show Calls Tryz.prog 50 #[.agg #[.string t.s,.int .i64 t.k,.bool t.up,.int .i64 t.o,.int .i64 t.a,.int .i64 t.b]] W λ e w'=>e=.returned (.int .i64 0)∧Below W.heap.size W w' from by rw[←hE];exact gx.check_any t.s ht t.k t.up t.o t.a t.b W)
 have HNE:=Lib.hid (show decide (t≠noTox)=true by simpa using h0)
 have er1:decide (room<1)=false:=by simp;omega
 have er2:decide (4096<room)=false:=by simp;omega
 have e5:(t.k==2)=false:=by simpa using hk
 have e6:decide (t.k=2)=false:=by simpa using hk
 have HEQ:=Lib.hid (new_is t seed room now hk)
 clear hE ht h0 hr1 hr2 hk
 have HT:=Lib.hid ha0
 have HB:=Lib.hid hb0
 clear hb0 ha0
 unfold txCells at hW0
 unfold Tox.v
 go_enter Tryz.func136,Tryz.ntmps136
 go_upto_region 1 with fail
 clear hW0
 go_cut[0,14]from 12 (λ _ v wc=>v=.bool (decide (t≠noTox))∧wc=W0)
 case first=>
  go_wp2_with fail
  all_goals (
   go_meet
   first
    |exact⟨congrArg Value.bool (decide_eq_true (p:=t≠noTox) (tox_ne (Or.inl (by assumption)))).symm,rfl⟩
    |exact⟨congrArg Value.bool (decide_eq_true (p:=t≠noTox) (tox_ne (Or.inr (Or.inl (by assumption))))).symm,rfl⟩
    |exact⟨congrArg Value.bool (decide_eq_true (p:=t≠noTox) (tox_ne (Or.inr (Or.inr (Or.inl (by assumption)))))).symm,rfl⟩
    |exact⟨congrArg Value.bool (decide_eq_true (p:=t≠noTox) (tox_ne (Or.inr (Or.inr (Or.inr (Or.inl (by assumption))))))).symm,rfl⟩
    |exact⟨congrArg Value.bool (decide_eq_true (p:=t≠noTox) (tox_ne (Or.inr (Or.inr (Or.inr (Or.inr (Or.inl (by assumption)))))))).symm,rfl⟩
    |exact⟨congrArg Value.bool (decide_eq_true (p:=t≠noTox) (tox_ne (Or.inr (Or.inr (Or.inr (Or.inr (Or.inr (by assumption)))))))).symm,rfl⟩
    |exact⟨congrArg Value.bool (decide_eq_false (p:=t≠noTox) (λ h=>h (tox_eq (by assumption) (by assumption) (by assumption) (by assumption) (by assumption) (by assumption)))).symm,rfl⟩)
 case rest=>
 obtain⟨rfl,rfl⟩:=hcut
 rw[HNE.out]
 go_wp2_with fail
 refine(HCK.out _).mono ?_
 rintro e w1 ⟨rfl,hb⟩
 have HB1:=Lib.hid (gc.seqB HB.out hb)
 have HT1:=Lib.hid (HT.out.on hb)
 clear hb HB HT y0 y1 y2 y3 y4 y5 HCK hsz
 go_wp2_with fail
 have HNC:=Lib.hid (gc.new_al w1.drew)
 have HX:=Lib.hid (λ W (hb:Below w1.drew.heap.size w1.drew W)=>((HT1.out.on (Below.refl _ w1).drew).on hb).cell)
 obtain⟨y0,y1,y2,y3,y4,y5⟩:=HT1.out.cell
 go_region_law
  (first
   |(go_simp;go_at_call 167;(with_reducible refine Calls.mono HNC.out ?_);rintro e w2 ⟨c,u,rfl,hal,hb⟩;obtain⟨z0,z1,z2,z3,z4,z5⟩:=HX.out w2 hb))
 all_goals (
  have hbw:Below w1.heap.size w1 w2:=gc.seqB (Below.refl _ w1).drew hb
  have hb2:Below w2.heap.size w2 (w2.alloc (.cells (stC c (blankS t seed room)) 204)):=(Below.refl _ _).alloc (Nat.le_refl _) _
  have hwl:w.heap.size≤w1.heap.size:=HB1.out.size
  have hw2:w1.heap.size≤w2.heap.size:=hbw.size
  have hst:Raw (w2.alloc (.cells (stC c (blankS t seed room)) 204)) w.heap.size w2.heap.size c u (blankS t seed room) 0:=⟨heap_alloc_new w2 _,al_base (hal.on hb2) hwl,by omega⟩
  have hbn:=gc.seqB (gc.seqB HB1.out hbw) hb2
  have htn:=(HT1.out.on hbw).on hb2
  have hne:w.heap.size≠w2.heap.size:=by have:=HT1.out.lt;omega
  obtain⟨W3,hW3⟩:∃W3,w2.alloc (.cells (stC c (blankS t seed room)) 204)=W3:=⟨_,rfl⟩
  rw[hW3]at hst hbn htn
  have HST:=Lib.hid hst
  have HBN:=Lib.hid hbn
  have HTN:=Lib.hid htn
  have HNEQ:=Lib.hid hne
  have HLE:=Lib.hid (show w.heap.size≤w2.heap.size by omega)
  unfold stC blankS at hW3
  dsimp only at hW3
  clear hst hbn htn hne hb hbw hb2 hal hwl hw2 z0 z1 z2 z3 z4 z5 y0 y1 y2 y3 y4 y5 HNC HX HT1 HB1
  generalize w2.heap.size=g at*
  go_wp2_with fail
  clear hW3
  refine(hear_any HST.out now).mono ?_
  rintro e w4 ⟨rfl,h4⟩
  have x15:w4.cell? ⟨g,15,none⟩=some (.int .i64 (tickS 0 now)):=h4.1.cell 15
  have x14:w4.cell? ⟨g,14,none⟩=some (.int .i64 0):=h4.1.cell 14
  have f14:w4.frozen? ⟨g,14,none⟩=false:=h4.1.frz 14
  have h5:=h4.set (i:=14) (v:=.int .i64 (tickS 0 now)) (s':={heardS (blankS t seed room) now with began:=tickS 0 now}) rfl rfl rfl rfl
  have HT5:=Lib.hid ((HTN.out.og h4.2 HNEQ.out).og (Og.set w4 g 14 (.int .i64 (tickS 0 now))) HNEQ.out)
  have H5:=Lib.hid h5
  clear h4 h5 HST HTN
  go_upto_region 10 with fail
  generalize w4.setCell ⟨g,14,none⟩ (.int .i64 (tickS 0 now))=w5 at*
  clear x15 x14 f14
  obtain⟨_,y1,_,_,y4,y5⟩:=HT5.out.cell
  have HB5:=Lib.hid (og_below HBN.out HBN.out.size HLE.out H5.out.2)
  clear HBN HT5
  go_wp2_with fail
  try rw[Exit.noGoto_ret]
  exact bodyPost_ret (v:=.tuple #[ptr g,.int .i64 0]) (by simp[results,Tryz.results136,go_sem]) rfl ⟨g,c,u,rfl,HEQ.out▸H5.out.1,HB5.out⟩)
set_option maxRecDepth 100000 in
set_option maxHeartbeats 8000000 in
theorem new_ok_f (t:Tox) (seed room now:Int) (h0:t=noTox) (hr1:1≤room) (hr2:room≤4096) (w:World):Calls Tryz.prog 136 #[t.v,.int .u64 seed,.int .i64 room,.int .i64 now] w (NewYes (newS t seed room now) w):=by
 have hb0:=tx_below w t
 have ha0:=tx_alloc w t
 have hsz:=ha0.lt
 obtain⟨W0,hW0⟩:∃W0,w.alloc (txCells t)=W0:=⟨_,rfl⟩
 rw[hW0]at hb0 ha0 hsz
 obtain⟨y0,y1,y2,y3,y4,y5⟩:=ha0.cell
 have HNE:=Lib.hid (show decide (t≠noTox)=false by simpa using h0)
 have hk:t.k≠2:=by rw[h0];decide
 have er1:decide (room<1)=false:=by simp;omega
 have er2:decide (4096<room)=false:=by simp;omega
 have e5:(t.k==2)=false:=by simpa using hk
 have e6:decide (t.k=2)=false:=by simpa using hk
 have HEQ:=Lib.hid (new_is t seed room now hk)
 clear h0 hr1 hr2 hk
 have HT:=Lib.hid ha0
 have HB:=Lib.hid hb0
 clear hb0 ha0
 unfold txCells at hW0
 unfold Tox.v
 go_enter Tryz.func136,Tryz.ntmps136
 go_upto_region 1 with fail
 clear hW0
 go_cut[0,14]from 12 (λ _ v wc=>v=.bool (decide (t≠noTox))∧wc=W0)
 case first=>
  go_wp2_with fail
  all_goals (
   go_meet
   first
    |exact⟨congrArg Value.bool (decide_eq_true (p:=t≠noTox) (tox_ne (Or.inl (by assumption)))).symm,rfl⟩
    |exact⟨congrArg Value.bool (decide_eq_true (p:=t≠noTox) (tox_ne (Or.inr (Or.inl (by assumption))))).symm,rfl⟩
    |exact⟨congrArg Value.bool (decide_eq_true (p:=t≠noTox) (tox_ne (Or.inr (Or.inr (Or.inl (by assumption)))))).symm,rfl⟩
    |exact⟨congrArg Value.bool (decide_eq_true (p:=t≠noTox) (tox_ne (Or.inr (Or.inr (Or.inr (Or.inl (by assumption))))))).symm,rfl⟩
    |exact⟨congrArg Value.bool (decide_eq_true (p:=t≠noTox) (tox_ne (Or.inr (Or.inr (Or.inr (Or.inr (Or.inl (by assumption)))))))).symm,rfl⟩
    |exact⟨congrArg Value.bool (decide_eq_true (p:=t≠noTox) (tox_ne (Or.inr (Or.inr (Or.inr (Or.inr (Or.inr (by assumption)))))))).symm,rfl⟩
    |exact⟨congrArg Value.bool (decide_eq_false (p:=t≠noTox) (λ h=>h (tox_eq (by assumption) (by assumption) (by assumption) (by assumption) (by assumption) (by assumption)))).symm,rfl⟩)
 case rest=>
 obtain⟨rfl,rfl⟩:=hcut
 rw[HNE.out]
 have HB1:=HB
 have HT1:=HT
 clear HB HT y0 y1 y2 y3 y4 y5 hsz
 generalize wc=w1 at*
 go_wp2_with fail
 have HNC:=Lib.hid (gc.new_al w1.drew)
 have HX:=Lib.hid (λ W (hb:Below w1.drew.heap.size w1.drew W)=>((HT1.out.on (Below.refl _ w1).drew).on hb).cell)
 obtain⟨y0,y1,y2,y3,y4,y5⟩:=HT1.out.cell
 go_region_law
  (first
   |(go_simp;go_at_call 167;(with_reducible refine Calls.mono HNC.out ?_);rintro e w2 ⟨c,u,rfl,hal,hb⟩;obtain⟨z0,z1,z2,z3,z4,z5⟩:=HX.out w2 hb))
 all_goals (
  have hbw:Below w1.heap.size w1 w2:=gc.seqB (Below.refl _ w1).drew hb
  have hb2:Below w2.heap.size w2 (w2.alloc (.cells (stC c (blankS t seed room)) 204)):=(Below.refl _ _).alloc (Nat.le_refl _) _
  have hwl:w.heap.size≤w1.heap.size:=HB1.out.size
  have hw2:w1.heap.size≤w2.heap.size:=hbw.size
  have hst:Raw (w2.alloc (.cells (stC c (blankS t seed room)) 204)) w.heap.size w2.heap.size c u (blankS t seed room) 0:=⟨heap_alloc_new w2 _,al_base (hal.on hb2) hwl,by omega⟩
  have hbn:=gc.seqB (gc.seqB HB1.out hbw) hb2
  have htn:=(HT1.out.on hbw).on hb2
  have hne:w.heap.size≠w2.heap.size:=by have:=HT1.out.lt;omega
  obtain⟨W3,hW3⟩:∃W3,w2.alloc (.cells (stC c (blankS t seed room)) 204)=W3:=⟨_,rfl⟩
  rw[hW3]at hst hbn htn
  have HST:=Lib.hid hst
  have HBN:=Lib.hid hbn
  have HTN:=Lib.hid htn
  have HNEQ:=Lib.hid hne
  have HLE:=Lib.hid (show w.heap.size≤w2.heap.size by omega)
  unfold stC blankS at hW3
  dsimp only at hW3
  clear hst hbn htn hne hb hbw hb2 hal hwl hw2 z0 z1 z2 z3 z4 z5 y0 y1 y2 y3 y4 y5 HNC HX HT1 HB1
  generalize w2.heap.size=g at*
  go_wp2_with fail
  clear hW3
  refine(hear_any HST.out now).mono ?_
  rintro e w4 ⟨rfl,h4⟩
  have x15:w4.cell? ⟨g,15,none⟩=some (.int .i64 (tickS 0 now)):=h4.1.cell 15
  have x14:w4.cell? ⟨g,14,none⟩=some (.int .i64 0):=h4.1.cell 14
  have f14:w4.frozen? ⟨g,14,none⟩=false:=h4.1.frz 14
  have h5:=h4.set (i:=14) (v:=.int .i64 (tickS 0 now)) (s':={heardS (blankS t seed room) now with began:=tickS 0 now}) rfl rfl rfl rfl
  have HT5:=Lib.hid ((HTN.out.og h4.2 HNEQ.out).og (Og.set w4 g 14 (.int .i64 (tickS 0 now))) HNEQ.out)
  have H5:=Lib.hid h5
  clear h4 h5 HST HTN
  go_upto_region 10 with fail
  generalize w4.setCell ⟨g,14,none⟩ (.int .i64 (tickS 0 now))=w5 at*
  clear x15 x14 f14
  obtain⟨_,y1,_,_,y4,y5⟩:=HT5.out.cell
  have HB5:=Lib.hid (og_below HBN.out HBN.out.size HLE.out H5.out.2)
  clear HBN HT5
  go_wp2_with fail
  try rw[Exit.noGoto_ret]
  exact bodyPost_ret (v:=.tuple #[ptr g,.int .i64 0]) (by simp[results,Tryz.results136,go_sem]) rfl ⟨g,c,u,rfl,HEQ.out▸H5.out.1,HB5.out⟩)
end Go.Proofs.YtdighjgcnaajgaaGreat
namespace Go.Proofs.YtdighjgcnaajgaaGreat
open Go.RowKit
variable {w w' w'' w0:World} {base g c M M':Nat} {u u' u'':gc.U} {s s' s'' s1 s2:St}
theorem bw_right {t:Tox} (hE:t.chk=0) (hk:t.k=2) (now:Int):gb.rightB t.a t.b t.b (tickS 0 now)=true:=by
 obtain⟨_,hpp⟩:=chk_of hE
 unfold gx.partsB at hpp
 simp only[Bool.and_eq_true]at hpp
 have hp1:=near_is hpp.1.1
 have hp2:=near_is hpp.1.2
 have hp3:=hpp.2
 rw[if_neg (by omega),if_pos hk]at hp3
 have hp3:1≤t.b∧t.b≤4096:=by simpa using hp3
 have hck:=near_rg now
 rw[←tick_zero]at hck
 exact(gb.rightB_iff _ _ _ _).2 ⟨hp1,hp2,hp2,hck,by omega,Int.le_refl _⟩
set_option maxRecDepth 100000 in
set_option maxHeartbeats 8000000 in
theorem new_bw (t:Tox) (ht:t.s.size≤maxLen) (seed room now:Int) (hE:t.chk=0) (h0:t≠noTox) (hr1:1≤room) (hr2:room≤4096) (hk:t.k=2) (w:World):Calls Tryz.prog 136 #[t.v,.int .u64 seed,.int .i64 room,.int .i64 now] w (NewYes (newS t seed room now) w):=by
 have hb0:=tx_below w t
 have ha0:=tx_alloc w t
 have hsz:=ha0.lt
 obtain⟨W0,hW0⟩:∃W0,w.alloc (txCells t)=W0:=⟨_,rfl⟩
 rw[hW0]at hb0 ha0 hsz
 obtain⟨y0,y1,y2,y3,y4,y5⟩:=ha0.cell
 have HCK:=Lib.hid (λ W=>show Calls Tryz.prog 50 #[.agg #[.string t.s,.int .i64 t.k,.bool t.up,.int .i64 t.o,.int .i64 t.a,.int .i64 t.b]] W λ e w'=>e=.returned (.int .i64 0)∧Below W.heap.size W w' from by rw[←hE];exact gx.check_any t.s ht t.k t.up t.o t.a t.b W)
 have HNE:=Lib.hid (show decide (t≠noTox)=true by simpa using h0)
 have er1:decide (room<1)=false:=by simp;omega
 have er2:decide (4096<room)=false:=by simp;omega
 have HE5:=Lib.hid (show(t.k==2)=true by simpa using hk)
 have HE6:=Lib.hid (show decide (t.k=2)=true by simpa using hk)
 have HEQ:=Lib.hid (new_isB t seed room now hk)
 have hrn:=bw_right hE hk now
 have HBN2:=Lib.hid (λ W=>gb.new_b1 hrn W)
 clear hE ht h0 hr1 hr2 hk hrn
 have HT:=Lib.hid ha0
 have HB:=Lib.hid hb0
 clear hb0 ha0
 unfold txCells at hW0
 unfold Tox.v
 go_enter Tryz.func136,Tryz.ntmps136
 go_upto_region 1 with fail
 clear hW0
 go_cut[0,14]from 12 (λ _ v wc=>v=.bool (decide (t≠noTox))∧wc=W0)
 case first=>
  go_wp2_with fail
  all_goals (
   go_meet
   first
    |exact⟨congrArg Value.bool (decide_eq_true (p:=t≠noTox) (tox_ne (Or.inl (by assumption)))).symm,rfl⟩
    |exact⟨congrArg Value.bool (decide_eq_true (p:=t≠noTox) (tox_ne (Or.inr (Or.inl (by assumption))))).symm,rfl⟩
    |exact⟨congrArg Value.bool (decide_eq_true (p:=t≠noTox) (tox_ne (Or.inr (Or.inr (Or.inl (by assumption)))))).symm,rfl⟩
    |exact⟨congrArg Value.bool (decide_eq_true (p:=t≠noTox) (tox_ne (Or.inr (Or.inr (Or.inr (Or.inl (by assumption))))))).symm,rfl⟩
    |exact⟨congrArg Value.bool (decide_eq_true (p:=t≠noTox) (tox_ne (Or.inr (Or.inr (Or.inr (Or.inr (Or.inl (by assumption)))))))).symm,rfl⟩
    |exact⟨congrArg Value.bool (decide_eq_true (p:=t≠noTox) (tox_ne (Or.inr (Or.inr (Or.inr (Or.inr (Or.inr (by assumption)))))))).symm,rfl⟩
    |exact⟨congrArg Value.bool (decide_eq_false (p:=t≠noTox) (λ h=>h (tox_eq (by assumption) (by assumption) (by assumption) (by assumption) (by assumption) (by assumption)))).symm,rfl⟩)
 case rest=>
 obtain⟨rfl,rfl⟩:=hcut
 rw[HNE.out]
 go_wp2_with fail
 refine(HCK.out _).mono ?_
 rintro e w1 ⟨rfl,hb⟩
 have HB1:=Lib.hid (gc.seqB HB.out hb)
 have HT1:=Lib.hid (HT.out.on hb)
 clear hb HB HT y0 y1 y2 y3 y4 y5 HCK hsz
 go_wp2_with fail
 have HNC:=Lib.hid (gc.new_al w1.drew)
 have HX:=Lib.hid (λ W (hb:Below w1.drew.heap.size w1.drew W)=>((HT1.out.on (Below.refl _ w1).drew).on hb).cell)
 obtain⟨y0,y1,y2,y3,y4,y5⟩:=HT1.out.cell
 go_region_law
  (first
   |(go_simp;go_at_call 167;(with_reducible refine Calls.mono HNC.out ?_);rintro e w2 ⟨c,u,rfl,hal,hb⟩;obtain⟨z0,z1,z2,z3,z4,z5⟩:=HX.out w2 hb))
 all_goals (
  have hbw:Below w1.heap.size w1 w2:=gc.seqB (Below.refl _ w1).drew hb
  have hb2:Below w2.heap.size w2 (w2.alloc (.cells (stC c (blankS t seed room)) 204)):=(Below.refl _ _).alloc (Nat.le_refl _) _
  have hwl:w.heap.size≤w1.heap.size:=HB1.out.size
  have hw2:w1.heap.size≤w2.heap.size:=hbw.size
  have hst:Raw (w2.alloc (.cells (stC c (blankS t seed room)) 204)) w.heap.size w2.heap.size c u (blankS t seed room) 0:=⟨heap_alloc_new w2 _,al_base (hal.on hb2) hwl,by omega⟩
  have hbn:=gc.seqB (gc.seqB HB1.out hbw) hb2
  have htn:=(HT1.out.on hbw).on hb2
  have hne:w.heap.size≠w2.heap.size:=by have:=HT1.out.lt;omega
  obtain⟨W3,hW3⟩:∃W3,w2.alloc (.cells (stC c (blankS t seed room)) 204)=W3:=⟨_,rfl⟩
  rw[hW3]at hst hbn htn
  have HST:=Lib.hid hst
  have HBN:=Lib.hid hbn
  have HTN:=Lib.hid htn
  have HNEQ:=Lib.hid hne
  have HLE:=Lib.hid (show w.heap.size≤w2.heap.size by omega)
  unfold stC blankS at hW3
  dsimp only at hW3
  clear hst hbn htn hne hb hbw hb2 hal hwl hw2 z0 z1 z2 z3 z4 z5 y0 y1 y2 y3 y4 y5 HNC HX HT1 HB1
  generalize w2.heap.size=g at*
  go_wp2_with fail
  clear hW3
  refine(hear_any HST.out now).mono ?_
  rintro e w4 ⟨rfl,h4⟩
  have x15:w4.cell? ⟨g,15,none⟩=some (.int .i64 (tickS 0 now)):=h4.1.cell 15
  have x14:w4.cell? ⟨g,14,none⟩=some (.int .i64 0):=h4.1.cell 14
  have f14:w4.frozen? ⟨g,14,none⟩=false:=h4.1.frz 14
  have h5:=h4.set (i:=14) (v:=.int .i64 (tickS 0 now)) (s':={heardS (blankS t seed room) now with began:=tickS 0 now}) rfl rfl rfl rfl
  have HT5:=Lib.hid ((HTN.out.og h4.2 HNEQ.out).og (Og.set w4 g 14 (.int .i64 (tickS 0 now))) HNEQ.out)
  have H5:=Lib.hid h5
  clear h4 h5 HST HTN
  go_upto_region 10 with fail
  generalize w4.setCell ⟨g,14,none⟩ (.int .i64 (tickS 0 now))=w5 at*
  clear x15 x14 f14
  obtain⟨_,y1,_,_,y4,y5⟩:=HT5.out.cell
  have HB5:=Lib.hid (og_below HBN.out HBN.out.size HLE.out H5.out.2)
  clear HBN HT5
  have x15:w5.cell? ⟨g,15,none⟩=some (.int .i64 (tickS 0 now)):=H5.out.1.cell 15
  have HC:=Lib.hid (λ W (hb:Below w5.drew.heap.size w5.drew W)=>(⟨bk_cells (s:={heardS (blankS t seed room) now with began:=tickS 0 now}) (H5.out.1.drew.on hb),bk_frz (s:={heardS (blankS t seed room) now with began:=tickS 0 now}) (H5.out.1.drew.on hb),Set.bk (s:={heardS (blankS t seed room) now with began:=tickS 0 now}) ((H5.out.on (Below.refl w5.heap.size w5).drew).on hb) ⟨t.a,t.b,t.b,tickS 0 now⟩,((HB5.out.trans ((Below.refl _ w5).drew.mono HB5.out.size)).trans (hb.mono HB5.out.size))⟩:(W.cell? ⟨g,8,none⟩=some (.int .i64 0)∧W.cell? ⟨g,9,none⟩=some (.int .i64 0)∧W.cell? ⟨g,10,none⟩=some (.int .i64 0)∧W.cell? ⟨g,11,none⟩=some (.int .i64 0))∧(W.frozen? ⟨g,8,none⟩=false∧W.frozen? ⟨g,9,none⟩=false∧W.frozen? ⟨g,10,none⟩=false∧W.frozen? ⟨g,11,none⟩=false)∧Set W3 w.heap.size g c u {heardS (blankS t seed room) now with began:=tickS 0 now,bk:=⟨t.a,t.b,t.b,tickS 0 now⟩} 0 (setB W g ⟨t.a,t.b,t.b,tickS 0 now⟩)∧Below w.heap.size w W))
  clear H5 HB5
  have e5:=HE5.out
  have e6:=HE6.out
  go_wp2_with fail
  go_region_law
   (first
    |(go_simp;go_at_call 168;(with_reducible refine Calls.mono (HBN2.out _) ?_);rintro e w6 ⟨rfl,hb⟩;(obtain⟨⟨z8,z9,z10,z11⟩,⟨f8,f9,f10,f11⟩,hs,hbl⟩:=HC.out w6 hb);clear hb)))
 all_goals (
  have HS:=Lib.hid hs
  have HBL:=Lib.hid (og_below hbl hbl.size HLE.out (((((Og.set w6 g 8 (.int .i64 t.a)).trans (Og.set _ g 9 (.int .i64 t.b))).trans (Og.set _ g 10 (.int .i64 t.b))).trans (Og.set _ g 11 (.int .i64 (tickS 0 now)))):Og w6 (setB w6 g ⟨t.a,t.b,t.b,tickS 0 now⟩) g))
  clear hs hbl
  go_wp2_with fail
  generalize hW:setB w6 g ⟨t.a,t.b,t.b,tickS 0 now⟩=W9 at*
  unfold setB at hW
  dsimp only at hW
  try rw[hW]
  try rw[Exit.noGoto_ret]
  exact bodyPost_ret (v:=.tuple #[ptr g,.int .i64 0]) (by simp[results,Tryz.results136,go_sem]) rfl ⟨g,c,u,rfl,HEQ.out▸HS.out.1,HBL.out⟩)
end Go.Proofs.YtdighjgcnaajgaaGreat
