import Derived.Test.YtdighjgcnaajgaaGreatMS23
import Derived.StillTailTactics
namespace Go.Proofs.YtdighjgcnaajgaaGreat
open Go.RowKit
variable {w w' w'' w0:World} {base g c M M':Nat} {u u' u'':gc.U} {s s' s'':St}
set_option maxRecDepth 100000 in
set_option maxHeartbeats 8000000 in
theorem lay_late (h:Raw w base g c u s M) (ho:Ok s M) {p:Option Addr} {n c':Nat} {b:ByteArray} (hk:s.tx.k=1) (hb:b.size=n) (h0:n≠0) (hi:Lib.BytesIn w p n (gc.nums b)) (hM:M+b.size≤M') (hf:M'≤1000000) {D V:Int} (hD:gd.rangeS s.d (s.tx.a -s.tx.b) (s.tx.a+s.tx.b)=D) (hV:gd.rangeV s.d (s.tx.a -s.tx.b) (s.tx.a+s.tx.b)=V):
  Calls Tryz.prog 160 #[ptr g,.slice p n c'] w λ e w'=>e=.returned (.tuple #[])∧Did w base g c u (putS {s with d:=D} (addT s.clock V) b) M' w':=by
 have hab:=ho.ab
 have hw1:IntKind.i64.wrap (s.tx.a -s.tx.b)=s.tx.a -s.tx.b:=wrap_id (by omega) (by omega)
 have hw2:IntKind.i64.wrap (s.tx.a+s.tx.b)=s.tx.a+s.tx.b:=wrap_id (by omega) (by omega)
 have HR:=Lib.hid (λ W=>show Calls Tryz.prog 187 #[.int .u64 s.d,.int .i64 (s.tx.a -s.tx.b),.int .i64 (s.tx.a+s.tx.b)] W λ e w'=>e=.returned (.tuple #[.int .i64 V,.int .u64 D])∧w'=W from by rw[←hD,←hV];exact(gd.range_any _ _ _ W).mono λ _ _ h=>⟨h.1,h.2.symm⟩)
 have HA:=Lib.hid (λ W=>show Calls Tryz.prog 185 #[.int .i64 s.clock,.int .i64 V] W λ e w'=>e=.returned (.int .i64 (addT s.clock V))∧w'=W from(gb.add_any s.clock V W).mono λ _ _ h=>⟨h.1,h.2.symm⟩)
 have h1:=((Set.refl h).set (i:=7) (v:=.int .u64 D) (s':={s with d:=D}) rfl rfl rfl rfl).on (Below.refl _ _).drew
 have hp:=λ W (hw:Set w base g c u {s with d:=D} M W)=>cput hw.1 (addT s.clock V) (c':=c') hb (by omega) (h.bytes hw.2 hi) hM hf
 have HP:=Lib.hid hp
 have HW:=Lib.hid (λ W W' (hw:Set w base g c u {s with d:=D} M W) (hd:Did W base g c u (putS {s with d:=D} (addT s.clock V) b) M' W')=>Set.then hw hd)
 have H1:=Lib.hid h1
 have HC:=Lib.hid (λ W (hw:Set w base g c u {s with d:=D} M W)=>(⟨hw.1.cell 0,hw.1.cell 15,hw.on (Below.refl _ _).drew⟩:W.cell? ⟨g,0,none⟩=some (.pointer (some ⟨c,0,none⟩))∧W.cell? ⟨g,15,none⟩=some (.int .i64 s.clock)∧Set w base g c u {s with d:=D} M W.drew))
 have x2:w.cell? ⟨g,2,none⟩=some (.int .i64 s.tx.k):=h.cell 2
 rw[hk]at x2
 have x5:w.cell? ⟨g,5,none⟩=some (.int .i64 s.tx.a):=h.cell 5
 have x6:w.cell? ⟨g,6,none⟩=some (.int .i64 s.tx.b):=h.cell 6
 have x7:w.cell? ⟨g,7,none⟩=some (.int .u64 s.d):=h.cell 7
 have f7:w.frozen? ⟨g,7,none⟩=false:=h.frz 7
 have hn:(n==0)=false:=by simpa using h0
 have hn2:decide (n=0)=false:=by simpa using h0
 clear h ho hi hM hf hb hk hab h1 hp hD hV
 go_enter Tryz.func160,Tryz.ntmps160
 go_wp2_with fail
 refine wp_region_still_tail 34 (by kernel_rfl) (by kernel_rfl) ?_
 simp only[List.take_succ_cons,List.take_zero,List.drop_succ_cons,List.drop_zero]
 repeat still_step
 still_call (HR.out _)
 repeat still_step
 refine wpStill_nil ?_
 go_wp2_with fail
 have hs:Set w base g c u {s with d:=D} M (w.setCell ⟨g,7,none⟩ (.int .u64 D)).drew:=H1.out
 generalize(w.setCell ⟨g,7,none⟩ (.int .u64 D)).drew=w1 at*
 clear x2 x5 x6 x7 f7 H1 hw1 hw2 HR
 obtain⟨x0,x15,hs2⟩:=HC.out w1 hs
 have HS:=Lib.hid hs2
 have HP2:=Lib.hid (HP.out _ hs2)
 clear hs hs2 HP HC
 refine wp_region_still_tail 11 (by kernel_rfl) (by kernel_rfl) ?_
 simp only[List.take_succ_cons,List.take_zero,List.drop_succ_cons,List.drop_zero]
 repeat still_step
 still_call (HA.out _)
 repeat still_step
 refine wpStill_nil ?_
 go_wp2_with fail
 refine HP2.out.mono ?_
 rintro e w3 ⟨⟨x,rfl⟩,hd⟩
 have HD:=Lib.hid (HW.out _ _ HS.out hd)
 clear hd
 go_wp2_with fail
 go_end0
 exact⟨rfl,HD.out⟩
theorem lay_any (h:Raw w base g c u s M) (ho:Ok s M) {p:Option Addr} {n c':Nat} {b:ByteArray} (hb:b.size=n) (hi:Lib.BytesIn w p n (gc.nums b)) (hM:M+b.size≤M') (hf:M'≤1000000):
  Calls Tryz.prog 160 #[ptr g,.slice p n c'] w λ e w'=>e=.returned (.tuple #[])∧Did w base g c u (forceS s b) M' w':=by
 by_cases h0:n=0
 ·subst h0
  rw[forced_none hb]
  refine(lay_none g w).mono ?_
  rintro e w' ⟨rfl,rfl⟩
  exact⟨rfl,((Set.refl h).more (by omega) hf).did⟩
 ·by_cases hk:s.tx.k=1
  ·rw[forced_late (by omega) hk]
   exact lay_late h ho hk hb h0 hi hM hf rfl rfl
  ·rw[forced_now (by omega) hk]
   exact lay_now h ho hk hb h0 hi hM hf
end Go.Proofs.YtdighjgcnaajgaaGreat
namespace Go.Proofs.YtdighjgcnaajgaaGreat
open Go.RowKit
variable {w w' w'' w0:World} {base g c M M':Nat} {u u' u'':gc.U} {s s' s'':St}
theorem Ok.heard (h:Ok s M) (now:Int):Ok (heardS s now) M:=⟨h.tx,h.name,tick_rg h.clock,h.passed,h.room,h.bk,h.top⟩
theorem Ok.look (h:Ok s M) (now:Int):Ok (lookS s now) M:=⟨h.tx,h.name,tick_rg h.clock,h.passed,h.room,h.bk,h.top⟩
theorem Ok.more (h:Ok s M) (hM:M≤M') (hf:M'≤1000000):Ok s M':=⟨h.tx,h.name,h.clock,⟨h.passed.1,by have:=h.passed.2;omega⟩,h.room,h.bk,hf⟩
theorem Ok.force (h:Ok s M) {b:ByteArray} (hM:M+b.size≤M') (hf:M'≤1000000):Ok (forceS s b) M':=by
 have hp:=h.passed
 have hs:(s.S++b).size=s.S.size+b.size:=by simp
 unfold forceS
 split
 ·exact h.more (by omega) hf
 ·split
  ·exact⟨h.tx,h.name,h.clock,⟨hp.1,by show s.passed+((s.S++b).size:Int)≤M';omega⟩,h.room,h.bk,hf⟩
  ·exact⟨h.tx,h.name,h.clock,⟨hp.1,by show s.passed+((s.S++b).size:Int)≤M';omega⟩,h.room,h.bk,hf⟩
theorem bring_shut (s:St) (now:Int) (b:ByteArray) (h:(lookS s now).st≠0∨(lookS s now).closed=true):bringS s now b=(lookS s now,0):=by
 unfold bringS
 dsimp only
 rw[if_pos h]
theorem bring_open (s:St) (now:Int) (b:ByteArray) (h1:(lookS s now).st=0) (h2:(lookS s now).closed=false) {K:Nat} (hK:min (b.size:Int) (freeS (lookS s now))=(K:Int)):bringS s now b=(forceS (lookS s now) (b.extract 0 K),(K:Int)):=by
 unfold bringS
 dsimp only
 rw[if_neg (by rw[h1,h2];simp)]
 have e:(if freeS (lookS s now)<(b.size:Int)then freeS (lookS s now)else(b.size:Int))=(K:Int):=by
  rw[←hK]
  split<;>omega
 rw[e]
 rfl
set_option maxRecDepth 100000 in
set_option maxHeartbeats 4000000 in
theorem put_st (h:Raw w base g c u s M) (now:Int) (p:Option Addr) (n c':Nat) (hs:(lookS s now).st≠0):
  Calls Tryz.prog 130 #[ptr g,.int .i64 now,.slice p n c'] w λ e w'=>e=.returned (.int .i64 0)∧Set w base g c u (lookS s now) M w':=by
 have HT:=Lib.hid (state_any h now)
 have e1:((lookS s now).st !=0)=true:=by simpa using hs
 have e2:decide ((lookS s now).st=0)=false:=by simpa using hs
 clear h hs
 go_enter Tryz.func130,Tryz.ntmps130
 go_wp2_with fail
 refine HT.out.mono ?_
 rintro e w1 ⟨rfl,h1⟩
 have H1:=Lib.hid h1
 clear h1 HT
 go_wp2_with fail
 try rw[Exit.noGoto_ret]
 go_ret
 exact⟨rfl,H1.out⟩
set_option maxRecDepth 100000 in
set_option maxHeartbeats 4000000 in
theorem put_shut (h:Raw w base g c u s M) (now:Int) (p:Option Addr) (n c':Nat) (hs:(lookS s now).st=0) (hc:(lookS s now).closed=true):
  Calls Tryz.prog 130 #[ptr g,.int .i64 now,.slice p n c'] w λ e w'=>e=.returned (.int .i64 0)∧Set w base g c u (lookS s now) M w':=by
 have HT:=Lib.hid (state_any h now)
 rw[hs]at HT
 clear h hs
 go_enter Tryz.func130,Tryz.ntmps130
 go_wp2_with fail
 refine HT.out.mono ?_
 rintro e w1 ⟨rfl,h1⟩
 have H1:=Lib.hid h1
 have x17:w1.cell? ⟨g,17,none⟩=some (.bool (lookS s now).closed):=h1.1.cell 17
 rw[hc]at x17
 clear h1 HT hc
 go_wp2_with fail
 try rw[Exit.noGoto_ret]
 go_ret
 exact⟨rfl,H1.out⟩
set_option maxRecDepth 100000 in
set_option maxHeartbeats 4000000 in
theorem put_open (h:Raw w base g c u s M) (ho:Ok s M) (now:Int) {p:Option Addr} {n c':Nat} {b:ByteArray} (hb:b.size=n) (hi:Lib.BytesIn w p n (gc.nums b)) (hnc:n≤c') (hM:M+b.size≤M') (hf:M'≤1000000)
  (hs:(lookS s now).st=0) (hc:(lookS s now).closed=false) {K:Nat} (hK:min (b.size:Int) (freeS (lookS s now))=(K:Int)):
  Calls Tryz.prog 130 #[ptr g,.int .i64 now,.slice p n c'] w λ e w'=>e=.returned (.int .i64 (K:Int))∧Did w base g c u (forceS (lookS s now) (b.extract 0 K)) M' w':=by
 have HT:=Lib.hid (state_any h now)
 rw[hs]at HT
 have hKn:K≤n:=by omega
 have hsl:=gc.row_to p n c' K (by omega)
 rw[hb]at hK
 have hbe:(b.extract 0 K).size=K:=by rw[ByteArray.size_extract];omega
 have HF:=Lib.hid (λ W (hr:Raw W base g c u (lookS s now) M)=>free_any hr (ho.look now) (F:=freeS (lookS s now)) rfl)
 have HL:=Lib.hid (λ W W' (hw:Set w base g c u (lookS s now) M W) (hb':Below W.heap.size W W')=>lay_any (hw.on hb').1 (ho.look now) (c':=c') (b:=b.extract 0 K) (n:=K) (p:=p) (M':=M') hbe (by
  rw[gc.take_nums]
  exact gc.bytes_take (h.bytes (hw.on hb').2 hi) K hKn) (by omega) hf)
 clear h hs hi ho
 go_enter Tryz.func130,Tryz.ntmps130
 go_wp2_with fail
 refine HT.out.mono ?_
 rintro e w1 ⟨rfl,h1⟩
 have H1:=Lib.hid h1
 have x17:w1.cell? ⟨g,17,none⟩=some (.bool (lookS s now).closed):=h1.1.cell 17
 rw[hc]at x17
 clear h1 HT hc
 go_wp2_with fail
 refine(HF.out _ H1.out.1).mono ?_
 rintro e w2 ⟨rfl,hb2⟩
 have HB2:=Lib.hid hb2
 clear hb2 x17 HF
 generalize freeS (lookS s now)=F at*
 go_wp2_with fail
 refine(HL.out _ _ H1.out HB2.out).mono ?_
 rintro e w3 ⟨rfl,hd⟩
 have HD:=Lib.hid (Set.then (H1.out.on HB2.out) hd)
 clear hd HL hsl
 go_wp2_with fail
 try rw[Exit.noGoto_ret]
 go_ret
 exact⟨rfl,HD.out⟩
theorem put_any (h:Raw w base g c u s M) (ho:Ok s M) (now:Int) {p:Option Addr} {n c':Nat} {b:ByteArray} (hb:b.size=n) (hi:Lib.BytesIn w p n (gc.nums b)) (hnc:n≤c') (hM:M+b.size≤M') (hf:M'≤1000000):
  Calls Tryz.prog 130 #[ptr g,.int .i64 now,.slice p n c'] w λ e w'=>e=.returned (.int .i64 (bringS s now b).2)∧Did w base g c u (bringS s now b).1 M' w':=by
 by_cases h1:(lookS s now).st=0
 ·cases h2:(lookS s now).closed with
  |true=>
   rw[bring_shut s now b (Or.inr h2)]
   refine(put_shut h now p n c' h1 h2).mono ?_
   rintro e w' ⟨rfl,hs⟩
   exact⟨rfl,(hs.more (by omega) hf).did⟩
  |false=>
   have hfp:=free_pos (lookS s now)
   obtain⟨K,hK⟩:∃K:Nat,min (b.size:Int) (freeS (lookS s now))=(K:Int):=⟨(min (b.size:Int) (freeS (lookS s now))).toNat,by omega⟩
   rw[bring_open s now b h1 h2 hK]
   exact put_open h ho now hb hi hnc hM hf h1 h2 hK
 ·rw[bring_shut s now b (Or.inl h1)]
  refine(put_st h now p n c' h1).mono ?_
  rintro e w' ⟨rfl,hs⟩
  exact⟨rfl,(hs.more (by omega) hf).did⟩
theorem Ok.bring (h:Ok s M) (now:Int) {b:ByteArray} (hM:M+b.size≤M') (hf:M'≤1000000):Ok (bringS s now b).1 M':=by
 have hsz:∀K,(b.extract 0 K).size≤b.size:=λ K=>by rw[ByteArray.size_extract];omega
 unfold bringS
 dsimp only
 split
 ·exact(h.look now).more (by omega) hf
 ·exact(h.look now).force (by have:=hsz ((if freeS (lookS s now)<(b.size:Int)then freeS (lookS s now)else(b.size:Int))).toNat;omega) hf
set_option maxRecDepth 100000 in
set_option maxHeartbeats 4000000 in
theorem force_st (h:Raw w base g c u s M) (now:Int) (p:Option Addr) (n c':Nat) (hs:(lookS s now).st≠0):
  Calls Tryz.prog 125 #[ptr g,.int .i64 now,.slice p n c'] w λ e w'=>e=.returned (.tuple #[])∧Set w base g c u (lookS s now) M w':=by
 have HT:=Lib.hid (state_any h now)
 have e1:((lookS s now).st==0)=false:=by simpa using hs
 have e2:decide ((lookS s now).st=0)=false:=by simpa using hs
 clear h hs
 go_enter Tryz.func125,Tryz.ntmps125
 go_wp2_with fail
 refine HT.out.mono ?_
 rintro e w1 ⟨rfl,h1⟩
 have H1:=Lib.hid h1
 clear h1 HT
 go_wp2_with fail
 go_end0
 exact⟨rfl,H1.out⟩
set_option maxRecDepth 100000 in
set_option maxHeartbeats 4000000 in
theorem force_open (h:Raw w base g c u s M) (ho:Ok s M) (now:Int) {p:Option Addr} {n c':Nat} {b:ByteArray} (hb:b.size=n) (hi:Lib.BytesIn w p n (gc.nums b)) (hM:M+b.size≤M') (hf:M'≤1000000)
  (hs:(lookS s now).st=0):
  Calls Tryz.prog 125 #[ptr g,.int .i64 now,.slice p n c'] w λ e w'=>e=.returned (.tuple #[])∧Did w base g c u (forceS (lookS s now) b) M' w':=by
 have HT:=Lib.hid (state_any h now)
 rw[hs]at HT
 have HL:=Lib.hid (λ W (hw:Set w base g c u (lookS s now) M W)=>lay_any hw.1 (ho.look now) (c':=c') (b:=b) (n:=n) (p:=p) (M':=M') hb (h.bytes hw.2 hi) (by omega) hf)
 clear h hs hi ho
 go_enter Tryz.func125,Tryz.ntmps125
 go_wp2_with fail
 refine HT.out.mono ?_
 rintro e w1 ⟨rfl,h1⟩
 have H1:=Lib.hid h1
 clear h1 HT
 go_wp2_with fail
 refine(HL.out _ H1.out).mono ?_
 rintro e w3 ⟨rfl,hd⟩
 have HD:=Lib.hid (Set.then H1.out hd)
 clear hd HL
 go_wp2_with fail
 go_end0
 exact⟨rfl,HD.out⟩
theorem force_any (h:Raw w base g c u s M) (ho:Ok s M) (now:Int) {p:Option Addr} {n c':Nat} {b:ByteArray} (hb:b.size=n) (hi:Lib.BytesIn w p n (gc.nums b)) (hM:M+b.size≤M') (hf:M'≤1000000):
  Calls Tryz.prog 125 #[ptr g,.int .i64 now,.slice p n c'] w λ e w'=>e=.returned (.tuple #[])∧Did w base g c u (pushS s now b) M' w':=by
 unfold pushS
 dsimp only
 by_cases h1:(lookS s now).st=0
 ·rw[if_neg (by simpa using h1)]
  exact force_open h ho now hb hi hM hf h1
 ·rw[if_pos h1]
  refine(force_st h now p n c' h1).mono ?_
  rintro e w' ⟨rfl,hs⟩
  exact⟨rfl,(hs.more (by omega) hf).did⟩
theorem Ok.push (h:Ok s M) (now:Int) {b:ByteArray} (hM:M+b.size≤M') (hf:M'≤1000000):Ok (pushS s now b) M':=by
 unfold pushS
 dsimp only
 split
 ·exact(h.look now).more (by omega) hf
 ·exact(h.look now).force hM hf
set_option maxRecDepth 100000 in
set_option maxHeartbeats 4000000 in
theorem close_any (h:Raw w base g c u s M) (now:Int):Calls Tryz.prog 162 #[ptr g,.int .i64 now] w λ e w'=>e=.returned (.tuple #[])∧Set w base g c u (closeS s now) M w':=by
 have HH:=Lib.hid (hear_any h now)
 clear h
 obtain⟨s1,hs1⟩:∃s1,closeS s now=s1:=⟨_,rfl⟩
 rw[hs1]
 cases hc:s.closed with
 |true=>
  have he:s1=heardS s now:=by rw[←hs1];unfold closeS;rw[if_pos hc];rfl
  clear hs1
  subst he
  go_enter Tryz.func162,Tryz.ntmps162
  go_wp2_with fail
  refine HH.out.mono ?_
  rintro e w1 ⟨rfl,h1⟩
  have H1:=Lib.hid h1
  have x17:w1.cell? ⟨g,17,none⟩=some (.bool s.closed):=h1.1.cell 17
  rw[hc]at x17
  clear h1 HH hc
  go_wp2_with fail
  go_end0
  exact⟨rfl,H1.out⟩
 |false=>
  have he:s1={heardS s now with closed:=true,at':=(heardS s now).clock}:=by rw[←hs1];unfold closeS;rw[if_neg (by rw[hc];simp)];rfl
  clear hs1
  subst he
  go_enter Tryz.func162,Tryz.ntmps162
  go_wp2_with fail
  refine HH.out.mono ?_
  rintro e w1 ⟨rfl,h1⟩
  have H1:=Lib.hid ((h1.set (i:=17) (v:=.bool true) (s':={heardS s now with closed:=true}) rfl rfl rfl rfl).set (i:=18) (v:=.int .i64 (heardS s now).clock) (s':={heardS s now with closed:=true,at':=(heardS s now).clock}) rfl rfl rfl rfl)
  have x17:w1.cell? ⟨g,17,none⟩=some (.bool s.closed):=h1.1.cell 17
  rw[hc]at x17
  have x15:w1.cell? ⟨g,15,none⟩=some (.int .i64 (heardS s now).clock):=h1.1.cell 15
  have x18:w1.cell? ⟨g,18,none⟩=some (.int .i64 s.at'):=h1.1.cell 18
  have f17:w1.frozen? ⟨g,17,none⟩=false:=h1.1.frz 17
  have f18:w1.frozen? ⟨g,18,none⟩=false:=h1.1.frz 18
  clear h1 HH hc
  go_wp2_with fail
  go_end0
  exact⟨rfl,H1.out⟩
theorem Ok.close (h:Ok s M) (now:Int):Ok (closeS s now) M:=by
 unfold closeS
 split
 ·exact⟨h.tx,h.name,tick_rg h.clock,h.passed,h.room,h.bk,h.top⟩
 ·exact⟨h.tx,h.name,tick_rg h.clock,h.passed,h.room,h.bk,h.top⟩
set_option maxRecDepth 100000 in
set_option maxHeartbeats 4000000 in
theorem held_any (h:Raw w base g c u s M):Calls Tryz.prog 114 #[ptr g] w λ e w'=>e=.returned (.int .i64 (s.S.size:Int))∧w=w':=by
 have HL:=Lib.hid (len_q h)
 have x0:w.cell? ⟨g,0,none⟩=some (.pointer (some ⟨c,0,none⟩)):=h.cell 0
 clear h
 go_enter Tryz.func114,Tryz.ntmps114
 go_wp2_with fail
 refine HL.out.mono ?_
 rintro e w1 ⟨rfl,rfl⟩
 go_wp2_with fail
 try rw[Exit.noGoto_ret]
 go_ret
 exact⟨rfl,rfl⟩
end Go.Proofs.YtdighjgcnaajgaaGreat
namespace Go.Proofs.YtdighjgcnaajgaaGreat
open Go.RowKit
variable {w w' w'' w0:World} {base g c M M':Nat} {u u' u'':gc.U} {s s' s'':St}
set_option maxRecDepth 100000 in
set_option maxHeartbeats 4000000 in
theorem all_any (g:Nat) (n:Int) (w:World):Calls Tryz.prog 191 #[ptr g,.int .i64 n] w λ e w'=>e=.returned (.int .i64 n)∧w=w':=by
 go_enter Tryz.func191,Tryz.ntmps191
 go_wp2_with fail
 try rw[Exit.noGoto_ret]
 go_ret
 exact⟨rfl,rfl⟩
set_option maxRecDepth 100000 in
set_option maxHeartbeats 4000000 in
theorem none_any (g:Nat) (n:Int) (w:World):Calls Tryz.prog 194 #[ptr g,.int .i64 n] w λ e w'=>e=.returned (.int .i64 0)∧w=w':=by
 go_enter Tryz.func194,Tryz.ntmps194
 go_wp2_with fail
 try rw[Exit.noGoto_ret]
 go_ret
 exact⟨rfl,rfl⟩
set_option maxRecDepth 100000 in
set_option maxHeartbeats 4000000 in
theorem rest_any (h:Raw w base g c u s M) (ho:Ok s M) (n:Int) {K:Int} (hK:min n (s.tx.a -s.passed)=K):Calls Tryz.prog 195 #[ptr g,.int .i64 n] w λ e w'=>e=.returned (.int .i64 K)∧Below w.heap.size w w':=by
 have x5:w.cell? ⟨g,5,none⟩=some (.int .i64 s.tx.a):=h.cell 5
 have x13:w.cell? ⟨g,13,none⟩=some (.int .i64 s.passed):=h.cell 13
 have hab:=ho.ab
 have hp:=ho.passed
 have ht:=ho.top
 have hw:IntKind.i64.wrap (s.tx.a -s.passed)=s.tx.a -s.passed:=wrap_id (by omega) (by omega)
 have HB:=Lib.hid ((Below.refl w.heap.size w).drew)
 clear hab hp ht h ho
 go_enter Tryz.func195,Tryz.ntmps195
 go_wp2_with fail
 refine wp_region_still_tail 12 (by kernel_rfl) (by kernel_rfl) ?_
 simp only[List.take_succ_cons,List.take_zero,List.drop_succ_cons,List.drop_zero]
 repeat still_step
 refine wpStill_nil ?_
 go_wp2_with fail
 try rw[Exit.noGoto_ret]
 go_ret
 exact⟨rfl,HB.out⟩
set_option maxRecDepth 100000 in
set_option maxHeartbeats 4000000 in
theorem slice_wait (h:Raw w base g c u s M) (n:Int) (hp:s.clock<s.pause):Calls Tryz.prog 193 #[ptr g,.int .i64 n] w λ e w'=>e=.returned (.int .i64 0)∧Set w base g c u s M w':=by
 have x15:w.cell? ⟨g,15,none⟩=some (.int .i64 s.clock):=h.cell 15
 have x19:w.cell? ⟨g,19,none⟩=some (.int .i64 s.pause):=h.cell 19
 have HS:=Lib.hid ((Set.refl h).on (Below.refl w.heap.size w).drew)
 have hd:decide (s.clock<s.pause)=true:=by simpa using hp
 clear h
 generalize s.clock=ck at*
 generalize s.pause=ps at*
 go_enter Tryz.func193,Tryz.ntmps193
 go_wp2_with fail
 refine wp_region_still_tail 8 (by kernel_rfl) (by kernel_rfl) ?_
 simp only[List.take_succ_cons,List.take_zero,List.drop_succ_cons,List.drop_zero]
 repeat still_step
 refine wpStill_nil ?_
 go_wp2_with fail
 try rw[Exit.noGoto_ret]
 go_ret
 exact⟨rfl,HS.out⟩
set_option maxRecDepth 100000 in
set_option maxHeartbeats 8000000 in
theorem slice_go (h:Raw w base g c u s M) (ho:Ok s M) (n:Int) (hp:¬s.clock<s.pause) (hk:s.tx.k=3) {D P R K:Int} (hD:gd.stepZ s.d=D) (hP:addT s.clock s.tx.b=P) (hR:gd.takeZ s.d s.tx.a=R) (hK:min n (R+1)=K):
  Calls Tryz.prog 193 #[ptr g,.int .i64 n] w λ e w'=>e=.returned (.int .i64 K)∧Set w base g c u {s with d:=D,pause:=P} M w':=by
 have hab:=ho.ab.2.2.2.2 hk
 have hr:=gd.takeZ_range s.d s.tx.a (by omega)
 rw[hR]at hr
 have hw:IntKind.i64.wrap (R+1)=R+1:=wrap_id (by omega) (by omega)
 have HBL:=Lib.hid (λ W=>show Calls Tryz.prog 155 #[.int .u64 s.d,.int .i64 s.tx.a] W λ e w'=>e=.returned (.tuple #[.int .i64 R,.int .u64 D])∧w'=W from by
  rw[←hD,←hR]
  exact(gd.below_any s.d s.tx.a (by omega) (by omega) W).mono λ _ _ h=>⟨h.1,h.2.symm⟩)
 have HA:=Lib.hid (λ W=>show Calls Tryz.prog 185 #[.int .i64 s.clock,.int .i64 s.tx.b] W λ e w'=>e=.returned (.int .i64 P)∧w'=W from by
  rw[←hP]
  exact(gb.add_any s.clock s.tx.b W).mono λ _ _ h=>⟨h.1,h.2.symm⟩)
 have x15:w.cell? ⟨g,15,none⟩=some (.int .i64 s.clock):=h.cell 15
 have x19:w.cell? ⟨g,19,none⟩=some (.int .i64 s.pause):=h.cell 19
 have HS:=Lib.hid ((Set.refl h).on (Below.refl w.heap.size w).drew)
 have HC:=Lib.hid (λ W (hw:Set w base g c u s M W)=>(⟨hw.1.cell 7,hw.1.cell 5,hw.1.frz 7,(hw.set (i:=7) (v:=.int .u64 D) (s':={s with d:=D}) rfl rfl rfl rfl).on (Below.refl _ _).drew⟩:W.cell? ⟨g,7,none⟩=some (.int .u64 s.d)∧W.cell? ⟨g,5,none⟩=some (.int .i64 s.tx.a)∧W.frozen? ⟨g,7,none⟩=false∧Set w base g c u {s with d:=D} M (W.setCell ⟨g,7,none⟩ (.int .u64 D)).drew))
 have HC2:=Lib.hid (λ W (hw:Set w base g c u {s with d:=D} M W)=>(⟨hw.1.cell 15,hw.1.cell 6,hw.1.cell 19,hw.1.frz 19,(hw.set (i:=19) (v:=.int .i64 P) (s':={s with d:=D,pause:=P}) rfl rfl rfl rfl).on (Below.refl _ _).drew⟩:W.cell? ⟨g,15,none⟩=some (.int .i64 s.clock)∧W.cell? ⟨g,6,none⟩=some (.int .i64 s.tx.b)∧W.cell? ⟨g,19,none⟩=some (.int .i64 s.pause)∧W.frozen? ⟨g,19,none⟩=false∧Set w base g c u {s with d:=D,pause:=P} M (W.setCell ⟨g,19,none⟩ (.int .i64 P)).drew))
 have hd:decide (s.clock<s.pause)=false:=by simpa using hp
 clear h ho hab hr hD hP hR hp
 go_enter Tryz.func193,Tryz.ntmps193
 go_wp2_with fail
 refine wp_region_still_tail 8 (by kernel_rfl) (by kernel_rfl) ?_
 simp only[List.take_succ_cons,List.take_zero,List.drop_succ_cons,List.drop_zero]
 repeat still_step
 refine wpStill_nil ?_
 go_wp2_with fail
 obtain⟨y7,y5,g7,hs2⟩:=HC.out _ HS.out
 have HS2:=Lib.hid hs2
 clear hs2 HC x15 x19 HS
 generalize w.drew=w1 at*
 refine wp_region_still_tail 17 (by kernel_rfl) (by kernel_rfl) ?_
 simp only[List.take_succ_cons,List.take_zero,List.drop_succ_cons,List.drop_zero]
 repeat still_step
 still_call (HBL.out _)
 repeat still_step
 refine wpStill_nil ?_
 go_wp2_with fail
 obtain⟨z15,z6,z19,g19,hs3⟩:=HC2.out _ HS2.out
 have HS3:=Lib.hid hs3
 clear hs3 HC2 y7 y5 g7 HS2
 generalize(w1.setCell ⟨g,7,none⟩ (.int .u64 D)).drew=w2 at*
 refine wp_region_still_tail 13 (by kernel_rfl) (by kernel_rfl) ?_
 simp only[List.take_succ_cons,List.take_zero,List.drop_succ_cons,List.drop_zero]
 repeat still_step
 still_call (HA.out _)
 repeat still_step
 refine wpStill_nil ?_
 go_wp2_with fail
 generalize(w2.setCell ⟨g,19,none⟩ (.int .i64 P)).drew=w3 at*
 try rw[Exit.noGoto_ret]
 go_ret
 exact⟨rfl,HS3.out⟩
theorem bk_cells (h:Raw w base g c u s M):w.cell? ⟨g,8,none⟩=some (.int .i64 s.bk.r)∧w.cell? ⟨g,9,none⟩=some (.int .i64 s.bk.u)∧w.cell? ⟨g,10,none⟩=some (.int .i64 s.bk.l)∧w.cell? ⟨g,11,none⟩=some (.int .i64 s.bk.t):=⟨h.cell 8,h.cell 9,h.cell 10,h.cell 11⟩
theorem bk_frz (h:Raw w base g c u s M):w.frozen? ⟨g,8,none⟩=false∧w.frozen? ⟨g,9,none⟩=false∧w.frozen? ⟨g,10,none⟩=false∧w.frozen? ⟨g,11,none⟩=false:=⟨h.frz 8,h.frz 9,h.frz 10,h.frz 11⟩
def setB (w:World) (g:Nat) (k:Bkt):World:=(((w.setCell ⟨g,8,none⟩ (.int .i64 k.r)).setCell ⟨g,9,none⟩ (.int .i64 k.u)).setCell ⟨g,10,none⟩ (.int .i64 k.l)).setCell ⟨g,11,none⟩ (.int .i64 k.t)
theorem Set.bk (h:Set w base g c u s M w') (k:Bkt):Set w base g c u {s with bk:=k} M (setB w' g k):=
 (((h.set (i:=8) (s':={s with bk:=⟨k.r,s.bk.u,s.bk.l,s.bk.t⟩}) rfl rfl rfl rfl).set (i:=9) (s':={s with bk:=⟨k.r,k.u,s.bk.l,s.bk.t⟩}) rfl rfl rfl rfl).set (i:=10) (s':={s with bk:=⟨k.r,k.u,k.l,s.bk.t⟩}) rfl rfl rfl rfl).set (i:=11) (s':={s with bk:=k}) rfl rfl rfl rfl
set_option maxRecDepth 100000 in
set_option maxHeartbeats 8000000 in
theorem poured_any (h:Raw w base g c u s M) (n:Int) (hr:gb.rightB s.bk.r s.bk.u s.bk.l s.bk.t=true) {L T K D:Int} (hL:gb.fillL s.bk.r s.bk.u s.bk.l s.bk.t s.clock=L) (hT:gb.fillT s.bk.r s.bk.u s.bk.l s.bk.t s.clock=T) (hK:gb.takeB L n=K) (hD:L -K=D):
  Calls Tryz.prog 192 #[ptr g,.int .i64 n] w λ e w'=>e=.returned (.int .i64 K)∧Set w base g c u {s with bk:=⟨s.bk.r,s.bk.u,D,T⟩} M w':=by
 have HT:=Lib.hid (λ W=>gb.take_b1 hr s.clock n hL hT hK hD W)
 obtain⟨x8,x9,x10,x11⟩:=bk_cells h
 have x15:w.cell? ⟨g,15,none⟩=some (.int .i64 s.clock):=h.cell 15
 have HC:=Lib.hid (λ W (hb:Below w.drew.heap.size w.drew W)=>(⟨bk_cells (h.drew.on hb),bk_frz (h.drew.on hb),Set.bk (((Set.refl h).on (Below.refl w.heap.size w).drew).on hb) ⟨s.bk.r,s.bk.u,D,T⟩⟩:(W.cell? ⟨g,8,none⟩=some (.int .i64 s.bk.r)∧W.cell? ⟨g,9,none⟩=some (.int .i64 s.bk.u)∧W.cell? ⟨g,10,none⟩=some (.int .i64 s.bk.l)∧W.cell? ⟨g,11,none⟩=some (.int .i64 s.bk.t))∧(W.frozen? ⟨g,8,none⟩=false∧W.frozen? ⟨g,9,none⟩=false∧W.frozen? ⟨g,10,none⟩=false∧W.frozen? ⟨g,11,none⟩=false)∧Set w base g c u {s with bk:=⟨s.bk.r,s.bk.u,D,T⟩} M (setB W g ⟨s.bk.r,s.bk.u,D,T⟩)))
 clear h hr hL hT hK hD
 go_enter Tryz.func192,Tryz.ntmps192
 go_wp2_with fail
 go_region_law
  (first
   |(go_simp;go_at_call 209;(with_reducible refine Calls.mono (HT.out _) ?_);rintro e w4 ⟨rfl,hb⟩;(obtain⟨⟨y8,y9,y10,y11⟩,⟨f8,f9,f10,f11⟩,hs⟩:=HC.out w4 hb);clear hb))
 all_goals (
  have HS:=Lib.hid hs
  clear hs
  go_wp2_with fail
  generalize hW:setB w4 g ⟨s.bk.r,s.bk.u,D,T⟩=W9 at*
  unfold setB at hW
  dsimp only at hW
  try rw[hW]
  try rw[Exit.noGoto_ret]
  go_ret
  exact⟨rfl,HS.out⟩)
end Go.Proofs.YtdighjgcnaajgaaGreat
namespace Go.Proofs.YtdighjgcnaajgaaGreat
open Go.RowKit
variable {w w' w'' w0:World} {base g c M M':Nat} {u u' u'':gc.U} {s s' s'':St}
def fV (f:FuncId):Value:=.func (.func f) #[] #[]
def giveV:Value:=.agg #[fV 191,fV 191,fV 192,fV 193,fV 194,fV 191,fV 195,fV 191]
def set8 (w:World) (g:Nat):World:=((((((((((((((((w).setCell ⟨g,0,none⟩ (Value.func (.func 191) #[] #[]))).setCell ⟨g,1,none⟩ (Value.func (.func 191) #[] #[]))).setCell ⟨g,2,none⟩ (Value.func (.func 192) #[] #[]))).setCell ⟨g,3,none⟩ (Value.func (.func 193) #[] #[]))).setCell ⟨g,4,none⟩ (Value.func (.func 194) #[] #[]))).setCell ⟨g,5,none⟩ (Value.func (.func 191) #[] #[]))).setCell ⟨g,6,none⟩ (Value.func (.func 195) #[] #[]))).setCell ⟨g,7,none⟩ (Value.func (.func 191) #[] #[]))
theorem set8_heap {w:World} {g:Nat} {a b c d e f h i:Value} {T:TypeId} (hg:w.heap[g]?=some (.cells #[a,b,c,d,e,f,h,i] T (0,0))):(set8 w g).heap[g]?=some (.cells #[(Value.func (.func 191) #[] #[]),(Value.func (.func 191) #[] #[]),(Value.func (.func 192) #[] #[]),(Value.func (.func 193) #[] #[]),(Value.func (.func 194) #[] #[]),(Value.func (.func 191) #[] #[]),(Value.func (.func 195) #[] #[]),(Value.func (.func 191) #[] #[])] T (0,0)):=by
 unfold set8
 have h0:_=some (Obj.cells #[(Value.func (.func 191) #[] #[]),b,c,d,e,f,h,i] T (0,0)):=gb.set_heap (i:=0) hg (Value.func (.func 191) #[] #[])
 have h1:_=some (Obj.cells #[(Value.func (.func 191) #[] #[]),(Value.func (.func 191) #[] #[]),c,d,e,f,h,i] T (0,0)):=gb.set_heap (i:=1) h0 (Value.func (.func 191) #[] #[])
 have h2:_=some (Obj.cells #[(Value.func (.func 191) #[] #[]),(Value.func (.func 191) #[] #[]),(Value.func (.func 192) #[] #[]),d,e,f,h,i] T (0,0)):=gb.set_heap (i:=2) h1 (Value.func (.func 192) #[] #[])
 have h3:_=some (Obj.cells #[(Value.func (.func 191) #[] #[]),(Value.func (.func 191) #[] #[]),(Value.func (.func 192) #[] #[]),(Value.func (.func 193) #[] #[]),e,f,h,i] T (0,0)):=gb.set_heap (i:=3) h2 (Value.func (.func 193) #[] #[])
 have h4:_=some (Obj.cells #[(Value.func (.func 191) #[] #[]),(Value.func (.func 191) #[] #[]),(Value.func (.func 192) #[] #[]),(Value.func (.func 193) #[] #[]),(Value.func (.func 194) #[] #[]),f,h,i] T (0,0)):=gb.set_heap (i:=4) h3 (Value.func (.func 194) #[] #[])
 have h5:_=some (Obj.cells #[(Value.func (.func 191) #[] #[]),(Value.func (.func 191) #[] #[]),(Value.func (.func 192) #[] #[]),(Value.func (.func 193) #[] #[]),(Value.func (.func 194) #[] #[]),(Value.func (.func 191) #[] #[]),h,i] T (0,0)):=gb.set_heap (i:=5) h4 (Value.func (.func 191) #[] #[])
 have h6:_=some (Obj.cells #[(Value.func (.func 191) #[] #[]),(Value.func (.func 191) #[] #[]),(Value.func (.func 192) #[] #[]),(Value.func (.func 193) #[] #[]),(Value.func (.func 194) #[] #[]),(Value.func (.func 191) #[] #[]),(Value.func (.func 195) #[] #[]),i] T (0,0)):=gb.set_heap (i:=6) h5 (Value.func (.func 195) #[] #[])
 have h7:_=some (Obj.cells #[(Value.func (.func 191) #[] #[]),(Value.func (.func 191) #[] #[]),(Value.func (.func 192) #[] #[]),(Value.func (.func 193) #[] #[]),(Value.func (.func 194) #[] #[]),(Value.func (.func 191) #[] #[]),(Value.func (.func 195) #[] #[]),(Value.func (.func 191) #[] #[])] T (0,0)):=gb.set_heap (i:=7) h6 (Value.func (.func 191) #[] #[])
 exact h7
theorem set8_below {B:Nat} {w0 w:World} {g:Nat} (h:Below B w0 w) (hg:B≤g):Below B w0 (set8 w g):=((((((((h.setCell (p:=⟨g,0,none⟩) hg _).setCell (p:=⟨g,1,none⟩) hg _).setCell (p:=⟨g,2,none⟩) hg _).setCell (p:=⟨g,3,none⟩) hg _).setCell (p:=⟨g,4,none⟩) hg _).setCell (p:=⟨g,5,none⟩) hg _).setCell (p:=⟨g,6,none⟩) hg _).setCell (p:=⟨g,7,none⟩) hg _)
set_option maxRecDepth 100000 in
set_option maxHeartbeats 4000000 in
theorem gives_any (w:World):Calls Tryz.prog 166 #[] w λ e w'=>e=.returned giveV∧Below w.heap.size w w':=by
 have hb0:Below w.heap.size w (w.alloc (.cells #[Value.nilFunc,Value.nilFunc,Value.nilFunc,Value.nilFunc,Value.nilFunc,Value.nilFunc,Value.nilFunc,Value.nilFunc] 230)):=(Below.refl _ _).alloc (Nat.le_refl _) _
 have hg0:=heap_alloc_new w (.cells #[Value.nilFunc,Value.nilFunc,Value.nilFunc,Value.nilFunc,Value.nilFunc,Value.nilFunc,Value.nilFunc,Value.nilFunc] 230)
 obtain⟨W0,hW0⟩:∃W0,w.alloc (.cells #[Value.nilFunc,Value.nilFunc,Value.nilFunc,Value.nilFunc,Value.nilFunc,Value.nilFunc,Value.nilFunc,Value.nilFunc] 230)=W0:=⟨_,rfl⟩
 rw[hW0]at hb0 hg0
 have x0:W0.cell? ⟨w.heap.size,0,none⟩=some Value.nilFunc:=cell_of_row _ _ 0 _ _ _ hg0
 have f0:W0.frozen? ⟨w.heap.size,0,none⟩=false:=gb.frozen_at hg0
 have x1:W0.cell? ⟨w.heap.size,1,none⟩=some Value.nilFunc:=cell_of_row _ _ 1 _ _ _ hg0
 have f1:W0.frozen? ⟨w.heap.size,1,none⟩=false:=gb.frozen_at hg0
 have x2:W0.cell? ⟨w.heap.size,2,none⟩=some Value.nilFunc:=cell_of_row _ _ 2 _ _ _ hg0
 have f2:W0.frozen? ⟨w.heap.size,2,none⟩=false:=gb.frozen_at hg0
 have x3:W0.cell? ⟨w.heap.size,3,none⟩=some Value.nilFunc:=cell_of_row _ _ 3 _ _ _ hg0
 have f3:W0.frozen? ⟨w.heap.size,3,none⟩=false:=gb.frozen_at hg0
 have x4:W0.cell? ⟨w.heap.size,4,none⟩=some Value.nilFunc:=cell_of_row _ _ 4 _ _ _ hg0
 have f4:W0.frozen? ⟨w.heap.size,4,none⟩=false:=gb.frozen_at hg0
 have x5:W0.cell? ⟨w.heap.size,5,none⟩=some Value.nilFunc:=cell_of_row _ _ 5 _ _ _ hg0
 have f5:W0.frozen? ⟨w.heap.size,5,none⟩=false:=gb.frozen_at hg0
 have x6:W0.cell? ⟨w.heap.size,6,none⟩=some Value.nilFunc:=cell_of_row _ _ 6 _ _ _ hg0
 have f6:W0.frozen? ⟨w.heap.size,6,none⟩=false:=gb.frozen_at hg0
 have x7:W0.cell? ⟨w.heap.size,7,none⟩=some Value.nilFunc:=cell_of_row _ _ 7 _ _ _ hg0
 have f7:W0.frozen? ⟨w.heap.size,7,none⟩=false:=gb.frozen_at hg0
 have hz:=set8_heap hg0
 have HD:=Lib.hid (set8_below hb0 (Nat.le_refl _))
 have hlt:=gb.blk_lt hg0
 have ks:∀(a:Addr) (m:Mode) (f:Fn) (W:World),Sem.run Tryz.prog (store a (.func f #[] #[]) m) W=stored Tryz.prog W a (.func f #[] #[]) m:=λ a m f W=>run_store Tryz.prog W a _ m rfl
 clear hb0 hg0
 go_enter Tryz.func166,Tryz.ntmps166
 go_wp2_with fail
 generalize hW:set8 W0 w.heap.size=W9 at*
 unfold set8 at hW
 rw[hW]
 clear hW
 have z0:W9.cell? ⟨w.heap.size,0,none⟩=some (Value.func (.func 191) #[] #[]):=cell_of_row _ _ 0 _ _ _ hz
 have z1:W9.cell? ⟨w.heap.size,1,none⟩=some (Value.func (.func 191) #[] #[]):=cell_of_row _ _ 1 _ _ _ hz
 have z2:W9.cell? ⟨w.heap.size,2,none⟩=some (Value.func (.func 192) #[] #[]):=cell_of_row _ _ 2 _ _ _ hz
 have z3:W9.cell? ⟨w.heap.size,3,none⟩=some (Value.func (.func 193) #[] #[]):=cell_of_row _ _ 3 _ _ _ hz
 have z4:W9.cell? ⟨w.heap.size,4,none⟩=some (Value.func (.func 194) #[] #[]):=cell_of_row _ _ 4 _ _ _ hz
 have z5:W9.cell? ⟨w.heap.size,5,none⟩=some (Value.func (.func 191) #[] #[]):=cell_of_row _ _ 5 _ _ _ hz
 have z6:W9.cell? ⟨w.heap.size,6,none⟩=some (Value.func (.func 195) #[] #[]):=cell_of_row _ _ 6 _ _ _ hz
 have z7:W9.cell? ⟨w.heap.size,7,none⟩=some (Value.func (.func 191) #[] #[]):=cell_of_row _ _ 7 _ _ _ hz
 exact bodyPost_ret (v:=giveV) (by simp[results,Tryz.results166,go_sem,z0,z1,z2,z3,z4,z5,z6,z7,giveV,fV]) rfl ⟨rfl,HD.out⟩
end Go.Proofs.YtdighjgcnaajgaaGreat
