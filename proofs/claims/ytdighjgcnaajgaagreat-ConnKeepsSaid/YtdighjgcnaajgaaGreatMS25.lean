import Derived.Test.YtdighjgcnaajgaaGreatMS24
namespace Go.Proofs.YtdighjgcnaajgaaGreat
open Go.RowKit
variable {w w' w'' w0:World} {base g c M M':Nat} {u u' u'':gc.U} {s s' s'' s1 s2:St}
def DidQ (w:World) (base g c:Nat) (u:gc.U) (s:St) (M:Nat) (q:Option Addr) (w':World):Prop:=∃u',Raw w' base g c u' s M∧Mv w w' g c u u'∧gc.Own q c u'∧∀a,q=some a→w.heap.size≤a.block
def Tk (w:World) (base g c:Nat) (u:gc.U) (s:St) (M:Nat) (T:ByteArray) (K:Nat) (e:Ending) (w':World):Prop:=∃q d,e=.returned (.slice q K d)∧Lib.BytesIn w' q K (gc.nums T)∧T.size=K∧K≤d∧d≤9223372036854775807∧DidQ w base g c u s M q w'
theorem Set.thenQ (h:Set w base g c u s M w') {q:Option Addr} (k:DidQ w' base g c u s' M' q w''):DidQ w base g c u s' M' q w'':=by
 obtain⟨u',h1,h2,h3⟩:=k
 exact⟨u',h1,(h.2.mv c u).trans h2,h3.1,λ a e=>Nat.le_trans h.2.size (h3.2 a e)⟩
theorem Set.thenT (h:Set w base g c u s M w') {T:ByteArray} {K:Nat} {e:Ending} (k:Tk w' base g c u s' M' T K e w''):Tk w base g c u s' M' T K e w'':=by
 obtain⟨q,d,h1,h2,h3,h4,h5,h6⟩:=k
 exact⟨q,d,h1,h2,h3,h4,h5,h.thenQ h6⟩
theorem ctake (h:Raw w base g c u s M) (now most:Int) {K:Nat} (hK:gc.takeK s.A now most=K):
  Calls Tryz.prog 161 #[ptr c,.int .i64 now,.int .i64 most] w (Tk w base g c u {s with S:=s.S.extract K s.S.size,A:=s.A.drop K} M (s.S.extract 0 K) K):=by
 have hz:=gc.takeK_size h.car hK
 have h':=h.car
 obtain⟨ms,G,hr,hl⟩:=h'
 refine(gc.take_raw hr hl now most hK).mono ?_
 rintro e w' ⟨q,d,rfl,h1,h2,h3,h4⟩
 exact⟨q,d,rfl,h1,hz,h2,h3,h.putq h4⟩
theorem cdrain (h:Raw w base g c u s M):
  Calls Tryz.prog 126 #[ptr c] w (Tk w base g c u {s with S:=⟨#[]⟩,A:=[]} M s.S s.S.size):=by
 have h':=h.car
 have hlen:=h'.inv.len
 obtain⟨ms,G,hr,hl⟩:=h'
 refine(gc.drain_raw hr hl).mono ?_
 rintro e w' ⟨q,d,rfl,h1,h2,h3,h4⟩
 have e1:s.S.extract 0 s.S.size=s.S:=by simp
 have e2:s.S.extract s.S.size s.S.size=⟨#[]⟩:=by
  apply ByteArray.ext
  apply Array.eq_empty_of_size_eq_zero
  have:(s.S.extract s.S.size s.S.size).size=0:=by rw[ByteArray.size_extract];omega
  exact this
 have e3:s.A.drop s.S.size=[]:=by rw[←hlen,List.drop_length]
 rw[e1]at h1
 rw[e2,e3]at h4
 exact⟨q,d,rfl,h1,rfl,h2,h3,h.putq h4⟩
set_option maxRecDepth 100000 in
set_option maxHeartbeats 4000000 in
theorem take_st (h:Raw w base g c u s M) (now most:Int) (hs:(lookS s now).st≠0):
  Calls Tryz.prog 135 #[ptr g,.int .i64 now,.int .i64 most] w λ e w'=>e=.returned (.slice none 0 0)∧Set w base g c u (lookS s now) M w':=by
 have HT:=Lib.hid (state_any h now)
 have e1:((lookS s now).st !=0)=true:=by simpa using hs
 have e2:decide ((lookS s now).st=0)=false:=by simpa using hs
 clear h hs
 go_enter Tryz.func135,Tryz.ntmps135
 go_wp2_with fail
 refine HT.out.mono ?_
 rintro e w1 ⟨rfl,h1⟩
 have H1:=Lib.hid h1
 clear h1 HT
 go_wp2_with fail
 try rw[Exit.noGoto_ret]
 go_ret
 exact⟨rfl,H1.out⟩
set_option maxRecDepth 100000 in
set_option maxHeartbeats 4000000 in
theorem take_none (h:Raw w base g c u s M) (now most:Int) (hs:(lookS s now).st=0) {n:Int} (hn:min most (gc.readyN (lookS s now).A (lookS s now).clock:Int)=n) (h1:n<1):
  Calls Tryz.prog 135 #[ptr g,.int .i64 now,.int .i64 most] w λ e w'=>e=.returned (.slice none 0 0)∧Set w base g c u (lookS s now) M w':=by
 have HT:=Lib.hid (state_any h now)
 rw[hs]at HT
 have hd:decide (n<1)=true:=by simpa using h1
 clear h hs
 go_enter Tryz.func135,Tryz.ntmps135
 go_wp2_with fail
 refine HT.out.mono ?_
 rintro e w1 ⟨rfl,hx⟩
 have H1:=Lib.hid hx
 have x0:w1.cell? ⟨g,0,none⟩=some (.pointer (some ⟨c,0,none⟩)):=hx.1.cell 0
 have x15:w1.cell? ⟨g,15,none⟩=some (.int .i64 (lookS s now).clock):=hx.1.cell 15
 have HR:=Lib.hid (gc.ready_al (hx.on (Below.refl _ w1).drew).1.car (lookS s now).clock)
 clear hx HT
 go_wp2_with fail
 go_region_law
  (first
   |(go_simp;go_at_call 165;(with_reducible refine Calls.mono HR.out ?_);rintro e w4 ⟨rfl,hb⟩))
 all_goals (
  have HS:=Lib.hid ((H1.out.on (Below.refl _ w1).drew).on hb)
  clear hb x0 x15 H1 HR
  go_wp2_with fail
  try rw[Exit.noGoto_ret]
  go_ret
  exact⟨rfl,HS.out⟩)
end Go.Proofs.YtdighjgcnaajgaaGreat
namespace Go.Proofs.YtdighjgcnaajgaaGreat
open Go.RowKit
variable {w w' w'' w0:World} {base g c M M':Nat} {u u' u'':gc.U} {s s' s'' s1 s2:St}
set_option maxRecDepth 100000 in
set_option maxHeartbeats 8000000 in
theorem take_by_all (h:Raw w base g c u s M) (now most:Int) (hs:(lookS s now).st=0) (hs1:lookS s now=s1) {n:Int} (hn:min most (gc.readyN s1.A s1.clock:Int)=n) (h1:1≤n) {K:Nat} {s2:St}
  (hix:∀W,(Instr.index 230 giveV (.int .i64 s1.tx.k)).run Tryz.prog W=.ok (.func (.func 191) #[] #[]) W)
  (hg:∀W,Raw W base g c u s1 M→Calls Tryz.prog 191 #[ptr g,.int .i64 n] W λ e w'=>e=.returned (.int .i64 (K:Int))∧Set W base g c u s2 M w')
  (hc:s2.clock=s1.clock) (hA:s2.A=s1.A) (hw:IntKind.i64.wrap (s2.passed+(K:Int))=s2.passed+(K:Int)) (hK:gc.takeK s1.A s1.clock (K:Int)=K):
  Calls Tryz.prog 135 #[ptr g,.int .i64 now,.int .i64 most] w (Tk w base g c u (cutS s2 K) M (s2.S.extract 0 K) K):=by
 have HT:=Lib.hid (state_any h now)
 rw[hs,hs1]at HT
 have HG:=Lib.hid hg
 have HCT:=Lib.hid (λ W (hr:Raw W base g c u {s2 with passed:=s2.passed+(K:Int)} M)=>ctake hr s1.clock (K:Int) (K:=K) (by show gc.takeK s2.A s1.clock (K:Int)=K;rw[hA];exact hK))
 have HC2:=Lib.hid (λ W (hw:Set w base g c u s2 M W)=>(⟨hw.1.cell 13,hw.1.frz 13,hw.set (i:=13) (v:=.int .i64 (s2.passed+(K:Int))) (s':={s2 with passed:=s2.passed+(K:Int)}) rfl rfl rfl rfl⟩:W.cell? ⟨g,13,none⟩=some (.int .i64 s2.passed)∧W.frozen? ⟨g,13,none⟩=false∧Set w base g c u {s2 with passed:=s2.passed+(K:Int)} M (W.setCell ⟨g,13,none⟩ (.int .i64 (s2.passed+(K:Int))))))
 have HC3:=Lib.hid (λ W (hw:Set w base g c u {s2 with passed:=s2.passed+(K:Int)} M W)=>(⟨hw.1.cell 0,hc▸hw.1.cell 15⟩:W.cell? ⟨g,0,none⟩=some (.pointer (some ⟨c,0,none⟩))∧W.cell? ⟨g,15,none⟩=some (.int .i64 s1.clock)))
 have hd:decide (n<1)=false:=by simpa using h1
 clear h hs h1 hg hs1 hc hA hK
 go_enter Tryz.func135,Tryz.ntmps135
 go_wp2_with fail
 refine HT.out.mono ?_
 rintro e w1 ⟨rfl,hx⟩
 have H1:=Lib.hid hx
 have x0:w1.cell? ⟨g,0,none⟩=some (.pointer (some ⟨c,0,none⟩)):=hx.1.cell 0
 have x15:w1.cell? ⟨g,15,none⟩=some (.int .i64 s1.clock):=hx.1.cell 15
 have HR:=Lib.hid (gc.ready_al (hx.on (Below.refl _ w1).drew).1.car s1.clock)
 clear hx HT
 go_wp2_with fail
 go_region_law
  (first
   |(go_simp;go_at_call 165;(with_reducible refine Calls.mono HR.out ?_);rintro e w4 ⟨rfl,hb⟩))
 all_goals (
  have HS:=Lib.hid ((H1.out.on (Below.refl _ w1).drew).on hb)
  have x2:w4.cell? ⟨g,2,none⟩=some (.int .i64 s1.tx.k):=HS.out.1.cell 2
  have HGV:=Lib.hid (gives_any w4.drew)
  have HX2:=Lib.hid (λ W (hb:Below w4.drew.heap.size w4.drew W)=>(⟨((HS.out.on (Below.refl _ w4).drew).on hb).1.cell 2,(HS.out.on (Below.refl _ w4).drew).on hb⟩:W.cell? ⟨g,2,none⟩=some (.int .i64 s1.tx.k)∧Set w base g c u s1 M W))
  clear hb x0 x15 H1 HR
  go_wp2_with fail
  go_region_law
   (first
    |(go_simp;go_at_call 166;(with_reducible refine Calls.mono HGV.out ?_);rintro e w5 ⟨rfl,hb⟩;(obtain⟨y2,hs5⟩:=HX2.out w5 hb);(have hr5:=hs5.1);clear hb)
    |(go_simp;go_at_call 191;(with_reducible refine Calls.mono (HG.out _ hr5) ?_);rintro e w6 ⟨rfl,hs6⟩)))
 all_goals (
  have HS6:=Lib.hid (hs5.trans hs6)
  obtain⟨z13,g13,hs7⟩:=HC2.out w6 HS6.out
  have HS7:=Lib.hid hs7
  clear hs7 HC2 hs5 hr5 hs6 y2 x2 HGV HX2
  go_wp2_with fail
  obtain⟨x0,x15⟩:=HC3.out _ HS7.out
  clear HC3 z13 g13
  generalize w6.setCell ⟨g,13,none⟩ (.int .i64 (s2.passed+(K:Int)))=w7 at*
  have HS8:=Lib.hid (HS7.out.on (Below.refl _ w7).drew)
  have HCT2:=Lib.hid (HCT.out _ HS8.out.1)
  refine wp_region_still_tail 9 (by kernel_rfl) (by kernel_rfl) ?_
  simp only[List.take_succ_cons,List.take_zero,List.drop_succ_cons,List.drop_zero]
  repeat still_step
  refine wpStill_nil ?_
  go_wp2_with fail
  refine HCT2.out.mono ?_
  rintro e w9 hk
  have HK:=Lib.hid (HS8.out.thenT hk)
  obtain⟨q,d,rfl,_⟩:=hk
  go_wp2_with fail
  try rw[Exit.noGoto_ret]
  go_ret
  exact HK.out)
end Go.Proofs.YtdighjgcnaajgaaGreat
namespace Go.Proofs.YtdighjgcnaajgaaGreat
open Go.RowKit
variable {w w' w'' w0:World} {base g c M M':Nat} {u u' u'':gc.U} {s s' s'' s1 s2:St}
set_option maxRecDepth 100000 in
set_option maxHeartbeats 8000000 in
theorem take_by_poured (h:Raw w base g c u s M) (now most:Int) (hs:(lookS s now).st=0) (hs1:lookS s now=s1) {n:Int} (hn:min most (gc.readyN s1.A s1.clock:Int)=n) (h1:1≤n) {K:Nat} {s2:St}
  (hix:∀W,(Instr.index 230 giveV (.int .i64 s1.tx.k)).run Tryz.prog W=.ok (.func (.func 192) #[] #[]) W)
  (hg:∀W,Raw W base g c u s1 M→Calls Tryz.prog 192 #[ptr g,.int .i64 n] W λ e w'=>e=.returned (.int .i64 (K:Int))∧Set W base g c u s2 M w')
  (hc:s2.clock=s1.clock) (hA:s2.A=s1.A) (hw:IntKind.i64.wrap (s2.passed+(K:Int))=s2.passed+(K:Int)) (hK:gc.takeK s1.A s1.clock (K:Int)=K):
  Calls Tryz.prog 135 #[ptr g,.int .i64 now,.int .i64 most] w (Tk w base g c u (cutS s2 K) M (s2.S.extract 0 K) K):=by
 have HT:=Lib.hid (state_any h now)
 rw[hs,hs1]at HT
 have HG:=Lib.hid hg
 have HCT:=Lib.hid (λ W (hr:Raw W base g c u {s2 with passed:=s2.passed+(K:Int)} M)=>ctake hr s1.clock (K:Int) (K:=K) (by show gc.takeK s2.A s1.clock (K:Int)=K;rw[hA];exact hK))
 have HC2:=Lib.hid (λ W (hw:Set w base g c u s2 M W)=>(⟨hw.1.cell 13,hw.1.frz 13,hw.set (i:=13) (v:=.int .i64 (s2.passed+(K:Int))) (s':={s2 with passed:=s2.passed+(K:Int)}) rfl rfl rfl rfl⟩:W.cell? ⟨g,13,none⟩=some (.int .i64 s2.passed)∧W.frozen? ⟨g,13,none⟩=false∧Set w base g c u {s2 with passed:=s2.passed+(K:Int)} M (W.setCell ⟨g,13,none⟩ (.int .i64 (s2.passed+(K:Int))))))
 have HC3:=Lib.hid (λ W (hw:Set w base g c u {s2 with passed:=s2.passed+(K:Int)} M W)=>(⟨hw.1.cell 0,hc▸hw.1.cell 15⟩:W.cell? ⟨g,0,none⟩=some (.pointer (some ⟨c,0,none⟩))∧W.cell? ⟨g,15,none⟩=some (.int .i64 s1.clock)))
 have hd:decide (n<1)=false:=by simpa using h1
 clear h hs h1 hg hs1 hc hA hK
 go_enter Tryz.func135,Tryz.ntmps135
 go_wp2_with fail
 refine HT.out.mono ?_
 rintro e w1 ⟨rfl,hx⟩
 have H1:=Lib.hid hx
 have x0:w1.cell? ⟨g,0,none⟩=some (.pointer (some ⟨c,0,none⟩)):=hx.1.cell 0
 have x15:w1.cell? ⟨g,15,none⟩=some (.int .i64 s1.clock):=hx.1.cell 15
 have HR:=Lib.hid (gc.ready_al (hx.on (Below.refl _ w1).drew).1.car s1.clock)
 clear hx HT
 go_wp2_with fail
 go_region_law
  (first
   |(go_simp;go_at_call 165;(with_reducible refine Calls.mono HR.out ?_);rintro e w4 ⟨rfl,hb⟩))
 all_goals (
  have HS:=Lib.hid ((H1.out.on (Below.refl _ w1).drew).on hb)
  have x2:w4.cell? ⟨g,2,none⟩=some (.int .i64 s1.tx.k):=HS.out.1.cell 2
  have HGV:=Lib.hid (gives_any w4.drew)
  have HX2:=Lib.hid (λ W (hb:Below w4.drew.heap.size w4.drew W)=>(⟨((HS.out.on (Below.refl _ w4).drew).on hb).1.cell 2,(HS.out.on (Below.refl _ w4).drew).on hb⟩:W.cell? ⟨g,2,none⟩=some (.int .i64 s1.tx.k)∧Set w base g c u s1 M W))
  clear hb x0 x15 H1 HR
  go_wp2_with fail
  go_region_law
   (first
    |(go_simp;go_at_call 166;(with_reducible refine Calls.mono HGV.out ?_);rintro e w5 ⟨rfl,hb⟩;(obtain⟨y2,hs5⟩:=HX2.out w5 hb);(have hr5:=hs5.1);clear hb)
    |(go_simp;go_at_call 192;(with_reducible refine Calls.mono (HG.out _ hr5) ?_);rintro e w6 ⟨rfl,hs6⟩)))
 all_goals (
  have HS6:=Lib.hid (hs5.trans hs6)
  obtain⟨z13,g13,hs7⟩:=HC2.out w6 HS6.out
  have HS7:=Lib.hid hs7
  clear hs7 HC2 hs5 hr5 hs6 y2 x2 HGV HX2
  go_wp2_with fail
  obtain⟨x0,x15⟩:=HC3.out _ HS7.out
  clear HC3 z13 g13
  generalize w6.setCell ⟨g,13,none⟩ (.int .i64 (s2.passed+(K:Int)))=w7 at*
  have HS8:=Lib.hid (HS7.out.on (Below.refl _ w7).drew)
  have HCT2:=Lib.hid (HCT.out _ HS8.out.1)
  refine wp_region_still_tail 9 (by kernel_rfl) (by kernel_rfl) ?_
  simp only[List.take_succ_cons,List.take_zero,List.drop_succ_cons,List.drop_zero]
  repeat still_step
  refine wpStill_nil ?_
  go_wp2_with fail
  refine HCT2.out.mono ?_
  rintro e w9 hk
  have HK:=Lib.hid (HS8.out.thenT hk)
  obtain⟨q,d,rfl,_⟩:=hk
  go_wp2_with fail
  try rw[Exit.noGoto_ret]
  go_ret
  exact HK.out)
end Go.Proofs.YtdighjgcnaajgaaGreat
namespace Go.Proofs.YtdighjgcnaajgaaGreat
open Go.RowKit
variable {w w' w'' w0:World} {base g c M M':Nat} {u u' u'':gc.U} {s s' s'' s1 s2:St}
set_option maxRecDepth 100000 in
set_option maxHeartbeats 8000000 in
theorem take_by_slice (h:Raw w base g c u s M) (now most:Int) (hs:(lookS s now).st=0) (hs1:lookS s now=s1) {n:Int} (hn:min most (gc.readyN s1.A s1.clock:Int)=n) (h1:1≤n) {K:Nat} {s2:St}
  (hix:∀W,(Instr.index 230 giveV (.int .i64 s1.tx.k)).run Tryz.prog W=.ok (.func (.func 193) #[] #[]) W)
  (hg:∀W,Raw W base g c u s1 M→Calls Tryz.prog 193 #[ptr g,.int .i64 n] W λ e w'=>e=.returned (.int .i64 (K:Int))∧Set W base g c u s2 M w')
  (hc:s2.clock=s1.clock) (hA:s2.A=s1.A) (hw:IntKind.i64.wrap (s2.passed+(K:Int))=s2.passed+(K:Int)) (hK:gc.takeK s1.A s1.clock (K:Int)=K):
  Calls Tryz.prog 135 #[ptr g,.int .i64 now,.int .i64 most] w (Tk w base g c u (cutS s2 K) M (s2.S.extract 0 K) K):=by
 have HT:=Lib.hid (state_any h now)
 rw[hs,hs1]at HT
 have HG:=Lib.hid hg
 have HCT:=Lib.hid (λ W (hr:Raw W base g c u {s2 with passed:=s2.passed+(K:Int)} M)=>ctake hr s1.clock (K:Int) (K:=K) (by show gc.takeK s2.A s1.clock (K:Int)=K;rw[hA];exact hK))
 have HC2:=Lib.hid (λ W (hw:Set w base g c u s2 M W)=>(⟨hw.1.cell 13,hw.1.frz 13,hw.set (i:=13) (v:=.int .i64 (s2.passed+(K:Int))) (s':={s2 with passed:=s2.passed+(K:Int)}) rfl rfl rfl rfl⟩:W.cell? ⟨g,13,none⟩=some (.int .i64 s2.passed)∧W.frozen? ⟨g,13,none⟩=false∧Set w base g c u {s2 with passed:=s2.passed+(K:Int)} M (W.setCell ⟨g,13,none⟩ (.int .i64 (s2.passed+(K:Int))))))
 have HC3:=Lib.hid (λ W (hw:Set w base g c u {s2 with passed:=s2.passed+(K:Int)} M W)=>(⟨hw.1.cell 0,hc▸hw.1.cell 15⟩:W.cell? ⟨g,0,none⟩=some (.pointer (some ⟨c,0,none⟩))∧W.cell? ⟨g,15,none⟩=some (.int .i64 s1.clock)))
 have hd:decide (n<1)=false:=by simpa using h1
 clear h hs h1 hg hs1 hc hA hK
 go_enter Tryz.func135,Tryz.ntmps135
 go_wp2_with fail
 refine HT.out.mono ?_
 rintro e w1 ⟨rfl,hx⟩
 have H1:=Lib.hid hx
 have x0:w1.cell? ⟨g,0,none⟩=some (.pointer (some ⟨c,0,none⟩)):=hx.1.cell 0
 have x15:w1.cell? ⟨g,15,none⟩=some (.int .i64 s1.clock):=hx.1.cell 15
 have HR:=Lib.hid (gc.ready_al (hx.on (Below.refl _ w1).drew).1.car s1.clock)
 clear hx HT
 go_wp2_with fail
 go_region_law
  (first
   |(go_simp;go_at_call 165;(with_reducible refine Calls.mono HR.out ?_);rintro e w4 ⟨rfl,hb⟩))
 all_goals (
  have HS:=Lib.hid ((H1.out.on (Below.refl _ w1).drew).on hb)
  have x2:w4.cell? ⟨g,2,none⟩=some (.int .i64 s1.tx.k):=HS.out.1.cell 2
  have HGV:=Lib.hid (gives_any w4.drew)
  have HX2:=Lib.hid (λ W (hb:Below w4.drew.heap.size w4.drew W)=>(⟨((HS.out.on (Below.refl _ w4).drew).on hb).1.cell 2,(HS.out.on (Below.refl _ w4).drew).on hb⟩:W.cell? ⟨g,2,none⟩=some (.int .i64 s1.tx.k)∧Set w base g c u s1 M W))
  clear hb x0 x15 H1 HR
  go_wp2_with fail
  go_region_law
   (first
    |(go_simp;go_at_call 166;(with_reducible refine Calls.mono HGV.out ?_);rintro e w5 ⟨rfl,hb⟩;(obtain⟨y2,hs5⟩:=HX2.out w5 hb);(have hr5:=hs5.1);clear hb)
    |(go_simp;go_at_call 193;(with_reducible refine Calls.mono (HG.out _ hr5) ?_);rintro e w6 ⟨rfl,hs6⟩)))
 all_goals (
  have HS6:=Lib.hid (hs5.trans hs6)
  obtain⟨z13,g13,hs7⟩:=HC2.out w6 HS6.out
  have HS7:=Lib.hid hs7
  clear hs7 HC2 hs5 hr5 hs6 y2 x2 HGV HX2
  go_wp2_with fail
  obtain⟨x0,x15⟩:=HC3.out _ HS7.out
  clear HC3 z13 g13
  generalize w6.setCell ⟨g,13,none⟩ (.int .i64 (s2.passed+(K:Int)))=w7 at*
  have HS8:=Lib.hid (HS7.out.on (Below.refl _ w7).drew)
  have HCT2:=Lib.hid (HCT.out _ HS8.out.1)
  refine wp_region_still_tail 9 (by kernel_rfl) (by kernel_rfl) ?_
  simp only[List.take_succ_cons,List.take_zero,List.drop_succ_cons,List.drop_zero]
  repeat still_step
  refine wpStill_nil ?_
  go_wp2_with fail
  refine HCT2.out.mono ?_
  rintro e w9 hk
  have HK:=Lib.hid (HS8.out.thenT hk)
  obtain⟨q,d,rfl,_⟩:=hk
  go_wp2_with fail
  try rw[Exit.noGoto_ret]
  go_ret
  exact HK.out)
end Go.Proofs.YtdighjgcnaajgaaGreat
namespace Go.Proofs.YtdighjgcnaajgaaGreat
open Go.RowKit
variable {w w' w'' w0:World} {base g c M M':Nat} {u u' u'':gc.U} {s s' s'' s1 s2:St}
set_option maxRecDepth 100000 in
set_option maxHeartbeats 8000000 in
theorem take_by_none (h:Raw w base g c u s M) (now most:Int) (hs:(lookS s now).st=0) (hs1:lookS s now=s1) {n:Int} (hn:min most (gc.readyN s1.A s1.clock:Int)=n) (h1:1≤n) {K:Nat} {s2:St}
  (hix:∀W,(Instr.index 230 giveV (.int .i64 s1.tx.k)).run Tryz.prog W=.ok (.func (.func 194) #[] #[]) W)
  (hg:∀W,Raw W base g c u s1 M→Calls Tryz.prog 194 #[ptr g,.int .i64 n] W λ e w'=>e=.returned (.int .i64 (K:Int))∧Set W base g c u s2 M w')
  (hc:s2.clock=s1.clock) (hA:s2.A=s1.A) (hw:IntKind.i64.wrap (s2.passed+(K:Int))=s2.passed+(K:Int)) (hK:gc.takeK s1.A s1.clock (K:Int)=K):
  Calls Tryz.prog 135 #[ptr g,.int .i64 now,.int .i64 most] w (Tk w base g c u (cutS s2 K) M (s2.S.extract 0 K) K):=by
 have HT:=Lib.hid (state_any h now)
 rw[hs,hs1]at HT
 have HG:=Lib.hid hg
 have HCT:=Lib.hid (λ W (hr:Raw W base g c u {s2 with passed:=s2.passed+(K:Int)} M)=>ctake hr s1.clock (K:Int) (K:=K) (by show gc.takeK s2.A s1.clock (K:Int)=K;rw[hA];exact hK))
 have HC2:=Lib.hid (λ W (hw:Set w base g c u s2 M W)=>(⟨hw.1.cell 13,hw.1.frz 13,hw.set (i:=13) (v:=.int .i64 (s2.passed+(K:Int))) (s':={s2 with passed:=s2.passed+(K:Int)}) rfl rfl rfl rfl⟩:W.cell? ⟨g,13,none⟩=some (.int .i64 s2.passed)∧W.frozen? ⟨g,13,none⟩=false∧Set w base g c u {s2 with passed:=s2.passed+(K:Int)} M (W.setCell ⟨g,13,none⟩ (.int .i64 (s2.passed+(K:Int))))))
 have HC3:=Lib.hid (λ W (hw:Set w base g c u {s2 with passed:=s2.passed+(K:Int)} M W)=>(⟨hw.1.cell 0,hc▸hw.1.cell 15⟩:W.cell? ⟨g,0,none⟩=some (.pointer (some ⟨c,0,none⟩))∧W.cell? ⟨g,15,none⟩=some (.int .i64 s1.clock)))
 have hd:decide (n<1)=false:=by simpa using h1
 clear h hs h1 hg hs1 hc hA hK
 go_enter Tryz.func135,Tryz.ntmps135
 go_wp2_with fail
 refine HT.out.mono ?_
 rintro e w1 ⟨rfl,hx⟩
 have H1:=Lib.hid hx
 have x0:w1.cell? ⟨g,0,none⟩=some (.pointer (some ⟨c,0,none⟩)):=hx.1.cell 0
 have x15:w1.cell? ⟨g,15,none⟩=some (.int .i64 s1.clock):=hx.1.cell 15
 have HR:=Lib.hid (gc.ready_al (hx.on (Below.refl _ w1).drew).1.car s1.clock)
 clear hx HT
 go_wp2_with fail
 go_region_law
  (first
   |(go_simp;go_at_call 165;(with_reducible refine Calls.mono HR.out ?_);rintro e w4 ⟨rfl,hb⟩))
 all_goals (
  have HS:=Lib.hid ((H1.out.on (Below.refl _ w1).drew).on hb)
  have x2:w4.cell? ⟨g,2,none⟩=some (.int .i64 s1.tx.k):=HS.out.1.cell 2
  have HGV:=Lib.hid (gives_any w4.drew)
  have HX2:=Lib.hid (λ W (hb:Below w4.drew.heap.size w4.drew W)=>(⟨((HS.out.on (Below.refl _ w4).drew).on hb).1.cell 2,(HS.out.on (Below.refl _ w4).drew).on hb⟩:W.cell? ⟨g,2,none⟩=some (.int .i64 s1.tx.k)∧Set w base g c u s1 M W))
  clear hb x0 x15 H1 HR
  go_wp2_with fail
  go_region_law
   (first
    |(go_simp;go_at_call 166;(with_reducible refine Calls.mono HGV.out ?_);rintro e w5 ⟨rfl,hb⟩;(obtain⟨y2,hs5⟩:=HX2.out w5 hb);(have hr5:=hs5.1);clear hb)
    |(go_simp;go_at_call 194;(with_reducible refine Calls.mono (HG.out _ hr5) ?_);rintro e w6 ⟨rfl,hs6⟩)))
 all_goals (
  have HS6:=Lib.hid (hs5.trans hs6)
  obtain⟨z13,g13,hs7⟩:=HC2.out w6 HS6.out
  have HS7:=Lib.hid hs7
  clear hs7 HC2 hs5 hr5 hs6 y2 x2 HGV HX2
  go_wp2_with fail
  obtain⟨x0,x15⟩:=HC3.out _ HS7.out
  clear HC3 z13 g13
  generalize w6.setCell ⟨g,13,none⟩ (.int .i64 (s2.passed+(K:Int)))=w7 at*
  have HS8:=Lib.hid (HS7.out.on (Below.refl _ w7).drew)
  have HCT2:=Lib.hid (HCT.out _ HS8.out.1)
  refine wp_region_still_tail 9 (by kernel_rfl) (by kernel_rfl) ?_
  simp only[List.take_succ_cons,List.take_zero,List.drop_succ_cons,List.drop_zero]
  repeat still_step
  refine wpStill_nil ?_
  go_wp2_with fail
  refine HCT2.out.mono ?_
  rintro e w9 hk
  have HK:=Lib.hid (HS8.out.thenT hk)
  obtain⟨q,d,rfl,_⟩:=hk
  go_wp2_with fail
  try rw[Exit.noGoto_ret]
  go_ret
  exact HK.out)
end Go.Proofs.YtdighjgcnaajgaaGreat
namespace Go.Proofs.YtdighjgcnaajgaaGreat
open Go.RowKit
variable {w w' w'' w0:World} {base g c M M':Nat} {u u' u'':gc.U} {s s' s'' s1 s2:St}
set_option maxRecDepth 100000 in
set_option maxHeartbeats 8000000 in
theorem take_by_rest (h:Raw w base g c u s M) (now most:Int) (hs:(lookS s now).st=0) (hs1:lookS s now=s1) {n:Int} (hn:min most (gc.readyN s1.A s1.clock:Int)=n) (h1:1≤n) {K:Nat} {s2:St}
  (hix:∀W,(Instr.index 230 giveV (.int .i64 s1.tx.k)).run Tryz.prog W=.ok (.func (.func 195) #[] #[]) W)
  (hg:∀W,Raw W base g c u s1 M→Calls Tryz.prog 195 #[ptr g,.int .i64 n] W λ e w'=>e=.returned (.int .i64 (K:Int))∧Set W base g c u s2 M w')
  (hc:s2.clock=s1.clock) (hA:s2.A=s1.A) (hw:IntKind.i64.wrap (s2.passed+(K:Int))=s2.passed+(K:Int)) (hK:gc.takeK s1.A s1.clock (K:Int)=K):
  Calls Tryz.prog 135 #[ptr g,.int .i64 now,.int .i64 most] w (Tk w base g c u (cutS s2 K) M (s2.S.extract 0 K) K):=by
 have HT:=Lib.hid (state_any h now)
 rw[hs,hs1]at HT
 have HG:=Lib.hid hg
 have HCT:=Lib.hid (λ W (hr:Raw W base g c u {s2 with passed:=s2.passed+(K:Int)} M)=>ctake hr s1.clock (K:Int) (K:=K) (by show gc.takeK s2.A s1.clock (K:Int)=K;rw[hA];exact hK))
 have HC2:=Lib.hid (λ W (hw:Set w base g c u s2 M W)=>(⟨hw.1.cell 13,hw.1.frz 13,hw.set (i:=13) (v:=.int .i64 (s2.passed+(K:Int))) (s':={s2 with passed:=s2.passed+(K:Int)}) rfl rfl rfl rfl⟩:W.cell? ⟨g,13,none⟩=some (.int .i64 s2.passed)∧W.frozen? ⟨g,13,none⟩=false∧Set w base g c u {s2 with passed:=s2.passed+(K:Int)} M (W.setCell ⟨g,13,none⟩ (.int .i64 (s2.passed+(K:Int))))))
 have HC3:=Lib.hid (λ W (hw:Set w base g c u {s2 with passed:=s2.passed+(K:Int)} M W)=>(⟨hw.1.cell 0,hc▸hw.1.cell 15⟩:W.cell? ⟨g,0,none⟩=some (.pointer (some ⟨c,0,none⟩))∧W.cell? ⟨g,15,none⟩=some (.int .i64 s1.clock)))
 have hd:decide (n<1)=false:=by simpa using h1
 clear h hs h1 hg hs1 hc hA hK
 go_enter Tryz.func135,Tryz.ntmps135
 go_wp2_with fail
 refine HT.out.mono ?_
 rintro e w1 ⟨rfl,hx⟩
 have H1:=Lib.hid hx
 have x0:w1.cell? ⟨g,0,none⟩=some (.pointer (some ⟨c,0,none⟩)):=hx.1.cell 0
 have x15:w1.cell? ⟨g,15,none⟩=some (.int .i64 s1.clock):=hx.1.cell 15
 have HR:=Lib.hid (gc.ready_al (hx.on (Below.refl _ w1).drew).1.car s1.clock)
 clear hx HT
 go_wp2_with fail
 go_region_law
  (first
   |(go_simp;go_at_call 165;(with_reducible refine Calls.mono HR.out ?_);rintro e w4 ⟨rfl,hb⟩))
 all_goals (
  have HS:=Lib.hid ((H1.out.on (Below.refl _ w1).drew).on hb)
  have x2:w4.cell? ⟨g,2,none⟩=some (.int .i64 s1.tx.k):=HS.out.1.cell 2
  have HGV:=Lib.hid (gives_any w4.drew)
  have HX2:=Lib.hid (λ W (hb:Below w4.drew.heap.size w4.drew W)=>(⟨((HS.out.on (Below.refl _ w4).drew).on hb).1.cell 2,(HS.out.on (Below.refl _ w4).drew).on hb⟩:W.cell? ⟨g,2,none⟩=some (.int .i64 s1.tx.k)∧Set w base g c u s1 M W))
  clear hb x0 x15 H1 HR
  go_wp2_with fail
  go_region_law
   (first
    |(go_simp;go_at_call 166;(with_reducible refine Calls.mono HGV.out ?_);rintro e w5 ⟨rfl,hb⟩;(obtain⟨y2,hs5⟩:=HX2.out w5 hb);(have hr5:=hs5.1);clear hb)
    |(go_simp;go_at_call 195;(with_reducible refine Calls.mono (HG.out _ hr5) ?_);rintro e w6 ⟨rfl,hs6⟩)))
 all_goals (
  have HS6:=Lib.hid (hs5.trans hs6)
  obtain⟨z13,g13,hs7⟩:=HC2.out w6 HS6.out
  have HS7:=Lib.hid hs7
  clear hs7 HC2 hs5 hr5 hs6 y2 x2 HGV HX2
  go_wp2_with fail
  obtain⟨x0,x15⟩:=HC3.out _ HS7.out
  clear HC3 z13 g13
  generalize w6.setCell ⟨g,13,none⟩ (.int .i64 (s2.passed+(K:Int)))=w7 at*
  have HS8:=Lib.hid (HS7.out.on (Below.refl _ w7).drew)
  have HCT2:=Lib.hid (HCT.out _ HS8.out.1)
  refine wp_region_still_tail 9 (by kernel_rfl) (by kernel_rfl) ?_
  simp only[List.take_succ_cons,List.take_zero,List.drop_succ_cons,List.drop_zero]
  repeat still_step
  refine wpStill_nil ?_
  go_wp2_with fail
  refine HCT2.out.mono ?_
  rintro e w9 hk
  have HK:=Lib.hid (HS8.out.thenT hk)
  obtain⟨q,d,rfl,_⟩:=hk
  go_wp2_with fail
  try rw[Exit.noGoto_ret]
  go_ret
  exact HK.out)
end Go.Proofs.YtdighjgcnaajgaaGreat
namespace Go.Proofs.YtdighjgcnaajgaaGreat
open Go.RowKit
variable {w w' w'' w0:World} {base g c M M':Nat} {u u' u'':gc.U} {s s' s'' s1 s2:St}
def takeC (s:St) (now most:Int):St×ByteArray:=
 if(lookS s now).st≠0 then(lookS s now,⟨#[]⟩)
 else if min most (gc.readyN (lookS s now).A (lookS s now).clock:Int)<1 then(lookS s now,⟨#[]⟩)
 else
  (cutS (giveS (lookS s now) (min most (gc.readyN (lookS s now).A (lookS s now).clock:Int))).1 (giveS (lookS s now) (min most (gc.readyN (lookS s now).A (lookS s now).clock:Int))).2.toNat,
   (lookS s now).S.extract 0 (giveS (lookS s now) (min most (gc.readyN (lookS s now).A (lookS s now).clock:Int))).2.toNat)
theorem takeK_is {A:List Int} {t:Int} {K:Nat} (h:K≤gc.readyN A t):gc.takeK A t (K:Int)=K:=by
 unfold gc.takeK
 omega
theorem not_over (now:Int) (hs:(lookS s now).st=0) (hk:s.tx.k=6):s.passed<s.tx.a:=by
 have h0:s.st=0:=state_open (by exact hs)
 rw[look_yes s now h0]at hs
 have hf:foundS (heardS s now)=0:=hs
 unfold foundS at hf
 have e:(heardS s now).tx.k=6:=hk
 rw[if_neg (by rw[e];simp),if_neg (by rw[e];simp)]at hf
 by_cases hp:(heardS s now).tx.k=6∧(heardS s now).tx.a≤(heardS s now).passed
 ·rw[if_pos hp]at hf
  omega
 ·have:¬s.tx.a≤s.passed:=λ h=>hp ⟨e,h⟩
  omega
theorem give_is (ho:Ok s M) (n:Int) (h1:1≤n) (hl:s.tx.k=6→s.passed<s.tx.a):0≤(giveS s n).2∧(giveS s n).2≤n:=by
 have hab:=ho.ab
 unfold giveS
 by_cases h2:s.tx.k=2
 ·rw[if_pos h2]
  have hr:=(gb.rightB_iff _ _ _ _).1 (gb.fill_right (ho.bk h2) s.clock)
  have:=gb.take_range (L:=gb.fillL s.bk.r s.bk.u s.bk.l s.bk.t s.clock) (n:=n) hr.2.2.1.1
  exact⟨this.1,this.2.2.1 (by omega)⟩
 ·rw[if_neg h2]
  by_cases h3:s.tx.k=3
  ·rw[if_pos h3]
   have:=gd.takeZ_range s.d s.tx.a (by have:=hab.2.2.2.2 h3;omega)
   split
   ·exact⟨Int.le_refl _,by show(0:Int)≤n;omega⟩
   ·show 0≤(if gd.takeZ s.d s.tx.a+1<n then gd.takeZ s.d s.tx.a+1 else n)∧(if gd.takeZ s.d s.tx.a+1<n then gd.takeZ s.d s.tx.a+1 else n)≤n
    constructor<;>split<;>omega
  ·rw[if_neg h3]
   split
   ·exact⟨Int.le_refl _,by show(0:Int)≤n;omega⟩
   ·split
    ·rename_i h6
     have:=hl h6.1
     exact⟨by show 0≤s.tx.a -s.passed;omega,by show s.tx.a -s.passed≤n;omega⟩
    ·exact⟨by show 0≤n;omega,Int.le_refl _⟩
theorem cut_of (ho:Ok s M) {s2:St} (hS:s2.S=s.S) (ht:s2.tx=s.tx) (hcl:s2.clock=s.clock) (hp:s2.passed=s.passed) (hr:s2.room=s.room) (hb:s2.tx.k=2→gb.rightB s2.bk.r s2.bk.u s2.bk.l s2.bk.t=true) {K:Nat} (hK:K≤s.S.size):Ok (cutS s2 K) M:=by
 have hpp:=ho.passed
 have hsz:(s2.S.extract K s2.S.size).size=s.S.size -K:=by rw[ByteArray.size_extract,hS];omega
 refine⟨?_,?_,?_,?_,?_,hb,ho.top⟩
 ·show s2.tx=noTox∨s2.tx.chk=0
  rw[ht];exact ho.tx
 ·show s2.tx.s.size≤maxLen
  rw[ht];exact ho.name
 ·show 0≤s2.clock∧s2.clock≤1099511627776
  rw[hcl];exact ho.clock
 ·show 0≤s2.passed+(K:Int)∧s2.passed+(K:Int)+((s2.S.extract K s2.S.size).size:Int)≤M
  rw[hp,hsz]
  omega
 ·show 1≤s2.room∧s2.room≤4096
  rw[hr];exact ho.room
theorem give_right (ho:Ok s M) (n:Int):(giveS s n).1.tx.k=2→gb.rightB (giveS s n).1.bk.r (giveS s n).1.bk.u (giveS s n).1.bk.l (giveS s n).1.bk.t=true:=by
 intro h2
 have h2:s.tx.k=2:=by rw[←(give_keeps s n).2.2.2.2.1];exact h2
 unfold giveS
 rw[if_pos h2]
 have hf:=gb.fill_right (ho.bk h2) s.clock
 have hr:=(gb.rightB_iff _ _ _ _).1 hf
 have:=gb.take_range (L:=gb.fillL s.bk.r s.bk.u s.bk.l s.bk.t s.clock) (n:=n) hr.2.2.1.1
 exact gb.less_right hf this.1 this.2.1
theorem Ok.take (h:Ok s M) (hi:gc.Inv s.S s.A s.last) (now most:Int):Ok (takeC s now most).1 M:=by
 unfold takeC
 split
 ·exact h.look now
 ·rename_i hs
  split
  ·exact h.look now
  ·rename_i hn
   have hs:(lookS s now).st=0:=by omega
   have hg:=give_is (h.look now) (min most (gc.readyN (lookS s now).A (lookS s now).clock:Int)) (by omega) (λ hk=>not_over (s:=s) now hs hk)
   have hk:=give_keeps (lookS s now) (min most (gc.readyN (lookS s now).A (lookS s now).clock:Int))
   have hr:=gc.ready_le (lookS s now).A (lookS s now).clock
   have hl:(lookS s now).A.length=(lookS s now).S.size:=hi.len
   exact cut_of (s:=lookS s now) (h.look now) hk.1 hk.2.2.2.2.1 hk.2.2.2.1 hk.2.2.2.2.2.1 hk.2.2.2.2.2.2.2.2.2 (give_right (h.look now) _) (by omega)
theorem take_any (h:Raw w base g c u s M) (ho:Ok s M) (now most:Int) {s2:St} {T:ByteArray} (hT:takeC s now most=(s2,T)):
  Calls Tryz.prog 135 #[ptr g,.int .i64 now,.int .i64 most] w (Tk w base g c u s2 M T T.size):=by
 have hnil:∀W,Set w base g c u (lookS s now) M W→Tk w base g c u (lookS s now) M ⟨#[]⟩ 0 (.returned (.slice none 0 0)) W:=λ W hs=>
  ⟨none,0,rfl,λ h=>absurd h (by omega),rfl,Nat.le_refl _,by omega,u,hs.1,hs.2.mv c u,(λ a ha=>by cases ha),λ a ha=>by cases ha⟩
 unfold takeC at hT
 by_cases hs:(lookS s now).st=0
 ·rw[if_neg (by simpa using hs)]at hT
  obtain⟨n,hn⟩:∃n,min most (gc.readyN (lookS s now).A (lookS s now).clock:Int)=n:=⟨_,rfl⟩
  rw[hn]at hT
  by_cases h1:n<1
  ·rw[if_pos h1]at hT
   obtain⟨rfl,rfl⟩:=Prod.mk.inj hT
   refine(take_none h now most hs hn h1).mono ?_
   rintro e w' ⟨rfl,hx⟩
   exact hnil w' hx
  ·rw[if_neg h1]at hT
   have h1:1≤n:=by omega
   obtain⟨hg0,hg1⟩:=give_is (ho.look now) n h1 (λ hk=>not_over (s:=s) now hs hk)
   have hkp:=give_keeps (lookS s now) n
   obtain⟨G,hG⟩:∃G,giveS (lookS s now) n=G:=⟨_,rfl⟩
   rw[hG]at hT hg0 hg1 hkp
   obtain⟨g1,g2⟩:=G
   obtain⟨K,hK⟩:∃K:Nat,g2=(K:Int):=⟨g2.toNat,by show g2=_;have:0≤g2:=hg0;omega⟩
   subst hK
   have e:((K:Int)).toNat=K:=rfl
   dsimp only at hT hg0 hg1 hkp
   rw[e]at hT
   obtain⟨rfl,rfl⟩:=Prod.mk.inj hT
   have hsz:(lookS s now).S.size=s.S.size:=rfl
   have hlen:(lookS s now).A.length=s.S.size:=h.car.inv.len
   have hrl:=gc.ready_le (lookS s now).A (lookS s now).clock
   have hcs:=h.car.size_le
   have hKs:((lookS s now).S.extract 0 K).size=K:=by rw[ByteArray.size_extract];omega
   have hps:=ho.passed
   have hw:IntKind.i64.wrap (g1.passed+(K:Int))=g1.passed+(K:Int):=by
    have:g1.passed=s.passed:=hkp.2.2.2.2.2.1
    have:=ho.top
    exact wrap_id (by omega) (by omega)
   have hTK:=takeK_is (A:=(lookS s now).A) (t:=(lookS s now).clock) (K:=K) (by omega)
   rw[hKs,show(lookS s now).S=g1.S from hkp.1.symm]
   have hok:=ho.look now
   have hkk:=hok.ab.2.2.1
   have hcl:=hkp.2.2.2.1
   have hA:=hkp.2.1
   have hG':=hG
   unfold giveS at hG
   have hall:((lookS s now).tx.k=0∨(lookS s now).tx.k=1∨(lookS s now).tx.k=5∨(lookS s now).tx.k=7)→∀W,Raw W base g c u (lookS s now) M→Calls Tryz.prog 191 #[ptr g,.int .i64 n] W λ e w'=>e=.returned (.int .i64 (K:Int))∧Set W base g c u g1 M w':=λ hk W hr=>by
    rw[if_neg (by omega),if_neg (by omega),if_neg (by omega),if_neg (by omega)]at hG
    obtain⟨rfl,hnK⟩:=Prod.mk.inj hG
    rw[←hnK]
    refine(all_any g n W).mono ?_
    rintro e w' ⟨rfl,rfl⟩
    exact⟨rfl,Set.refl hr⟩
   have hk8:(lookS s now).tx.k=0∨(lookS s now).tx.k=1∨(lookS s now).tx.k=2∨(lookS s now).tx.k=3∨(lookS s now).tx.k=4∨(lookS s now).tx.k=5∨(lookS s now).tx.k=6∨(lookS s now).tx.k=7:=by omega
   rcases hk8 with hk|hk|hk|hk|hk|hk|hk|hk
   ·exact take_by_all h now most hs rfl hn h1 (λ W=>by rw[hk];kernel_rfl) (hall (by omega)) hcl hA hw hTK
   ·exact take_by_all h now most hs rfl hn h1 (λ W=>by rw[hk];kernel_rfl) (hall (by omega)) hcl hA hw hTK
   ·refine take_by_poured h now most hs rfl hn h1 (λ W=>by rw[hk];kernel_rfl) (λ W hr=>?_) hcl hA hw hTK
    rw[if_pos hk]at hG
    obtain⟨rfl,hnK⟩:=Prod.mk.inj hG
    exact poured_any hr n (hok.bk hk) rfl rfl hnK (by rw[←hnK])
   ·refine take_by_slice h now most hs rfl hn h1 (λ W=>by rw[hk];kernel_rfl) (λ W hr=>?_) hcl hA hw hTK
    rw[if_neg (by omega),if_pos hk]at hG
    by_cases hp:(lookS s now).clock<(lookS s now).pause
    ·rw[if_pos (Or.inr hp)]at hG
     obtain⟨rfl,hnK⟩:=Prod.mk.inj hG
     rw[←hnK]
     exact slice_wait hr n hp
    ·rw[if_neg (by omega)]at hG
     obtain⟨rfl,hnK⟩:=Prod.mk.inj hG
     exact slice_go hr hok n hp hk rfl rfl rfl (by rw[←hnK];split<;>omega)
   ·refine take_by_none h now most hs rfl hn h1 (λ W=>by rw[hk];kernel_rfl) (λ W hr=>?_) hcl hA hw hTK
    rw[if_neg (by omega),if_neg (by omega),if_pos hk]at hG
    obtain⟨rfl,hnK⟩:=Prod.mk.inj hG
    rw[←hnK]
    refine(none_any g n W).mono ?_
    rintro e w' ⟨rfl,rfl⟩
    exact⟨rfl,Set.refl hr⟩
   ·exact take_by_all h now most hs rfl hn h1 (λ W=>by rw[hk];kernel_rfl) (hall (by omega)) hcl hA hw hTK
   ·refine take_by_rest h now most hs rfl hn h1 (λ W=>by rw[hk];kernel_rfl) (λ W hr=>?_) hcl hA hw hTK
    rw[if_neg (by omega),if_neg (by omega),if_neg (by omega)]at hG
    have hgg:g1=lookS s now∧min n ((lookS s now).tx.a -(lookS s now).passed)=(K:Int):=by
     by_cases h6:(lookS s now).tx.k=6∧(lookS s now).tx.a -(lookS s now).passed<n
     ·rw[if_pos h6]at hG
      obtain⟨h7,h8⟩:=Prod.mk.inj hG
      exact⟨h7.symm,by omega⟩
     ·rw[if_neg h6]at hG
      obtain⟨h7,h8⟩:=Prod.mk.inj hG
      exact⟨h7.symm,by omega⟩
    obtain⟨rfl,hm⟩:=hgg
    refine(rest_any hr hok n hm).mono ?_
    rintro e w' ⟨rfl,hb⟩
    exact⟨rfl,(Set.refl hr).on hb⟩
   ·exact take_by_all h now most hs rfl hn h1 (λ W=>by rw[hk];kernel_rfl) (hall (by omega)) hcl hA hw hTK
 ·rw[if_pos hs]at hT
  obtain⟨rfl,rfl⟩:=Prod.mk.inj hT
  refine(take_st h now most hs).mono ?_
  rintro e w' ⟨rfl,hx⟩
  exact hnil w' hx
end Go.Proofs.YtdighjgcnaajgaaGreat
