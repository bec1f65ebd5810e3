import Derived.Test.YtfdfgnmgpgkknaaGreatMG21
import Derived.StillTailTactics
set_option maxRecDepth 100000
set_option maxHeartbeats 8000000
open Go.Proofs.Tryz renaming prog→zf
open Go.Lib renaming hid→zd
open Go.RowKit.Below renaming refl→zh
open List renaming take_succ_cons→zx
open Go.Exit renaming noGoto_ret→zl
open Go.Calls renaming mono→zr
open Nat renaming le_refl→zg
open Go renaming heap_alloc_new→zo,cell_of_row→ze,bodyPost_ret→zk
open Go.Proofs.Tryz
namespace Go.Proofs.YtfdfgnmgpgkknaaGreat
section
open Go.RowKit
variable {w w' w'' w0:World} {base g c M M':Nat} {u u' u'':gc.U} {s s' s'':St}
theorem GI (h:Raw w base g c u s M) (ho:Ok s M) {p:Option Addr} {n c':Nat} {b:ByteArray} (hk:s.tx.k=1) (hb:b.size=n) (h0:n≠0) (hi:Lib.BytesIn w p n (gc.nums b)) (hM:M+b.size≤M') (hf:M'≤1000000) {D V:Int} (hD:gd.Vo s.d (s.tx.a -s.tx.b) (s.tx.a+s.tx.b)=D) (hV:gd.Vn s.d (s.tx.a -s.tx.b) (s.tx.a+s.tx.b)=V):
  Calls zf 68 #[ptr g,.slice p n c'] w λ e w'=>e=.returned (.tuple #[])∧Did w base g c u (KN {s with d:=D} (XC s.clock V) b) M' w':=by
 have hab:=ho.ab
 have hw1:IntKind.i64.wrap (s.tx.a -s.tx.b)=s.tx.a -s.tx.b:=qs (by omega) (by omega)
 have hw2:IntKind.i64.wrap (s.tx.a+s.tx.b)=s.tx.a+s.tx.b:=qs (by omega) (by omega)
 have HR:=zd (λ W=>show Calls zf 95 #[.int .u64 s.d,.int .i64 (s.tx.a -s.tx.b),.int .i64 (s.tx.a+s.tx.b)] W λ e w'=>e=.returned (.tuple #[.int .i64 V,.int .u64 D])∧w'=W from by rw[←hD,←hV];exact(gd.PX _ _ _ W).mono λ _ _ h=>⟨h.1,h.2.symm⟩)
 have HA:=zd (λ W=>show Calls zf 97 #[.int .i64 s.clock,.int .i64 V] W λ e w'=>e=.returned (.int .i64 (XC s.clock V))∧w'=W from(gb.Yv s.clock V W).mono λ _ _ h=>⟨h.1,h.2.symm⟩)
 have h1:=((Set.refl h).set (i:=7) (v:=.int .u64 D) (s':={s with d:=D}) rfl rfl rfl rfl).on (zh _ _).drew
 have hp:=λ W (hw:Set w base g c u {s with d:=D} M W)=>Au hw.1 (XC s.clock V) (c':=c') hb (by omega) (h.bytes hw.2 hi) hM hf
 have HP:=zd hp
 have HW:=zd (λ W W' (hw:Set w base g c u {s with d:=D} M W) (hd:Did W base g c u (KN {s with d:=D} (XC s.clock V) b) M' W')=>Set.then hw hd)
 have H1:=zd h1
 have HC:=zd (λ W (hw:Set w base g c u {s with d:=D} M W)=>(⟨hw.1.cell 0,hw.1.cell 15,hw.on (zh _ _).drew⟩:W.cell? ⟨g,0,none⟩=some (.pointer (some ⟨c,0,none⟩))∧W.cell? ⟨g,15,none⟩=some (.int .i64 s.clock)∧Set w base g c u {s with d:=D} M W.drew))
 have x2:w.cell? ⟨g,2,none⟩=some (.int .i64 s.tx.k):=h.cell 2
 rw[hk]at x2
 have x5:w.cell? ⟨g,5,none⟩=some (.int .i64 s.tx.a):=h.cell 5
 have x6:w.cell? ⟨g,6,none⟩=some (.int .i64 s.tx.b):=h.cell 6
 have x7:w.cell? ⟨g,7,none⟩=some (.int .u64 s.d):=h.cell 7
 have f7:w.frozen? ⟨g,7,none⟩=false:=h.frz 7
 have hn:(n==0)=false:=by simpa using h0
 have hn2:decide (n=0)=false:=by simpa using h0
 clear h ho hi hM hf hb hk hab h1 hp hD hV
 go_enter func68,ntmps68
 go_wp2_with fail
 refine wp_region_still_tail 34 (by kernel_rfl) (by kernel_rfl) ?_
 simp only[zx,List.take_zero,List.drop_succ_cons,List.drop_zero]
 repeat still_step
 still_call (HR.out _)
 repeat still_step
 refine wpStill_nil ?_
 go_wp2_with fail
 have hs:Set w base g c u {s with d:=D} M (w.setCell ⟨g,7,none⟩ (.int .u64 D)).drew:=H1.out
 generalize(w.setCell ⟨g,7,none⟩ (.int .u64 D)).drew=w1 at*
 clear x2 x5 x6 x7 f7 H1 hw1 hw2 HR
 obtain⟨x0,x15,hs2⟩:=HC.out w1 hs
 have HS:=zd hs2
 have HP2:=zd (HP.out _ hs2)
 clear hs hs2 HP HC
 refine wp_region_still_tail 11 (by kernel_rfl) (by kernel_rfl) ?_
 simp only[zx,List.take_zero,List.drop_succ_cons,List.drop_zero]
 repeat still_step
 still_call (HA.out _)
 repeat still_step
 refine wpStill_nil ?_
 go_wp2_with fail
 refine HP2.out.mono ?_
 rintro e w3 ⟨⟨x,rfl⟩,hd⟩
 have HD:=zd (HW.out _ _ HS.out hd)
 clear hd
 go_wp2_with fail
 go_end0
 exact⟨rfl,HD.out⟩
theorem NG (h:Raw w base g c u s M) (ho:Ok s M) {p:Option Addr} {n c':Nat} {b:ByteArray} (hb:b.size=n) (hi:Lib.BytesIn w p n (gc.nums b)) (hM:M+b.size≤M') (hf:M'≤1000000):
  Calls zf 68 #[ptr g,.slice p n c'] w λ e w'=>e=.returned (.tuple #[])∧Did w base g c u (qG s b) M' w':=by
 by_cases h0:n=0
 ·subst h0
  rw[MC hb]
  refine(GH g w).mono ?_
  rintro e w' ⟨rfl,rfl⟩
  exact⟨rfl,((Set.refl h).more (by omega) hf).did⟩
 ·by_cases hk:s.tx.k=1
  ·rw[MD (by omega) hk]
   exact GI h ho hk hb h0 hi hM hf rfl rfl
  ·rw[S1 (by omega) hk]
   exact EI h ho hk hb h0 hi hM hf
end
section
open Go.RowKit
variable {w w' w'' w0:World} {base g c M M':Nat} {u u' u'':gc.U} {s s' s'':St}
theorem Ok.look (h:Ok s M) (now:Int):Ok (qc s now) M:=⟨h.tx,h.name,VB h.clock,h.passed,h.room,h.bk,h.top⟩
theorem Ok.more (h:Ok s M) (hM:M≤M') (hf:M'≤1000000):Ok s M':=⟨h.tx,h.name,h.clock,⟨h.passed.1,by have:=h.passed.2;omega⟩,h.room,h.bk,hf⟩
theorem Ok.force (h:Ok s M) {b:ByteArray} (hM:M+b.size≤M') (hf:M'≤1000000):Ok (qG s b) M':=by
 have hp:=h.passed
 have hs:(s.S++b).size=s.S.size+b.size:=by simp
 unfold qG
 split
 ·exact h.more (by omega) hf
 ·split
  ·exact⟨h.tx,h.name,h.clock,⟨hp.1,by show s.passed+((s.S++b).size:Int)≤M';omega⟩,h.room,h.bk,hf⟩
  ·exact⟨h.tx,h.name,h.clock,⟨hp.1,by show s.passed+((s.S++b).size:Int)≤M';omega⟩,h.room,h.bk,hf⟩
theorem jy (s:St) (now:Int) (b:ByteArray) (h:(qc s now).st≠0∨(qc s now).closed=true):qU s now b=(qc s now,0):=by
 unfold qU
 dsimp only
 rw[if_pos h]
theorem Nh (s:St) (now:Int) (b:ByteArray) (h1:(qc s now).st=0) (h2:(qc s now).closed=false) {K:Nat} (hK:min (b.size:Int) (Zt (qc s now))=(K:Int)):qU s now b=(qG (qc s now) (b.extract 0 K),(K:Int)):=by
 unfold qU
 dsimp only
 rw[if_neg (by rw[h1,h2];simp)]
 have e:(if Zt (qc s now)<(b.size:Int)then Zt (qc s now)else(b.size:Int))=(K:Int):=by
  rw[←hK]
  split<;>omega
 rw[e]
 rfl
theorem Bb (h:Raw w base g c u s M) (now:Int) (p:Option Addr) (n c':Nat) (hs:(qc s now).st≠0):
  Calls zf 37 #[ptr g,.int .i64 now,.slice p n c'] w λ e w'=>e=.returned (.int .i64 0)∧Set w base g c u (qc s now) M w':=by
 have HT:=zd (ZE h now)
 have e1:((qc s now).st !=0)=true:=by simpa using hs
 have e2:decide ((qc s now).st=0)=false:=by simpa using hs
 clear h hs
 go_enter func37,ntmps37
 go_wp2_with fail
 refine HT.out.mono ?_
 rintro e w1 ⟨rfl,h1⟩
 have H1:=zd h1
 clear h1 HT
 go_wp2_with fail
 try rw[zl]
 go_ret
 exact⟨rfl,H1.out⟩
theorem OQ (h:Raw w base g c u s M) (now:Int) (p:Option Addr) (n c':Nat) (hs:(qc s now).st=0) (hc:(qc s now).closed=true):
  Calls zf 37 #[ptr g,.int .i64 now,.slice p n c'] w λ e w'=>e=.returned (.int .i64 0)∧Set w base g c u (qc s now) M w':=by
 have HT:=zd (ZE h now)
 rw[hs]at HT
 clear h hs
 go_enter func37,ntmps37
 go_wp2_with fail
 refine HT.out.mono ?_
 rintro e w1 ⟨rfl,h1⟩
 have H1:=zd h1
 have x17:w1.cell? ⟨g,17,none⟩=some (.bool (qc s now).closed):=h1.1.cell 17
 rw[hc]at x17
 clear h1 HT hc
 go_wp2_with fail
 try rw[zl]
 go_ret
 exact⟨rfl,H1.out⟩
theorem OR (h:Raw w base g c u s M) (ho:Ok s M) (now:Int) {p:Option Addr} {n c':Nat} {b:ByteArray} (hb:b.size=n) (hi:Lib.BytesIn w p n (gc.nums b)) (hnc:n≤c') (hM:M+b.size≤M') (hf:M'≤1000000)
  (hs:(qc s now).st=0) (hc:(qc s now).closed=false) {K:Nat} (hK:min (b.size:Int) (Zt (qc s now))=(K:Int)):
  Calls zf 37 #[ptr g,.int .i64 now,.slice p n c'] w λ e w'=>e=.returned (.int .i64 (K:Int))∧Did w base g c u (qG (qc s now) (b.extract 0 K)) M' w':=by
 have HT:=zd (ZE h now)
 rw[hs]at HT
 have hKn:K≤n:=by omega
 have hsl:=gc.Ot p n c' K (by omega)
 rw[hb]at hK
 have hbe:(b.extract 0 K).size=K:=by rw[ByteArray.size_extract];omega
 have HF:=zd (λ W (hr:Raw W base g c u (qc s now) M)=>MA hr (ho.look now) (F:=Zt (qc s now)) rfl)
 have HL:=zd (λ W W' (hw:Set w base g c u (qc s now) M W) (hb':Below W.heap.size W W')=>NG (hw.on hb').1 (ho.look now) (c':=c') (b:=b.extract 0 K) (n:=K) (p:=p) (M':=M') hbe (by
  rw[gc.jL]
  exact gc.jx (h.bytes (hw.on hb').2 hi) K hKn) (by omega) hf)
 clear h hs hi ho
 go_enter func37,ntmps37
 go_wp2_with fail
 refine HT.out.mono ?_
 rintro e w1 ⟨rfl,h1⟩
 have H1:=zd h1
 have x17:w1.cell? ⟨g,17,none⟩=some (.bool (qc s now).closed):=h1.1.cell 17
 rw[hc]at x17
 clear h1 HT hc
 go_wp2_with fail
 refine(HF.out _ H1.out.1).mono ?_
 rintro e w2 ⟨rfl,hb2⟩
 have HB2:=zd hb2
 clear hb2 x17 HF
 generalize Zt (qc s now)=F at*
 go_wp2_with fail
 refine(HL.out _ _ H1.out HB2.out).mono ?_
 rintro e w3 ⟨rfl,hd⟩
 have HD:=zd (Set.then (H1.out.on HB2.out) hd)
 clear hd HL hsl
 go_wp2_with fail
 try rw[zl]
 go_ret
 exact⟨rfl,HD.out⟩
theorem Em (h:Raw w base g c u s M) (ho:Ok s M) (now:Int) {p:Option Addr} {n c':Nat} {b:ByteArray} (hb:b.size=n) (hi:Lib.BytesIn w p n (gc.nums b)) (hnc:n≤c') (hM:M+b.size≤M') (hf:M'≤1000000):
  Calls zf 37 #[ptr g,.int .i64 now,.slice p n c'] w λ e w'=>e=.returned (.int .i64 (qU s now b).2)∧Did w base g c u (qU s now b).1 M' w':=by
 by_cases h1:(qc s now).st=0
 ·cases h2:(qc s now).closed with
  |true=>
   rw[jy s now b (Or.inr h2)]
   refine(OQ h now p n c' h1 h2).mono ?_
   rintro e w' ⟨rfl,hs⟩
   exact⟨rfl,(hs.more (by omega) hf).did⟩
  |false=>
   have hfp:=jm (qc s now)
   obtain⟨K,hK⟩:∃K:Nat,min (b.size:Int) (Zt (qc s now))=(K:Int):=⟨(min (b.size:Int) (Zt (qc s now))).toNat,by omega⟩
   rw[Nh s now b h1 h2 hK]
   exact OR h ho now hb hi hnc hM hf h1 h2 hK
 ·rw[jy s now b (Or.inl h1)]
  refine(Bb h now p n c' h1).mono ?_
  rintro e w' ⟨rfl,hs⟩
  exact⟨rfl,(hs.more (by omega) hf).did⟩
theorem Ok.NX (h:Ok s M) (now:Int) {b:ByteArray} (hM:M+b.size≤M') (hf:M'≤1000000):Ok (qU s now b).1 M':=by
 have hsz:∀K,(b.extract 0 K).size≤b.size:=λ K=>by rw[ByteArray.size_extract];omega
 unfold qU
 dsimp only
 split
 ·exact(h.look now).more (by omega) hf
 ·exact(h.look now).force (by have:=hsz ((if Zt (qc s now)<(b.size:Int)then Zt (qc s now)else(b.size:Int))).toNat;omega) hf
theorem Fa (h:Raw w base g c u s M) (now:Int) (p:Option Addr) (n c':Nat) (hs:(qc s now).st≠0):
  Calls zf 62 #[ptr g,.int .i64 now,.slice p n c'] w λ e w'=>e=.returned (.tuple #[])∧Set w base g c u (qc s now) M w':=by
 have HT:=zd (ZE h now)
 have e1:((qc s now).st==0)=false:=by simpa using hs
 have e2:decide ((qc s now).st=0)=false:=by simpa using hs
 clear h hs
 go_enter func62,ntmps62
 go_wp2_with fail
 refine HT.out.mono ?_
 rintro e w1 ⟨rfl,h1⟩
 have H1:=zd h1
 clear h1 HT
 go_wp2_with fail
 go_end0
 exact⟨rfl,H1.out⟩
theorem S3 (h:Raw w base g c u s M) (ho:Ok s M) (now:Int) {p:Option Addr} {n c':Nat} {b:ByteArray} (hb:b.size=n) (hi:Lib.BytesIn w p n (gc.nums b)) (hM:M+b.size≤M') (hf:M'≤1000000)
  (hs:(qc s now).st=0):
  Calls zf 62 #[ptr g,.int .i64 now,.slice p n c'] w λ e w'=>e=.returned (.tuple #[])∧Did w base g c u (qG (qc s now) b) M' w':=by
 have HT:=zd (ZE h now)
 rw[hs]at HT
 have HL:=zd (λ W (hw:Set w base g c u (qc s now) M W)=>NG hw.1 (ho.look now) (c':=c') (b:=b) (n:=n) (p:=p) (M':=M') hb (h.bytes hw.2 hi) (by omega) hf)
 clear h hs hi ho
 go_enter func62,ntmps62
 go_wp2_with fail
 refine HT.out.mono ?_
 rintro e w1 ⟨rfl,h1⟩
 have H1:=zd h1
 clear h1 HT
 go_wp2_with fail
 refine(HL.out _ H1.out).mono ?_
 rintro e w3 ⟨rfl,hd⟩
 have HD:=zd (Set.then H1.out hd)
 clear hd HL
 go_wp2_with fail
 go_end0
 exact⟨rfl,HD.out⟩
theorem Lq (h:Raw w base g c u s M) (ho:Ok s M) (now:Int) {p:Option Addr} {n c':Nat} {b:ByteArray} (hb:b.size=n) (hi:Lib.BytesIn w p n (gc.nums b)) (hM:M+b.size≤M') (hf:M'≤1000000):
  Calls zf 62 #[ptr g,.int .i64 now,.slice p n c'] w λ e w'=>e=.returned (.tuple #[])∧Did w base g c u (Zy s now b) M' w':=by
 unfold Zy
 dsimp only
 by_cases h1:(qc s now).st=0
 ·rw[if_neg (by simpa using h1)]
  exact S3 h ho now hb hi hM hf h1
 ·rw[if_pos h1]
  refine(Fa h now p n c' h1).mono ?_
  rintro e w' ⟨rfl,hs⟩
  exact⟨rfl,(hs.more (by omega) hf).did⟩
theorem Ok.push (h:Ok s M) (now:Int) {b:ByteArray} (hM:M+b.size≤M') (hf:M'≤1000000):Ok (Zy s now b) M':=by
 unfold Zy
 dsimp only
 split
 ·exact(h.look now).more (by omega) hf
 ·exact(h.look now).force hM hf
theorem Ly (h:Raw w base g c u s M) (now:Int):Calls zf 69 #[ptr g,.int .i64 now] w λ e w'=>e=.returned (.tuple #[])∧Set w base g c u (qS s now) M w':=by
 have HH:=zd (YR h now)
 clear h
 obtain⟨s1,hs1⟩:∃s1,qS s now=s1:=⟨_,rfl⟩
 rw[hs1]
 cases hc:s.closed with
 |true=>
  have he:s1=qL s now:=by rw[←hs1];unfold qS;rw[if_pos hc];rfl
  clear hs1
  subst he
  go_enter func69,ntmps69
  go_wp2_with fail
  refine HH.out.mono ?_
  rintro e w1 ⟨rfl,h1⟩
  have H1:=zd h1
  have x17:w1.cell? ⟨g,17,none⟩=some (.bool s.closed):=h1.1.cell 17
  rw[hc]at x17
  clear h1 HH hc
  go_wp2_with fail
  go_end0
  exact⟨rfl,H1.out⟩
 |false=>
  have he:s1={qL s now with closed:=true,at':=(qL s now).clock}:=by rw[←hs1];unfold qS;rw[if_neg (by rw[hc];simp)];rfl
  clear hs1
  subst he
  go_enter func69,ntmps69
  go_wp2_with fail
  refine HH.out.mono ?_
  rintro e w1 ⟨rfl,h1⟩
  have H1:=zd ((h1.set (i:=17) (v:=.bool true) (s':={qL s now with closed:=true}) rfl rfl rfl rfl).set (i:=18) (v:=.int .i64 (qL s now).clock) (s':={qL s now with closed:=true,at':=(qL s now).clock}) rfl rfl rfl rfl)
  have x17:w1.cell? ⟨g,17,none⟩=some (.bool s.closed):=h1.1.cell 17
  rw[hc]at x17
  have x15:w1.cell? ⟨g,15,none⟩=some (.int .i64 (qL s now).clock):=h1.1.cell 15
  have x18:w1.cell? ⟨g,18,none⟩=some (.int .i64 s.at'):=h1.1.cell 18
  have f17:w1.frozen? ⟨g,17,none⟩=false:=h1.1.frz 17
  have f18:w1.frozen? ⟨g,18,none⟩=false:=h1.1.frz 18
  clear h1 HH hc
  go_wp2_with fail
  go_end0
  exact⟨rfl,H1.out⟩
theorem Ok.close (h:Ok s M) (now:Int):Ok (qS s now) M:=by
 unfold qS
 split
 ·exact⟨h.tx,h.name,VB h.clock,h.passed,h.room,h.bk,h.top⟩
 ·exact⟨h.tx,h.name,VB h.clock,h.passed,h.room,h.bk,h.top⟩
theorem G7 (h:Raw w base g c u s M):Calls zf 47 #[ptr g] w λ e w'=>e=.returned (.int .i64 (s.S.size:Int))∧w=w':=by
 have HL:=zd (DB h)
 have x0:w.cell? ⟨g,0,none⟩=some (.pointer (some ⟨c,0,none⟩)):=h.cell 0
 clear h
 go_enter func47,ntmps47
 go_wp2_with fail
 refine HL.out.mono ?_
 rintro e w1 ⟨rfl,rfl⟩
 go_wp2_with fail
 try rw[zl]
 go_ret
 exact⟨rfl,rfl⟩
end
section
open Go.RowKit
variable {w w' w'' w0:World} {base g c M M':Nat} {u u' u'':gc.U} {s s' s'':St}
theorem Di (g:Nat) (n:Int) (w:World):Calls zf 102 #[ptr g,.int .i64 n] w λ e w'=>e=.returned (.int .i64 n)∧w=w':=by
 go_enter func102,ntmps102
 go_wp2_with fail
 try rw[zl]
 go_ret
 exact⟨rfl,rfl⟩
theorem O7 (g:Nat) (n:Int) (w:World):Calls zf 105 #[ptr g,.int .i64 n] w λ e w'=>e=.returned (.int .i64 0)∧w=w':=by
 go_enter func105,ntmps105
 go_wp2_with fail
 try rw[zl]
 go_ret
 exact⟨rfl,rfl⟩
theorem OD (h:Raw w base g c u s M) (ho:Ok s M) (n:Int) {K:Int} (hK:min n (s.tx.a -s.passed)=K):Calls zf 106 #[ptr g,.int .i64 n] w λ e w'=>e=.returned (.int .i64 K)∧Below w.heap.size w w':=by
 have x5:w.cell? ⟨g,5,none⟩=some (.int .i64 s.tx.a):=h.cell 5
 have x13:w.cell? ⟨g,13,none⟩=some (.int .i64 s.passed):=h.cell 13
 have hab:=ho.ab
 have hp:=ho.passed
 have ht:=ho.top
 have hw:IntKind.i64.wrap (s.tx.a -s.passed)=s.tx.a -s.passed:=qs (by omega) (by omega)
 have HB:=zd ((zh w.heap.size w).drew)
 clear hab hp ht h ho
 go_enter func106,ntmps106
 go_wp2_with fail
 refine wp_region_still_tail 12 (by kernel_rfl) (by kernel_rfl) ?_
 simp only[zx,List.take_zero,List.drop_succ_cons,List.drop_zero]
 repeat still_step
 refine wpStill_nil ?_
 go_wp2_with fail
 try rw[zl]
 go_ret
 exact⟨rfl,HB.out⟩
theorem M6 (h:Raw w base g c u s M) (n:Int) (hp:s.clock<s.pause):Calls zf 104 #[ptr g,.int .i64 n] w λ e w'=>e=.returned (.int .i64 0)∧Set w base g c u s M w':=by
 have x15:w.cell? ⟨g,15,none⟩=some (.int .i64 s.clock):=h.cell 15
 have x19:w.cell? ⟨g,19,none⟩=some (.int .i64 s.pause):=h.cell 19
 have HS:=zd ((Set.refl h).on (zh w.heap.size w).drew)
 have hd:decide (s.clock<s.pause)=true:=by simpa using hp
 clear h
 generalize s.clock=ck at*
 generalize s.pause=ps at*
 go_enter func104,ntmps104
 go_wp2_with fail
 refine wp_region_still_tail 8 (by kernel_rfl) (by kernel_rfl) ?_
 simp only[zx,List.take_zero,List.drop_succ_cons,List.drop_zero]
 repeat still_step
 refine wpStill_nil ?_
 go_wp2_with fail
 try rw[zl]
 go_ret
 exact⟨rfl,HS.out⟩
theorem Ob (h:Raw w base g c u s M) (ho:Ok s M) (n:Int) (hp:¬s.clock<s.pause) (hk:s.tx.k=3) {D P R K:Int} (hD:gd.XT s.d=D) (hP:XC s.clock s.tx.b=P) (hR:gd.X6 s.d s.tx.a=R) (hK:min n (R+1)=K):
  Calls zf 104 #[ptr g,.int .i64 n] w λ e w'=>e=.returned (.int .i64 K)∧Set w base g c u {s with d:=D,pause:=P} M w':=by
 have hab:=ho.ab.2.2.2.2 hk
 have hr:=gd.Xo s.d s.tx.a (by omega)
 rw[hR]at hr
 have hw:IntKind.i64.wrap (R+1)=R+1:=qs (by omega) (by omega)
 have HBL:=zd (λ W=>show Calls zf 118 #[.int .u64 s.d,.int .i64 s.tx.a] W λ e w'=>e=.returned (.tuple #[.int .i64 R,.int .u64 D])∧w'=W from by
  rw[←hD,←hR]
  exact(gd.Ku s.d s.tx.a (by omega) (by omega) W).mono λ _ _ h=>⟨h.1,h.2.symm⟩)
 have HA:=zd (λ W=>show Calls zf 97 #[.int .i64 s.clock,.int .i64 s.tx.b] W λ e w'=>e=.returned (.int .i64 P)∧w'=W from by
  rw[←hP]
  exact(gb.Yv s.clock s.tx.b W).mono λ _ _ h=>⟨h.1,h.2.symm⟩)
 have x15:w.cell? ⟨g,15,none⟩=some (.int .i64 s.clock):=h.cell 15
 have x19:w.cell? ⟨g,19,none⟩=some (.int .i64 s.pause):=h.cell 19
 have HS:=zd ((Set.refl h).on (zh w.heap.size w).drew)
 have HC:=zd (λ W (hw:Set w base g c u s M W)=>(⟨hw.1.cell 7,hw.1.cell 5,hw.1.frz 7,(hw.set (i:=7) (v:=.int .u64 D) (s':={s with d:=D}) rfl rfl rfl rfl).on (zh _ _).drew⟩:W.cell? ⟨g,7,none⟩=some (.int .u64 s.d)∧W.cell? ⟨g,5,none⟩=some (.int .i64 s.tx.a)∧W.frozen? ⟨g,7,none⟩=false∧Set w base g c u {s with d:=D} M (W.setCell ⟨g,7,none⟩ (.int .u64 D)).drew))
 have HC2:=zd (λ W (hw:Set w base g c u {s with d:=D} M W)=>(⟨hw.1.cell 15,hw.1.cell 6,hw.1.cell 19,hw.1.frz 19,(hw.set (i:=19) (v:=.int .i64 P) (s':={s with d:=D,pause:=P}) rfl rfl rfl rfl).on (zh _ _).drew⟩:W.cell? ⟨g,15,none⟩=some (.int .i64 s.clock)∧W.cell? ⟨g,6,none⟩=some (.int .i64 s.tx.b)∧W.cell? ⟨g,19,none⟩=some (.int .i64 s.pause)∧W.frozen? ⟨g,19,none⟩=false∧Set w base g c u {s with d:=D,pause:=P} M (W.setCell ⟨g,19,none⟩ (.int .i64 P)).drew))
 have hd:decide (s.clock<s.pause)=false:=by simpa using hp
 clear h ho hab hr hD hP hR hp
 go_enter func104,ntmps104
 go_wp2_with fail
 refine wp_region_still_tail 8 (by kernel_rfl) (by kernel_rfl) ?_
 simp only[zx,List.take_zero,List.drop_succ_cons,List.drop_zero]
 repeat still_step
 refine wpStill_nil ?_
 go_wp2_with fail
 obtain⟨y7,y5,g7,hs2⟩:=HC.out _ HS.out
 have HS2:=zd hs2
 clear hs2 HC x15 x19 HS
 generalize w.drew=w1 at*
 refine wp_region_still_tail 17 (by kernel_rfl) (by kernel_rfl) ?_
 simp only[zx,List.take_zero,List.drop_succ_cons,List.drop_zero]
 repeat still_step
 still_call (HBL.out _)
 repeat still_step
 refine wpStill_nil ?_
 go_wp2_with fail
 obtain⟨z15,z6,z19,g19,hs3⟩:=HC2.out _ HS2.out
 have HS3:=zd hs3
 clear hs3 HC2 y7 y5 g7 HS2
 generalize(w1.setCell ⟨g,7,none⟩ (.int .u64 D)).drew=w2 at*
 refine wp_region_still_tail 13 (by kernel_rfl) (by kernel_rfl) ?_
 simp only[zx,List.take_zero,List.drop_succ_cons,List.drop_zero]
 repeat still_step
 still_call (HA.out _)
 repeat still_step
 refine wpStill_nil ?_
 go_wp2_with fail
 generalize(w2.setCell ⟨g,19,none⟩ (.int .i64 P)).drew=w3 at*
 try rw[zl]
 go_ret
 exact⟨rfl,HS3.out⟩
theorem Vu (h:Raw w base g c u s M):w.cell? ⟨g,8,none⟩=some (.int .i64 s.bk.r)∧w.cell? ⟨g,9,none⟩=some (.int .i64 s.bk.u)∧w.cell? ⟨g,10,none⟩=some (.int .i64 s.bk.l)∧w.cell? ⟨g,11,none⟩=some (.int .i64 s.bk.t):=⟨h.cell 8,h.cell 9,h.cell 10,h.cell 11⟩
theorem Ni (h:Raw w base g c u s M):w.frozen? ⟨g,8,none⟩=false∧w.frozen? ⟨g,9,none⟩=false∧w.frozen? ⟨g,10,none⟩=false∧w.frozen? ⟨g,11,none⟩=false:=⟨h.frz 8,h.frz 9,h.frz 10,h.frz 11⟩
def QW (w:World) (g:Nat) (k:Bkt):World:=(((w.setCell ⟨g,8,none⟩ (.int .i64 k.r)).setCell ⟨g,9,none⟩ (.int .i64 k.u)).setCell ⟨g,10,none⟩ (.int .i64 k.l)).setCell ⟨g,11,none⟩ (.int .i64 k.t)
theorem Set.bk (h:Set w base g c u s M w') (k:Bkt):Set w base g c u {s with bk:=k} M (QW w' g k):=
 (((h.set (i:=8) (s':={s with bk:=⟨k.r,s.bk.u,s.bk.l,s.bk.t⟩}) rfl rfl rfl rfl).set (i:=9) (s':={s with bk:=⟨k.r,k.u,s.bk.l,s.bk.t⟩}) rfl rfl rfl rfl).set (i:=10) (s':={s with bk:=⟨k.r,k.u,k.l,s.bk.t⟩}) rfl rfl rfl rfl).set (i:=11) (s':={s with bk:=k}) rfl rfl rfl rfl
theorem Sv (h:Raw w base g c u s M) (n:Int) (hr:gb.qI s.bk.r s.bk.u s.bk.l s.bk.t=true) {L T K D:Int} (hL:gb.ZJ s.bk.r s.bk.u s.bk.l s.bk.t s.clock=L) (hT:gb.ZV s.bk.r s.bk.u s.bk.l s.bk.t s.clock=T) (hK:gb.JP L n=K) (hD:L -K=D):
  Calls zf 103 #[ptr g,.int .i64 n] w λ e w'=>e=.returned (.int .i64 K)∧Set w base g c u {s with bk:=⟨s.bk.r,s.bk.u,D,T⟩} M w':=by
 have HT:=zd (λ W=>gb.FU hr s.clock n hL hT hK hD W)
 obtain⟨x8,x9,x10,x11⟩:=Vu h
 have x15:w.cell? ⟨g,15,none⟩=some (.int .i64 s.clock):=h.cell 15
 have HC:=zd (λ W (hb:Below w.drew.heap.size w.drew W)=>(⟨Vu (h.drew.on hb),Ni (h.drew.on hb),Set.bk (((Set.refl h).on (zh w.heap.size w).drew).on hb) ⟨s.bk.r,s.bk.u,D,T⟩⟩:(W.cell? ⟨g,8,none⟩=some (.int .i64 s.bk.r)∧W.cell? ⟨g,9,none⟩=some (.int .i64 s.bk.u)∧W.cell? ⟨g,10,none⟩=some (.int .i64 s.bk.l)∧W.cell? ⟨g,11,none⟩=some (.int .i64 s.bk.t))∧(W.frozen? ⟨g,8,none⟩=false∧W.frozen? ⟨g,9,none⟩=false∧W.frozen? ⟨g,10,none⟩=false∧W.frozen? ⟨g,11,none⟩=false)∧Set w base g c u {s with bk:=⟨s.bk.r,s.bk.u,D,T⟩} M (QW W g ⟨s.bk.r,s.bk.u,D,T⟩)))
 clear h hr hL hT hK hD
 go_enter func103,ntmps103
 go_wp2_with fail
 go_region_law
  (first
   |(go_simp;go_at_call 126;(with_reducible refine zr (HT.out _) ?_);rintro e w4 ⟨rfl,hb⟩;(obtain⟨⟨y8,y9,y10,y11⟩,⟨f8,f9,f10,f11⟩,hs⟩:=HC.out w4 hb);clear hb))
 all_goals (
  have HS:=zd hs
  clear hs
  go_wp2_with fail
  generalize hW:QW w4 g ⟨s.bk.r,s.bk.u,D,T⟩=W9 at*
  unfold QW at hW
  dsimp only at hW
  try rw[hW]
  try rw[zl]
  go_ret
  exact⟨rfl,HS.out⟩)
end
section
open Go.RowKit
variable {w w' w'' w0:World} {base g c M M':Nat} {u u' u'':gc.U} {s s' s'':St}
def fV (f:FuncId):Value:=.func (.func f) #[] #[]
def Qs:Value:=.agg #[fV 102,fV 102,fV 103,fV 104,fV 105,fV 102,fV 106,fV 102]
def Of (w:World) (g:Nat):World:=((((((((((((((((w).setCell ⟨g,0,none⟩ (Value.func (.func 102) #[] #[]))).setCell ⟨g,1,none⟩ (Value.func (.func 102) #[] #[]))).setCell ⟨g,2,none⟩ (Value.func (.func 103) #[] #[]))).setCell ⟨g,3,none⟩ (Value.func (.func 104) #[] #[]))).setCell ⟨g,4,none⟩ (Value.func (.func 105) #[] #[]))).setCell ⟨g,5,none⟩ (Value.func (.func 102) #[] #[]))).setCell ⟨g,6,none⟩ (Value.func (.func 106) #[] #[]))).setCell ⟨g,7,none⟩ (Value.func (.func 102) #[] #[]))
theorem Po {w:World} {g:Nat} {a b c d e f h i:Value} {T:TypeId} (hg:w.heap[g]?=some (.cells #[a,b,c,d,e,f,h,i] T (0,0))):(Of w g).heap[g]?=some (.cells #[(Value.func (.func 102) #[] #[]),(Value.func (.func 102) #[] #[]),(Value.func (.func 103) #[] #[]),(Value.func (.func 104) #[] #[]),(Value.func (.func 105) #[] #[]),(Value.func (.func 102) #[] #[]),(Value.func (.func 106) #[] #[]),(Value.func (.func 102) #[] #[])] T (0,0)):=by
 unfold Of
 have h0:_=some (Obj.cells #[(Value.func (.func 102) #[] #[]),b,c,d,e,f,h,i] T (0,0)):=gb.qo (i:=0) hg (Value.func (.func 102) #[] #[])
 have h1:_=some (Obj.cells #[(Value.func (.func 102) #[] #[]),(Value.func (.func 102) #[] #[]),c,d,e,f,h,i] T (0,0)):=gb.qo (i:=1) h0 (Value.func (.func 102) #[] #[])
 have h2:_=some (Obj.cells #[(Value.func (.func 102) #[] #[]),(Value.func (.func 102) #[] #[]),(Value.func (.func 103) #[] #[]),d,e,f,h,i] T (0,0)):=gb.qo (i:=2) h1 (Value.func (.func 103) #[] #[])
 have h3:_=some (Obj.cells #[(Value.func (.func 102) #[] #[]),(Value.func (.func 102) #[] #[]),(Value.func (.func 103) #[] #[]),(Value.func (.func 104) #[] #[]),e,f,h,i] T (0,0)):=gb.qo (i:=3) h2 (Value.func (.func 104) #[] #[])
 have h4:_=some (Obj.cells #[(Value.func (.func 102) #[] #[]),(Value.func (.func 102) #[] #[]),(Value.func (.func 103) #[] #[]),(Value.func (.func 104) #[] #[]),(Value.func (.func 105) #[] #[]),f,h,i] T (0,0)):=gb.qo (i:=4) h3 (Value.func (.func 105) #[] #[])
 have h5:_=some (Obj.cells #[(Value.func (.func 102) #[] #[]),(Value.func (.func 102) #[] #[]),(Value.func (.func 103) #[] #[]),(Value.func (.func 104) #[] #[]),(Value.func (.func 105) #[] #[]),(Value.func (.func 102) #[] #[]),h,i] T (0,0)):=gb.qo (i:=5) h4 (Value.func (.func 102) #[] #[])
 have h6:_=some (Obj.cells #[(Value.func (.func 102) #[] #[]),(Value.func (.func 102) #[] #[]),(Value.func (.func 103) #[] #[]),(Value.func (.func 104) #[] #[]),(Value.func (.func 105) #[] #[]),(Value.func (.func 102) #[] #[]),(Value.func (.func 106) #[] #[]),i] T (0,0)):=gb.qo (i:=6) h5 (Value.func (.func 106) #[] #[])
 have h7:_=some (Obj.cells #[(Value.func (.func 102) #[] #[]),(Value.func (.func 102) #[] #[]),(Value.func (.func 103) #[] #[]),(Value.func (.func 104) #[] #[]),(Value.func (.func 105) #[] #[]),(Value.func (.func 102) #[] #[]),(Value.func (.func 106) #[] #[]),(Value.func (.func 102) #[] #[])] T (0,0)):=gb.qo (i:=7) h6 (Value.func (.func 102) #[] #[])
 exact h7
theorem Sb {B:Nat} {w0 w:World} {g:Nat} (h:Below B w0 w) (hg:B≤g):Below B w0 (Of w g):=((((((((h.setCell (p:=⟨g,0,none⟩) hg _).setCell (p:=⟨g,1,none⟩) hg _).setCell (p:=⟨g,2,none⟩) hg _).setCell (p:=⟨g,3,none⟩) hg _).setCell (p:=⟨g,4,none⟩) hg _).setCell (p:=⟨g,5,none⟩) hg _).setCell (p:=⟨g,6,none⟩) hg _).setCell (p:=⟨g,7,none⟩) hg _)
theorem YS (w:World):Calls zf 76 #[] w λ e w'=>e=.returned Qs∧Below w.heap.size w w':=by
 have hb0:Below w.heap.size w (w.alloc (.cells #[Value.nilFunc,Value.nilFunc,Value.nilFunc,Value.nilFunc,Value.nilFunc,Value.nilFunc,Value.nilFunc,Value.nilFunc] 124)):=(zh _ _).alloc (zg _) _
 have hg0:=zo w (.cells #[Value.nilFunc,Value.nilFunc,Value.nilFunc,Value.nilFunc,Value.nilFunc,Value.nilFunc,Value.nilFunc,Value.nilFunc] 124)
 obtain⟨W0,hW0⟩:∃W0,w.alloc (.cells #[Value.nilFunc,Value.nilFunc,Value.nilFunc,Value.nilFunc,Value.nilFunc,Value.nilFunc,Value.nilFunc,Value.nilFunc] 124)=W0:=⟨_,rfl⟩
 rw[hW0]at hb0 hg0
 have x0:W0.cell? ⟨w.heap.size,0,none⟩=some Value.nilFunc:=ze _ _ 0 _ _ _ hg0
 have f0:W0.frozen? ⟨w.heap.size,0,none⟩=false:=gb.qa hg0
 have x1:W0.cell? ⟨w.heap.size,1,none⟩=some Value.nilFunc:=ze _ _ 1 _ _ _ hg0
 have f1:W0.frozen? ⟨w.heap.size,1,none⟩=false:=gb.qa hg0
 have x2:W0.cell? ⟨w.heap.size,2,none⟩=some Value.nilFunc:=ze _ _ 2 _ _ _ hg0
 have f2:W0.frozen? ⟨w.heap.size,2,none⟩=false:=gb.qa hg0
 have x3:W0.cell? ⟨w.heap.size,3,none⟩=some Value.nilFunc:=ze _ _ 3 _ _ _ hg0
 have f3:W0.frozen? ⟨w.heap.size,3,none⟩=false:=gb.qa hg0
 have x4:W0.cell? ⟨w.heap.size,4,none⟩=some Value.nilFunc:=ze _ _ 4 _ _ _ hg0
 have f4:W0.frozen? ⟨w.heap.size,4,none⟩=false:=gb.qa hg0
 have x5:W0.cell? ⟨w.heap.size,5,none⟩=some Value.nilFunc:=ze _ _ 5 _ _ _ hg0
 have f5:W0.frozen? ⟨w.heap.size,5,none⟩=false:=gb.qa hg0
 have x6:W0.cell? ⟨w.heap.size,6,none⟩=some Value.nilFunc:=ze _ _ 6 _ _ _ hg0
 have f6:W0.frozen? ⟨w.heap.size,6,none⟩=false:=gb.qa hg0
 have x7:W0.cell? ⟨w.heap.size,7,none⟩=some Value.nilFunc:=ze _ _ 7 _ _ _ hg0
 have f7:W0.frozen? ⟨w.heap.size,7,none⟩=false:=gb.qa hg0
 have hz:=Po hg0
 have HD:=zd (Sb hb0 (zg _))
 have hlt:=gb.qd hg0
 have ks:∀(a:Addr) (m:Mode) (f:Fn) (W:World),Sem.run zf (store a (.func f #[] #[]) m) W=stored zf W a (.func f #[] #[]) m:=λ a m f W=>run_store zf W a _ m rfl
 clear hb0 hg0
 go_enter func76,ntmps76
 go_wp2_with fail
 generalize hW:Of W0 w.heap.size=W9 at*
 unfold Of at hW
 rw[hW]
 clear hW
 have z0:W9.cell? ⟨w.heap.size,0,none⟩=some (Value.func (.func 102) #[] #[]):=ze _ _ 0 _ _ _ hz
 have z1:W9.cell? ⟨w.heap.size,1,none⟩=some (Value.func (.func 102) #[] #[]):=ze _ _ 1 _ _ _ hz
 have z2:W9.cell? ⟨w.heap.size,2,none⟩=some (Value.func (.func 103) #[] #[]):=ze _ _ 2 _ _ _ hz
 have z3:W9.cell? ⟨w.heap.size,3,none⟩=some (Value.func (.func 104) #[] #[]):=ze _ _ 3 _ _ _ hz
 have z4:W9.cell? ⟨w.heap.size,4,none⟩=some (Value.func (.func 105) #[] #[]):=ze _ _ 4 _ _ _ hz
 have z5:W9.cell? ⟨w.heap.size,5,none⟩=some (Value.func (.func 102) #[] #[]):=ze _ _ 5 _ _ _ hz
 have z6:W9.cell? ⟨w.heap.size,6,none⟩=some (Value.func (.func 106) #[] #[]):=ze _ _ 6 _ _ _ hz
 have z7:W9.cell? ⟨w.heap.size,7,none⟩=some (Value.func (.func 102) #[] #[]):=ze _ _ 7 _ _ _ hz
 exact zk (v:=Qs) (by simp[results,results76,go_sem,z0,z1,z2,z3,z4,z5,z6,z7,Qs,fV]) rfl ⟨rfl,HD.out⟩
end
section
open Go.RowKit
variable {w w' w'' w0:World} {base g c M M':Nat} {u u' u'':gc.U} {s s' s'' s1 s2:St}
def BP (w:World) (base g c:Nat) (u:gc.U) (s:St) (M:Nat) (q:Option Addr) (w':World):Prop:=∃u',Raw w' base g c u' s M∧Mv w w' g c u u'∧gc.Own q c u'
def Tk (w:World) (base g c:Nat) (u:gc.U) (s:St) (M:Nat) (T:ByteArray) (K:Nat) (e:Ending) (w':World):Prop:=∃q d,e=.returned (.slice q K d)∧Lib.BytesIn w' q K (gc.nums T)∧T.size=K∧K≤d∧d≤9223372036854775807∧BP w base g c u s M q w'
theorem Set.BW (h:Set w base g c u s M w') {q:Option Addr} (k:BP w' base g c u s' M' q w''):BP w base g c u s' M' q w'':=by
 obtain⟨u',h1,h2,h3⟩:=k
 exact⟨u',h1,(h.2.mv c u).trans h2,h3⟩
theorem Set.Tw (h:Set w base g c u s M w') {T:ByteArray} {K:Nat} {e:Ending} (k:Tk w' base g c u s' M' T K e w''):Tk w base g c u s' M' T K e w'':=by
 obtain⟨q,d,h1,h2,h3,h4,h5,h6⟩:=k
 exact⟨q,d,h1,h2,h3,h4,h5,h.BW h6⟩
theorem MI (h:Raw w base g c u s M) (now most:Int) {K:Nat} (hK:gc.Zz s.A now most=K):
  Calls zf 77 #[ptr c,.int .i64 now,.int .i64 most] w (Tk w base g c u {s with S:=s.S.extract K s.S.size,A:=s.A.drop K} M (s.S.extract 0 K) K):=by
 have hz:=gc.MW h.car hK
 have h':=h.car
 obtain⟨ms,G,hr,hl⟩:=h'
 refine(gc.Ty hr hl now most hK).mono ?_
 rintro e w' ⟨q,d,rfl,h1,h2,h3,h4⟩
 exact⟨q,d,rfl,h1,hz,h2,h3,h.Ac h4⟩
theorem BH (h:Raw w base g c u s M):
  Calls zf 63 #[ptr c] w (Tk w base g c u {s with S:=⟨#[]⟩,A:=[]} M s.S s.S.size):=by
 have h':=h.car
 have hlen:=h'.inv.len
 obtain⟨ms,G,hr,hl⟩:=h'
 refine(gc.Ls hr hl).mono ?_
 rintro e w' ⟨q,d,rfl,h1,h2,h3,h4⟩
 have e1:s.S.extract 0 s.S.size=s.S:=by simp
 have e2:s.S.extract s.S.size s.S.size=⟨#[]⟩:=by
  apply ByteArray.ext
  apply Array.eq_empty_of_size_eq_zero
  have:(s.S.extract s.S.size s.S.size).size=0:=by rw[ByteArray.size_extract];omega
  exact this
 have e3:s.A.drop s.S.size=[]:=by rw[←hlen,List.drop_length]
 rw[e1]at h1
 rw[e2,e3]at h4
 exact⟨q,d,rfl,h1,rfl,h2,h3,h.Ac h4⟩
theorem FR (h:Raw w base g c u s M) (now most:Int) (hs:(qc s now).st≠0):
  Calls zf 46 #[ptr g,.int .i64 now,.int .i64 most] w λ e w'=>e=.returned (.slice none 0 0)∧Set w base g c u (qc s now) M w':=by
 have HT:=zd (ZE h now)
 have e1:((qc s now).st !=0)=true:=by simpa using hs
 have e2:decide ((qc s now).st=0)=false:=by simpa using hs
 clear h hs
 go_enter func46,ntmps46
 go_wp2_with fail
 refine HT.out.mono ?_
 rintro e w1 ⟨rfl,h1⟩
 have H1:=zd h1
 clear h1 HT
 go_wp2_with fail
 try rw[zl]
 go_ret
 exact⟨rfl,H1.out⟩
theorem Pe (h:Raw w base g c u s M) (now most:Int) (hs:(qc s now).st=0) {n:Int} (hn:min most (gc.qn (qc s now).A (qc s now).clock:Int)=n) (h1:n<1):
  Calls zf 46 #[ptr g,.int .i64 now,.int .i64 most] w λ e w'=>e=.returned (.slice none 0 0)∧Set w base g c u (qc s now) M w':=by
 have HT:=zd (ZE h now)
 rw[hs]at HT
 have hd:decide (n<1)=true:=by simpa using h1
 clear h hs
 go_enter func46,ntmps46
 go_wp2_with fail
 refine HT.out.mono ?_
 rintro e w1 ⟨rfl,hx⟩
 have H1:=zd hx
 have x0:w1.cell? ⟨g,0,none⟩=some (.pointer (some ⟨c,0,none⟩)):=hx.1.cell 0
 have x15:w1.cell? ⟨g,15,none⟩=some (.int .i64 (qc s now).clock):=hx.1.cell 15
 have HR:=zd (gc.YK (hx.on (zh _ w1).drew).1.car (qc s now).clock)
 clear hx HT
 go_wp2_with fail
 go_region_law
  (first
   |(go_simp;go_at_call 75;(with_reducible refine zr HR.out ?_);rintro e w4 ⟨rfl,hb⟩))
 all_goals (
  have HS:=zd ((H1.out.on (zh _ w1).drew).on hb)
  clear hb x0 x15 H1 HR
  go_wp2_with fail
  try rw[zl]
  go_ret
  exact⟨rfl,HS.out⟩)
end
section
open Go.RowKit
variable {w w' w'' w0:World} {base g c M M':Nat} {u u' u'':gc.U} {s s' s'' s1 s2:St}
theorem Yg (h:Raw w base g c u s M) (now most:Int) (hs:(qc s now).st=0) (hs1:qc s now=s1) {n:Int} (hn:min most (gc.qn s1.A s1.clock:Int)=n) (h1:1≤n) {K:Nat} {s2:St}
  (hix:∀W,(Instr.index 124 Qs (.int .i64 s1.tx.k)).run zf W=.ok (.func (.func 102) #[] #[]) W)
  (hg:∀W,Raw W base g c u s1 M→Calls zf 102 #[ptr g,.int .i64 n] W λ e w'=>e=.returned (.int .i64 (K:Int))∧Set W base g c u s2 M w')
  (hc:s2.clock=s1.clock) (hA:s2.A=s1.A) (hw:IntKind.i64.wrap (s2.passed+(K:Int))=s2.passed+(K:Int)) (hK:gc.Zz s1.A s1.clock (K:Int)=K):
  Calls zf 46 #[ptr g,.int .i64 now,.int .i64 most] w (Tk w base g c u (VR s2 K) M (s2.S.extract 0 K) K):=by
 have HT:=zd (ZE h now)
 rw[hs,hs1]at HT
 have HG:=zd hg
 have HCT:=zd (λ W (hr:Raw W base g c u {s2 with passed:=s2.passed+(K:Int)} M)=>MI hr s1.clock (K:Int) (K:=K) (by show gc.Zz s2.A s1.clock (K:Int)=K;rw[hA];exact hK))
 have HC2:=zd (λ W (hw:Set w base g c u s2 M W)=>(⟨hw.1.cell 13,hw.1.frz 13,hw.set (i:=13) (v:=.int .i64 (s2.passed+(K:Int))) (s':={s2 with passed:=s2.passed+(K:Int)}) rfl rfl rfl rfl⟩:W.cell? ⟨g,13,none⟩=some (.int .i64 s2.passed)∧W.frozen? ⟨g,13,none⟩=false∧Set w base g c u {s2 with passed:=s2.passed+(K:Int)} M (W.setCell ⟨g,13,none⟩ (.int .i64 (s2.passed+(K:Int))))))
 have HC3:=zd (λ W (hw:Set w base g c u {s2 with passed:=s2.passed+(K:Int)} M W)=>(⟨hw.1.cell 0,hc▸hw.1.cell 15⟩:W.cell? ⟨g,0,none⟩=some (.pointer (some ⟨c,0,none⟩))∧W.cell? ⟨g,15,none⟩=some (.int .i64 s1.clock)))
 have hd:decide (n<1)=false:=by simpa using h1
 clear h hs h1 hg hs1 hc hA hK
 go_enter func46,ntmps46
 go_wp2_with fail
 refine HT.out.mono ?_
 rintro e w1 ⟨rfl,hx⟩
 have H1:=zd hx
 have x0:w1.cell? ⟨g,0,none⟩=some (.pointer (some ⟨c,0,none⟩)):=hx.1.cell 0
 have x15:w1.cell? ⟨g,15,none⟩=some (.int .i64 s1.clock):=hx.1.cell 15
 have HR:=zd (gc.YK (hx.on (zh _ w1).drew).1.car s1.clock)
 clear hx HT
 go_wp2_with fail
 go_region_law
  (first
   |(go_simp;go_at_call 75;(with_reducible refine zr HR.out ?_);rintro e w4 ⟨rfl,hb⟩))
 all_goals (
  have HS:=zd ((H1.out.on (zh _ w1).drew).on hb)
  have x2:w4.cell? ⟨g,2,none⟩=some (.int .i64 s1.tx.k):=HS.out.1.cell 2
  have HGV:=zd (YS w4.drew)
  have HX2:=zd (λ W (hb:Below w4.drew.heap.size w4.drew W)=>(⟨((HS.out.on (zh _ w4).drew).on hb).1.cell 2,(HS.out.on (zh _ w4).drew).on hb⟩:W.cell? ⟨g,2,none⟩=some (.int .i64 s1.tx.k)∧Set w base g c u s1 M W))
  clear hb x0 x15 H1 HR
  go_wp2_with fail
  go_region_law
   (first
    |(go_simp;go_at_call 76;(with_reducible refine zr HGV.out ?_);rintro e w5 ⟨rfl,hb⟩;(obtain⟨y2,hs5⟩:=HX2.out w5 hb);(have hr5:=hs5.1);clear hb)
    |(go_simp;go_at_call 102;(with_reducible refine zr (HG.out _ hr5) ?_);rintro e w6 ⟨rfl,hs6⟩)))
 all_goals (
  have HS6:=zd (hs5.trans hs6)
  obtain⟨z13,g13,hs7⟩:=HC2.out w6 HS6.out
  have HS7:=zd hs7
  clear hs7 HC2 hs5 hr5 hs6 y2 x2 HGV HX2
  go_wp2_with fail
  obtain⟨x0,x15⟩:=HC3.out _ HS7.out
  clear HC3 z13 g13
  generalize w6.setCell ⟨g,13,none⟩ (.int .i64 (s2.passed+(K:Int)))=w7 at*
  have HS8:=zd (HS7.out.on (zh _ w7).drew)
  have HCT2:=zd (HCT.out _ HS8.out.1)
  refine wp_region_still_tail 9 (by kernel_rfl) (by kernel_rfl) ?_
  simp only[zx,List.take_zero,List.drop_succ_cons,List.drop_zero]
  repeat still_step
  refine wpStill_nil ?_
  go_wp2_with fail
  refine HCT2.out.mono ?_
  rintro e w9 hk
  have HK:=zd (HS8.out.Tw hk)
  obtain⟨q,d,rfl,_⟩:=hk
  go_wp2_with fail
  try rw[zl]
  go_ret
  exact HK.out)
end
section
open Go.RowKit
variable {w w' w'' w0:World} {base g c M M':Nat} {u u' u'':gc.U} {s s' s'' s1 s2:St}
theorem QO (h:Raw w base g c u s M) (now most:Int) (hs:(qc s now).st=0) (hs1:qc s now=s1) {n:Int} (hn:min most (gc.qn s1.A s1.clock:Int)=n) (h1:1≤n) {K:Nat} {s2:St}
  (hix:∀W,(Instr.index 124 Qs (.int .i64 s1.tx.k)).run zf W=.ok (.func (.func 103) #[] #[]) W)
  (hg:∀W,Raw W base g c u s1 M→Calls zf 103 #[ptr g,.int .i64 n] W λ e w'=>e=.returned (.int .i64 (K:Int))∧Set W base g c u s2 M w')
  (hc:s2.clock=s1.clock) (hA:s2.A=s1.A) (hw:IntKind.i64.wrap (s2.passed+(K:Int))=s2.passed+(K:Int)) (hK:gc.Zz s1.A s1.clock (K:Int)=K):
  Calls zf 46 #[ptr g,.int .i64 now,.int .i64 most] w (Tk w base g c u (VR s2 K) M (s2.S.extract 0 K) K):=by
 have HT:=zd (ZE h now)
 rw[hs,hs1]at HT
 have HG:=zd hg
 have HCT:=zd (λ W (hr:Raw W base g c u {s2 with passed:=s2.passed+(K:Int)} M)=>MI hr s1.clock (K:Int) (K:=K) (by show gc.Zz s2.A s1.clock (K:Int)=K;rw[hA];exact hK))
 have HC2:=zd (λ W (hw:Set w base g c u s2 M W)=>(⟨hw.1.cell 13,hw.1.frz 13,hw.set (i:=13) (v:=.int .i64 (s2.passed+(K:Int))) (s':={s2 with passed:=s2.passed+(K:Int)}) rfl rfl rfl rfl⟩:W.cell? ⟨g,13,none⟩=some (.int .i64 s2.passed)∧W.frozen? ⟨g,13,none⟩=false∧Set w base g c u {s2 with passed:=s2.passed+(K:Int)} M (W.setCell ⟨g,13,none⟩ (.int .i64 (s2.passed+(K:Int))))))
 have HC3:=zd (λ W (hw:Set w base g c u {s2 with passed:=s2.passed+(K:Int)} M W)=>(⟨hw.1.cell 0,hc▸hw.1.cell 15⟩:W.cell? ⟨g,0,none⟩=some (.pointer (some ⟨c,0,none⟩))∧W.cell? ⟨g,15,none⟩=some (.int .i64 s1.clock)))
 have hd:decide (n<1)=false:=by simpa using h1
 clear h hs h1 hg hs1 hc hA hK
 go_enter func46,ntmps46
 go_wp2_with fail
 refine HT.out.mono ?_
 rintro e w1 ⟨rfl,hx⟩
 have H1:=zd hx
 have x0:w1.cell? ⟨g,0,none⟩=some (.pointer (some ⟨c,0,none⟩)):=hx.1.cell 0
 have x15:w1.cell? ⟨g,15,none⟩=some (.int .i64 s1.clock):=hx.1.cell 15
 have HR:=zd (gc.YK (hx.on (zh _ w1).drew).1.car s1.clock)
 clear hx HT
 go_wp2_with fail
 go_region_law
  (first
   |(go_simp;go_at_call 75;(with_reducible refine zr HR.out ?_);rintro e w4 ⟨rfl,hb⟩))
 all_goals (
  have HS:=zd ((H1.out.on (zh _ w1).drew).on hb)
  have x2:w4.cell? ⟨g,2,none⟩=some (.int .i64 s1.tx.k):=HS.out.1.cell 2
  have HGV:=zd (YS w4.drew)
  have HX2:=zd (λ W (hb:Below w4.drew.heap.size w4.drew W)=>(⟨((HS.out.on (zh _ w4).drew).on hb).1.cell 2,(HS.out.on (zh _ w4).drew).on hb⟩:W.cell? ⟨g,2,none⟩=some (.int .i64 s1.tx.k)∧Set w base g c u s1 M W))
  clear hb x0 x15 H1 HR
  go_wp2_with fail
  go_region_law
   (first
    |(go_simp;go_at_call 76;(with_reducible refine zr HGV.out ?_);rintro e w5 ⟨rfl,hb⟩;(obtain⟨y2,hs5⟩:=HX2.out w5 hb);(have hr5:=hs5.1);clear hb)
    |(go_simp;go_at_call 103;(with_reducible refine zr (HG.out _ hr5) ?_);rintro e w6 ⟨rfl,hs6⟩)))
 all_goals (
  have HS6:=zd (hs5.trans hs6)
  obtain⟨z13,g13,hs7⟩:=HC2.out w6 HS6.out
  have HS7:=zd hs7
  clear hs7 HC2 hs5 hr5 hs6 y2 x2 HGV HX2
  go_wp2_with fail
  obtain⟨x0,x15⟩:=HC3.out _ HS7.out
  clear HC3 z13 g13
  generalize w6.setCell ⟨g,13,none⟩ (.int .i64 (s2.passed+(K:Int)))=w7 at*
  have HS8:=zd (HS7.out.on (zh _ w7).drew)
  have HCT2:=zd (HCT.out _ HS8.out.1)
  refine wp_region_still_tail 9 (by kernel_rfl) (by kernel_rfl) ?_
  simp only[zx,List.take_zero,List.drop_succ_cons,List.drop_zero]
  repeat still_step
  refine wpStill_nil ?_
  go_wp2_with fail
  refine HCT2.out.mono ?_
  rintro e w9 hk
  have HK:=zd (HS8.out.Tw hk)
  obtain⟨q,d,rfl,_⟩:=hk
  go_wp2_with fail
  try rw[zl]
  go_ret
  exact HK.out)
end
section
open Go.RowKit
variable {w w' w'' w0:World} {base g c M M':Nat} {u u' u'':gc.U} {s s' s'' s1 s2:St}
theorem jD (h:Raw w base g c u s M) (now most:Int) (hs:(qc s now).st=0) (hs1:qc s now=s1) {n:Int} (hn:min most (gc.qn s1.A s1.clock:Int)=n) (h1:1≤n) {K:Nat} {s2:St}
  (hix:∀W,(Instr.index 124 Qs (.int .i64 s1.tx.k)).run zf W=.ok (.func (.func 104) #[] #[]) W)
  (hg:∀W,Raw W base g c u s1 M→Calls zf 104 #[ptr g,.int .i64 n] W λ e w'=>e=.returned (.int .i64 (K:Int))∧Set W base g c u s2 M w')
  (hc:s2.clock=s1.clock) (hA:s2.A=s1.A) (hw:IntKind.i64.wrap (s2.passed+(K:Int))=s2.passed+(K:Int)) (hK:gc.Zz s1.A s1.clock (K:Int)=K):
  Calls zf 46 #[ptr g,.int .i64 now,.int .i64 most] w (Tk w base g c u (VR s2 K) M (s2.S.extract 0 K) K):=by
 have HT:=zd (ZE h now)
 rw[hs,hs1]at HT
 have HG:=zd hg
 have HCT:=zd (λ W (hr:Raw W base g c u {s2 with passed:=s2.passed+(K:Int)} M)=>MI hr s1.clock (K:Int) (K:=K) (by show gc.Zz s2.A s1.clock (K:Int)=K;rw[hA];exact hK))
 have HC2:=zd (λ W (hw:Set w base g c u s2 M W)=>(⟨hw.1.cell 13,hw.1.frz 13,hw.set (i:=13) (v:=.int .i64 (s2.passed+(K:Int))) (s':={s2 with passed:=s2.passed+(K:Int)}) rfl rfl rfl rfl⟩:W.cell? ⟨g,13,none⟩=some (.int .i64 s2.passed)∧W.frozen? ⟨g,13,none⟩=false∧Set w base g c u {s2 with passed:=s2.passed+(K:Int)} M (W.setCell ⟨g,13,none⟩ (.int .i64 (s2.passed+(K:Int))))))
 have HC3:=zd (λ W (hw:Set w base g c u {s2 with passed:=s2.passed+(K:Int)} M W)=>(⟨hw.1.cell 0,hc▸hw.1.cell 15⟩:W.cell? ⟨g,0,none⟩=some (.pointer (some ⟨c,0,none⟩))∧W.cell? ⟨g,15,none⟩=some (.int .i64 s1.clock)))
 have hd:decide (n<1)=false:=by simpa using h1
 clear h hs h1 hg hs1 hc hA hK
 go_enter func46,ntmps46
 go_wp2_with fail
 refine HT.out.mono ?_
 rintro e w1 ⟨rfl,hx⟩
 have H1:=zd hx
 have x0:w1.cell? ⟨g,0,none⟩=some (.pointer (some ⟨c,0,none⟩)):=hx.1.cell 0
 have x15:w1.cell? ⟨g,15,none⟩=some (.int .i64 s1.clock):=hx.1.cell 15
 have HR:=zd (gc.YK (hx.on (zh _ w1).drew).1.car s1.clock)
 clear hx HT
 go_wp2_with fail
 go_region_law
  (first
   |(go_simp;go_at_call 75;(with_reducible refine zr HR.out ?_);rintro e w4 ⟨rfl,hb⟩))
 all_goals (
  have HS:=zd ((H1.out.on (zh _ w1).drew).on hb)
  have x2:w4.cell? ⟨g,2,none⟩=some (.int .i64 s1.tx.k):=HS.out.1.cell 2
  have HGV:=zd (YS w4.drew)
  have HX2:=zd (λ W (hb:Below w4.drew.heap.size w4.drew W)=>(⟨((HS.out.on (zh _ w4).drew).on hb).1.cell 2,(HS.out.on (zh _ w4).drew).on hb⟩:W.cell? ⟨g,2,none⟩=some (.int .i64 s1.tx.k)∧Set w base g c u s1 M W))
  clear hb x0 x15 H1 HR
  go_wp2_with fail
  go_region_law
   (first
    |(go_simp;go_at_call 76;(with_reducible refine zr HGV.out ?_);rintro e w5 ⟨rfl,hb⟩;(obtain⟨y2,hs5⟩:=HX2.out w5 hb);(have hr5:=hs5.1);clear hb)
    |(go_simp;go_at_call 104;(with_reducible refine zr (HG.out _ hr5) ?_);rintro e w6 ⟨rfl,hs6⟩)))
 all_goals (
  have HS6:=zd (hs5.trans hs6)
  obtain⟨z13,g13,hs7⟩:=HC2.out w6 HS6.out
  have HS7:=zd hs7
  clear hs7 HC2 hs5 hr5 hs6 y2 x2 HGV HX2
  go_wp2_with fail
  obtain⟨x0,x15⟩:=HC3.out _ HS7.out
  clear HC3 z13 g13
  generalize w6.setCell ⟨g,13,none⟩ (.int .i64 (s2.passed+(K:Int)))=w7 at*
  have HS8:=zd (HS7.out.on (zh _ w7).drew)
  have HCT2:=zd (HCT.out _ HS8.out.1)
  refine wp_region_still_tail 9 (by kernel_rfl) (by kernel_rfl) ?_
  simp only[zx,List.take_zero,List.drop_succ_cons,List.drop_zero]
  repeat still_step
  refine wpStill_nil ?_
  go_wp2_with fail
  refine HCT2.out.mono ?_
  rintro e w9 hk
  have HK:=zd (HS8.out.Tw hk)
  obtain⟨q,d,rfl,_⟩:=hk
  go_wp2_with fail
  try rw[zl]
  go_ret
  exact HK.out)
end
section
open Go.RowKit
variable {w w' w'' w0:World} {base g c M M':Nat} {u u' u'':gc.U} {s s' s'' s1 s2:St}
theorem KD (h:Raw w base g c u s M) (now most:Int) (hs:(qc s now).st=0) (hs1:qc s now=s1) {n:Int} (hn:min most (gc.qn s1.A s1.clock:Int)=n) (h1:1≤n) {K:Nat} {s2:St}
  (hix:∀W,(Instr.index 124 Qs (.int .i64 s1.tx.k)).run zf W=.ok (.func (.func 105) #[] #[]) W)
  (hg:∀W,Raw W base g c u s1 M→Calls zf 105 #[ptr g,.int .i64 n] W λ e w'=>e=.returned (.int .i64 (K:Int))∧Set W base g c u s2 M w')
  (hc:s2.clock=s1.clock) (hA:s2.A=s1.A) (hw:IntKind.i64.wrap (s2.passed+(K:Int))=s2.passed+(K:Int)) (hK:gc.Zz s1.A s1.clock (K:Int)=K):
  Calls zf 46 #[ptr g,.int .i64 now,.int .i64 most] w (Tk w base g c u (VR s2 K) M (s2.S.extract 0 K) K):=by
 have HT:=zd (ZE h now)
 rw[hs,hs1]at HT
 have HG:=zd hg
 have HCT:=zd (λ W (hr:Raw W base g c u {s2 with passed:=s2.passed+(K:Int)} M)=>MI hr s1.clock (K:Int) (K:=K) (by show gc.Zz s2.A s1.clock (K:Int)=K;rw[hA];exact hK))
 have HC2:=zd (λ W (hw:Set w base g c u s2 M W)=>(⟨hw.1.cell 13,hw.1.frz 13,hw.set (i:=13) (v:=.int .i64 (s2.passed+(K:Int))) (s':={s2 with passed:=s2.passed+(K:Int)}) rfl rfl rfl rfl⟩:W.cell? ⟨g,13,none⟩=some (.int .i64 s2.passed)∧W.frozen? ⟨g,13,none⟩=false∧Set w base g c u {s2 with passed:=s2.passed+(K:Int)} M (W.setCell ⟨g,13,none⟩ (.int .i64 (s2.passed+(K:Int))))))
 have HC3:=zd (λ W (hw:Set w base g c u {s2 with passed:=s2.passed+(K:Int)} M W)=>(⟨hw.1.cell 0,hc▸hw.1.cell 15⟩:W.cell? ⟨g,0,none⟩=some (.pointer (some ⟨c,0,none⟩))∧W.cell? ⟨g,15,none⟩=some (.int .i64 s1.clock)))
 have hd:decide (n<1)=false:=by simpa using h1
 clear h hs h1 hg hs1 hc hA hK
 go_enter func46,ntmps46
 go_wp2_with fail
 refine HT.out.mono ?_
 rintro e w1 ⟨rfl,hx⟩
 have H1:=zd hx
 have x0:w1.cell? ⟨g,0,none⟩=some (.pointer (some ⟨c,0,none⟩)):=hx.1.cell 0
 have x15:w1.cell? ⟨g,15,none⟩=some (.int .i64 s1.clock):=hx.1.cell 15
 have HR:=zd (gc.YK (hx.on (zh _ w1).drew).1.car s1.clock)
 clear hx HT
 go_wp2_with fail
 go_region_law
  (first
   |(go_simp;go_at_call 75;(with_reducible refine zr HR.out ?_);rintro e w4 ⟨rfl,hb⟩))
 all_goals (
  have HS:=zd ((H1.out.on (zh _ w1).drew).on hb)
  have x2:w4.cell? ⟨g,2,none⟩=some (.int .i64 s1.tx.k):=HS.out.1.cell 2
  have HGV:=zd (YS w4.drew)
  have HX2:=zd (λ W (hb:Below w4.drew.heap.size w4.drew W)=>(⟨((HS.out.on (zh _ w4).drew).on hb).1.cell 2,(HS.out.on (zh _ w4).drew).on hb⟩:W.cell? ⟨g,2,none⟩=some (.int .i64 s1.tx.k)∧Set w base g c u s1 M W))
  clear hb x0 x15 H1 HR
  go_wp2_with fail
  go_region_law
   (first
    |(go_simp;go_at_call 76;(with_reducible refine zr HGV.out ?_);rintro e w5 ⟨rfl,hb⟩;(obtain⟨y2,hs5⟩:=HX2.out w5 hb);(have hr5:=hs5.1);clear hb)
    |(go_simp;go_at_call 105;(with_reducible refine zr (HG.out _ hr5) ?_);rintro e w6 ⟨rfl,hs6⟩)))
 all_goals (
  have HS6:=zd (hs5.trans hs6)
  obtain⟨z13,g13,hs7⟩:=HC2.out w6 HS6.out
  have HS7:=zd hs7
  clear hs7 HC2 hs5 hr5 hs6 y2 x2 HGV HX2
  go_wp2_with fail
  obtain⟨x0,x15⟩:=HC3.out _ HS7.out
  clear HC3 z13 g13
  generalize w6.setCell ⟨g,13,none⟩ (.int .i64 (s2.passed+(K:Int)))=w7 at*
  have HS8:=zd (HS7.out.on (zh _ w7).drew)
  have HCT2:=zd (HCT.out _ HS8.out.1)
  refine wp_region_still_tail 9 (by kernel_rfl) (by kernel_rfl) ?_
  simp only[zx,List.take_zero,List.drop_succ_cons,List.drop_zero]
  repeat still_step
  refine wpStill_nil ?_
  go_wp2_with fail
  refine HCT2.out.mono ?_
  rintro e w9 hk
  have HK:=zd (HS8.out.Tw hk)
  obtain⟨q,d,rfl,_⟩:=hk
  go_wp2_with fail
  try rw[zl]
  go_ret
  exact HK.out)
end
section
open Go.RowKit
variable {w w' w'' w0:World} {base g c M M':Nat} {u u' u'':gc.U} {s s' s'' s1 s2:St}
theorem KC (h:Raw w base g c u s M) (now most:Int) (hs:(qc s now).st=0) (hs1:qc s now=s1) {n:Int} (hn:min most (gc.qn s1.A s1.clock:Int)=n) (h1:1≤n) {K:Nat} {s2:St}
  (hix:∀W,(Instr.index 124 Qs (.int .i64 s1.tx.k)).run zf W=.ok (.func (.func 106) #[] #[]) W)
  (hg:∀W,Raw W base g c u s1 M→Calls zf 106 #[ptr g,.int .i64 n] W λ e w'=>e=.returned (.int .i64 (K:Int))∧Set W base g c u s2 M w')
  (hc:s2.clock=s1.clock) (hA:s2.A=s1.A) (hw:IntKind.i64.wrap (s2.passed+(K:Int))=s2.passed+(K:Int)) (hK:gc.Zz s1.A s1.clock (K:Int)=K):
  Calls zf 46 #[ptr g,.int .i64 now,.int .i64 most] w (Tk w base g c u (VR s2 K) M (s2.S.extract 0 K) K):=by
 have HT:=zd (ZE h now)
 rw[hs,hs1]at HT
 have HG:=zd hg
 have HCT:=zd (λ W (hr:Raw W base g c u {s2 with passed:=s2.passed+(K:Int)} M)=>MI hr s1.clock (K:Int) (K:=K) (by show gc.Zz s2.A s1.clock (K:Int)=K;rw[hA];exact hK))
 have HC2:=zd (λ W (hw:Set w base g c u s2 M W)=>(⟨hw.1.cell 13,hw.1.frz 13,hw.set (i:=13) (v:=.int .i64 (s2.passed+(K:Int))) (s':={s2 with passed:=s2.passed+(K:Int)}) rfl rfl rfl rfl⟩:W.cell? ⟨g,13,none⟩=some (.int .i64 s2.passed)∧W.frozen? ⟨g,13,none⟩=false∧Set w base g c u {s2 with passed:=s2.passed+(K:Int)} M (W.setCell ⟨g,13,none⟩ (.int .i64 (s2.passed+(K:Int))))))
 have HC3:=zd (λ W (hw:Set w base g c u {s2 with passed:=s2.passed+(K:Int)} M W)=>(⟨hw.1.cell 0,hc▸hw.1.cell 15⟩:W.cell? ⟨g,0,none⟩=some (.pointer (some ⟨c,0,none⟩))∧W.cell? ⟨g,15,none⟩=some (.int .i64 s1.clock)))
 have hd:decide (n<1)=false:=by simpa using h1
 clear h hs h1 hg hs1 hc hA hK
 go_enter func46,ntmps46
 go_wp2_with fail
 refine HT.out.mono ?_
 rintro e w1 ⟨rfl,hx⟩
 have H1:=zd hx
 have x0:w1.cell? ⟨g,0,none⟩=some (.pointer (some ⟨c,0,none⟩)):=hx.1.cell 0
 have x15:w1.cell? ⟨g,15,none⟩=some (.int .i64 s1.clock):=hx.1.cell 15
 have HR:=zd (gc.YK (hx.on (zh _ w1).drew).1.car s1.clock)
 clear hx HT
 go_wp2_with fail
 go_region_law
  (first
   |(go_simp;go_at_call 75;(with_reducible refine zr HR.out ?_);rintro e w4 ⟨rfl,hb⟩))
 all_goals (
  have HS:=zd ((H1.out.on (zh _ w1).drew).on hb)
  have x2:w4.cell? ⟨g,2,none⟩=some (.int .i64 s1.tx.k):=HS.out.1.cell 2
  have HGV:=zd (YS w4.drew)
  have HX2:=zd (λ W (hb:Below w4.drew.heap.size w4.drew W)=>(⟨((HS.out.on (zh _ w4).drew).on hb).1.cell 2,(HS.out.on (zh _ w4).drew).on hb⟩:W.cell? ⟨g,2,none⟩=some (.int .i64 s1.tx.k)∧Set w base g c u s1 M W))
  clear hb x0 x15 H1 HR
  go_wp2_with fail
  go_region_law
   (first
    |(go_simp;go_at_call 76;(with_reducible refine zr HGV.out ?_);rintro e w5 ⟨rfl,hb⟩;(obtain⟨y2,hs5⟩:=HX2.out w5 hb);(have hr5:=hs5.1);clear hb)
    |(go_simp;go_at_call 106;(with_reducible refine zr (HG.out _ hr5) ?_);rintro e w6 ⟨rfl,hs6⟩)))
 all_goals (
  have HS6:=zd (hs5.trans hs6)
  obtain⟨z13,g13,hs7⟩:=HC2.out w6 HS6.out
  have HS7:=zd hs7
  clear hs7 HC2 hs5 hr5 hs6 y2 x2 HGV HX2
  go_wp2_with fail
  obtain⟨x0,x15⟩:=HC3.out _ HS7.out
  clear HC3 z13 g13
  generalize w6.setCell ⟨g,13,none⟩ (.int .i64 (s2.passed+(K:Int)))=w7 at*
  have HS8:=zd (HS7.out.on (zh _ w7).drew)
  have HCT2:=zd (HCT.out _ HS8.out.1)
  refine wp_region_still_tail 9 (by kernel_rfl) (by kernel_rfl) ?_
  simp only[zx,List.take_zero,List.drop_succ_cons,List.drop_zero]
  repeat still_step
  refine wpStill_nil ?_
  go_wp2_with fail
  refine HCT2.out.mono ?_
  rintro e w9 hk
  have HK:=zd (HS8.out.Tw hk)
  obtain⟨q,d,rfl,_⟩:=hk
  go_wp2_with fail
  try rw[zl]
  go_ret
  exact HK.out)
end
section
open Go.RowKit
variable {w w' w'' w0:World} {base g c M M':Nat} {u u' u'':gc.U} {s s' s'' s1 s2:St}
def Qo (s:St) (now most:Int):St×ByteArray:=
 if(qc s now).st≠0 then(qc s now,⟨#[]⟩)
 else if min most (gc.qn (qc s now).A (qc s now).clock:Int)<1 then(qc s now,⟨#[]⟩)
 else
  (VR (qC (qc s now) (min most (gc.qn (qc s now).A (qc s now).clock:Int))).1 (qC (qc s now) (min most (gc.qn (qc s now).A (qc s now).clock:Int))).2.toNat,
   (qc s now).S.extract 0 (qC (qc s now) (min most (gc.qn (qc s now).A (qc s now).clock:Int))).2.toNat)
theorem TA {A:List Int} {t:Int} {K:Nat} (h:K≤gc.qn A t):gc.Zz A t (K:Int)=K:=by
 unfold gc.Zz
 omega
theorem Vq (now:Int) (hs:(qc s now).st=0) (hk:s.tx.k=6):s.passed<s.tx.a:=by
 have h0:s.st=0:=QT (by exact hs)
 rw[jb s now h0]at hs
 have hf:qP (qL s now)=0:=hs
 unfold qP at hf
 have e:(qL s now).tx.k=6:=hk
 rw[if_neg (by rw[e];simp),if_neg (by rw[e];simp)]at hf
 by_cases hp:(qL s now).tx.k=6∧(qL s now).tx.a≤(qL s now).passed
 ·rw[if_pos hp]at hf
  omega
 ·have:¬s.tx.a≤s.passed:=λ h=>hp ⟨e,h⟩
  omega
theorem QI (ho:Ok s M) (n:Int) (h1:1≤n) (hl:s.tx.k=6→s.passed<s.tx.a):0≤(qC s n).2∧(qC s n).2≤n:=by
 have hab:=ho.ab
 unfold qC
 by_cases h2:s.tx.k=2
 ·rw[if_pos h2]
  have hr:=(gb.qY _ _ _ _).1 (gb.X4 (ho.bk h2) s.clock)
  have:=gb.take_range (L:=gb.ZJ s.bk.r s.bk.u s.bk.l s.bk.t s.clock) (n:=n) hr.2.2.1.1
  exact⟨this.1,this.2.2.1 (by omega)⟩
 ·rw[if_neg h2]
  by_cases h3:s.tx.k=3
  ·rw[if_pos h3]
   have:=gd.Xo s.d s.tx.a (by have:=hab.2.2.2.2 h3;omega)
   split
   ·exact⟨Int.le_refl _,by show(0:Int)≤n;omega⟩
   ·show 0≤(if gd.X6 s.d s.tx.a+1<n then gd.X6 s.d s.tx.a+1 else n)∧(if gd.X6 s.d s.tx.a+1<n then gd.X6 s.d s.tx.a+1 else n)≤n
    constructor<;>split<;>omega
  ·rw[if_neg h3]
   split
   ·exact⟨Int.le_refl _,by show(0:Int)≤n;omega⟩
   ·split
    ·rename_i h6
     have:=hl h6.1
     exact⟨by show 0≤s.tx.a -s.passed;omega,by show s.tx.a -s.passed≤n;omega⟩
    ·exact⟨by show 0≤n;omega,Int.le_refl _⟩
theorem Fk (ho:Ok s M) {s2:St} (hS:s2.S=s.S) (ht:s2.tx=s.tx) (hcl:s2.clock=s.clock) (hp:s2.passed=s.passed) (hr:s2.room=s.room) (hb:s2.tx.k=2→gb.qI s2.bk.r s2.bk.u s2.bk.l s2.bk.t=true) {K:Nat} (hK:K≤s.S.size):Ok (VR s2 K) M:=by
 have hpp:=ho.passed
 have hsz:(s2.S.extract K s2.S.size).size=s.S.size -K:=by rw[ByteArray.size_extract,hS];omega
 refine⟨?_,?_,?_,?_,?_,hb,ho.top⟩
 ·show s2.tx=qi∨s2.tx.chk=0
  rw[ht];exact ho.tx
 ·show s2.tx.s.size≤maxLen
  rw[ht];exact ho.name
 ·show 0≤s2.clock∧s2.clock≤1099511627776
  rw[hcl];exact ho.clock
 ·show 0≤s2.passed+(K:Int)∧s2.passed+(K:Int)+((s2.S.extract K s2.S.size).size:Int)≤M
  rw[hp,hsz]
  omega
 ·show 1≤s2.room∧s2.room≤4096
  rw[hr];exact ho.room
theorem jl (ho:Ok s M) (n:Int):(qC s n).1.tx.k=2→gb.qI (qC s n).1.bk.r (qC s n).1.bk.u (qC s n).1.bk.l (qC s n).1.bk.t=true:=by
 intro h2
 have h2:s.tx.k=2:=by rw[←(XN s n).2.2.2.2.1];exact h2
 unfold qC
 rw[if_pos h2]
 have hf:=gb.X4 (ho.bk h2) s.clock
 have hr:=(gb.qY _ _ _ _).1 hf
 have:=gb.take_range (L:=gb.ZJ s.bk.r s.bk.u s.bk.l s.bk.t s.clock) (n:=n) hr.2.2.1.1
 exact gb.SQ hf this.1 this.2.1
theorem Ok.take (h:Ok s M) (hi:gc.Inv s.S s.A s.last) (now most:Int):Ok (Qo s now most).1 M:=by
 unfold Qo
 split
 ·exact h.look now
 ·rename_i hs
  split
  ·exact h.look now
  ·rename_i hn
   have hs:(qc s now).st=0:=by omega
   have hg:=QI (h.look now) (min most (gc.qn (qc s now).A (qc s now).clock:Int)) (by omega) (λ hk=>Vq (s:=s) now hs hk)
   have hk:=XN (qc s now) (min most (gc.qn (qc s now).A (qc s now).clock:Int))
   have hr:=gc.XK (qc s now).A (qc s now).clock
   have hl:(qc s now).A.length=(qc s now).S.size:=hi.len
   exact Fk (s:=qc s now) (h.look now) hk.1 hk.2.2.2.2.1 hk.2.2.2.1 hk.2.2.2.2.2.1 hk.2.2.2.2.2.2.2.2.2 (jl (h.look now) _) (by omega)
theorem LX (h:Raw w base g c u s M) (ho:Ok s M) (now most:Int) {s2:St} {T:ByteArray} (hT:Qo s now most=(s2,T)):
  Calls zf 46 #[ptr g,.int .i64 now,.int .i64 most] w (Tk w base g c u s2 M T T.size):=by
 have hnil:∀W,Set w base g c u (qc s now) M W→Tk w base g c u (qc s now) M ⟨#[]⟩ 0 (.returned (.slice none 0 0)) W:=λ W hs=>
  ⟨none,0,rfl,λ h=>absurd h (by omega),rfl,zg _,by omega,u,hs.1,hs.2.mv c u,λ a ha=>by cases ha⟩
 unfold Qo at hT
 by_cases hs:(qc s now).st=0
 ·rw[if_neg (by simpa using hs)]at hT
  obtain⟨n,hn⟩:∃n,min most (gc.qn (qc s now).A (qc s now).clock:Int)=n:=⟨_,rfl⟩
  rw[hn]at hT
  by_cases h1:n<1
  ·rw[if_pos h1]at hT
   obtain⟨rfl,rfl⟩:=Prod.mk.inj hT
   refine(Pe h now most hs hn h1).mono ?_
   rintro e w' ⟨rfl,hx⟩
   exact hnil w' hx
  ·rw[if_neg h1]at hT
   have h1:1≤n:=by omega
   obtain⟨hg0,hg1⟩:=QI (ho.look now) n h1 (λ hk=>Vq (s:=s) now hs hk)
   have hkp:=XN (qc s now) n
   obtain⟨G,hG⟩:∃G,qC (qc s now) n=G:=⟨_,rfl⟩
   rw[hG]at hT hg0 hg1 hkp
   obtain⟨g1,g2⟩:=G
   obtain⟨K,hK⟩:∃K:Nat,g2=(K:Int):=⟨g2.toNat,by show g2=_;have:0≤g2:=hg0;omega⟩
   subst hK
   have e:((K:Int)).toNat=K:=rfl
   dsimp only at hT hg0 hg1 hkp
   rw[e]at hT
   obtain⟨rfl,rfl⟩:=Prod.mk.inj hT
   have hsz:(qc s now).S.size=s.S.size:=rfl
   have hlen:(qc s now).A.length=s.S.size:=h.car.inv.len
   have hrl:=gc.XK (qc s now).A (qc s now).clock
   have hcs:=h.car.size_le
   have hKs:((qc s now).S.extract 0 K).size=K:=by rw[ByteArray.size_extract];omega
   have hps:=ho.passed
   have hw:IntKind.i64.wrap (g1.passed+(K:Int))=g1.passed+(K:Int):=by
    have:g1.passed=s.passed:=hkp.2.2.2.2.2.1
    have:=ho.top
    exact qs (by omega) (by omega)
   have hTK:=TA (A:=(qc s now).A) (t:=(qc s now).clock) (K:=K) (by omega)
   rw[hKs,show(qc s now).S=g1.S from hkp.1.symm]
   have hok:=ho.look now
   have hkk:=hok.ab.2.2.1
   have hcl:=hkp.2.2.2.1
   have hA:=hkp.2.1
   have hG':=hG
   unfold qC at hG
   have hall:((qc s now).tx.k=0∨(qc s now).tx.k=1∨(qc s now).tx.k=5∨(qc s now).tx.k=7)→∀W,Raw W base g c u (qc s now) M→Calls zf 102 #[ptr g,.int .i64 n] W λ e w'=>e=.returned (.int .i64 (K:Int))∧Set W base g c u g1 M w':=λ hk W hr=>by
    rw[if_neg (by omega),if_neg (by omega),if_neg (by omega),if_neg (by omega)]at hG
    obtain⟨rfl,hnK⟩:=Prod.mk.inj hG
    rw[←hnK]
    refine(Di g n W).mono ?_
    rintro e w' ⟨rfl,rfl⟩
    exact⟨rfl,Set.refl hr⟩
   have hk8:(qc s now).tx.k=0∨(qc s now).tx.k=1∨(qc s now).tx.k=2∨(qc s now).tx.k=3∨(qc s now).tx.k=4∨(qc s now).tx.k=5∨(qc s now).tx.k=6∨(qc s now).tx.k=7:=by omega
   rcases hk8 with hk|hk|hk|hk|hk|hk|hk|hk
   ·exact Yg h now most hs rfl hn h1 (λ W=>by rw[hk];kernel_rfl) (hall (by omega)) hcl hA hw hTK
   ·exact Yg h now most hs rfl hn h1 (λ W=>by rw[hk];kernel_rfl) (hall (by omega)) hcl hA hw hTK
   ·refine QO h now most hs rfl hn h1 (λ W=>by rw[hk];kernel_rfl) (λ W hr=>?_) hcl hA hw hTK
    rw[if_pos hk]at hG
    obtain⟨rfl,hnK⟩:=Prod.mk.inj hG
    exact Sv hr n (hok.bk hk) rfl rfl hnK (by rw[←hnK])
   ·refine jD h now most hs rfl hn h1 (λ W=>by rw[hk];kernel_rfl) (λ W hr=>?_) hcl hA hw hTK
    rw[if_neg (by omega),if_pos hk]at hG
    by_cases hp:(qc s now).clock<(qc s now).pause
    ·rw[if_pos (Or.inr hp)]at hG
     obtain⟨rfl,hnK⟩:=Prod.mk.inj hG
     rw[←hnK]
     exact M6 hr n hp
    ·rw[if_neg (by omega)]at hG
     obtain⟨rfl,hnK⟩:=Prod.mk.inj hG
     exact Ob hr hok n hp hk rfl rfl rfl (by rw[←hnK];split<;>omega)
   ·refine KD h now most hs rfl hn h1 (λ W=>by rw[hk];kernel_rfl) (λ W hr=>?_) hcl hA hw hTK
    rw[if_neg (by omega),if_neg (by omega),if_pos hk]at hG
    obtain⟨rfl,hnK⟩:=Prod.mk.inj hG
    rw[←hnK]
    refine(O7 g n W).mono ?_
    rintro e w' ⟨rfl,rfl⟩
    exact⟨rfl,Set.refl hr⟩
   ·exact Yg h now most hs rfl hn h1 (λ W=>by rw[hk];kernel_rfl) (hall (by omega)) hcl hA hw hTK
   ·refine KC h now most hs rfl hn h1 (λ W=>by rw[hk];kernel_rfl) (λ W hr=>?_) hcl hA hw hTK
    rw[if_neg (by omega),if_neg (by omega),if_neg (by omega)]at hG
    have hgg:g1=qc s now∧min n ((qc s now).tx.a -(qc s now).passed)=(K:Int):=by
     by_cases h6:(qc s now).tx.k=6∧(qc s now).tx.a -(qc s now).passed<n
     ·rw[if_pos h6]at hG
      obtain⟨h7,h8⟩:=Prod.mk.inj hG
      exact⟨h7.symm,by omega⟩
     ·rw[if_neg h6]at hG
      obtain⟨h7,h8⟩:=Prod.mk.inj hG
      exact⟨h7.symm,by omega⟩
    obtain⟨rfl,hm⟩:=hgg
    refine(OD hr hok n hm).mono ?_
    rintro e w' ⟨rfl,hb⟩
    exact⟨rfl,(Set.refl hr).on hb⟩
   ·exact Yg h now most hs rfl hn h1 (λ W=>by rw[hk];kernel_rfl) (hall (by omega)) hcl hA hw hTK
 ·rw[if_pos hs]at hT
  obtain⟨rfl,rfl⟩:=Prod.mk.inj hT
  refine(FR h now most hs).mono ?_
  rintro e w' ⟨rfl,hx⟩
  exact hnil w' hx
end
section
open Go.RowKit
variable {M M':Nat} {s s' s'' s1 s2:St}
def Bq (k' k:Bkt) (c:Int):Prop:=k'.r=k.r∧k'.u=k.u∧∀t,c≤t→gb.ZJ k'.r k'.u k'.l k'.t t=gb.ZJ k.r k.u k.l k.t t∧gb.ZV k'.r k'.u k'.l k'.t t=gb.ZV k.r k.u k.l k.t t
theorem Tm (k:Bkt) (c:Int):Bq k k c:=⟨rfl,rfl,λ _ _=>⟨rfl,rfl⟩⟩
structure Sim (s' s:St):Prop where
 eq:s'={s with bk:=s'.bk}
 bk:s.tx.k=2→Bq s'.bk s.bk s.clock
theorem Uh (s:St):Sim s s:=⟨rfl,λ _=>Tm _ _⟩
theorem KB (c now:Int):c≤qM c now:=by unfold qM;split<;>omega
theorem Bq.later {k' k:Bkt} {c c':Int} (h:Bq k' k c) (hc:c≤c'):Bq k' k c':=⟨h.1,h.2.1,λ t ht=>h.2.2 t (by omega)⟩
theorem Sim.look (h:Sim s' s) (now:Int):Sim (qc s' now) (qc s now):=by
 obtain⟨he,hb⟩:=h
 rw[he]
 exact⟨rfl,λ hk=>(hb hk).later (KB _ _)⟩
theorem Sim.force (h:Sim s' s) (b:ByteArray):Sim (qG s' b) (qG s b):=by
 obtain⟨he,hb⟩:=h
 rw[he]
 unfold qG
 by_cases h0:b.size=0
 ·rw[if_pos h0,if_pos h0]
  exact⟨rfl,hb⟩
 ·rw[if_neg h0,if_neg h0]
  by_cases hk:s.tx.k=1
  ·rw[if_pos (show({s with bk:=s'.bk}:St).tx.k=1 from hk),if_pos hk]
   exact⟨rfl,hb⟩
  ·rw[if_neg (show¬({s with bk:=s'.bk}:St).tx.k=1 from hk),if_neg hk]
   exact⟨rfl,hb⟩
theorem Sim.st (h:Sim s' s):s'.st=s.st:=by rw[h.eq]
theorem Sim.S (h:Sim s' s):s'.S=s.S:=by rw[h.eq]
theorem Sim.A (h:Sim s' s):s'.A=s.A:=by rw[h.eq]
theorem Sim.clock (h:Sim s' s):s'.clock=s.clock:=by rw[h.eq]
theorem Sim.closed (h:Sim s' s):s'.closed=s.closed:=by rw[h.eq]
theorem Sim.tx (h:Sim s' s):s'.tx=s.tx:=by rw[h.eq]
theorem Sim.passed (h:Sim s' s):s'.passed=s.passed:=by rw[h.eq]
theorem Sim.free (h:Sim s' s):Zt s'=Zt s:=by rw[h.eq];rfl
theorem Sim.NX (h:Sim s' s) (now:Int) (b:ByteArray):Sim (qU s' now b).1 (qU s now b).1∧(qU s' now b).2=(qU s now b).2:=by
 have hl:=h.look now
 unfold qU
 dsimp only
 rw[hl.st,hl.closed,hl.free]
 split
 ·exact⟨hl,rfl⟩
 ·exact⟨hl.force _,rfl⟩
theorem Sim.push (h:Sim s' s) (now:Int) (b:ByteArray):Sim (Zy s' now b) (Zy s now b):=by
 have hl:=h.look now
 unfold Zy
 dsimp only
 rw[hl.st]
 split
 ·exact hl
 ·exact hl.force _
theorem Sim.close (h:Sim s' s) (now:Int):Sim (qS s' now) (qS s now):=by
 obtain⟨he,hb⟩:=h
 rw[he]
 unfold qS
 by_cases hc:s.closed=true
 ·rw[if_pos (show({s with bk:=s'.bk}:St).closed=true from hc),if_pos hc]
  exact⟨rfl,λ hk=>(hb hk).later (KB _ _)⟩
 ·rw[if_neg (show¬({s with bk:=s'.bk}:St).closed=true from hc),if_neg hc]
  exact⟨rfl,λ hk=>(hb hk).later (KB _ _)⟩
theorem Sim.drain (h:Sim s' s):Sim (Z1 s').1 (Z1 s).1:=by
 obtain⟨he,hb⟩:=h
 rw[he]
 exact⟨rfl,hb⟩
theorem Sim.upd (h:Sim s' s) (t:Tox) (now:Int):Sim (Xg s' t now).1 (Xg s t now).1∧(Xg s' t now).2=(Xg s t now).2:=by
 have hl:=h.look now
 unfold Xg
 rw[h.tx]
 split
 ·exact⟨h,rfl⟩
 ·split
  ·exact⟨h,rfl⟩
  ·split
   ·exact⟨h,rfl⟩
   ·rename_i h1 h2 h3
    refine⟨?_,rfl⟩
    have hk:t.k=s.tx.k:=by omega
    dsimp only
    obtain⟨he,hb⟩:=hl
    refine⟨?_,λ h2'=>?_⟩
    ·dsimp only
     rw[he]
    ·have h2':t.k=2:=h2'
     dsimp only
     rw[if_pos h2']
     have hb:=hb (by show s.tx.k=2;omega)
     have e:Nf (qc s' now).bk t.a t.b (qc s' now).clock=Nf (qc s now).bk t.a t.b (qc s now).clock:=by
      unfold Nf
      have hc:(qc s' now).clock=(qc s now).clock:=by rw[he]
      rw[hc]
      have:=hb.2.2 (qc s now).clock (Int.le_refl _)
      rw[this.1,this.2]
     rw[e,if_pos h2']
     exact Tm _ _
theorem Fj (s:St):VR s 0=s:=by
 unfold VR
 have e1:s.S.extract 0 s.S.size=s.S:=by simp
 have e2:s.passed+((0:Nat):Int)=s.passed:=Int.add_zero _
 rw[e1,e2,List.drop_zero]
theorem Sim.cut (h:Sim s' s) (K:Nat):Sim (VR s' K) (VR s K):=by
 obtain⟨he,hb⟩:=h
 rw[he]
 exact⟨rfl,hb⟩
theorem Sim.Ar (h:Sim s' s) (n:Int):Sim (qC s' n).1 (qC s n).1∧(qC s' n).2=(qC s n).2:=by
 obtain⟨he,hb⟩:=h
 unfold qC
 have ht:s'.tx=s.tx:=by rw[he]
 have hc:s'.clock=s.clock:=by rw[he]
 rw[ht]
 by_cases h2:s.tx.k=2
 ·rw[if_pos h2,if_pos h2]
  have hb:=hb h2
  have h3:=hb.2.2 s.clock (Int.le_refl _)
  dsimp only
  rw[hc,h3.1,h3.2,hb.1,hb.2.1]
  refine⟨⟨?_,λ _=>Tm _ _⟩,rfl⟩
  dsimp only
  rw[he]
 ·rw[if_neg h2,if_neg h2]
  have hS:Sim s' s:=⟨he,hb⟩
  rw[hc,hS.passed,show s'.d=s.d by rw[he],show s'.pause=s.pause by rw[he]]
  split
  ·split
   ·exact⟨hS,rfl⟩
   ·refine⟨⟨?_,λ hk=>absurd hk h2⟩,rfl⟩
    dsimp only
    rw[he]
  ·split
   ·exact⟨hS,rfl⟩
   ·split
    ·exact⟨hS,rfl⟩
    ·exact⟨hS,rfl⟩
theorem Kl (ho:Ok s M) (hl:s.tx.k=6→s.passed<s.tx.a):Sim s (qC s 0).1∧(qC s 0).2=0:=by
 unfold qC
 by_cases h2:s.tx.k=2
 ·rw[if_pos h2]
  have hf:=gb.X4 (ho.bk h2) s.clock
  have hr:=(gb.qY _ _ _ _).1 hf
  have h0:=gb.take_range (L:=gb.ZJ s.bk.r s.bk.u s.bk.l s.bk.t s.clock) (n:=0) hr.2.2.1.1
  have h0:=h0.2.2.2.1 (Int.le_refl _)
  refine⟨⟨rfl,λ _=>⟨rfl,rfl,λ t ht=>?_⟩⟩,h0⟩
  dsimp only
  rw[h0,Int.sub_zero]
  have:=gb.S6 (ho.bk h2) ht
  exact⟨this.1.symm,this.2.symm⟩
 ·rw[if_neg h2]
  split
  ·rw[if_pos (Or.inl rfl)]
   exact⟨Uh _,rfl⟩
  ·split
   ·exact⟨Uh _,rfl⟩
   ·split
    ·rename_i h6
     have:=hl h6.1
     omega
    ·exact⟨Uh _,rfl⟩
theorem Sim.trans (h:Sim s s') (k:Sim s' s''):Sim s s'':=by
 obtain⟨h1,h2⟩:=h
 obtain⟨k1,k2⟩:=k
 refine⟨by rw[h1,k1],λ hk=>?_⟩
 have a:=h2 (by rw[k1];exact hk)
 have b:=k2 hk
 have hc:s'.clock=s''.clock:=by rw[k1]
 refine⟨a.1.trans b.1,a.2.1.trans b.2.1,λ t ht=>?_⟩
 have a1:=a.2.2 t (by omega)
 have b1:=b.2.2 t ht
 exact⟨a1.1.trans b1.1,a1.2.trans b1.2⟩
theorem Sim.take (h:Sim s' s) (ho:Ok s' M) (now most:Int):Sim (Qo s' now most).1 (Zw s now most).1∧(Qo s' now most).2=(Zw s now most).2:=by
 have hl:=h.look now
 have hol:=ho.look now
 unfold Qo Zw
 dsimp only
 by_cases hs:(qc s now).st=0
 ·rw[hl.st,if_neg (show¬(qc s now).st≠0 fromλ h=>h hs)]
  by_cases hm:most<1
  ·rw[if_pos (show(qc s now).st≠0∨most<1 from Or.inr hm),if_pos (show min most (gc.qn (qc s' now).A (qc s' now).clock:Int)<1 by omega)]
   exact⟨hl,rfl⟩
  ·rw[if_neg (show¬((qc s now).st≠0∨most<1)fromλ h=>h.elim (λ h=>h hs) hm)]
   obtain⟨R,hR⟩:∃R,gc.qn (qc s now).A (qc s now).clock=R:=⟨_,rfl⟩
   rw[hl.A,hl.clock,hl.S,hR]
   by_cases h0:R=0
   ·subst h0
    rw[if_pos (show min most ((0:Nat):Int)<1 by omega)]
    have e:(if most<((0:Nat):Int)then most else((0:Nat):Int))=0:=by split<;>omega
    rw[e]
    have hg:=hl.Ar 0
    have hn:=Kl hol (λ hk=>Vq (s:=s') now (by rw[hl.st];exact hs) hk)
    rw[←hg.2,hn.2]
    have hz:gc.Zz (qc s now).A (qc s now).clock 0=0:=by unfold gc.Zz;omega
    rw[hz,Fj]
    exact⟨hn.1.trans hg.1,(UF _).symm⟩
   ·have e:(if most<(R:Int)then most else(R:Int))=min most (R:Int):=by split<;>omega
    have h1:1≤min most (R:Int):=by omega
    rw[if_neg (show¬min most (R:Int)<1 by omega),e]
    have hg:=hl.Ar (min most (R:Int))
    have hgi:=QI hol (min most (R:Int)) h1 (λ hk=>Vq (s:=s') now (by rw[hl.st];exact hs) hk)
    rw[hg.2]at hgi⊢
    have hK:gc.Zz (qc s now).A (qc s now).clock (qC (qc s now) (min most (R:Int))).2=(qC (qc s now) (min most (R:Int))).2.toNat:=by
     unfold gc.Zz
     rw[hR]
     omega
    rw[hK]
    exact⟨hg.1.cut _,rfl⟩
 ·rw[hl.st,if_pos hs,if_pos (show(qc s now).st≠0∨most<1 from Or.inl hs)]
  exact⟨hl,rfl⟩
end
end Go.Proofs.YtfdfgnmgpgkknaaGreat
