import Derived.Test.YtdighjgcnaajgaaGreatMS13
import Derived.Deep.RegionLaw
namespace Go.Proofs.YtdighjgcnaajgaaGreat.gc
open Go.RowKit
theorem add_zero' (a:Addr):a.add 0=a:=by cases a;simp[Addr.add]
theorem map_zero (p:Option Addr):p.map (·.add 0)=p:=by cases p<;>simp[add_zero']
theorem elemM:Tryz.prog.underlying 223=some (.slice (Tryz.prog.elem 223)):=by kernel_rfl
theorem sizeM (w:World):(sizeOf (Tryz.prog.elem 223)).run Tryz.prog w=.ok 2 w:=by kernel_rfl
theorem elemB:Tryz.prog.underlying 87=some (.slice (Tryz.prog.elem 87)):=by kernel_rfl
theorem sizeB (w:World):(sizeOf (Tryz.prog.elem 87)).run Tryz.prog w=.ok 1 w:=by kernel_rfl
theorem mks_to (p:Option Addr) (n c N:Nat) (h:N≤c) (w:World):(Instr.slice 223 (.slice p n c) none (some (.int .i64 (N:Int))) none).run Tryz.prog w=.ok (.slice p N c) w:=by
 rw[run_slice_h (P:=Tryz.prog) w 223 p n c elemM .i64 (N:Int) (by omega) (by omega),sizeM]
 simp[Result.andThen,sliced,map_zero]
theorem mks_from (p:Option Addr) (n c N:Nat) (h:N≤n) (w:World):(Instr.slice 223 (.slice p n c) (some (.int .i64 (N:Int))) none none).run Tryz.prog w=.ok (.slice (if c=N then p else p.map (·.add (N*2))) (n -N) (c -N)) w:=by
 rw[run_slice_l (P:=Tryz.prog) w 223 p n c elemM .i64 (N:Int) (by omega) (by omega),sizeM]
 simp[Result.andThen,sliced]
theorem row_to (p:Option Addr) (n c N:Nat) (h:N≤c) (w:World):(Instr.slice 87 (.slice p n c) none (some (.int .i64 (N:Int))) none).run Tryz.prog w=.ok (.slice p N c) w:=by
 rw[run_slice_h (P:=Tryz.prog) w 87 p n c elemB .i64 (N:Int) (by omega) (by omega),sizeB]
 simp[Result.andThen,sliced,map_zero]
theorem row_from (p:Option Addr) (n c N:Nat) (h:N≤n) (w:World):(Instr.slice 87 (.slice p n c) (some (.int .i64 (N:Int))) none none).run Tryz.prog w=.ok (.slice (if c=N then p else p.map (·.add (N*1))) (n -N) (c -N)) w:=by
 rw[run_slice_l (P:=Tryz.prog) w 87 p n c elemB .i64 (N:Int) (by omega) (by omega),sizeB]
 simp[Result.andThen,sliced]
theorem row_part (p:Option Addr) (n c L N:Nat) (hL:L≤N) (h:N≤c) (w:World):(Instr.slice 87 (.slice p n c) (some (.int .i64 (L:Int))) (some (.int .i64 (N:Int))) none).run Tryz.prog w=.ok (.slice (if c=L then p else p.map (·.add (L*1))) (N -L) (c -L)) w:=by
 rw[run_slice_lh (P:=Tryz.prog) w 87 p n c elemB .i64 .i64 (L:Int) (N:Int) (by omega) (by omega) (by omega),sizeB]
 simp[Result.andThen,sliced]
theorem infoM:(Tryz.prog.info? 249).map (λ i=>(i.zero,i.size,i.bytes))=some (some (.agg #[.int .i64 0,.int .i64 0]),2,16):=by kernel_rfl
def Laid (w:World) (base g:Nat) (u:U) (S:ByteArray) (ms:List Mk) (G:Nat) (last:Int) (e:Ending) (w':World):Prop:=e=.returned (.tuple #[])∧∃u',Chg w base g u u' S ms G last w'
variable {w:World} {base g:Nat} {u:U} {S:ByteArray} {A:List Int} {last:Int} {M G:Nat} {ms:List Mk}
theorem lay_app {p q:Option Addr} {n c m d:Nat} (h:Raw w base g p n c q m d S ms G last) (K K1:Nat) (hK1:K+1=K1) (hK:K≤m) (hm:m≤1000000) (t:Int) (e:Nat) (W:World) (hb:Below w.heap.size w W):
  ∃q' d' w',(∀ty,(Builtin.append_ #[223,223] ty #[.slice q K d,.slice (some ⟨W.heap.size,0,none⟩) 1 1]).run Tryz.prog (W.alloc (.cells #[.int .i64 t,.int .i64 (e:Int)] 249))=.ok (.slice q' K1 d') w')∧w'.frozen? ⟨g,1,none⟩=false∧g<w'.heap.size∧(∃v,w'.cell? ⟨g,1,none⟩=some v)∧
   Chg w base g (Go.Proofs.YtdighjgcnaajgaaGreat.gc.blk p,Go.Proofs.YtdighjgcnaajgaaGreat.gc.blk q) (Go.Proofs.YtdighjgcnaajgaaGreat.gc.blk p,Go.Proofs.YtdighjgcnaajgaaGreat.gc.blk q') S (ms.take K++[(t,e)]) G last (w'.setCell ⟨g,1,none⟩ (.slice q' K1 d')):=by
 subst hK1
 obtain⟨i0,hi0,hz0,hz1,hz2⟩:=info_parts infoM
 have hW:=h.on hb
 have hal:Below W.heap.size W (W.alloc (.cells #[.int .i64 t,.int .i64 (e:Int)] 249)):=(Below.refl _ _).alloc (Nat.le_refl _) _
 have hV:=hW.on hal
 have hnew:=heap_alloc_new W (.cells #[.int .i64 t,.int .i64 (e:Int)] 249)
 have hcut:=hV.mks.take K hK
 rw[←flatM_take]at hcut
 obtain⟨q',d',w',r1,r2,r3,r4⟩:=app_row hcut (Nat.le_trans hV.base (Nat.le_of_lt (blk_lt hV.blk))) (t:=223) Tryz.underlying223 hi0 hz0 hz1 hz2 rfl (by decide) (a:=⟨W.heap.size,0,none⟩) (m:=1) (d:=1) (news:=flatM [(t,e)]) rfl (by
  intro j v hj
  rw[WideShapes.add_plain]
  have hj1:j<2:=by have:=(List.getElem?_eq_some_iff.mp hj).1;simpa[flatM]using this
  rcases(show j=0∨j=1 by omega)with rfl|rfl
  ·rw[←hj];exact cell_of_row _ _ 0 _ _ _ hnew
  ·rw[←hj];exact cell_of_row _ _ 1 _ _ _ hnew) (flatM_one _) (by unfold maxLen;omega) (by omega)
 rw[←flatM_append]at r2
 have hblk:w'.heap[g]?=some (.cells #[.slice p n c,.slice q m d,.int .i64 (G:Int),.int .i64 last] 225 (0,0)):=by
  refine(r3.block g (blk_lt hV.blk) λ e=>?_).trans hV.blk
  obtain⟨a,ha,hab⟩:=blk_some e.symm
  obtain⟨cs,h3⟩:=hV.mks.typed a ha
  rw[hab]at h3
  have:=two_types hV.blk h3
  simp at this
 have hrow:ORow w' base 5 1 p n c ((nums S).map (Value.int .u8)):=hV.row.keep λ a ha=>r3.block _ (hV.row.lt a ha).2 λ e=>by
  obtain⟨a',ha',hab⟩:=blk_some e.symm
  obtain⟨cs,h3⟩:=hV.mks.typed a' ha'
  obtain⟨cs',h4⟩:=hV.row.typed a ha
  rw[hab]at h3
  have:=two_types h4 h3
  simp at this
 have hs:=Nat.le_trans hb.size hal.size
 refine⟨q',d',w',r1,frozen_at hblk,blk_lt hblk,⟨_,cell_of_row _ _ 1 _ _ _ hblk⟩,(Raw.set1 hblk hrow h.base r2).r,⟨λ i hi=>Or.inl hi,λ i hi=>?_⟩,kept_set (kept_mks (kept_below (seqB hb hal) g _) r3) 1 _⟩
 obtain⟨x,hx,rfl⟩:=blk_some hi
 rcases r4 x hx with h5|h5
 ·exact Or.inl h5
 ·right;omega
set_option maxHeartbeats 2000000 in
theorem lay_some {p q:Option Addr} {n c m d:Nat} (h:Raw w base g p n c q m d S ms G last) (hb:G+S.size≤2000000) (hm:m≤1000000) (t:Int) (y:Nat) (h0:0<m) (he:ms.getD (m -1) noMk=(t,y)):
  Calls Tryz.prog 206 #[.pointer (some ⟨g,0,none⟩),.int .i64 t,.int .i64 (y:Int)] w (Laid w base g (Go.Proofs.YtdighjgcnaajgaaGreat.gc.blk p,Go.Proofs.YtdighjgcnaajgaaGreat.gc.blk q) S (ms.take (m -1)++[(t,G+S.size)]) G last):=by
 have hmd:=h.sizes.2.2.2.1
 have hd:=h.sizes.2.2.2.2.2
 obtain⟨E,hE⟩:∃E,G+S.size=E:=⟨_,rfl⟩
 have HA:=Lib.hid (λ W hW=>lay_app h (m -1) m (by omega) (by omega) hm t E W hW)
 have HE:=Lib.hid (λ W (hW:Below w.heap.size w W)=>end_raw (h.on hW).r hb)
 rw[hE]at HE⊢
 have hsl:=mks_to q m d (m -1) (by omega)
 rw[show((m -1:Nat):Int)=(m:Int) -1 by omega]at hsl
 obtain⟨_,g1,_,_⟩:=h.cells
 obtain⟨b,o,rfl,c0,c1⟩:=h.mark (k:=m -1) (by omega)
 rw[he]at c0 c1
 have HC:=Lib.hid (λ W (hW:Below w.heap.size w W)=>(⟨(h.on hW).cells.2.1,hW⟩:W.cell? ⟨g,1,none⟩=some (.slice (some ⟨b,o,none⟩) m d)∧Below w.heap.size w W))
 clear h hb he hE
 go_enter Tryz.func206,Tryz.ntmps206
 go_wp2_with fail
 go_region_law
  (first
   |(go_simp;go_at_call 205;refine Calls.mono (HE.out _ (Below.refl _ _).drew) ?_;rintro e w2 ⟨rfl,j,hj⟩;(have hb2:=seqB (Below.refl _ w).drew (show Below _ _ w2 by rw[hj];exact below_drewN _ j));clear hj;(obtain⟨q',d',w3,hrun,hf,hlt,⟨vv,hcell⟩,hch⟩:=HA.out w2 hb2);(have HR:=Lib.hid hrun);(have HCH:=Lib.hid hch);(have k1:=(HC.out w2 hb2).1);(have hbl2:=World.block_lt_of_cell? w2 _ k1);clear hrun hch hb2)
   |(refine step_append_eq rfl (.tmp 36) (.tmp 41) 223 223 rfl (.slice (some ⟨b,o,none⟩) (m -1) d) (.slice (some ⟨w2.heap.size,0,none⟩) 1 1) rfl rfl HR.out ?_))
 all_goals go_wp2_with fail
 all_goals go_end0
 all_goals exact⟨rfl,_,HCH.out⟩
set_option maxHeartbeats 2000000 in
theorem lay_more1 {p q:Option Addr} {n c m d:Nat} (h:Raw w base g p n c q m d S ms G last) (hb:G+S.size≤2000000) (hm:m≤1000000) (t:Int) (y:Nat) (h0:0<m) {t':Int} {y':Nat} (he:ms.getD (m -1) noMk=(t',y')) (hne:¬t'=t):
  Calls Tryz.prog 206 #[.pointer (some ⟨g,0,none⟩),.int .i64 t,.int .i64 (y:Int)] w (Laid w base g (Go.Proofs.YtdighjgcnaajgaaGreat.gc.blk p,Go.Proofs.YtdighjgcnaajgaaGreat.gc.blk q) S (ms.take m++[(t,G+S.size)]) G last):=by
 have hmd:=h.sizes.2.2.2.1
 have hd:=h.sizes.2.2.2.2.2
 obtain⟨E,hE⟩:∃E,G+S.size=E:=⟨_,rfl⟩
 obtain⟨m1,hm1⟩:∃m1,m+1=m1:=⟨_,rfl⟩
 have HA:=Lib.hid (λ W hW=>lay_app h m m1 hm1 (by omega) hm t E W hW)
 have HE:=Lib.hid (λ W (hW:Below w.heap.size w W)=>end_raw (h.on hW).r hb)
 rw[hE]at HE⊢
 have hsl:=mks_to q m d m (by omega)
 obtain⟨_,g1,_,_⟩:=h.cells
 obtain⟨b,o,rfl,c0,c1⟩:=h.mark (k:=m -1) (by omega)
 rw[he]at c0 c1
 have dn:(t'==t)=false:=by simpa using hne
 have HC:=Lib.hid (λ W (hW:Below w.heap.size w W)=>(⟨(h.on hW).cells.2.1,hW⟩:W.cell? ⟨g,1,none⟩=some (.slice (some ⟨b,o,none⟩) m d)∧Below w.heap.size w W))
 clear h hb he hE hm1
 go_enter Tryz.func206,Tryz.ntmps206
 go_wp2_with fail
 go_region_law
  (first
   |(go_simp;go_at_call 205;refine Calls.mono (HE.out _ (Below.refl _ _).drew) ?_;rintro e w2 ⟨rfl,j,hj⟩;(have hb2:=seqB (Below.refl _ w).drew (show Below _ _ w2 by rw[hj];exact below_drewN _ j));clear hj;(obtain⟨q',d',w3,hrun,hf,hlt,⟨vv,hcell⟩,hch⟩:=HA.out w2 hb2);(have HR:=Lib.hid hrun);(have HCH:=Lib.hid hch);(have k1:=(HC.out w2 hb2).1);(have hbl2:=World.block_lt_of_cell? w2 _ k1);clear hrun hch hb2)
   |(refine step_append_eq rfl (.tmp 36) (.tmp 41) 223 223 rfl (.slice (some ⟨b,o,none⟩) m d) (.slice (some ⟨w2.heap.size,0,none⟩) 1 1) rfl rfl HR.out ?_))
 all_goals go_wp2_with fail
 all_goals go_end0
 all_goals exact⟨rfl,_,HCH.out⟩
set_option maxHeartbeats 2000000 in
theorem lay_more2 {p q:Option Addr} {n c m d:Nat} (h:Raw w base g p n c q m d S ms G last) (hb:G+S.size≤2000000) (hm:m≤1000000) (t:Int) (y:Nat) (h0:0<m) {y':Nat} (he:ms.getD (m -1) noMk=(t,y')) (hne:¬y'=y):
  Calls Tryz.prog 206 #[.pointer (some ⟨g,0,none⟩),.int .i64 t,.int .i64 (y:Int)] w (Laid w base g (Go.Proofs.YtdighjgcnaajgaaGreat.gc.blk p,Go.Proofs.YtdighjgcnaajgaaGreat.gc.blk q) S (ms.take m++[(t,G+S.size)]) G last):=by
 have hmd:=h.sizes.2.2.2.1
 have hd:=h.sizes.2.2.2.2.2
 obtain⟨E,hE⟩:∃E,G+S.size=E:=⟨_,rfl⟩
 obtain⟨m1,hm1⟩:∃m1,m+1=m1:=⟨_,rfl⟩
 have HA:=Lib.hid (λ W hW=>lay_app h m m1 hm1 (by omega) hm t E W hW)
 have HE:=Lib.hid (λ W (hW:Below w.heap.size w W)=>end_raw (h.on hW).r hb)
 rw[hE]at HE⊢
 have hsl:=mks_to q m d m (by omega)
 obtain⟨_,g1,_,_⟩:=h.cells
 obtain⟨b,o,rfl,c0,c1⟩:=h.mark (k:=m -1) (by omega)
 rw[he]at c0 c1
 have hn2:¬(y':Int)=(y:Int):=by omega
 have dn:((y':Int)==(y:Int))=false:=by simpa using hn2
 have HC:=Lib.hid (λ W (hW:Below w.heap.size w W)=>(⟨(h.on hW).cells.2.1,hW⟩:W.cell? ⟨g,1,none⟩=some (.slice (some ⟨b,o,none⟩) m d)∧Below w.heap.size w W))
 clear h hb he hE hm1 hne
 go_enter Tryz.func206,Tryz.ntmps206
 go_wp2_with fail
 go_region_law
  (first
   |(go_simp;go_at_call 205;refine Calls.mono (HE.out _ (Below.refl _ _).drew) ?_;rintro e w2 ⟨rfl,j,hj⟩;(have hb2:=seqB (Below.refl _ w).drew (show Below _ _ w2 by rw[hj];exact below_drewN _ j));clear hj;(obtain⟨q',d',w3,hrun,hf,hlt,⟨vv,hcell⟩,hch⟩:=HA.out w2 hb2);(have HR:=Lib.hid hrun);(have HCH:=Lib.hid hch);(have k1:=(HC.out w2 hb2).1);(have hbl2:=World.block_lt_of_cell? w2 _ k1);clear hrun hch hb2)
   |(refine step_append_eq rfl (.tmp 36) (.tmp 41) 223 223 rfl (.slice (some ⟨b,o,none⟩) m d) (.slice (some ⟨w2.heap.size,0,none⟩) 1 1) rfl rfl HR.out ?_))
 all_goals go_wp2_with fail
 all_goals go_end0
 all_goals exact⟨rfl,_,HCH.out⟩
set_option maxHeartbeats 2000000 in
theorem lay_zero {p q:Option Addr} {n c d:Nat} (h:Raw w base g p n c q 0 d S ms G last) (hb:G+S.size≤2000000) (t:Int) (y:Nat):
  Calls Tryz.prog 206 #[.pointer (some ⟨g,0,none⟩),.int .i64 t,.int .i64 (y:Int)] w (Laid w base g (Go.Proofs.YtdighjgcnaajgaaGreat.gc.blk p,Go.Proofs.YtdighjgcnaajgaaGreat.gc.blk q) S (ms.take 0++[(t,G+S.size)]) G last):=by
 have hd:=h.sizes.2.2.2.2.2
 obtain⟨E,hE⟩:∃E,G+S.size=E:=⟨_,rfl⟩
 have HA:=Lib.hid (λ W hW=>lay_app h 0 1 rfl (by omega) (by omega) t E W hW)
 have HE:=Lib.hid (λ W (hW:Below w.heap.size w W)=>end_raw (h.on hW).r hb)
 rw[hE]at HE⊢
 have hsl:=mks_to q 0 d 0 (by omega)
 rw[show((0:Nat):Int)=0 from rfl]at hsl
 obtain⟨_,g1,_,_⟩:=h.cells
 have HC:=Lib.hid (λ W (hW:Below w.heap.size w W)=>(⟨(h.on hW).cells.2.1,hW⟩:W.cell? ⟨g,1,none⟩=some (.slice q 0 d)∧Below w.heap.size w W))
 clear h hb hE
 go_enter Tryz.func206,Tryz.ntmps206
 go_wp2_with fail
 go_region_law
  (first
   |(go_simp;go_at_call 205;refine Calls.mono (HE.out _ (Below.refl _ _).drew) ?_;rintro e w2 ⟨rfl,j,hj⟩;(have hb2:=seqB (Below.refl _ w).drew (show Below _ _ w2 by rw[hj];exact below_drewN _ j));clear hj;(obtain⟨q',d',w3,hrun,hf,hlt,⟨vv,hcell⟩,hch⟩:=HA.out w2 hb2);(have HR:=Lib.hid hrun);(have HCH:=Lib.hid hch);(have k1:=(HC.out w2 hb2).1);(have hbl2:=World.block_lt_of_cell? w2 _ k1);clear hrun hch hb2)
   |(refine step_append_eq rfl (.tmp 36) (.tmp 41) 223 223 rfl (.slice q 0 d) (.slice (some ⟨w2.heap.size,0,none⟩) 1 1) rfl rfl HR.out ?_))
 all_goals go_wp2_with fail
 all_goals go_end0
 all_goals exact⟨rfl,_,HCH.out⟩
theorem lay_raw (h:R w base g u S ms G last) (hb:G+S.size≤2000000) (hm:ms.length≤1000000) (t:Int) (y:Nat):
  Calls Tryz.prog 206 #[.pointer (some ⟨g,0,none⟩),.int .i64 t,.int .i64 (y:Int)] w (Laid w base g u S (layM ms t y (G+S.size)) G last):=by
 obtain⟨p,n,c,q,m,d,hr,rfl⟩:=h
 have hml:=hr.sizes.2.1
 have hmm:m≤1000000:=by omega
 unfold layM layK
 by_cases h0:0<m
 ·obtain⟨l,dd,hl⟩:∃l dd,ms=l++[dd]:=by
   rcases List.eq_nil_or_concat ms with h1|⟨l,dd,h1⟩
   ·rw[h1]at hml;simp at hml;omega
   ·exact⟨l,dd,by simpa using h1⟩
  have hg:ms.getD (m -1) noMk=dd:=by
   rw[hl,List.length_append,List.length_singleton]at hml
   rw[hl,hml,List.getD_eq_getElem?_getD,Nat.add_sub_cancel,List.getElem?_append_right (Nat.le_refl _)]
   simp
  have hlast:ms.getLast?=some dd:=by rw[hl,List.getLast?_concat]
  rw[hlast,←hml]
  obtain⟨t',y'⟩:=dd
  by_cases hh:(t',y')=(t,y)
  ·rw[if_pos (by rw[hh])]
   exact lay_some hr hb hmm t y h0 (hg.trans hh)
  ·rw[if_neg (by intro e;injection e with e;exact hh e)]
   by_cases ht:t'=t
   ·subst ht
    exact lay_more2 hr hb hmm t' y h0 hg (λ e=>hh (by rw[e]))
   ·exact lay_more1 hr hb hmm t y h0 hg ht
 ·obtain rfl:m=0:=by omega
  have hms:ms=[]:=List.eq_nil_of_length_eq_zero hml.symm
  rw[hms]at hr⊢
  exact lay_zero hr hb t y
end Go.Proofs.YtdighjgcnaajgaaGreat.gc
namespace Go.Proofs.YtdighjgcnaajgaaGreat.gc
open Go.RowKit
theorem quiet_left {P:Program} {f:FuncId} {args:Array Value} {w:World} {n:Nat} {v:Value} (h:Calls P f args (w.drewN n) λ e w'=>e=.returned v∧w.drewN n=w'):
  Calls P f args (w.drewN n) λ e w''=>e=.returned v∧∃m,w''=w.drewN m:=h.mono λ _ _ ⟨he,hm⟩=>⟨he,n,hm.symm⟩
theorem max_putT (last a:Int):max (near a) last=putT last a:=by unfold putT;split<;>omega
variable {w:World} {base g:Nat} {u:U} {S:ByteArray} {A:List Int} {last:Int} {M G:Nat} {ms:List Mk}
theorem row_app {p q:Option Addr} {n c m d:Nat} (h:Raw w base g p n c q m d S ms G last) {pa:Option Addr} {na ca N1:Nat} {s:ByteArray} (hs:s.size=na) (h0:0<na) (hi:Lib.BytesIn w pa na (nums s)) (hN1:n+na=N1) (hbig:N1≤2000000) (W:World) (hb:Below w.heap.size w W):
  ∃p' c' w',(∀ty,(Builtin.append_ #[87,87] ty #[.slice p n c,.slice pa na ca]).run Tryz.prog W=.ok (.slice p' N1 c') w')∧w'.frozen? ⟨g,0,none⟩=false∧g<w'.heap.size∧(∃v,w'.cell? ⟨g,0,none⟩=some v)∧
   Chg w base g (Go.Proofs.YtdighjgcnaajgaaGreat.gc.blk p,Go.Proofs.YtdighjgcnaajgaaGreat.gc.blk q) (Go.Proofs.YtdighjgcnaajgaaGreat.gc.blk p',Go.Proofs.YtdighjgcnaajgaaGreat.gc.blk q) (S++s) ms G last (w'.setCell ⟨g,0,none⟩ (.slice p' N1 c')):=by
 subst hN1
 obtain⟨i0,hi0,hz0,hz1,hz2⟩:=info_parts info5
 have hW:=h.on hb
 have hiW:=bytes_on hi hb
 obtain⟨b,o,rfl,hc⟩:=hiW.at h0
 obtain⟨p',c',w',r1,r2,r3,r4⟩:=app_row hW.row (Nat.le_trans hW.base (Nat.le_of_lt (blk_lt hW.blk))) (t:=87) Tryz.underlying87 hi0 hz0 hz1 hz2 rfl (by decide) (a:=⟨b,o,none⟩) (m:=na) (d:=ca) (news:=(nums s).map (Value.int .u8)) (by rw[List.length_map,nums_length,hs,Nat.mul_one]) (by
  intro j v hj
  have hj1:j<(nums s).length:=by have:=(List.getElem?_eq_some_iff.mp hj).1;simpa using this
  rw[nums_length]at hj1
  rw[WideShapes.add_plain,hc j (by omega)]
  rw[List.getElem?_map,List.getElem?_eq_getElem (by rw[nums_length];exact hj1)]at hj
  rw[List.getD_eq_getElem?_getD,List.getElem?_eq_getElem (by rw[nums_length];exact hj1)]
  exact hj) (by simp[Value.oneCell']) (by unfold maxLen;omega) (by omega)
 rw[←List.map_append,←append_nums']at r2
 have hblk:w'.heap[g]?=some (.cells #[.slice p n c,.slice q m d,.int .i64 (G:Int),.int .i64 last] 225 (0,0)):=by
  refine(r3.block g (blk_lt hW.blk) λ e=>?_).trans hW.blk
  obtain⟨a,ha,hab⟩:=blk_some e.symm
  obtain⟨cs,h3⟩:=hW.row.typed a ha
  rw[hab]at h3
  have:=two_types hW.blk h3
  simp at this
 have hmks:ORow w' base 249 2 q m d (flatM ms):=hW.mks.keep λ a ha=>r3.block _ (hW.mks.lt a ha).2 λ e=>by
  obtain⟨a',ha',hab⟩:=blk_some e.symm
  obtain⟨cs,h3⟩:=hW.row.typed a' ha'
  obtain⟨cs',h4⟩:=hW.mks.typed a ha
  rw[hab]at h3
  have:=two_types h4 h3
  simp at this
 have hsz:=hb.size
 refine⟨p',c',w',r1,frozen_at hblk,blk_lt hblk,⟨_,cell_of_row _ _ 0 _ _ _ hblk⟩,(Raw.set0 hblk hmks h.base r2).r,⟨λ i hi=>?_,λ i hi=>Or.inl hi⟩,kept_set (kept_row (kept_below hb g _) r3) 0 _⟩
 obtain⟨x,hx,rfl⟩:=blk_some hi
 rcases r4 x hx with h5|h5
 ·exact Or.inl h5
 ·right;omega
def Puts (w:World) (base g:Nat) (u:U) (S:ByteArray) (ms:List Mk) (G:Nat) (last t:Int) (e:Ending) (w':World):Prop:=e=.returned (.int .i64 t)∧∃u',Chg w base g u u' S ms G last w'
theorem chg_last {u1:U} {w':World} (hc:Chg w base g u u1 S ms G last w') (t:Int):Chg w base g u u1 S ms G t (w'.setCell ⟨g,3,none⟩ (.int .i64 t)):=by
 obtain⟨p,n,c,q,m,d,hr,rfl⟩:=hc.r
 exact⟨(hr.set3 t).r,hc.n,kept_set hc.k 3 _⟩
theorem R.field (h:R w base g u S ms G last):(∀i,w.frozen? ⟨g,i,none⟩=false)∧(∃v,w.cell? ⟨g,0,none⟩=some v)∧(∃v,w.cell? ⟨g,1,none⟩=some v)∧w.cell? ⟨g,2,none⟩=some (.int .i64 (G:Int))∧w.cell? ⟨g,3,none⟩=some (.int .i64 last):=by
 obtain⟨p,n,c,q,m,d,hr,rfl⟩:=h
 obtain⟨g0,g1,g2,g3⟩:=hr.cells
 exact⟨λ i=>frozen_at hr.blk,⟨_,g0⟩,⟨_,g1⟩,g2,g3⟩
set_option maxHeartbeats 4000000 in
theorem put_none (h:R w base g u S ms G last) (a:Int) (pa:Option Addr) (ca:Nat):
  Calls Tryz.prog 188 #[.pointer (some ⟨g,0,none⟩),.int .i64 a,.slice pa 0 ca] w (Puts w base g u S ms G last (putT last a)):=by
 have g3:=h.field.2.2.2.2
 have HX:=max_putT last a
 generalize putT last a=X at*
 have HC:=Lib.hid (λ j=>(chg_same h).post (below_drewN w j))
 clear h
 go_enter Tryz.func188,Tryz.ntmps188
 go_wp2_with fail
 go_quiet ((go_at_call 204;exact quiet_left (cnear_any _ _)))
 go_wp2_with fail
 go_ret
 exact⟨rfl,_,HC.out nq⟩
set_option maxHeartbeats 4000000 in
theorem put_some (h:R w base g u S ms G last) (hm:ms.length≤1000000) (a:Int) {pa:Option Addr} {na ca:Nat} {s:ByteArray} (hs:s.size=na) (h0:0<na) (hi:Lib.BytesIn w pa na (nums s)) (hbig:G+S.size+na≤1000000) {X:Int} (hX:putT last a=X):
  Calls Tryz.prog 188 #[.pointer (some ⟨g,0,none⟩),.int .i64 a,.slice pa na ca] w (Puts w base g u (S++s) (layM ms X (G+S.size) (G+(S++s).size)) G X X):=by
 have g3:=h.field.2.2.2.2
 have HX:=max_putT last a
 rw[hX]at HX
 have HE:=Lib.hid (λ W (hW:Below w.heap.size w W)=>end_raw (h.on hW) (by omega))
 have hT:(S++s).size=S.size+na:=by rw[append_size',hs]
 obtain⟨p,n,c,q,m,d,hr,rfl⟩:=h
 have hn:=hr.sizes.1
 have hnc0:=hr.sizes.2.2.1
 have hc0:=hr.sizes.2.2.2.2.1
 have HA:=Lib.hid (λ W hW=>row_app (ca:=ca) hr hs h0 hi (N1:=n+na) rfl (by omega) W hW)
 have HG:=Lib.hid (λ W (hW:Below w.heap.size w W)=>(⟨(hr.on hW).cells.1,frozen_at (hr.on hW).blk,blk_lt (hr.on hW).blk⟩:W.cell? ⟨g,0,none⟩=some (.slice p n c)∧W.frozen? ⟨g,0,none⟩=false∧g<W.heap.size))
 have HL:=Lib.hid (λ (W:World) (u1:U) (hR:R W base g u1 (S++s) ms G last)=>lay_raw hR (by omega) hm X (G+S.size))
 generalize G+(S++s).size=E1 at*
 obtain⟨E,hE⟩:∃E,G+S.size=E:=⟨_,rfl⟩
 rw[hE]at HE HL⊢
 generalize n+na=N1 at HA
 clear hr hi hX hT hs hn hE
 go_enter Tryz.func188,Tryz.ntmps188
 go_wp2_with fail
 go_quiet ((go_at_call 204;exact quiet_left (cnear_any _ _)))
 have HB1:=Lib.hid (below_drewN w nq)
 clear g3
 generalize w.drewN nq=w1 at*
 go_wp2_with fail
 refine(HE.out _ HB1.out).mono ?_
 rintro e w2 ⟨rfl,j,hj⟩
 have hb2:Below w.heap.size w w2:=seqB HB1.out (by rw[hj];exact below_drewN _ j)
 obtain⟨g0,gf0,hgl⟩:=HG.out w2 hb2
 obtain⟨p',c',w3,hrun,hf,hlt,⟨vv,hcell⟩,hch⟩:=HA.out w2 hb2
 have HR:=Lib.hid hrun
 have HCH:=Lib.hid hch
 clear hj hb2 hrun hch HA HG HE HB1
 go_wp2_with (at_builtin;refine Lib.wpList_append_run _ rfl _ _ _ _ rfl (.slice p n c) (.slice pa na ca) rfl rfl _ _ (HR.out _) ?_)
 clear hf hlt hcell g0 gf0 hgl
 generalize w3.setCell ⟨g,0,none⟩ (.slice p' N1 c')=w4 at*
 refine(HL.out _ _ HCH.out.r).mono ?_
 rintro e w5 ⟨rfl,u',hc5⟩
 obtain⟨f5,_,_,_,g5⟩:=hc5.r.field
 have f53:=f5 3
 have HC5:=Lib.hid (chg_last (HCH.out.seq hc5) X)
 clear hc5 f5 HCH HL
 go_wp2_with fail
 go_ret
 exact⟨rfl,_,HC5.out⟩
end Go.Proofs.YtdighjgcnaajgaaGreat.gc
namespace Go.Proofs.YtdighjgcnaajgaaGreat.gc
open Go.RowKit
theorem min_low (last t:Int):min last t=low t last:=by unfold low;split<;>omega
variable {w:World} {base g:Nat} {u:U} {S:ByteArray} {A:List Int} {last:Int} {M G:Nat} {ms:List Mk}
end Go.Proofs.YtdighjgcnaajgaaGreat.gc
namespace Go.Proofs.YtdighjgcnaajgaaGreat.gc
open Go.RowKit
def OutR (T K:Nat) (n:Nat) (zs:List Value) (w:World) (e:Ending) (w':World):Prop:=∃q d,e=.returned (.slice q n d)∧ORow w' w.heap.size T K q n d zs∧Below w.heap.size w w'
theorem clone_app {w:World} {T K n c:Nat} {a:Addr} {news:List Value} {t:TypeId} {i0:TypeInfo} {z:Value} {by0:Nat} (ht:Tryz.prog.underlying t=some (.slice T)) (hi:Tryz.prog.info? T=some i0) (hz:i0.zero=some z)
  (h1:i0.size=K) (h2:i0.bytes=by0) (h3:z.cells.size=K) (hK:0<K) (hl:news.length=n*K) (hnews:∀j u,news[j]?=some u→w.cell? (a.add j)=some u) (hone:∀u∈news,u.oneCell'=true) (hmax:n≤maxLen) (hbytes:n*by0≤140737488355328):
  ∃q d w',(∀ty,(Builtin.append_ #[t,t] ty #[.slice (some ⟨w.heap.size,0,none⟩) 0 0,.slice (some a) n c]).run Tryz.prog (w.alloc (.cells #[] T))=.ok (.slice q n d) w')∧ORow w' w.heap.size T K q n d news∧Below w.heap.size w w':=by
 have hal:Below w.heap.size w (w.alloc (.cells #[] T)):=(Below.refl _ _).alloc (Nat.le_refl _) _
 have hb:=heap_alloc_new w (.cells #[] T)
 have ho:ORow (w.alloc (.cells #[] T)) w.heap.size T K (some ⟨w.heap.size,0,none⟩) 0 0 []:=
  ⟨by simp,Nat.le_refl _,Nat.zero_le _,(λ e=>by cases e),λ x e=>by
   cases e
   exact⟨_,_,_,rfl,Nat.le_refl _,hb,by simp,λ j v hj=>by simp at hj⟩⟩
 obtain⟨q,d,w',r1,r2,r3,_⟩:=app_row ho hal.size ht hi hz h1 h2 h3 hK (a:=a) (m:=n) (d:=c) (news:=news) hl (λ j u hj=>by
  have h:=hnews j u hj
  exact(hal.cell (World.block_lt_of_cell? w _ h)).trans h) hone (by omega) (by rw[Nat.zero_add];exact hbytes)
 rw[Nat.zero_add]at r1 r2
 refine⟨q,d,w',r1,by simpa using r2,hal.trans ⟨r3.os,r3.tape,r3.output,r3.size,λ i hi=>r3.block i (Nat.lt_of_lt_of_le hi hal.size) λ e=>?_⟩⟩
 injection e with e
 simp at e
 omega
set_option maxHeartbeats 2000000 in
theorem bclone_any (p:Option Addr) (n c:Nat) (xs:List Int) (w:World) (hx:xs.length=n) (hpc:p=none→n=0) (hbig:n≤2000000) (hi:Lib.BytesIn w p n xs):
  Calls Tryz.prog 180 #[.slice p n c] w (OutR 5 1 n (xs.map (Value.int .u8)) w):=by
 cases p with
 |none=>
  obtain rfl:=hpc rfl
  obtain rfl:xs=[]:=List.eq_nil_of_length_eq_zero hx
  clear hi hx hpc
  have hq:=λ w=>Lib.run_eql_slice_nil (P:=Tryz.prog) w 87 5 none 0 c 0 0 Tryz.underlying87
  simp only[Option.isNone_none]at hq
  go_enter Tryz.func180,Tryz.ntmps180
  go_wp2_with fail
  go_ret
  exact⟨none,0,rfl,orow_nil _ _ _ _,Below.refl _ _⟩
 |some a=>
  obtain⟨i0,hi0,hz0,hz1,hz2⟩:=info_parts info5
  obtain⟨q,d,w',h1,h2,h3⟩:=clone_app (w:=w) (a:=a) (n:=n) (c:=c) (news:=xs.map (Value.int .u8)) Tryz.underlying87 hi0 hz0 hz1 hz2 rfl (by decide) (by simp[hx]) (by
   intro j u hj
   have hj1:j<xs.length:=by have:=(List.getElem?_eq_some_iff.mp hj).1;simpa using this
   obtain⟨b,o,e,hc⟩:=hi.at (by omega)
   cases e
   rw[WideShapes.add_plain,hc j (by omega)]
   rw[List.getElem?_map,List.getElem?_eq_getElem hj1]at hj
   rw[List.getD_eq_getElem?_getD,List.getElem?_eq_getElem hj1]
   exact hj) (by simp[Value.oneCell']) (by unfold maxLen;omega) (by omega)
  have HR:=Lib.hid h1
  have HO:=Lib.hid h2
  have HB:=Lib.hid h3
  clear h1 h2 h3 hi hx hpc hi0 hz0 hz1 hz2
  have hq:=λ w=>Lib.run_eql_slice_nil (P:=Tryz.prog) w 87 5 (some a) n c 0 0 Tryz.underlying87
  simp only[Option.isNone_some]at hq
  go_enter Tryz.func180,Tryz.ntmps180
  go_wp2_with (at_builtin;refine Lib.wpList_append_run _ rfl _ _ _ _ rfl (.slice (some ⟨w.heap.size,0,none⟩) 0 0) (.slice (some a) n c) rfl rfl _ _ (HR.out _) ?_)
  go_ret
  exact⟨q,d,rfl,HO.out,HB.out⟩
set_option maxHeartbeats 2000000 in
theorem mclone_any {base:Nat} (p:Option Addr) (n c:Nat) (ms:List Mk) (w:World) (h:ORow w base 249 2 p n c (flatM ms)) (hbig:n≤1000000):
  Calls Tryz.prog 181 #[.slice p n c] w (OutR 249 2 n (flatM ms) w):=by
 have hml:n=ms.length:=by have:=h.len;rw[flatM_length]at this;omega
 cases p with
 |none=>
  have h0:n=0:=by have:=h.non rfl;have:=h.cap;omega
  subst h0
  obtain rfl:ms=[]:=List.eq_nil_of_length_eq_zero hml.symm
  clear h hml
  have hq:=λ w=>Lib.run_eql_slice_nil (P:=Tryz.prog) w 223 249 none 0 c 0 0 Tryz.underlying223
  simp only[Option.isNone_none]at hq
  go_enter Tryz.func181,Tryz.ntmps181
  go_wp2_with fail
  go_ret
  exact⟨none,0,rfl,orow_nil _ _ _ _,Below.refl _ _⟩
 |some a=>
  obtain⟨i0,hi0,hz0,hz1,hz2⟩:=info_parts infoM
  obtain⟨q,d,w',h1,h2,h3⟩:=clone_app (w:=w) (a:=a) (n:=n) (c:=c) (news:=flatM ms) Tryz.underlying223 hi0 hz0 hz1 hz2 rfl (by decide) (by rw[flatM_length,hml]) (by
   intro j u hj
   obtain⟨b,o,cur,rfl,_,hh,_,hc⟩:=h.som a rfl
   rw[WideShapes.add_plain]
   simp only[World.cell?,hh]
   exact hc j u hj) (flatM_one _) (by unfold maxLen;omega) (by omega)
  have HR:=Lib.hid h1
  have HO:=Lib.hid h2
  have HB:=Lib.hid h3
  clear h1 h2 h3 h hml hi0 hz0 hz1 hz2
  have hq:=λ w=>Lib.run_eql_slice_nil (P:=Tryz.prog) w 223 249 (some a) n c 0 0 Tryz.underlying223
  simp only[Option.isNone_some]at hq
  go_enter Tryz.func181,Tryz.ntmps181
  go_wp2_with (at_builtin;refine Lib.wpList_append_run _ rfl _ _ _ _ rfl (.slice (some ⟨w.heap.size,0,none⟩) 0 0) (.slice (some a) n c) rfl rfl _ _ (HR.out _) ?_)
  go_ret
  exact⟨q,d,rfl,HO.out,HB.out⟩
end Go.Proofs.YtdighjgcnaajgaaGreat.gc
