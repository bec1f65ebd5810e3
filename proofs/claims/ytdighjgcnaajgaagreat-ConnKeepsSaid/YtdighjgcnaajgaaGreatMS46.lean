import Derived.Test.YtdighjgcnaajgaaGreatMS45
namespace Go.Proofs.YtdighjgcnaajgaaGreat
open Go.RowKit
section
variable {w w':World} {U:Own} {g ch:Nat} {p:Option Addr} {cap:Nat} {k:Lk} {c':Ch} {M M':Nat}
theorem lstp_on (h:LAt w U g ch p cap k M) (hb:Below w.heap.size w w') (hM:M≤M') (hf:M'≤400000):LStp w (blkL g p U) g k M' w':=⟨_,⟨U,ch,p,cap,(h.on hb).more hM hf,rfl⟩,(Mvd.refl w _).on hb⟩
theorem LStp.pre {V:Own} (hb:Below w.heap.size w w') {w'':World} (h:LStp w' V g k M w''):LStp w V g k M w'':=by
 obtain⟨V',h1,h2⟩:=h
 exact⟨V',h1,((Mvd.refl w V).on hb).trans h2⟩
theorem chk_l (t:Tox) (ht:t.s.size≤maxLen) (W:World):Calls Tryz.prog 50 #[.agg #[.string t.s,.int .i64 t.k,.bool t.up,.int .i64 t.o,.int .i64 t.a,.int .i64 t.b]] W λ e w'=>e=.returned (.int .i64 t.chk)∧Below W.heap.size W w':=gx.check_any t.s ht t.k t.up t.o t.a t.b W
set_option maxRecDepth 100000 in
set_option maxHeartbeats 8000000 in
theorem add_l (h:LAt w U g ch p cap k M) (t:Tox) (ht:t.s.size≤maxLen) (now:Int) (hM:M+t.s.size≤M') (hf:M'≤400000):
  Calls Tryz.prog 53 #[ptr g,t.v,.int .i64 now] w λ e w'=>e=.returned (.int .i64 (k.addE t now))∧LStp w (blkL g p U) g (k.addK t now) M' w':=by
 obtain⟨w1,hw1⟩:∃w1,w.alloc (toxObj t)=w1:=⟨_,rfl⟩
 have hal:Below w.heap.size w w1:=by rw[←hw1];exact(Below.refl _ _).alloc (Nat.le_refl _) _
 have hnew:w1.heap[w.heap.size]?=some (toxObj t):=by rw[←hw1];exact heap_alloc_new w _
 have HC:=Lib.hid (chk_l t ht w1)
 have HL:=Lib.hid (λ (W:World) (hb:Below w1.heap.size w1 W)=>(⟨h.on (hal.trans (hb.mono hal.size)),hal.trans (hb.mono hal.size),(hb.block _ (gb.blk_lt hnew)).trans hnew⟩:LAt W U g ch p cap k M∧Below w.heap.size w W∧W.heap[w.heap.size]?=some (toxObj t)))
 have HSK:=Lib.hid (λ (W:World) (hb:Below w.heap.size w W)=>lstp_on h hb (M':=M') (by omega) hf)
 have HDR:=Lib.hid (λ (W:World) (hb:Below w.heap.size w W) (hc:t.chk=0)=>(show Calls Tryz.prog 90 #[ptr g,t.v,.int .i64 now] W λ e w'=>e=.returned (.int .i64 (k.drawE t now))∧LStp w (blkL g p U) g (k.drawK t now) M' w' from by
  have hcn:=Lk.chk_name hc
  refine(draw_l (h.on hb) t hc now (M':=M') (by omega) hf).mono ?_
  rintro e w' ⟨rfl,hs⟩
  exact⟨rfl,hs.pre hb⟩))
 have HADD:Hid ((t.chk≠0→k.addE t now=t.chk∧k.addK t now=k)∧(t.chk=0→t.up≠k.up→k.addE t now=0∧k.addK t now=k)∧(t.chk=0→t.up=k.up→Lib.containsS k.names t.s=true→k.addE t now=141∧k.addK t now=k)∧(t.chk=0→t.up=k.up→Lib.containsS k.names t.s=false→k.addE t now=k.drawE t now∧k.addK t now=k.drawK t now)):=by
  unfold Lk.addE Lk.addK
  refine⟨λ h1=>?_,λ h1 h2=>?_,λ h1 h2 h3=>?_,λ h1 h2 h3=>?_⟩
  ·rw[if_pos (Or.inl h1),if_pos (Or.inl h1)];exact⟨rfl,rfl⟩
  ·rw[if_pos (Or.inr h2),if_pos (Or.inr h2),h1];exact⟨rfl,rfl⟩
  ·have hn:¬(t.chk≠0∨t.up≠k.up):=λ e=>e.elim (λ e=>e h1) (λ e=>e h2)
   rw[if_neg hn,if_neg hn,if_pos h3,if_pos h3];exact⟨rfl,rfl⟩
  ·have hn:¬(t.chk≠0∨t.up≠k.up):=λ e=>e.elim (λ e=>e h1) (λ e=>e h2)
   have h3':¬Lib.containsS k.names t.s=true:=by rw[h3];decide
   rw[if_neg hn,if_neg hn,if_neg h3',if_neg h3'];exact⟨rfl,rfl⟩
 have HCN:=Lib.hid (λ (W:World) (hb:Below w.heap.size w W)=>contains_l (h.on hb) t.s)
 unfold Tox.v at HDR⊢
 unfold toxObj at hnew hw1 HL
 have u0:=cell_of_row w1 _ 0 _ _ _ hnew
 have u1:=cell_of_row w1 _ 1 _ _ _ hnew
 have u2:=cell_of_row w1 _ 2 _ _ _ hnew
 have u3:=cell_of_row w1 _ 3 _ _ _ hnew
 have u4:=cell_of_row w1 _ 4 _ _ _ hnew
 have u5:=cell_of_row w1 _ 5 _ _ _ hnew
 clear h hal hnew
 go_enter Tryz.func53,Tryz.ntmps53
 go_wp2_with fail
 refine HC.out.mono ?_
 rintro e w2 ⟨rfl,hb⟩
 obtain⟨h2,hb2,hn2⟩:=HL.out w2 hb
 have HB2:=Lib.hid hb2
 clear HC hb hb2 u0 u1 u2 u3 u4 u5 hw1
 have u0:=cell_of_row w2 _ 0 _ _ _ hn2
 have u1:=cell_of_row w2 _ 1 _ _ _ hn2
 have u2:=cell_of_row w2 _ 2 _ _ _ hn2
 have u3:=cell_of_row w2 _ 3 _ _ _ hn2
 have u4:=cell_of_row w2 _ 4 _ _ _ hn2
 have u5:=cell_of_row w2 _ 5 _ _ _ hn2
 have y1:w2.cell? ⟨g,1,none⟩=some (.bool k.up):=h2.cell 1
 have y4:w2.cell? ⟨g,4,none⟩=some (.slice p k.names.length cap):=h2.cell 4
 have H2:=Lib.hid h2
 have HN2:=Lib.hid hn2
 clear h2 hn2 HL
 by_cases h0:t.chk=0
 ·by_cases hu:t.up=k.up
  ·have d2:(t.up !=k.up)=false:=by simp[hu]
   obtain⟨B,hB⟩:∃B,Lib.containsS k.names t.s=B:=⟨_,rfl⟩
   rw[hB]at HCN
   have HQ:=Lib.hid (And.intro h0 (And.intro hu hB))
   rw[h0]
   have d3:(t.up==k.up)=true:=by simp[hu]
   clear h0 hu hB
   go_wp2_with fail
   go_quiet (fail)
   go_wp2_with fail
   have l3:=H2.out.on (gc.below_drewN w2 nq)
   have b3:Below w.heap.size w (w2.drewN nq):=HB2.out.trans ((gc.below_drewN w2 nq).mono HB2.out.size)
   have n3:=((gc.below_drewN w2 nq).block _ (gb.blk_lt HN2.out)).trans HN2.out
   clear u0 u1 u2 u3 u4 u5 y1 y4 H2 HN2 HB2
   generalize w2.drewN nq=w3 at*
   have u0:=cell_of_row w3 _ 0 _ _ _ n3
   have u1:=cell_of_row w3 _ 1 _ _ _ n3
   have u2:=cell_of_row w3 _ 2 _ _ _ n3
   have u3:=cell_of_row w3 _ 3 _ _ _ n3
   have u4:=cell_of_row w3 _ 4 _ _ _ n3
   have u5:=cell_of_row w3 _ 5 _ _ _ n3
   have y4:w3.cell? ⟨g,4,none⟩=some (.slice p k.names.length cap):=l3.cell 4
   have HBN:=Lib.hid (λ n=>b3.trans ((gc.below_drewN w3 n).mono b3.size))
   have HCQ:=Lib.hid (λ n=>(HCN.out _ (HBN.out n)).mono λ e w'' (h:e=_∧w''=w3.drewN n)=>(⟨h.1,n,h.2⟩:e=_∧∃m,w''=w3.drewN m))
   clear l3 n3 b3 HCN
   go_quiet ((go_at_call 51;exact HCQ.out _))
   cases B with
   |true=>
    go_wp2_with fail
    go_ret
    obtain⟨e1,e2⟩:=HADD.out.2.2.1 HQ.out.1 HQ.out.2.1 HQ.out.2.2
    rw[e1,e2]
    exact⟨rfl,HSK.out _ (HBN.out _)⟩
   |false=>
    go_wp2_with fail
    refine(HDR.out _ (HBN.out _) HQ.out.1).mono ?_
    rintro e w4 ⟨rfl,hs⟩
    have HS4:=Lib.hid hs
    clear hs
    go_wp2_with fail
    go_ret
    obtain⟨e1,e2⟩:=HADD.out.2.2.2 HQ.out.1 HQ.out.2.1 HQ.out.2.2
    rw[e1,e2]
    exact⟨rfl,HS4.out⟩
  ·have d2:(t.up !=k.up)=true:=by simpa using hu
   have HQ:=Lib.hid (And.intro h0 hu)
   rw[h0]
   have d3:(t.up==k.up)=false:=by simpa using hu
   clear h0 hu
   go_wp2_with fail
   go_quiet (fail)
   go_wp2_with fail
   go_ret
   obtain⟨e1,e2⟩:=HADD.out.2.1 HQ.out.1 HQ.out.2
   rw[e1,e2]
   exact⟨rfl,HSK.out _ (HB2.out.trans ((gc.below_drewN w2 nq).mono HB2.out.size))⟩
 ·have HQ:=Lib.hid h0
  have d1:(t.chk !=0)=true:=by simpa using h0
  have d3:decide (t.chk=0)=false:=by simpa using h0
  generalize t.chk=X at*
  clear h0
  go_wp2_with fail
  go_quiet (fail)
  go_wp2_with fail
  go_ret
  obtain⟨e1,e2⟩:=HADD.out.1 HQ.out
  rw[e1,e2]
  exact⟨rfl,HSK.out _ (HB2.out.trans ((gc.below_drewN w2 nq).mono HB2.out.size))⟩
end
end Go.Proofs.YtdighjgcnaajgaaGreat
namespace Go.Proofs.YtdighjgcnaajgaaGreat
open Go.RowKit
theorem txL_len (c:Ch) (n:Nat):(txL c n).length=n:=by simp[txL]
theorem txL_at (c:Ch) {n i:Nat} (h:i<n):(txL c n).getD i noTox=(c.at' (i+1)).s.tx:=by
 unfold txL
 rw[List.getD_eq_getElem?_getD,List.getElem?_map,List.getElem?_range h]
 rfl
theorem flat_at (l:List Tox) {i j:Nat} (hi:i<l.length) (hj:j<6):(flatT l)[i*6+j]?=(cellsT (l.getD i noTox))[j]?:=by
 induction l generalizing i with
 |nil=>cases hi
 |cons a r ih=>
  have e:flatT (a::r)=cellsT a++flatT r:=rfl
  have hc:(cellsT a).length=6:=rfl
  rw[e]
  cases i with
  |zero=>
   rw[List.getElem?_append_left (by omega),Nat.zero_mul,Nat.zero_add]
   rfl
  |succ i=>
   rw[List.getElem?_append_right (by omega),show(i+1)*6+j -(cellsT a).length=i*6+j by omega,ih (by simpa using hi)]
   rfl
theorem tox_at {w:World} {base n d:Nat} {a:Option Addr} {l:List Tox} (h:gc.ORow w base 46 6 a n d (flatT l)) (hl:l.length=n) {i:Nat} (hi:i<n):∃b o,a=some ⟨b,o,none⟩∧n≤d∧d≤9223372036854775807∧
  w.cell? ⟨b,o+i*6,none⟩=some (.string (l.getD i noTox).s)∧w.cell? ⟨b,o+(i*6+1),none⟩=some (.int .i64 (l.getD i noTox).k)∧w.cell? ⟨b,o+(i*6+2),none⟩=some (.bool (l.getD i noTox).up)∧w.cell? ⟨b,o+(i*6+3),none⟩=some (.int .i64 (l.getD i noTox).o)∧w.cell? ⟨b,o+(i*6+4),none⟩=some (.int .i64 (l.getD i noTox).a)∧w.cell? ⟨b,o+(i*6+5),none⟩=some (.int .i64 (l.getD i noTox).b):=by
 obtain⟨b,o,hp,hc⟩:=h.at (by omega)
 have hm:=h.max
 unfold maxLen at hm
 have key:∀j,j<6→∀v,(cellsT (l.getD i noTox))[j]?=some v→w.cell? ⟨b,o+(i*6+j),none⟩=some v:=λ j hj v hv=>hc _ _ (by rw[flat_at l (by omega) hj];exact hv)
 exact⟨b,o,hp,h.cap,by omega,key 0 (by decide) _ rfl,key 1 (by decide) _ rfl,key 2 (by decide) _ rfl,key 3 (by decide) _ rfl,key 4 (by decide) _ rfl,key 5 (by decide) _ rfl⟩
section
variable {w w':World} {U:Own} {g ch:Nat} {p:Option Addr} {cap:Nat} {k:Lk} {c':Ch} {M M':Nat}
set_option maxRecDepth 100000 in
set_option maxHeartbeats 8000000 in
theorem chg_l (h:LAt w U g ch p cap k M) (t:Tox) (ht:t.s.size≤maxLen) (now:Int):
  Calls Tryz.prog 76 #[ptr g,t.v,.int .i64 now] w λ e w'=>e=.returned (.int .i64 (k.chgE t now))∧LStp w (blkL g p U) g (k.chgK t now) M w':=by
 obtain⟨w1,hw1⟩:∃w1,w.alloc (toxObj t)=w1:=⟨_,rfl⟩
 have hal:Below w.heap.size w w1:=by rw[←hw1];exact(Below.refl _ _).alloc (Nat.le_refl _) _
 have hnew:w1.heap[w.heap.size]?=some (toxObj t):=by rw[←hw1];exact heap_alloc_new w _
 have HC:=Lib.hid (chk_l t ht w1)
 have HL:=Lib.hid (λ (W:World) (hb:Below w1.heap.size w1 W)=>(⟨h.on (hal.trans (hb.mono hal.size)),hal.trans (hb.mono hal.size),(hb.block _ (gb.blk_lt hnew)).trans hnew⟩:LAt W U g ch p cap k M∧Below w.heap.size w W∧W.heap[w.heap.size]?=some (toxObj t)))
 have HSK:=Lib.hid (λ (W:World) (hb:Below w.heap.size w W)=>lstp_on h hb (Nat.le_refl M) h.top)
 have HADD:Hid ((t.chk≠0→k.chgE t now=t.chk∧k.chgK t now=k)∧(t.chk=0→t.up≠k.up→k.chgE t now=0∧k.chgK t now=k)∧(t.chk=0→t.up=k.up→k.idx t.s<0→k.chgE t now=142∧k.chgK t now=k)∧
   (t.chk=0→t.up=k.up→¬k.idx t.s<0→(k.c.at' ((k.idx t.s).toNat+1)).s.tx=noTox→k.chgE t now=0∧k.chgK t now=k)∧(t.chk=0→t.up=k.up→¬k.idx t.s<0→(k.c.at' ((k.idx t.s).toNat+1)).s.tx≠noTox→k.chgE t now=(k.c.doA (Lk.oUpd now (k.idx t.s) t)).e∧k.chgK t now={k with c:=k.c.doN (Lk.oUpd now (k.idx t.s) t)})):=by
  unfold Lk.chgE Lk.chgK
  have hn:t.chk=0→t.up=k.up→¬(t.chk≠0∨t.up≠k.up):=λ h1 h2 e=>e.elim (λ e=>e h1) (λ e=>e h2)
  refine⟨λ h1=>?_,λ h1 h2=>?_,λ h1 h2 h3=>?_,λ h1 h2 h3 h4=>?_,λ h1 h2 h3 h4=>?_⟩
  ·rw[if_pos (Or.inl h1),if_pos (Or.inl h1)];exact⟨rfl,rfl⟩
  ·rw[if_pos (Or.inr h2),if_pos (Or.inr h2),h1];exact⟨rfl,rfl⟩
  ·rw[if_neg (hn h1 h2),if_neg (hn h1 h2),if_pos h3,if_pos h3];exact⟨rfl,rfl⟩
  ·rw[if_neg (hn h1 h2),if_neg (hn h1 h2),if_neg h3,if_neg h3,if_pos h4,if_pos h4];exact⟨rfl,rfl⟩
  ·rw[if_neg (hn h1 h2),if_neg (hn h1 h2),if_neg h3,if_neg h3,if_neg h4,if_neg h4];exact⟨rfl,rfl⟩
 have HIX:=Lib.hid (λ (W:World) (hb:Below w.heap.size w W)=>index_l (h.on hb) t.s)
 have HIL:=Lib.hid (Lk.idx_lt k t.s)
 have hlen:=h.ok.len
 have hfew:=h.ok.few
 have HTX:=Lib.hid (λ (W:World) (hb:Below w.heap.size w W)=>(show Calls Tryz.prog 70 #[ptr ch] W (ToxOut k.c W)from toxics_v (h.on hb).chn))
 have HUP:=Lib.hid (λ (W:World) (hb:Below w.heap.size w W)=>(show Calls Tryz.prog 111 #[ptr ch,.int .i64 (k.idx t.s),t.v,.int .i64 now] W λ e w'=>e=.returned (.int .i64 (k.c.doA (Lk.oUpd now (k.idx t.s) t)).e)∧LStp w (blkL g p U) g {k with c:=k.c.doN (Lk.oUpd now (k.idx t.s) t)} M w' from by
  refine(update_v (h.on hb).chn now (k.idx t.s) none0 t ht 0).mono ?_
  rintro e w' ⟨rfl,hs⟩
  have o1:=Lk.ok_chain h.ok (Lk.oUpd now (k.idx t.s) t) (by show(7:Int)≠5;decide) (by show(7:Int)≠6;decide)
  have o2:=Lk.bal_chain h.ok h.bal (Lk.oUpd now (k.idx t.s) t) (by show(7:Int)≠0;decide) (by show(7:Int)≠4;decide)
  exact⟨rfl,(lstp_chain (h.on hb) hs o1 o2).pre hb⟩))
 unfold Tox.v at HUP⊢
 unfold toxObj at hnew hw1 HL
 have u0:=cell_of_row w1 _ 0 _ _ _ hnew
 have u1:=cell_of_row w1 _ 1 _ _ _ hnew
 have u2:=cell_of_row w1 _ 2 _ _ _ hnew
 have u3:=cell_of_row w1 _ 3 _ _ _ hnew
 have u4:=cell_of_row w1 _ 4 _ _ _ hnew
 have u5:=cell_of_row w1 _ 5 _ _ _ hnew
 clear h hal hnew
 go_enter Tryz.func76,Tryz.ntmps76
 go_wp2_with fail
 refine HC.out.mono ?_
 rintro e w2 ⟨rfl,hb⟩
 obtain⟨h2,hb2,hn2⟩:=HL.out w2 hb
 have HB2:=Lib.hid hb2
 clear HC hb hb2 u0 u1 u2 u3 u4 u5 hw1
 have u2:=cell_of_row w2 _ 2 _ _ _ hn2
 have y1:w2.cell? ⟨g,1,none⟩=some (.bool k.up):=h2.cell 1
 have H2:=Lib.hid h2
 have HN2:=Lib.hid hn2
 clear h2 hn2 HL
 by_cases h0:t.chk=0
 ·by_cases hu:t.up=k.up
  ·have d2:(t.up !=k.up)=false:=by simp[hu]
   have HQ:=Lib.hid (And.intro h0 hu)
   rw[h0]
   have d3:(t.up==k.up)=true:=by simp[hu]
   clear h0 hu
   go_wp2_with fail
   go_quiet (fail)
   go_wp2_with fail
   have l3:=H2.out.on (gc.below_drewN w2 nq)
   have b3:Below w.heap.size w (w2.drewN nq):=HB2.out.trans ((gc.below_drewN w2 nq).mono HB2.out.size)
   have n3:=((gc.below_drewN w2 nq).block _ (gb.blk_lt HN2.out)).trans HN2.out
   clear u2 y1 H2 HN2 HB2
   generalize w2.drewN nq=w3 at*
   have u0:=cell_of_row w3 _ 0 _ _ _ n3
   have y4:w3.cell? ⟨g,4,none⟩=some (.slice p k.names.length cap):=l3.cell 4
   have HBN:=Lib.hid (λ n=>b3.trans ((gc.below_drewN w3 n).mono b3.size))
   have HCQ:=Lib.hid (λ n=>(HIX.out _ (HBN.out n)).mono λ e w'' (h:e=_∧w''=w3.drewN n)=>(⟨h.1,n,h.2⟩:e=_∧∃m,w''=w3.drewN m))
   have H3:=Lib.hid l3
   have HN3:=Lib.hid n3
   clear l3 n3 b3 HIX
   obtain⟨X,hX⟩:∃X,k.idx t.s=X:=⟨_,rfl⟩
   rw[hX]at HCQ HIL HADD HUP
   clear hX
   go_quiet ((go_at_call 55;exact HCQ.out _))
   clear u0 y4 HCQ
   have l4:=H3.out.on (gc.below_drewN w3 nq)
   have b4:=HBN.out nq
   have n4:=((gc.below_drewN w3 nq).block _ (gb.blk_lt HN3.out)).trans HN3.out
   clear H3 HN3 HBN
   generalize w3.drewN nq=w4 at*
   have HB4:=Lib.hid b4
   have z0:w4.cell? ⟨g,0,none⟩=some (ptr ch):=l4.cell 0
   have HN4:=Lib.hid n4
   have H4:=Lib.hid l4
   clear l4 b4 n4
   by_cases hi:X<0
   ·have d1:decide (X<0)=true:=decide_eq_true hi
    have HI:=Lib.hid hi
    clear hi HTX HUP z0
    go_wp2_with fail
    go_ret
    obtain⟨e1,e2⟩:=HADD.out.2.2.1 HQ.out.1 HQ.out.2 HI.out
    rw[e1,e2]
    exact⟨rfl,HSK.out _ HB4.out⟩
   ·obtain⟨i,hin⟩:∃i:Nat,X=(i:Int):=⟨X.toNat,by omega⟩
    subst hin
    have hil:i<k.names.length:=by have:=HIL.out;omega
    have HI:=Lib.hid hi
    rw[Int.toNat_natCast]at HADD
    have d1:decide ((i:Int)<0)=false:=decide_eq_false hi
    clear hi HIL
    obtain⟨tx,htx⟩:∃tx,(k.c.at' (i+1)).s.tx=tx:=⟨_,rfl⟩
    rw[htx]at HADD
    go_upto_region 7 with fail
    go_cut[41]from 32 (λ v41 wc=>v41=.bool (decide (tx=noTox))∧LAt wc U g ch p cap k M∧Below w.heap.size w wc∧wc.heap[w.heap.size]?=some (.cells #[.string t.s,.int .i64 t.k,.bool t.up,.int .i64 t.o,.int .i64 t.a,.int .i64 t.b] 46 (0,0)))
    case first=>
     go_wp2_with fail
     refine(HTX.out _ HB4.out).mono ?_
     unfold ToxOut
     rintro e w5 ⟨a,d,rfl,hr,hb5⟩
     rw[show k.c.L.length -2=k.names.length by omega]at hr⊢
     obtain⟨b,o,rfl,hnd,hd9,c0,c1,c2,c3,c4,c5⟩:=tox_at hr (txL_len _ _) hil
     rw[txL_at _ hil,htx]at c0 c1 c2 c3 c4 c5
     have HE:=Lib.hid (And.intro (H4.out.on hb5) (And.intro (HB4.out.trans (hb5.mono HB4.out.size)) ((hb5.block _ (gb.blk_lt HN4.out)).trans HN4.out)))
     rw[←Nat.add_assoc]at c1 c2 c3 c4 c5
     have hn8:k.names.length≤8:=hfew
     have HQQ:=Lib.hid htx
     clear hr hb5 HTX HUP HADD HSK H4 HN4 HB4 hlen hfew htx
     generalize k.names.length=n at*
     go_wp2_with fail
     all_goals (
      go_meet
      first
       |exact⟨congrArg Value.bool (decide_eq_false (p:=tx=noTox) (tox_ne (Or.inl (by assumption)))).symm,HE.out⟩
       |exact⟨congrArg Value.bool (decide_eq_false (p:=tx=noTox) (tox_ne (Or.inr (Or.inl (by assumption))))).symm,HE.out⟩
       |exact⟨congrArg Value.bool (decide_eq_false (p:=tx=noTox) (tox_ne (Or.inr (Or.inr (Or.inl (by assumption)))))).symm,HE.out⟩
       |exact⟨congrArg Value.bool (decide_eq_false (p:=tx=noTox) (tox_ne (Or.inr (Or.inr (Or.inr (Or.inl (by assumption))))))).symm,HE.out⟩
       |exact⟨congrArg Value.bool (decide_eq_false (p:=tx=noTox) (tox_ne (Or.inr (Or.inr (Or.inr (Or.inr (Or.inl (by assumption)))))))).symm,HE.out⟩
       |exact⟨congrArg Value.bool (decide_eq_false (p:=tx=noTox) (tox_ne (Or.inr (Or.inr (Or.inr (Or.inr (Or.inr (by assumption)))))))).symm,HE.out⟩
       |exact⟨congrArg Value.bool (decide_eq_true (p:=tx=noTox) (tox_eq (by assumption) (by assumption) (by assumption) (by assumption) (by assumption) (by assumption))).symm,HE.out⟩)
    case rest=>
     obtain⟨rfl,l5,b5,n5⟩:=hcut
     have HB5:=Lib.hid b5
     have hU5:=HUP.out (wc.drew) (b5.trans ((Below.refl _ wc).drew.mono b5.size))
     have HU5:=Lib.hid hU5
     have z0:wc.cell? ⟨g,0,none⟩=some (ptr ch):=l5.cell 0
     have u0:=cell_of_row wc _ 0 _ _ _ n5
     have u1:=cell_of_row wc _ 1 _ _ _ n5
     have u2:=cell_of_row wc _ 2 _ _ _ n5
     have u3:=cell_of_row wc _ 3 _ _ _ n5
     have u4:=cell_of_row wc _ 4 _ _ _ n5
     have u5:=cell_of_row wc _ 5 _ _ _ n5
     clear l5 b5 n5 hU5 HUP HTX H4 HN4 HB4
     by_cases htn:tx=noTox
     ·rw[decide_eq_true htn]
      have HT:=Lib.hid htn
      clear htn HU5
      go_wp2_with fail
      go_ret
      obtain⟨e1,e2⟩:=HADD.out.2.2.2.1 HQ.out.1 HQ.out.2 HI.out HT.out
      rw[e1,e2]
      exact⟨rfl,HSK.out _ HB5.out⟩
     ·rw[decide_eq_false htn]
      have HT:=Lib.hid htn
      clear htn
      go_upto_region 9 with fail
      refine wp_region_still_tail 7 (by kernel_rfl) (by kernel_rfl) ?_
      simp only[List.take_succ_cons,List.take_zero,List.drop_succ_cons,List.drop_zero]
      repeat still_step
      refine wpStill_nil ?_
      go_wp2_with fail
      refine HU5.out.mono ?_
      rintro e w6 ⟨rfl,hs⟩
      have HS6:=Lib.hid hs
      clear hs HU5
      go_wp2_with fail
      go_ret
      obtain⟨e1,e2⟩:=HADD.out.2.2.2.2 HQ.out.1 HQ.out.2 HI.out HT.out
      rw[e1,e2]
      exact⟨rfl,HS6.out⟩
  ·have d2:(t.up !=k.up)=true:=by simpa using hu
   have HQ:=Lib.hid (And.intro h0 hu)
   rw[h0]
   have d3:(t.up==k.up)=false:=by simpa using hu
   clear h0 hu
   go_wp2_with fail
   go_quiet (fail)
   go_wp2_with fail
   go_ret
   obtain⟨e1,e2⟩:=HADD.out.2.1 HQ.out.1 HQ.out.2
   rw[e1,e2]
   exact⟨rfl,HSK.out _ (HB2.out.trans ((gc.below_drewN w2 nq).mono HB2.out.size))⟩
 ·have HQ:=Lib.hid h0
  have d1:(t.chk !=0)=true:=by simpa using h0
  have d3:decide (t.chk=0)=false:=by simpa using h0
  generalize t.chk=X at*
  clear h0
  go_wp2_with fail
  go_quiet (fail)
  go_wp2_with fail
  go_ret
  obtain⟨e1,e2⟩:=HADD.out.1 HQ.out
  rw[e1,e2]
  exact⟨rfl,HSK.out _ (HB2.out.trans ((gc.below_drewN w2 nq).mono HB2.out.size))⟩
end
end Go.Proofs.YtdighjgcnaajgaaGreat
