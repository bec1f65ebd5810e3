import Derived.Test.YtdighjgcnaajgaaGreatMS44
import Derived.Test.YtdighjgcnaajgaaGreatMS20
import Derived.Deep.RegionLaw
import Derived.Lib.AppendZeros
import Derived.Deep.RegionHeldLaw
namespace Go.Proofs.YtdighjgcnaajgaaGreat
open Go.RowKit
section
variable {w w':World} {U:Own} {g ch:Nat} {p:Option Addr} {cap:Nat} {k:Lk} {M M':Nat}
section
variable {ns:List ByteArray} {base:Nat}
theorem row_strs (h:gc.ORow w base 9 1 p ns.length cap (ns.map Value.string)):0<ns.length→∃b o,p=some ⟨b,o,none⟩∧∀j,j<ns.length→w.cell? ⟨b,o+j,none⟩=some (.string (ns.getD j ByteArray.empty)):=λ hn=>by
 obtain⟨b,o,hp,hc⟩:=h.at hn
 refine⟨b,o,hp,λ j hj=>hc j _ ?_⟩
 rw[List.getElem?_map,List.getElem?_eq_getElem hj,List.getD_eq_getElem?_getD,List.getElem?_eq_getElem hj]
 rfl
theorem index_r (h:gc.ORow w base 9 1 p ns.length cap (ns.map Value.string)) (hf:ns.length≤16) (s:ByteArray):Calls Tryz.prog 55 #[.slice p ns.length cap,.string s] w λ e w'=>e=.returned (.int .i64 (Lib.idxOfS ns s))∧w'=w:=by
 rcases Nat.eq_zero_or_pos ns.length with h0|h0
 ·rw[h0,List.eq_nil_of_length_eq_zero h0]
  exact Tryz.slices_Index_string_empty p cap s w
 ·obtain⟨b,o,rfl,hc⟩:=row_strs h h0
  have:=Tryz.slices_Index_string b o ns.length cap ns s w (Nat.le_refl _) (by omega) hc
  rw[List.take_length]at this
  exact this
theorem contains_r (h:gc.ORow w base 9 1 p ns.length cap (ns.map Value.string)) (hf:ns.length≤16) (s:ByteArray):Calls Tryz.prog 51 #[.slice p ns.length cap,.string s] w λ e w'=>e=.returned (.bool (Lib.containsS ns s))∧w'=w:=by
 rcases Nat.eq_zero_or_pos ns.length with h0|h0
 ·rw[h0,List.eq_nil_of_length_eq_zero h0]
  exact Tryz.slices_Contains_string_empty p cap s w
 ·obtain⟨b,o,rfl,hc⟩:=row_strs h h0
  have:=Tryz.slices_Contains_string b o ns.length cap ns s w (Nat.le_refl _) (by omega) hc
  rw[List.take_length]at this
  exact this
end
theorem index_l (h:LAt w U g ch p cap k M) (s:ByteArray):Calls Tryz.prog 55 #[.slice p k.names.length cap,.string s] w λ e w'=>e=.returned (.int .i64 (k.idx s))∧w'=w:=
 index_r h.row (by have:=h.ok.few;omega) s
theorem contains_l (h:LAt w U g ch p cap k M) (s:ByteArray):Calls Tryz.prog 51 #[.slice p k.names.length cap,.string s] w λ e w'=>e=.returned (.bool (Lib.containsS k.names s))∧w'=w:=
 contains_r h.row (by have:=h.ok.few;omega) s
theorem names_row {w:World} {b o m c:Nat} {ns:List ByteArray} {cur:Array Value} (hb:w.heap[b]?=some (.cells cur 9 (0,0))) (hsz:o+c≤cur.size) (hl:ns.length=m) (hm:m≤c) (hmx:c≤maxLen) (hc:∀j,j<m→w.cell? ⟨b,o+j,none⟩=some (.string (ns.getD j ByteArray.empty))):gc.ORow w 0 9 1 (some ⟨b,o,none⟩) m c (ns.map Value.string):=by
 refine⟨by rw[List.length_map,hl,Nat.mul_one],hm,hmx,(λ e=>by cases e),λ a e=>?_⟩
 cases e
 refine⟨b,o,cur,rfl,Nat.zero_le _,hb,by rw[Nat.mul_one];exact hsz,λ j v hj=>?_⟩
 have hjl:=(List.getElem?_eq_some_iff.1 hj).1
 rw[List.length_map]at hjl
 have e:cur[o+j]?=some (.string (ns.getD j ByteArray.empty)):=by
  have:=hc j (by omega)
  simp only[World.cell?,hb]at this
  exact this
 rw[e,←hj,List.getElem?_map,List.getD_eq_getElem?_getD,List.getElem?_eq_getElem hjl]
 rfl
theorem del_getD (ns:List ByteArray) {i:Nat} (hi:i+1≤ns.length) (j:Nat):(ns.take i++ns.drop (i+1)).getD j ByteArray.empty=if j<i then ns.getD j ByteArray.empty else ns.getD (j+1) ByteArray.empty:=by
 have hl:(ns.take i).length=i:=by rw[List.length_take];omega
 rw[List.getD_eq_getElem?_getD]
 split
 ·rename_i h
  rw[List.getElem?_append_left (by omega),List.getElem?_take_of_lt h,List.getD_eq_getElem?_getD]
 ·rename_i h
  rw[List.getElem?_append_right (by omega),hl,List.getElem?_drop,show i+1+(j -i)=j+1 by omega,List.getD_eq_getElem?_getD]
theorem setCells_at (b:Nat) (vs:List Value) (o:Nat) (w:World) {cur:Array Value} {T:TypeId} (hb:w.heap[b]?=some (.cells cur T (0,0))) (hs:o+vs.length≤cur.size) (j:Nat) (hj:j<vs.length):(w.setCells b o vs).cell? ⟨b,o+j,none⟩=some vs[j]:=
 World.cell?_setCells_in b vs o w (λ t ht=>by
  simp only[World.cell?,hb]
  rw[Array.getElem?_eq_getElem (by omega)]
  rfl) j hj
def Less (w:World) (b:Nat) (ns:List ByteArray) (i m:Nat) (e:Ending) (w':World):Prop:=∃a c,e=.returned (.slice (some a) m c)∧gc.ORow w' 0 9 1 (some a) m c ((ns.take i++ns.drop (i+1)).map Value.string)∧w.grownBy w' (some b)∧a.block=b
theorem del_names {b o n c:Nat} {ns:List ByteArray} (h:gc.ORow w 0 9 1 (some ⟨b,o,none⟩) n c (ns.map Value.string)) (hl:ns.length=n) (h8:n≤16) {i:Nat} (hi:i<n):
  Calls Tryz.prog 56 #[.slice (some ⟨b,o,none⟩) n c,.int .i64 (i:Int),.int .i64 ((i:Int)+1)] w (Less w b ns i (n -1)):=by
 obtain⟨b',o',cur,e,_,hb,hsz,hcur⟩:=h.som _ rfl
 cases e
 rw[Nat.mul_one]at hsz
 have hcs:∀j,j<n→w.cell? ⟨b,o+j,none⟩=some (.string (ns.getD j ByteArray.empty)):=λ j hj=>by
  simp only[World.cell?,hb]
  refine hcur j _ ?_
  rw[List.getElem?_map,List.getElem?_eq_getElem (by omega),List.getD_eq_getElem?_getD,List.getElem?_eq_getElem (by omega)]
  rfl
 have hmx:=h.max
 have hcap:=h.cap
 have hmx':=hmx
 unfold maxLen at hmx'
 have hD:=Tryz.slices_Delete_string_cells b o n c i (i+1) (λ j=>ns.getD j ByteArray.empty) w hcap (by omega) (by omega) (by omega) hcs (λ j hj=>gb.frozen_at hb)
 rw[show((i+1:Nat):Int)=(i:Int)+1 from by omega]at hD
 refine hD.mono ?_
 rintro e w' ⟨rfl,q,rfl⟩
 obtain⟨vs,hvs⟩:∃vs,((Lib.strsOf (λ j=>ns.getD j ByteArray.empty) n).take i++(Lib.strsOf (λ j=>ns.getD j ByteArray.empty) n).drop (i+1)++List.replicate (i+1 -i) []).map encStr=vs:=⟨_,rfl⟩
 have hlen:vs.length=n:=by
  rw[←hvs,List.length_map,List.length_append,List.length_append,List.length_take,List.length_drop,Lib.strsOf_length,List.length_replicate]
  omega
 have hv:∀j (hj:j<n -1),vs[j]'(by omega)=.string ((ns.take i++ns.drop (i+1)).getD j ByteArray.empty):=λ j hj=>by
  have e1:vs[j]?=some (.string ((ns.take i++ns.drop (i+1)).getD j ByteArray.empty)):=by
   rw[←hvs,del_getD ns (by omega) j,List.getElem?_map,List.getElem?_append_left (by rw[List.length_append,List.length_take,List.length_drop,Lib.strsOf_length];omega)]
   split
   ·rename_i hji
    rw[List.getElem?_append_left (by rw[List.length_take,Lib.strsOf_length];omega),List.getElem?_take_of_lt hji]
    unfold Lib.strsOf
    rw[List.getElem?_map,List.getElem?_range (by omega)]
    rfl
   ·rename_i hji
    rw[List.getElem?_append_right (by rw[List.length_take,Lib.strsOf_length];omega),List.length_take,Lib.strsOf_length,List.getElem?_drop,show i+1+(j -min i n)=j+1 by omega]
    unfold Lib.strsOf
    rw[List.getElem?_map,List.getElem?_range (by omega)]
    rfl
  exact(List.getElem?_eq_some_iff.1 e1).2
 rw[hvs,show n -(i+1 -i)=n -1 by omega]
 have hbD:(w.drewN q).heap[b]?=some (.cells cur 9 (0,0)):=hb
 obtain⟨cur2,hb2,hs2⟩:=gc.setCells_blk vs o (w.drewN q) cur hbD
 have hg:=gc.setCells_grown (w.drewN q) b o vs
 refine⟨⟨b,o,none⟩,c,rfl,names_row hb2 (by omega) (by rw[List.length_append,List.length_take,List.length_drop];omega) (by omega) hmx λ j hj=>?_,⟨hg.os,hg.tape,hg.output,hg.size,hg.block⟩,rfl⟩
 rw[setCells_at b vs o (w.drewN q) hbD (by omega) j (by omega),hv j hj]
theorem LAt.renamed (h:LAt w U g ch p cap k M) {p':Option Addr} (hg:w.grownBy w' (p.map (·.block))) (hp:∀a,p'=some a→p.map (·.block)=some a.block∨w.heap.size≤a.block):
  w'.heap[g]?=some (.cells (lkC ch p cap k) 125 (0,0))∧CRep w' U ch k.c M∧Mvd w (blkL g p U) w' (blkL g p' U):=by
 have hne:∀i,i<w.heap.size→(∀a,p=some a→a.block≠i)→w'.heap[i]?=w.heap[i]?:=λ i hi hn=>hg.block i hi λ e=>by
  cases p with
  |none=>cases e
  |some a=>exact hn a rfl (by have e:some i=some a.block:=e;injection e with e;exact e.symm)
 refine⟨(hne g h.lg λ a e=>h.r_ne_g e).trans h.blk,crep_keep h.chn λ i hi=>hne i ((crep_lt h.chn).2 i hi) λ a e e'=>h.not_r e (by rw[e'];exact hi),⟨⟨hg.os,hg.tape,hg.output,hg.size,λ j hj=>absurd hj (Nat.not_lt_zero j)⟩,λ i hi hu=>hne i hi λ a e e'=>hu (Or.inr (Or.inl ⟨a,e,e'⟩))⟩,λ i hi=>?_⟩
 rcases hi with e|⟨a,e,rfl⟩|e
 ·exact Or.inl (Or.inl e)
 ·rcases hp a e with e'|e'
  ·cases p with
   |none=>cases e'
   |some x=>exact Or.inl (Or.inr (Or.inl ⟨x,rfl,by have e':some x.block=some a.block:=e';injection e'⟩))
  ·exact Or.inr e'
 ·exact Or.inl (Or.inr (Or.inr e))
theorem lat_names (hb:w.heap[g]?=some (.cells (lkC ch p cap k) 125 (0,0))) (hc:CRep w U ch k.c M) {p':Option Addr} {c:Nat} {ns:List ByteArray} (hr:gc.ORow w 0 9 1 p' ns.length c (ns.map Value.string)):
  (w.setCell ⟨g,4,none⟩ (.slice p' ns.length c)).heap[g]?=some (.cells (lkC ch p' c {k with names:=ns}) 125 (0,0))∧gc.ORow (w.setCell ⟨g,4,none⟩ (.slice p' ns.length c)) 0 9 1 p' ns.length c (ns.map Value.string)∧CRep (w.setCell ⟨g,4,none⟩ (.slice p' ns.length c)) U ch k.c M:=by
 have ho:∀j,j≠g→(w.setCell ⟨g,4,none⟩ (.slice p' ns.length c)).heap[j]?=w.heap[j]?:=λ j hj=>Below.heap_setCell _ _ _ _ hj
 refine⟨by simp[World.setCell,Array.getElem?_modify,hb],hr.keep λ a e=>ho _ λ e'=>?_,crep_keep hc λ i hi=>ho i λ e=>?_⟩
 ·obtain⟨cur,hcu⟩:=hr.typed a e
  rw[e']at hcu
  have:=gc.two_types hcu hb
  simp at this
 ·subst e
  exact crep_not hc hb (by decide) (by decide) (by decide) (by decide) (by decide) (by decide) (by decide) hi
theorem drop_no (h:LAt w U g ch p cap k M) (s:ByteArray) (now:Int) (hi:k.idx s<0):Calls Tryz.prog 54 #[ptr g,.string s,.int .i64 now] w λ e w'=>e=.returned (.int .i64 142)∧w=w':=by
 have x4:w.cell? ⟨g,4,none⟩=some (.slice p k.names.length cap):=h.cell 4
 have HI:=Lib.hid (index_l h s)
 generalize k.idx s=i at*
 have d1:decide (i<0)=true:=decide_eq_true hi
 generalize k.names.length=n at*
 clear h hi
 go_enter Tryz.func54,Tryz.ntmps54
 go_wp2_with fail
 refine HI.out.mono ?_
 rintro e w1 ⟨rfl,rfl⟩
 clear HI x4
 go_wp2_with fail
 go_ret
 exact⟨rfl,rfl⟩
set_option maxRecDepth 100000 in
set_option maxHeartbeats 4000000 in
theorem drop_yes (h:LAt w U g ch p cap k M) (s:ByteArray) (now:Int) (hi:¬k.idx s<0):Calls Tryz.prog 54 #[ptr g,.string s,.int .i64 now] w λ e w'=>e=.returned (.int .i64 0)∧LStp w (blkL g p U) g (k.dropK s now) M w':=by
 have hlt:=Lk.idx_lt k s hi
 obtain⟨o1,b1,e1⟩:=Lk.drop_ok h.ok h.bal s now
 have e1:=e1 hi
 have hfew:=h.ok.few
 obtain⟨hs1,hs2,hs3⟩:=h.strs
 obtain⟨b,o,rfl,_⟩:=hs1 (by omega)
 have x4:w.cell? ⟨g,4,none⟩=some (.slice (some ⟨b,o,none⟩) k.names.length cap):=h.cell 4
 have HI:=Lib.hid (index_l h s)
 obtain⟨i,hin⟩:∃i:Nat,k.idx s=(i:Int):=⟨(k.idx s).toNat,by omega⟩
 have hti:(k.idx s).toNat=i:=by omega
 rw[hti]at hlt
 have HD:=Lib.hid (del_names h.row rfl (Nat.le_trans hfew (by decide)) hlt)
 have hln:(k.names.take i++k.names.drop (i+1)).length=k.names.length -1:=by rw[List.length_append,List.length_take,List.length_drop];omega
 have HN:=Lib.hid (λ (w1:World) (a:Addr) (c:Nat) (hr:gc.ORow w1 0 9 1 (some a) (k.names.length -1) c ((k.names.take i++k.names.drop (i+1)).map Value.string)) (hg:w.grownBy w1 (some b)) (hab:a.block=b)=>(show(w1.frozen? ⟨g,4,none⟩=false∧g<w1.heap.size)∧(w1.cell? ⟨g,0,none⟩=some (ptr ch)∧w1.cell? ⟨g,4,none⟩=some (.slice (some ⟨b,o,none⟩) k.names.length cap))∧
   CRep (w1.setCell ⟨g,4,none⟩ (.slice (some a) (k.names.length -1) c)) U ch k.c M∧∀w3,CStp (w1.setCell ⟨g,4,none⟩ (.slice (some a) (k.names.length -1) c)) U ch (k.c.doN (Lk.oRem now (k.idx s))) M w3→LStp w (blkL g (some ⟨b,o,none⟩) U) g (k.dropK s now) M w3 from by
  obtain⟨r1,r2,r3⟩:=h.renamed (p':=some a) hg (λ x e=>by cases e;exact Or.inl (congrArg some hab.symm))
  have hr':=hr
  rw[←hln]at hr'⊢
  obtain⟨q1,q2,q3⟩:=lat_names r1 r2 hr'
  refine⟨⟨gb.frozen_at r1,gb.blk_lt r1⟩,⟨cell_of_row _ g 0 _ _ _ r1,cell_of_row _ g 4 _ _ _ r1⟩,q3,λ w3 hs=>?_⟩
  have hset:=mvd_set w1 (U:=blkL g (some a) U) (b:=g) (Or.inl rfl) 4 (.slice (some a) (k.names.take i++k.names.drop (i+1)).length c)
  obtain⟨U',c1,c2⟩:=hs
  have hng:¬U g:=crep_not q3 q1 (by decide) (by decide) (by decide) (by decide) (by decide) (by decide) (by decide)
  have ek:k.dropK s now={k with c:=k.c.doN (Lk.oRem now (k.idx s)),names:=k.names.take i++k.names.drop (i+1)}:=by
   unfold Lk.dropK
   rw[if_neg hi,hti]
  refine⟨blkL g (some a) U',⟨U',ch,some a,c,⟨?_,?_,?_,o1,?_,b1,?_,h.top⟩,rfl⟩,(r3.trans hset).trans (c2.mono (λ x hx=>Or.inr (Or.inr hx)) λ x hx=>?_)⟩
  ·rw[ek]
   exact(c2.1.2 g (gb.blk_lt q1) hng).trans q1
  ·rw[ek]
   refine q2.keep λ x e=>c2.1.2 _ (q2.lt x e).2 ?_
   obtain⟨cur,hcu⟩:=q2.typed x e
   exact crep_not q3 hcu (by decide) (by decide) (by decide) (by decide) (by decide) (by decide) (by decide)
  ·rw[ek]
   exact c1
  ·rw[ek]
   exact h.drw
  ·rw[ek]
   exact h.pos
  ·rcases hx with e|e|e
   ·exact Or.inr (Or.inl e)
   ·exact Or.inr (Or.inr (Or.inl e))
   ·exact Or.inl e))
 have HR:=Lib.hid (λ (w2:World) (hc:CRep w2 U ch k.c M)=>(show Calls Tryz.prog 91 #[ptr ch,.int .i64 (i:Int),.int .i64 now] w2 λ e w'=>e=.returned (.int .i64 0)∧CStp w2 U ch (k.c.doN (Lk.oRem now (k.idx s))) M w' from by
  have:=remove_v hc now (k.idx s) none0 noTox 0
  rw[show(⟨6,now,k.idx s,none0,noTox,0⟩:COp)=Lk.oRem now (k.idx s)from rfl,e1,hin]at this
  rw[hin]
  exact this))
 rw[hin]at HI
 generalize k.dropK s now=k2 at*
 have hnc:k.names.length≤cap:=hs2
 have hn1:(k.names.length:Int)≤8:=by omega
 have d1:decide ((i:Int)<0)=false:=decide_eq_false (by omega)
 have q1:IntKind.i64.wrap ((i:Int)+1)=(i:Int)+1:=wrap_id (by omega) (by omega)
 generalize hnn:k.names.length=n at*
 clear h o1 b1 e1 hs1 hs2 hs3 hti hln hi
 go_enter Tryz.func54,Tryz.ntmps54
 go_wp2_with fail
 refine HI.out.mono ?_
 rintro e w1 ⟨rfl,rfl⟩
 clear HI
 go_wp2_with fail
 refine HD.out.mono ?_
 rintro e w2 ⟨a,c,rfl,hr,hg,hab⟩
 obtain⟨⟨f4,hl⟩,⟨y0,y4⟩,hc3,hfin⟩:=HN.out w2 a c hr hg hab
 have HCR:=Lib.hid (HR.out _ hc3)
 have HFN:=Lib.hid hfin
 clear hr hg hab hc3 hfin HN HD HR x4 q1 d1
 go_wp2_with fail
 generalize w2.setCell ⟨g,4,none⟩ (.slice (some a) (n -1) c)=w3 at*
 refine HCR.out.mono ?_
 rintro e w4 ⟨rfl,hs⟩
 have HL:=Lib.hid (HFN.out _ hs)
 clear hs HCR HFN y0 y4 f4 hl
 go_wp2_with fail
 go_ret
 exact⟨rfl,HL.out⟩
theorem drop_l (h:LAt w U g ch p cap k M) (s:ByteArray) (now:Int):Calls Tryz.prog 54 #[ptr g,.string s,.int .i64 now] w λ e w'=>e=.returned (.int .i64 (k.dropE s now))∧LStp w (blkL g p U) g (k.dropK s now) M w':=by
 by_cases hi:k.idx s<0
 ·refine(drop_no h s now hi).mono ?_
  rintro e w' ⟨rfl,rfl⟩
  unfold Lk.dropE Lk.dropK
  rw[if_pos hi,if_pos hi]
  exact⟨rfl,_,⟨U,ch,p,cap,h,rfl⟩,Mvd.refl _ _⟩
 ·refine(drop_yes h s now hi).mono ?_
  rintro e w' ⟨rfl,hs⟩
  refine⟨?_,hs⟩
  unfold Lk.dropE
  rw[if_neg hi,(Lk.drop_ok h.ok h.bal s now).2.2 hi]
end
end Go.Proofs.YtdighjgcnaajgaaGreat
namespace Go.Proofs.YtdighjgcnaajgaaGreat
open Go.RowKit
section
variable {w w':World} {U:Own} {g ch:Nat} {p:Option Addr} {cap:Nat} {k:Lk} {M M':Nat}
def NamesOut (ns:List ByteArray) (w:World) (e:Ending) (w':World):Prop:=∃a d,e=.returned (.slice a ns.length d)∧gc.ORow w' w.heap.size 9 1 a ns.length d (ns.map Value.string)∧Below w.heap.size w w'
theorem clone_r {ns:List ByteArray} {base:Nat} (h:gc.ORow w base 9 1 p ns.length cap (ns.map Value.string)) (hf:ns.length≤16):Calls Tryz.prog 49 #[.slice p ns.length cap] w (NamesOut ns w):=by
 have h1:=row_strs h
 have turn:∀{v':Value} {w':World} {zs:List ByteArray} {n:Nat},w'.ownsRow w.heap.size 9 1 v' n (zs.map Value.string)→zs.length=n→Below w.heap.size w w'→NamesOut zs w (.returned v') w':=λ {v' w' zs n} ho hz hb=>by
  obtain⟨q,d,rfl,_⟩:=gc.own_slice ho
  subst hz
  exact⟨q,d,rfl,gc.orow_of_own ho,hb⟩
 rcases Nat.eq_zero_or_pos ns.length with h0|h0
 ·rw[h0]
  have hnil:=List.eq_nil_of_length_eq_zero h0
  cases p with
  |none=>
   refine(Tryz.slices_Clone_string_nil 0 cap w).mono ?_
   rintro e w' ⟨rfl,rfl⟩
   rw[hnil]
   exact⟨none,0,rfl,gc.orow_nil _ _ _ _,Below.refl _ _⟩
  |some a=>
   refine(Tryz.slices_Clone_string_zero a cap w).mono ?_
   rintro e w' ⟨v',rfl,ho,_,hb⟩
   rw[hnil]
   exact turn (zs:=[]) ho rfl hb
 ·obtain⟨b,o,rfl,hc⟩:=h1 h0
  refine(Tryz.slices_Clone_string b o ns.length cap ns w (Nat.le_refl _) (by omega) hc).mono ?_
  rintro e w' ⟨v',rfl,ho,_,hb⟩
  rw[List.take_length]at ho
  exact turn ho rfl hb
theorem clone_l (h:LAt w U g ch p cap k M):Calls Tryz.prog 49 #[.slice p k.names.length cap] w (NamesOut k.names w):=clone_r h.row (by have:=h.ok.few;omega)
theorem names_l (h:LAt w U g ch p cap k M):Calls Tryz.prog 66 #[ptr g] w (NamesOut k.names w):=by
 have x4:w.cell? ⟨g,4,none⟩=some (.slice p k.names.length cap):=h.cell 4
 have HC:=Lib.hid (clone_l h)
 unfold NamesOut at*
 generalize k.names.length=n at*
 clear h
 go_enter Tryz.func66,Tryz.ntmps66
 go_wp2_with fail
 refine HC.out.mono ?_
 rintro e w1 ⟨a,d,rfl,hr,hb⟩
 have HR:=Lib.hid (And.intro hr hb)
 clear HC hr hb x4
 go_wp2_with fail
 go_ret
 exact⟨a,d,rfl,HR.out.1,HR.out.2⟩
set_option maxRecDepth 100000 in
set_option maxHeartbeats 4000000 in
theorem counts_l (h:LAt w U g ch p cap k M):Calls Tryz.prog 47 #[ptr g] w λ e w'=>e=.returned (.agg #[.int .i64 k.sent,.int .i64 k.got,.int .i64 (k.c.held:Int),.int .i64 k.c.lost])∧Below w.heap.size w w':=by
 obtain⟨w1,hw1⟩:∃w1,w.alloc (.cells #[.int .i64 0,.int .i64 0,.int .i64 0,.int .i64 0] 60)=w1:=⟨_,rfl⟩
 have hal:Below w.heap.size w w1:=by rw[←hw1];exact(Below.refl _ _).alloc (Nat.le_refl _) _
 have hnew:w1.heap[w.heap.size]?=some (.cells #[.int .i64 0,.int .i64 0,.int .i64 0,.int .i64 0] 60 (0,0)):=by rw[←hw1];exact heap_alloc_new w _
 have h1:=h.on hal
 have x0:w1.cell? ⟨g,0,none⟩=some (ptr ch):=h1.cell 0
 have x5:w1.cell? ⟨g,5,none⟩=some (.int .i64 k.sent):=h1.cell 5
 have x6:w1.cell? ⟨g,6,none⟩=some (.int .i64 k.got):=h1.cell 6
 have h1d:=h1.on (Below.refl _ w1).drew
 have HH:=Lib.hid ((held_v h1d.chn).mono λ e w' (h:e=_∧w1.drew=w')=>(⟨h.1,h.2.symm⟩:e=_∧w'=w1.drew))
 have HL:=Lib.hid ((lost_v h1d.chn).mono λ e w' (h:e=_∧w1.drew=w')=>(⟨h.1,h.2.symm⟩:e=_∧w'=w1.drew))
 have HB:=Lib.hid hal
 generalize k.sent=a0 at*
 generalize k.got=a1 at*
 generalize(k.c.held:Int)=a2 at*
 generalize k.c.lost=a3 at*
 have y0:=cell_of_row w1 _ 0 _ _ _ hnew
 have y1:=cell_of_row w1 _ 1 _ _ _ hnew
 have y2:=cell_of_row w1 _ 2 _ _ _ hnew
 have y3:=cell_of_row w1 _ 3 _ _ _ hnew
 have f0:w1.frozen? ⟨w.heap.size,0,none⟩=false:=gb.frozen_at hnew
 have f1:w1.frozen? ⟨w.heap.size,1,none⟩=false:=gb.frozen_at hnew
 have f2:w1.frozen? ⟨w.heap.size,2,none⟩=false:=gb.frozen_at hnew
 have f3:w1.frozen? ⟨w.heap.size,3,none⟩=false:=gb.frozen_at hnew
 have hlt:=gb.blk_lt hnew
 have HN:=Lib.hid hnew
 have HW:=Lib.hid (Nat.le_refl w.heap.size)
 clear h h1 h1d hal hnew
 go_enter Tryz.func47,Tryz.ntmps47
 go_upto_region 1 with fail
 refine wp_region_still_tail 19 (by kernel_rfl) (by kernel_rfl) ?_
 simp only[List.take_succ_cons,List.take_zero,List.drop_succ_cons,List.drop_zero]
 repeat still_step
 still_call (HH.out)
 repeat still_step
 still_call (HL.out)
 repeat still_step
 refine wpStill_nil ?_
 go_wp2_with fail
 generalize hW:((((w1.setCell ⟨w.heap.size,0,none⟩ (.int .i64 a0)).setCell ⟨w.heap.size,1,none⟩ (.int .i64 a1)).setCell ⟨w.heap.size,2,none⟩ (.int .i64 a2)).setCell ⟨w.heap.size,3,none⟩ (.int .i64 a3)).drew=W at*
 have hn:W.heap[w.heap.size]?=some (.cells #[.int .i64 a0,.int .i64 a1,.int .i64 a2,.int .i64 a3] 60 (0,0)):=by
  rw[←hW]
  show((((w1.setCell _ _).setCell _ _).setCell _ _).setCell _ _).heap[w.heap.size]?=_
  simp[World.setCell,Array.getElem?_modify,HN.out]
 have hb:Below w.heap.size w W:=by
  rw[←hW]
  exact((((HB.out.setCell (p:=⟨w.heap.size,0,none⟩) HW.out _).setCell (p:=⟨w.heap.size,1,none⟩) HW.out _).setCell (p:=⟨w.heap.size,2,none⟩) HW.out _).setCell (p:=⟨w.heap.size,3,none⟩) HW.out _).drew
 have z0:=cell_of_row W _ 0 _ _ _ hn
 have z1:=cell_of_row W _ 1 _ _ _ hn
 have z2:=cell_of_row W _ 2 _ _ _ hn
 have z3:=cell_of_row W _ 3 _ _ _ hn
 exact bodyPost_ret (v:=.agg #[.int .i64 a0,.int .i64 a1,.int .i64 a2,.int .i64 a3]) (by simp[results,Tryz.results47,go_sem,z0,z1,z2,z3]) rfl ⟨rfl,hb⟩
end
end Go.Proofs.YtdighjgcnaajgaaGreat
namespace Go.Proofs.YtdighjgcnaajgaaGreat
open Go.RowKit
section
variable {w w':World} {U:Own} {g ch:Nat} {p:Option Addr} {cap:Nat} {k:Lk} {c':Ch} {M M':Nat}
theorem stream_l (k:Lk) (W:World) (B:Nat) (hc:W.cell? ⟨B,0,none⟩=some (.int .u64 (k.drawn:Int))):
  Calls Tryz.prog 32 #[.int .u64 k.seed,.slice (some ⟨B,0,none⟩) 1 1] W λ e w'=>e=.returned (.int .u64 k.dice)∧W=w':=
 gd.stream_some k.seed B 0 1 [(k.drawn:Int)] W (Nat.le_of_lt (show 1<maxLen by unfold maxLen;decide)) (λ j hj=>by
  have hj:j<1:=hj
  obtain rfl:j=0:=by omega
  exact hc)
theorem LAt.off (h:LAt w U g ch p cap k M) {b i:Nat} (hb:¬blkL g p U b) (v:Value):LAt (w.setCell ⟨b,i,none⟩ v) U g ch p cap k M:=
 h.keep λ j hj=>Below.heap_setCell _ _ _ _ (λ e=>hb (by have e:j=b:=e;rw[←e];exact hj))
theorem Mvd.fresh {w0:World} {V V':Own} (h:Mvd w0 V w V') {b:Nat} (hb:w0.heap.size≤b) (i:Nat) (v:Value):Mvd w0 V (w.setCell ⟨b,i,none⟩ v) V':=
 ⟨⟨⟨h.1.1.os,h.1.1.tape,h.1.1.output,by simp only[World.setCell,Array.size_modify];exact h.size,λ j hj=>absurd hj (Nat.not_lt_zero j)⟩,λ j hj hu=>(Below.heap_setCell _ _ _ _ (λ e=>by have e:j=b:=e;omega)).trans (h.1.2 j hj hu)⟩,h.2⟩
theorem set6 {b:Nat} {x0 x1 x2 x3 x4 x5:Value} {T:TypeId} (h:w.heap[b]?=some (.cells #[x0,x1,x2,x3,x4,x5] T (0,0))) (a0 a1 a2 a3 a4 a5:Value):
  ((((((w.setCell ⟨b,0,none⟩ a0).setCell ⟨b,1,none⟩ a1).setCell ⟨b,2,none⟩ a2).setCell ⟨b,3,none⟩ a3).setCell ⟨b,4,none⟩ a4).setCell ⟨b,5,none⟩ a5).heap[b]?=some (.cells #[a0,a1,a2,a3,a4,a5] T (0,0)):=
 gb.set_heap (gb.set_heap (gb.set_heap (gb.set_heap (gb.set_heap (gb.set_heap h _) _) _) _) _) _
theorem infoS:(Tryz.prog.info? 9).map (λ i=>(i.zero,i.size,i.bytes))=some (some (.string ⟨#[]⟩),1,16):=by kernel_rfl
theorem draw_end (hb:w.heap[g]?=some (.cells (lkC ch p cap k) 125 (0,0))) (hr:gc.ORow w 0 9 1 p k.names.length cap (k.names.map Value.string)) (hc:CRep w U ch c' M) (s:ByteArray) (hn:k.names.length≤7)
  (hok:Lok {k with c:=c',drawn:=k.drawn+1,names:=k.names++[s]}) (hbl:({k with c:=c',drawn:=k.drawn+1,names:=k.names++[s]}:Lk).Bal) (hd:k.drawn+1≤M) (hp:0≤k.got∧k.sent≤M) (hM:M≤400000):
  ∃q d w6,(∀ty,(Builtin.append_ #[36,36] ty #[.slice p k.names.length cap,.slice (some ⟨w.heap.size,0,none⟩) 1 1]).run Tryz.prog ((w.setCell ⟨g,3,none⟩ (.int .u64 ((k.drawn:Int)+1))).alloc (.cells #[.string s] 9))=.ok (.slice q (k.names.length+1) d) w6)∧
   (w6.cell? ⟨g,4,none⟩=some (.slice p k.names.length cap)∧w6.frozen? ⟨g,4,none⟩=false∧g<w6.heap.size)∧LRep (w6.setCell ⟨g,4,none⟩ (.slice q (k.names.length+1) d)) (blkL g q U) g {k with c:=c',drawn:=k.drawn+1,names:=k.names++[s]} M∧
   Mvd w (blkL g p U) (w6.setCell ⟨g,4,none⟩ (.slice q (k.names.length+1) d)) (blkL g q U):=by
 obtain⟨w5,hw5⟩:∃w5,w.setCell ⟨g,3,none⟩ (.int .u64 ((k.drawn:Int)+1))=w5:=⟨_,rfl⟩
 have ho:∀j,j≠g→w5.heap[j]?=w.heap[j]?:=λ j hj=>by rw[←hw5];exact Below.heap_setCell _ _ _ _ hj
 have hng:¬U g:=crep_not hc hb (by decide) (by decide) (by decide) (by decide) (by decide) (by decide) (by decide)
 have hrg:∀a,p=some a→a.block≠g:=λ a e e'=>by
  obtain⟨cur,hcu⟩:=hr.typed a e
  rw[e']at hcu
  have:=gc.two_types hcu hb
  simp at this
 have b5:w5.heap[g]?=some (.cells (lkC ch p cap {k with drawn:=k.drawn+1}) 125 (0,0)):=by
  rw[←hw5]
  simp[World.setCell,Array.getElem?_modify,hb]
 have r5:gc.ORow w5 0 9 1 p k.names.length cap (k.names.map Value.string):=hr.keep λ a e=>ho _ (hrg a e)
 have c5:CRep w5 U ch c' M:=crep_keep hc λ i hi=>ho i λ e=>hng (by rw[←e];exact hi)
 have s5:w5.heap.size=w.heap.size:=by rw[←hw5];simp[World.setCell]
 have m5:Mvd w (blkL g p U) w5 (blkL g p U):=by rw[←hw5];exact mvd_set w (Or.inl rfl) _ _
 have hal:Below w5.heap.size w5 (w5.alloc (.cells #[.string s] 9)):=(Below.refl _ _).alloc (Nat.le_refl _) _
 have hnew:=heap_alloc_new w5 (.cells #[.string s] 9)
 obtain⟨i0,hi0,hz0,hz1,hz2⟩:=info_parts infoS
 obtain⟨q,d,w6,h1,h2,h3,h4⟩:=gc.app_row (t:=36) (r5.on hal) (Nat.zero_le _) Tryz.underlying36 hi0 hz0 hz1 hz2 rfl (by decide) (a:=⟨w5.heap.size,0,none⟩) (m:=1) (d:=1) (news:=[.string s]) rfl (λ j u hj=>by
  rw[WideShapes.add_plain]
  have hj1:j<1:=(List.getElem?_eq_some_iff.1 hj).1
  obtain rfl:j=0:=by omega
  cases hj
  exact cell_of_row _ _ 0 _ _ _ hnew) (λ u hu=>by cases List.mem_singleton.1 hu;rfl) (by unfold maxLen;omega) (by omega)
 rw[s5]at h1
 have hne:∀i,i<w5.heap.size→(∀a,p=some a→a.block≠i)→w6.heap[i]?=w5.heap[i]?:=λ i hi hn=>(h3.block i (Nat.lt_of_lt_of_le hi hal.size) λ e=>by
  cases p with
  |none=>cases e
  |some a=>exact hn a rfl (Option.some.inj e).symm).trans (hal.block i hi)
 have hlg:g<w5.heap.size:=gb.blk_lt b5
 have b6:=(hne g hlg λ a e=>hrg a e).trans b5
 have hnr:∀a,p=some a→¬U a.block:=λ a e=>by
  obtain⟨cur,hcu⟩:=r5.typed a e
  exact crep_not c5 hcu (by decide) (by decide) (by decide) (by decide) (by decide) (by decide) (by decide)
 have c6:CRep w6 U ch c' M:=crep_keep c5 λ i hi=>hne i ((crep_lt c5).2 i hi) λ a e e'=>hnr a e (by rw[e'];exact hi)
 have hnn:(k.names++[s]).length=k.names.length+1:=by rw[List.length_append];rfl
 have r6:gc.ORow w6 0 9 1 q (k.names++[s]).length d ((k.names++[s]).map Value.string):=by
  rw[hnn,List.map_append]
  exact h2
 have m6:Mvd w5 (blkL g p U) w6 (blkL g q U):=by
  refine⟨⟨⟨h3.os,h3.tape,h3.output,Nat.le_trans hal.size h3.size,λ j hj=>absurd hj (Nat.not_lt_zero j)⟩,λ i hi hu=>hne i hi λ a e e'=>hu (Or.inr (Or.inl ⟨a,e,e'⟩))⟩,λ i hi=>?_⟩
  rcases hi with e|⟨a,e,rfl⟩|e
  ·exact Or.inl (Or.inl e)
  ·rcases h4 a e with e'|e'
   ·cases p with
    |none=>cases e'
    |some x=>exact Or.inl (Or.inr (Or.inl ⟨x,rfl,by have e':some x.block=some a.block:=e';injection e'⟩))
   ·exact Or.inr (Nat.le_trans hal.size e')
  ·exact Or.inl (Or.inr (Or.inr e))
 obtain⟨l1,l2,l3⟩:=lat_names (k:={k with c:=c',drawn:=k.drawn+1}) b6 c6 r6
 rw[hnn]at l1 l2 l3
 rw[←hw5]at h1
 refine⟨q,d,w6,h1,⟨cell_of_row _ g 4 _ _ _ b6,gb.frozen_at b6,gb.blk_lt b6⟩,⟨U,ch,q,d,⟨l1,?_,l3,hok,hd,hbl,hp,hM⟩,rfl⟩,(m5.trans m6).trans (mvd_set _ (Or.inl rfl) _ _)⟩
 show gc.ORow _ 0 _ 1 q (k.names++[s]).length d _
 rw[hnn]
 exact l2
set_option maxRecDepth 100000 in
set_option maxHeartbeats 8000000 in
theorem draw_l (h:LAt w U g ch p cap k M) (t:Tox) (hc:t.chk=0) (now:Int) (hM:M+1≤M') (hf:M'≤400000):
  Calls Tryz.prog 90 #[ptr g,t.v,.int .i64 now] w λ e w'=>e=.returned (.int .i64 (k.drawE t now))∧LStp w (blkL g p U) g (k.drawK t now) M' w':=by
 have hts:t.s.size≤maxLen:=by have:=Lk.chk_name hc;unfold maxLen;omega
 obtain⟨w1,hw1⟩:∃w1,w.alloc (toxObj t)=w1:=⟨_,rfl⟩
 have hal:Below w.heap.size w w1:=by rw[←hw1];exact(Below.refl _ _).alloc (Nat.le_refl _) _
 have hnew:w1.heap[w.heap.size]?=some (toxObj t):=by rw[←hw1];exact heap_alloc_new w _
 obtain⟨w2,hw2⟩:∃w2,(w1.alloc (.cells #[.int .u64 (k.drawn:Int)] 23)).drew=w2:=⟨_,rfl⟩
 have hal2:Below w1.heap.size w1 w2:=by rw[←hw2];exact((Below.refl _ _).alloc (Nat.le_refl _) _).drew
 have hnew2:w2.heap[w.heap.size]?=some (toxObj t):=(hal2.block _ (gb.blk_lt hnew)).trans hnew
 have h2:=(h.on hal).on hal2
 have hbw2:=hal.trans (hal2.mono hal.size)
 obtain⟨o1,o2,o3,o4⟩:=Lk.draw_ok h.ok h.bal t now hc
 have hdE:=Lk.draw_e h.ok t now hc
 have hdr:=h.drw
 have hbk:¬blkL g p U w.heap.size:=λ hu=>by have:=h.lt hu;omega
 have HINS:=Lib.hid (λ (W:World) (hW:LAt W U g ch p cap k M)=>(show Calls Tryz.prog 121 #[ptr ch,.int .i64 (k.names.length:Int),(k.tox t).v,.int .u64 (gd.stepZ k.dice),.int .i64 now] W λ e w'=>e=.returned (.int .i64 (k.drawE t now))∧CStp W U ch (k.c.doN (k.oIns t now)) M w' from by
  refine insert_v hW.chn now (k.names.length:Int) none0 (k.tox t) ?_ (gd.stepZ k.dice)
  unfold Lk.tox
  split
  ·exact hts
  ·exact Ch.noTox_s))
 have HNO:=Lib.hid (λ (W W':World) (hW:LAt W U g ch p cap k M) (hm:Mvd w (blkL g p U) W (blkL g p U)) (hs:CStp W U ch (k.c.doN (k.oIns t now)) M W') (hE:k.drawE t now≠0)=>(show LStp w (blkL g p U) g (k.drawK t now) M' W' from by
  obtain⟨U',c1,c2,c3,c4⟩:=hW.chain hs
  have e0:=(o3 hE).2
  have e1:k.drawK t now={k with c:=k.c.doN (k.oIns t now)}:=by unfold Lk.drawK;rw[if_pos hE]
  have e2:k.c.doN (k.oIns t now)=k.c:=by have:=congrArg Lk.c (e1.symm.trans e0);exact this
  rw[e0]
  rw[e2]at c3
  exact⟨_,⟨U',ch,p,cap,LAt.more ⟨c1,c2,c3,h.ok,h.drw,h.bal,h.pos,h.top⟩ (by omega) hf,rfl⟩,hm.trans c4⟩))
 have HYES:=Lib.hid (λ (W W':World) (hW:LAt W U g ch p cap k M) (hm:Mvd w (blkL g p U) W (blkL g p U)) (hs:CStp W U ch (k.c.doN (k.oIns t now)) M W') (hE:k.drawE t now=0)=>(show(W'.cell? ⟨g,3,none⟩=some (.int .u64 (k.drawn:Int))∧W'.frozen? ⟨g,3,none⟩=false∧g<W'.heap.size∧W'.cell? ⟨g,4,none⟩=some (.slice p k.names.length cap))∧k.names.length≤7∧k.names.length≤cap∧∃q d w6,
   (∀ty,(Builtin.append_ #[36,36] ty #[.slice p k.names.length cap,.slice (some ⟨W'.heap.size,0,none⟩) 1 1]).run Tryz.prog ((W'.setCell ⟨g,3,none⟩ (.int .u64 ((k.drawn:Int)+1))).alloc (.cells #[.string t.s] 9))=.ok (.slice q (k.names.length+1) d) w6)∧
   (w6.cell? ⟨g,4,none⟩=some (.slice p k.names.length cap)∧w6.frozen? ⟨g,4,none⟩=false∧g<w6.heap.size)∧LStp w (blkL g p U) g (k.drawK t now) M' (w6.setCell ⟨g,4,none⟩ (.slice q (k.names.length+1) d))from by
  obtain⟨U',c1,c2,c3,c4⟩:=hW.chain hs
  have h8:=o4 hE
  have e1:k.drawK t now={k with c:=k.c.doN (k.oIns t now),drawn:=k.drawn+1,names:=k.names++[t.s]}:=by unfold Lk.drawK;rw[if_neg (by omega)]
  rw[e1]at o1 o2
  obtain⟨q,d,w6,a1,a2,a3,a4⟩:=draw_end c1 c2 (crep_mono c3 (M':=M') (by omega) hf) t.s (by omega) o1 o2 (by have:=h.drw;omega) ⟨h.pos.1,by have:=h.pos.2;omega⟩ hf
  rw[e1]
  exact⟨⟨cell_of_row _ g 3 _ _ _ c1,gb.frozen_at c1,gb.blk_lt c1,cell_of_row _ g 4 _ _ _ c1⟩,by omega,c2.cap,q,d,w6,a1,a2,_,a3,(hm.trans c4).trans a4⟩))
 have HD:=Lib.hid hdE
 have hm2:Mvd w (blkL g p U) w2 (blkL g p U):=(Mvd.refl w _).on hbw2
 have HM2:=Lib.hid hm2
 have HL2:=Lib.hid h2
 have HBK:=Lib.hid hbk
 have hdb:(k.drawn:Int)≤400000:=by omega
 have hnl:k.names.length≤8:=h.ok.few
 have h1:=h.on hal
 have x0:w1.cell? ⟨g,0,none⟩=some (ptr ch):=h1.cell 0
 have x2:w1.cell? ⟨g,2,none⟩=some (.int .u64 k.seed):=h1.cell 2
 have x3:w1.cell? ⟨g,3,none⟩=some (.int .u64 (k.drawn:Int)):=h1.cell 3
 unfold toxObj at hnew hnew2 hw1
 have u0:=cell_of_row w1 _ 0 _ _ _ hnew
 have u3:=cell_of_row w1 _ 3 _ _ _ hnew
 have hlt:=gb.blk_lt hnew
 have hlg:=h1.lg
 have HS:=Lib.hid (stream_l k)
 have HP:=Lib.hid (λ W=>gd.percent_any k.dice t.o W)
 have HX:=Lib.hid (show(w1.alloc (.cells #[.int .u64 (k.drawn:Int)] 23)).drew.cell? ⟨w1.heap.size,0,none⟩=some (.int .u64 (k.drawn:Int))from cell_of_row _ _ 0 _ _ _ (heap_alloc_new w1 _))
 have HN2:=Lib.hid hnew2
 have HW2:=Lib.hid hw2
 unfold Lk.tox at HINS
 generalize k.dice=D at*
 have htv:t.v=.agg #[.string t.s,.int .i64 t.k,.bool t.up,.int .i64 t.o,.int .i64 t.a,.int .i64 t.b]:=rfl
 clear h hal hnew h1 h2 hbw2 hm2 hal2 hnew2 o1 o2 o3 o4 hdE hdr hbk hM hf hw2
 rw[htv]
 clear htv
 go_enter Tryz.func90,Tryz.ntmps90
 go_upto_region 2 with fail
 go_cut[8,9]from 11 (λ v8 v9 wc=>v8=.bool (decide (gd.takeZ D 100<t.o))∧v9=.int .u64 (gd.stepZ D)∧wc=w2)
 case first=>
  go_region_law
   (first
    |(go_simp;go_at_call 32;(with_reducible refine Calls.mono (HS.out _ _ HX.out) ?_);rintro e w4 ⟨rfl,rfl⟩)
    |(go_simp;go_at_call 120;(with_reducible refine Calls.mono (HP.out _) ?_);rintro e w4 ⟨rfl,rfl⟩))
  all_goals (go_wp2_with fail;go_meet;exact⟨rfl,rfl,HW2.out⟩)
 case rest=>
  obtain⟨rfl,rfl,hwc⟩:=hcut
  rw[hwc]
  clear hwc wc
  clear HS HP HX HW2 x0 x2 x3 u0 u3 hlt hlg
  have HX:Hid (∃tx:Tox,tx=(if gd.takeZ D 100<t.o then t else noTox)):=⟨_,rfl⟩
  obtain⟨tx,htx⟩:=HX.out
  clear HX
  rw[←htx]at HINS
  have hnew:=HN2.out
  obtain⟨B,hB⟩:∃B,decide (gd.takeZ D 100<t.o)=B:=⟨_,rfl⟩
  rw[hB]
  have HB:=Lib.hid hB
  clear hB
  go_upto_if 30 with fail
  go_cut[]from 29 (λ w3=>LAt w3 U g ch p cap k M∧Mvd w (blkL g p U) w3 (blkL g p U)∧w3.heap[w.heap.size]?=some (toxObj tx))
  case first=>
   cases B with
   |true=>
    rw[if_pos (of_decide_eq_true HB.out)]at htx
    subst htx
    go_wp2_with fail
    go_meet
    exact⟨HL2.out,HM2.out,hnew⟩
   |false=>
    rw[if_neg (of_decide_eq_false HB.out)]at htx
    have u0:=cell_of_row w2 _ 0 _ _ _ hnew
    have u1:=cell_of_row w2 _ 1 _ _ _ hnew
    have u2:=cell_of_row w2 _ 2 _ _ _ hnew
    have u3:=cell_of_row w2 _ 3 _ _ _ hnew
    have u4:=cell_of_row w2 _ 4 _ _ _ hnew
    have u5:=cell_of_row w2 _ 5 _ _ _ hnew
    have v0:w2.frozen? ⟨w.heap.size,0,none⟩=false:=gb.frozen_at hnew
    have v1:w2.frozen? ⟨w.heap.size,1,none⟩=false:=gb.frozen_at hnew
    have v2:w2.frozen? ⟨w.heap.size,2,none⟩=false:=gb.frozen_at hnew
    have v3:w2.frozen? ⟨w.heap.size,3,none⟩=false:=gb.frozen_at hnew
    have v4:w2.frozen? ⟨w.heap.size,4,none⟩=false:=gb.frozen_at hnew
    have v5:w2.frozen? ⟨w.heap.size,5,none⟩=false:=gb.frozen_at hnew
    have hlt:=gb.blk_lt hnew
    have HNW:=Lib.hid hnew
    clear hnew
    go_wp2_with fail
    go_meet
    exact⟨((((((HL2.out.off HBK.out _).off HBK.out _).off HBK.out _).off HBK.out _).off HBK.out _).off HBK.out _),((((((HM2.out.fresh (Nat.le_refl _) _ _).fresh (Nat.le_refl _) _ _).fresh (Nat.le_refl _) _ _).fresh (Nat.le_refl _) _ _).fresh (Nat.le_refl _) _ _).fresh (Nat.le_refl _) _ _),by rw[htx];exact set6 HNW.out _ _ _ _ _ _⟩
  case rest=>
   obtain⟨hl3,hm3,hnew⟩:=hcut
   clear HL2 HM2 HN2 HB htx hw1
   unfold toxObj at hnew
   have HIC:=Lib.hid (HINS.out _ (hl3.on (Below.refl _ wc).drew))
   unfold Tox.v at HIC
   have z0:wc.cell? ⟨g,0,none⟩=some (ptr ch):=hl3.cell 0
   have z4:wc.cell? ⟨g,4,none⟩=some (.slice p k.names.length cap):=hl3.cell 4
   have u0:=cell_of_row wc _ 0 _ _ _ hnew
   have u1:=cell_of_row wc _ 1 _ _ _ hnew
   have u2:=cell_of_row wc _ 2 _ _ _ hnew
   have u3:=cell_of_row wc _ 3 _ _ _ hnew
   have u4:=cell_of_row wc _ 4 _ _ _ hnew
   have u5:=cell_of_row wc _ 5 _ _ _ hnew
   have HL3:=Lib.hid (hl3.on (Below.refl _ wc).drew)
   have HM3:=Lib.hid (hm3.on (Below.refl _ wc).drew)
   clear hnew hl3 hm3 HINS
   go_upto_region 5 with fail
   refine wp_region_still_tail 12 (by kernel_rfl) (by kernel_rfl) ?_
   simp only[List.take_succ_cons,List.take_zero,List.drop_succ_cons,List.drop_zero]
   repeat still_step
   refine wpStill_nil ?_
   go_wp2_with fail
   refine HIC.out.mono ?_
   rintro e w4 ⟨rfl,hs⟩
   clear HIC z0 z4 u0 u1 u2 u3 u4 u5
   by_cases hE:k.drawE t now=0
   ·obtain⟨⟨z3,f3,zl,z4⟩,hn7,hnc,q,d,w6,hap,⟨y4,f4,yl⟩,hfin⟩:=HYES.out _ w4 HL3.out HM3.out hs hE
    have HF:=Lib.hid hfin
    have hqd:IntKind.u64.wrap ((k.drawn:Int)+1)=(k.drawn:Int)+1:=by rw[IntKind.wrap_u64];omega
    have HE:=Lib.hid hE
    rw[hE]
    clear hs hE HNO HYES HD hfin HL3 HM3
    have HAP:=Lib.hid hap
    clear hap
    go_wp2_with (at_builtin;refine Lib.wpList_append_run _ rfl _ _ _ _ rfl (.slice p k.names.length cap) (.slice (some ⟨w4.heap.size,0,none⟩) 1 1) rfl rfl _ _ (HAP.out _) ?_)
    go_ret
    exact⟨by rw[HE.out];rfl,HF.out⟩
   ·have HF:=Lib.hid (HNO.out _ w4 HL3.out HM3.out hs hE)
    have d1:(k.drawE t now !=0)=true:=by simpa using hE
    have d2:decide (k.drawE t now=0)=false:=by simpa using hE
    clear hs hE HNO HYES HD HL3 HM3
    go_wp2_with fail
    go_ret
    exact⟨rfl,HF.out⟩
end
end Go.Proofs.YtdighjgcnaajgaaGreat
