import Derived.Test.YtdighjgcnaajgaaGreatMS46
import Derived.Test.YtdighjgcnaajgaaGreatMS37
namespace Go.Proofs.YtdighjgcnaajgaaGreat
open Go.RowKit
def ToxIn (w:World) (p:Option Addr) (n:Nat) (l:List Tox):Prop:=0<n→∃b o,p=some ⟨b,o,none⟩∧∀i,i<n→
 w.cell? ⟨b,o+i*6,none⟩=some (.string (l.getD i noTox).s)∧w.cell? ⟨b,o+(i*6+1),none⟩=some (.int .i64 (l.getD i noTox).k)∧w.cell? ⟨b,o+(i*6+2),none⟩=some (.bool (l.getD i noTox).up)∧w.cell? ⟨b,o+(i*6+3),none⟩=some (.int .i64 (l.getD i noTox).o)∧w.cell? ⟨b,o+(i*6+4),none⟩=some (.int .i64 (l.getD i noTox).a)∧w.cell? ⟨b,o+(i*6+5),none⟩=some (.int .i64 (l.getD i noTox).b)
theorem toxs_on {w w':World} {p:Option Addr} {n:Nat} {l:List Tox} (h:ToxIn w p n l) (hb:Below w.heap.size w w'):ToxIn w' p n l:=λ hn=>by
 obtain⟨b,o,e,hc⟩:=h hn
 refine⟨b,o,e,λ i hi=>?_⟩
 have hh:=hc i hi
 have key:∀{k:Nat} {v:Value},w.cell? ⟨b,k,none⟩=some v→w'.cell? ⟨b,k,none⟩=some v:=λ hk=>(hb.cell (World.block_lt_of_cell? w _ hk)).trans hk
 exact⟨key hh.1,key hh.2.1,key hh.2.2.1,key hh.2.2.2.1,key hh.2.2.2.2.1,key hh.2.2.2.2.2⟩
theorem toxs_take {w:World} {p:Option Addr} {n m:Nat} {l:List Tox} (h:ToxIn w p n l) (hm:m≤n):ToxIn w p m l:=λ h0=>by
 obtain⟨b,o,e,hc⟩:=h (by omega)
 exact⟨b,o,e,λ i hi=>hc i (by omega)⟩
theorem chkL_none {l:List Tox} {k:Nat} (h:∀j,j<k→(l.getD j noTox).chk=0) (hk:k=l.length):chkL l=0:=by
 subst hk
 induction l with
 |nil=>rfl
 |cons a r ih=>
  have h0:a.chk=0:=h 0 (by simp)
  unfold chkL
  rw[if_neg (by omega)]
  exact ih λ j hj=>by have:=h (j+1) (by simpa using hj);exact this
theorem chkL_one {l:List Tox} {k:Nat} (h:∀j,j<k→(l.getD j noTox).chk=0) (hk:k<l.length) (hc:(l.getD k noTox).chk≠0):chkL l=(l.getD k noTox).chk:=by
 induction l generalizing k with
 |nil=>cases hk
 |cons a r ih=>
  unfold chkL
  cases k with
  |zero=>rw[if_pos (show a.chk≠0 from hc)];rfl
  |succ k=>
   have h0:a.chk=0:=h 0 (by omega)
   rw[if_neg (by omega)]
   exact ih (λ j hj=>by have:=h (j+1) (by omega);exact this) (by simpa using hk) hc
def sameB (l:List Tox) (k:Nat):Bool:=(l.take k).any λ x=>decide (x.s=(l.getD k noTox).s)
theorem dup_yes {l:List Tox} {k:Nat} (hk:k<l.length) (h:sameB l k=true):dupB l=true:=List.any_eq_true.2 ⟨k,List.mem_range.2 hk,h⟩
theorem dup_no {l:List Tox} (h:∀k,k<l.length→sameB l k=false):dupB l=false:=by
 rw[Bool.eq_false_iff]
 intro e
 obtain⟨k,hk,e⟩:=List.any_eq_true.1 e
 have:=h k (List.mem_range.1 hk)
 unfold sameB at this
 rw[this]at e
 cases e
theorem bytes_eq {a b:ByteArray}:(a.toList==b.toList)=decide (a=b):=by
 rw[Bool.eq_iff_iff,Lib.bytes_beq_iff,decide_eq_true_iff]
set_option maxRecDepth 100000 in
set_option maxHeartbeats 4000000 in
theorem clo_l (x:Tox) (s:ByteArray) (B:Nat) (w:World) (hc:w.cell? ⟨B,0,none⟩=some (.string s)):Calls Tryz.prog 98 #[x.v,ptr B] w λ e w'=>e=.returned (.bool (decide (x.s=s)))∧Below w.heap.size w w':=by
 have hlt:=World.block_lt_of_cell? w _ hc
 have hal:Below w.heap.size w (w.alloc (toxObj x)):=(Below.refl _ _).alloc (Nat.le_refl _) _
 have HA:=Lib.hid hal
 have hq:=bytes_eq (a:=x.s) (b:=s)
 unfold Tox.v
 unfold toxObj at HA
 clear hal
 go_enter Tryz.func98,Tryz.ntmps98
 go_wp2_with fail
 go_ret
 exact⟨rfl,HA.out⟩
def Idx (l:List Tox) (m:Nat) (s:ByteArray) (w:World) (e:Ending) (w':World):Prop:=∃r:Int,e=.returned (.int .i64 r)∧decide (0≤r)=((l.take m).any λ x=>decide (x.s=s))∧-1≤r∧Below w.heap.size w w'
theorem any_next (l:List Tox) {j:Nat} (hj:j<l.length) (s:ByteArray):((l.take (j+1)).any λ x=>decide (x.s=s))=(((l.take j).any λ x=>decide (x.s=s))||decide ((l.getD j noTox).s=s)):=by
 rw[take_next hj,List.any_append]
 simp
theorem any_hit {l:List Tox} {j m:Nat} (hj:j<l.length) (hjm:j<m) {s:ByteArray} (h:(l.getD j noTox).s=s):((l.take m).any λ x=>decide (x.s=s))=true:=by
 refine List.any_eq_true.2 ⟨l.getD j noTox,?_,decide_eq_true h⟩
 rw[List.getD_eq_getElem?_getD,List.getElem?_eq_getElem hj]
 exact List.mem_take_iff_getElem.2 ⟨j,by omega,rfl⟩
set_option maxRecDepth 100000 in
set_option maxHeartbeats 4000000 in
theorem idxf_l (p:Option Addr) (m d:Nat) (l:List Tox) (s:ByteArray) (B:Nat) (w:World) (hl:m≤l.length) (hmd:m≤d) (hm:m≤100) (hi:ToxIn w p m l) (hc:w.cell? ⟨B,0,none⟩=some (.string s)):
  Calls Tryz.prog 137 #[.slice p m d,.func (.func 98) #[] #[ptr B]] w (Idx l m s w):=by
 have HI:=Lib.hid hi
 have HC:=Lib.hid hc
 have HL:=Lib.hid hl
 clear hi hc hl
 go_enter Tryz.func137,Tryz.ntmps137
 go_wp2_with fail
 go_loopw [5,8] (λ x i wr=>∃k:Nat,k≤m∧i=.int .i64 k∧Hid (((l.take k).any λ x=>decide (x.s=s))=false)∧Hid (Below w.heap.size w wr)) (λ _ i _=>m -(intOf i).toNat)
 case atStart=>exact⟨0,by omega,rfl,Lib.hid (by simp),Lib.hid (Below.refl _ _)⟩
 case round=>
  obtain⟨k,hk,rfl,HN,HB⟩:=hrel
  by_cases hlt:k<m
  ·obtain⟨b,o,rfl,hcell⟩:=toxs_on HI.out HB.out (by omega)
   obtain⟨c0,c1,c2,c3,c4,c5⟩:=hcell k hlt
   have HNX:=Lib.hid (any_next l (j:=k) (by have:=HL.out;omega) s)
   have HMR:=Lib.hid (λ h=>any_hit (l:=l) (j:=k) (m:=m) (by have:=HL.out;omega) hlt (s:=s) h)
   have HF:=Lib.hid (clo_l (l.getD k noTox) s B wr ((HB.out.cell (World.block_lt_of_cell? w _ HC.out)).trans HC.out))
   unfold Tox.v at HF
   generalize l.getD k noTox=tx at*
   rw[←Nat.add_assoc]at c1 c2 c3 c4 c5
   clear hcell
   go_wp2_with fail
   refine HF.out.mono ?_
   rintro e w2 ⟨rfl,hb⟩
   have HB2:=Lib.hid (HB.out.trans (hb.mono HB.out.size))
   clear hb HF c0 c1 c2 c3 c4 c5
   by_cases hs:tx.s=s
   ·have HE:=Lib.hid (HMR.out hs)
    rw[decide_eq_true hs]
    clear hs HMR HNX
    go_wp2_with fail
    go_ret
    exact⟨(k:Int),rfl,by rw[HE.out];exact decide_eq_true (Int.natCast_nonneg k),by omega,HB2.out⟩
   ·have HE:=Lib.hid (show((l.take (k+1)).any λ x=>decide (x.s=s))=false by rw[HNX.out,HN.out,decide_eq_false hs];rfl)
    rw[decide_eq_false hs]
    clear hs HMR HNX
    go_wp2_with fail
    go_roundw
    case rel=>exact⟨k+1,by omega,by go_num,HE,HB2⟩
    case measure=>simp[intOf];omega
  ·obtain rfl:k=m:=by omega
   go_wp2_with fail
   go_ret
   exact⟨-1,rfl,by rw[HN.out];rfl,Int.le_refl _,HB.out⟩
set_option maxRecDepth 100000 in
set_option maxHeartbeats 4000000 in
theorem contf_l (p:Option Addr) (m d:Nat) (l:List Tox) (s:ByteArray) (B:Nat) (w:World) (hl:m≤l.length) (hmd:m≤d) (hm:m≤100) (hi:ToxIn w p m l) (hc:w.cell? ⟨B,0,none⟩=some (.string s)):
  Calls Tryz.prog 97 #[.slice p m d,.func (.func 98) #[] #[ptr B]] w λ e w'=>e=.returned (.bool ((l.take m).any λ x=>decide (x.s=s)))∧Below w.heap.size w w':=by
 have HX:=Lib.hid (idxf_l p m d l s B w hl hmd hm hi hc)
 clear hi hc hl
 obtain⟨X,hX⟩:∃X,((l.take m).any λ x=>decide (x.s=s))=X:=⟨_,rfl⟩
 unfold Idx at HX
 rw[hX]at HX⊢
 clear hX
 go_enter Tryz.func97,Tryz.ntmps97
 go_wp2_with fail
 refine HX.out.mono ?_
 rintro e w1 ⟨r,rfl,hr,_,hb⟩
 have HB:=Lib.hid hb
 clear hb HX
 go_wp2_with fail
 go_ret
 exact⟨rfl,HB.out⟩
set_option maxRecDepth 100000 in
set_option maxHeartbeats 8000000 in
theorem check_l (p:Option Addr) (n d:Nat) (l:List Tox) (w:World) (hl:l.length=n) (hnd:n≤d) (hz:∀t∈l,t.s.size≤140737488351232) (hi:ToxIn w p n l):
  Calls Tryz.prog 61 #[.slice p n d] w λ e w'=>e=.returned (.int .i64 (checkL l))∧Below w.heap.size w w':=by
 have HI:=Lib.hid hi
 have HL:=Lib.hid hl
 have HZ:=Lib.hid hz
 clear hi hz hl
 by_cases h8:8<n
 ·have d1:decide (8<(n:Int))=true:=decide_eq_true (by omega)
  have HE:=Lib.hid (show checkL l=1 by unfold checkL;rw[if_pos (by rw[HL.out];exact h8)])
  clear HI HL HZ
  go_enter Tryz.func61,Tryz.ntmps61
  go_wp2_with fail
  go_ret
  exact⟨by rw[HE.out];rfl,Below.refl _ _⟩
 have d1:decide (8<(n:Int))=false:=decide_eq_false (by omega)
 go_enter Tryz.func61,Tryz.ntmps61
 go_wp2_with fail
 go_loopw [4,5,13] (λ _ _ i wr=>∃k:Nat,k≤n∧i=.int .i64 k∧Hid (∀j,j<k→(l.getD j noTox).chk=0)∧Hid (Below w.heap.size w wr)) (λ _ _ i _=>n -(intOf i).toNat)
 case atStart=>exact⟨0,by omega,rfl,Lib.hid (λ j hj=>absurd hj (Nat.not_lt_zero j)),Lib.hid (Below.refl _ _)⟩
 case round=>
  obtain⟨k,hk,rfl,HN,HB⟩:=hrel
  by_cases hlt:k<n
  ·obtain⟨b,o,rfl,hcell⟩:=toxs_on HI.out HB.out (by omega)
   obtain⟨c0,c1,c2,c3,c4,c5⟩:=hcell k hlt
   have hts:=HZ.out _ (getD_mem (by rw[HL.out];exact hlt:k<l.length))
   have HC1:=Lib.hid (λ h=>chkL_one HN.out (by rw[HL.out];exact hlt) h)
   have HNX:=Lib.hid (λ (h:(l.getD k noTox).chk=0) j (hj:j<k+1)=>(show(l.getD j noTox).chk=0 from by
    rcases Nat.lt_or_ge j k with e|e
    ·exact HN.out j e
    ·obtain rfl:j=k:=by omega
     exact h))
   have HF:=Lib.hid (λ W=>chk_l (l.getD k noTox) (by unfold maxLen;omega) W)
   generalize l.getD k noTox=tx at*
   rw[←Nat.add_assoc]at c1 c2 c3 c4 c5
   have hal:Below wr.heap.size wr (wr.alloc (.cells #[.string tx.s,.int .i64 tx.k,.bool tx.up,.int .i64 tx.o,.int .i64 tx.a,.int .i64 tx.b] 46)):=(Below.refl _ _).alloc (Nat.le_refl _) _
   have hnew:=heap_alloc_new wr (.cells #[.string tx.s,.int .i64 tx.k,.bool tx.up,.int .i64 tx.o,.int .i64 tx.a,.int .i64 tx.b] 46)
   have HB4:=Lib.hid (HB.out.trans (hal.mono HB.out.size))
   clear hcell hal hts
   go_upto_region 6 with fail
   generalize wr.alloc (.cells #[.string tx.s,.int .i64 tx.k,.bool tx.up,.int .i64 tx.o,.int .i64 tx.a,.int .i64 tx.b] 46)=w4 at*
   generalize wr.heap.size=gt at*
   have u0:=cell_of_row w4 _ 0 _ _ _ hnew
   have u1:=cell_of_row w4 _ 1 _ _ _ hnew
   have u2:=cell_of_row w4 _ 2 _ _ _ hnew
   have u3:=cell_of_row w4 _ 3 _ _ _ hnew
   have u4:=cell_of_row w4 _ 4 _ _ _ hnew
   have u5:=cell_of_row w4 _ 5 _ _ _ hnew
   clear c0 c1 c2 c3 c4 c5 hnew
   go_wp2_with fail
   refine(HF.out w4).mono ?_
   rintro e w5 ⟨rfl,hb⟩
   have HB5:=Lib.hid (HB4.out.trans (hb.mono HB4.out.size))
   clear hb HF HB4 u0 u1 u2 u3 u4 u5
   by_cases hc:tx.chk=0
   ·have HN2:=Lib.hid (HNX.out hc)
    rw[hc]
    clear HC1 HNX hc
    go_wp2_with fail
    go_roundw
    case rel=>exact⟨k+1,by omega,by go_num,HN2,HB5⟩
    case measure=>simp[intOf];omega
   ·have HE:=Lib.hid (HC1.out hc)
    have HCH:=Lib.hid hc
    have d2:(tx.chk !=0)=true:=by simpa using hc
    have d3:decide (tx.chk=0)=false:=by simpa using hc
    have hch:checkL l=tx.chk:=by
     unfold checkL
     rw[if_neg (by rw[HL.out];exact h8),HE.out,if_pos hc]
    have HCK:=Lib.hid hch
    clear HC1 HNX hc hch
    generalize tx.chk=X at*
    go_wp2_with fail
    go_ret
    exact⟨by rw[HCK.out];rfl,HB5.out⟩
  ·obtain rfl:k=n:=by omega
   have HCL:=Lib.hid (chkL_none HN.out HL.out.symm)
   clear HN hlt
   go_wp2_with fail
   go_loopw [6,25] (λ _ i wr=>∃j:Nat,j≤k∧i=.int .i64 j∧Hid (∀x,x<j→sameB l x=false)∧Hid (Below w.heap.size w wr)) (λ _ i _=>k -(intOf i).toNat)
   case atStart=>exact⟨0,by omega,rfl,Lib.hid (λ j hj=>absurd hj (Nat.not_lt_zero j)),HB⟩
   case round=>
    clear HB
    obtain⟨j,hj,rfl,HN,HB⟩:=hrel
    by_cases hlt:j<k
    ·obtain⟨b,o,rfl,hcell⟩:=toxs_on HI.out HB.out (by omega)
     obtain⟨c0,c1,c2,c3,c4,c5⟩:=hcell j hlt
     have HT:=Lib.hid (λ (W:World) (hb:Below w.heap.size w W)=>toxs_take (toxs_on HI.out hb) (Nat.le_of_lt hlt))
     have HCF:=Lib.hid (λ (W:World) (B:Nat) (hb:Below w.heap.size w W) (hc:W.cell? ⟨B,0,none⟩=some (.string (l.getD j noTox).s))=>contf_l (some ⟨b,o,none⟩) j d l (l.getD j noTox).s B W (by have:=HL.out;omega) (by omega) (by omega) (HT.out W hb) hc)
     have HSM:=Lib.hid (show((l.take j).any λ x=>decide (x.s=(l.getD j noTox).s))=sameB l j from rfl)
     rw[HSM.out]at HCF
     have HD1:=Lib.hid (λ h=>dup_yes (l:=l) (k:=j) (by have:=HL.out;omega) h)
     obtain⟨X,hX⟩:∃X,sameB l j=X:=⟨_,rfl⟩
     have HXX:=Lib.hid hX
     rw[hX]at HCF HD1
     clear hX HSM HT
     generalize l.getD j noTox=tx at*
     rw[←Nat.add_assoc]at c1 c2 c3 c4 c5
     have hal:Below wr.heap.size wr (wr.alloc (.cells #[.string tx.s,.int .i64 tx.k,.bool tx.up,.int .i64 tx.o,.int .i64 tx.a,.int .i64 tx.b] 46)):=(Below.refl _ _).alloc (Nat.le_refl _) _
     have hnew:=heap_alloc_new wr (.cells #[.string tx.s,.int .i64 tx.k,.bool tx.up,.int .i64 tx.o,.int .i64 tx.a,.int .i64 tx.b] 46)
     have HB4:=Lib.hid (HB.out.trans (hal.mono HB.out.size))
     clear hcell hal
     go_upto_region 13 with fail
     generalize wr.alloc (.cells #[.string tx.s,.int .i64 tx.k,.bool tx.up,.int .i64 tx.o,.int .i64 tx.a,.int .i64 tx.b] 46)=w4 at*
     generalize wr.heap.size=gt at*
     have HF:=Lib.hid (HCF.out w4 gt HB4.out (cell_of_row w4 _ 0 _ _ _ hnew))
     clear c0 c1 c2 c3 c4 c5 hnew HCF
     go_wp2_with fail
     refine HF.out.mono ?_
     rintro e w5 ⟨rfl,hb⟩
     have HB5:=Lib.hid (HB4.out.trans (hb.mono HB4.out.size))
     clear hb HF HB4
     cases X with
     |true=>
      have hdu:checkL l=141:=by
       unfold checkL
       rw[if_neg (by rw[HL.out];exact h8),if_neg (by rw[HCL.out];decide),if_pos (HD1.out rfl)]
      have HCK:=Lib.hid hdu
      clear hdu
      go_wp2_with fail
      go_ret
      exact⟨by rw[HCK.out];rfl,HB5.out⟩
     |false=>
      go_wp2_with fail
      go_roundw
      case rel=>exact⟨j+1,by omega,by go_num,Lib.hid (λ x hx=>by
       rcases Nat.lt_or_ge x j with e|e
       ·exact HN.out x e
       ·obtain rfl:x=j:=by omega
        exact HXX.out),HB5⟩
      case measure=>simp[intOf];omega
    ·obtain rfl:j=k:=by omega
     have hdu:checkL l=0:=by
      unfold checkL
      rw[if_neg (by rw[HL.out];exact h8),if_neg (by rw[HCL.out];decide),if_neg (by rw[dup_no (λ x hx=>HN.out x (by rw[HL.out]at hx;exact hx))];decide)]
     have HCK:=Lib.hid hdu
     clear hdu
     go_wp2_with fail
     go_ret
     exact⟨by rw[HCK.out];rfl,HB.out⟩
end Go.Proofs.YtdighjgcnaajgaaGreat
namespace Go.Proofs.YtdighjgcnaajgaaGreat
open Go.RowKit
section
variable {w0 w w':World} {V:Own} {g:Nat} {k:Lk} {M M':Nat}
theorem ldone (h:LRep w V g k M):Calls Tryz.prog 45 #[ptr g] w λ e w'=>e=.returned (.bool (decide (k.fin≠0)))∧w=w':=by
 obtain⟨U,ch,p,cap,h1,rfl⟩:=h
 exact done_l h1
theorem lcounts (h:LRep w V g k M):Calls Tryz.prog 47 #[ptr g] w λ e w'=>e=.returned (.agg #[.int .i64 k.sent,.int .i64 k.got,.int .i64 (k.c.held:Int),.int .i64 k.c.lost])∧Below w.heap.size w w':=by
 obtain⟨U,ch,p,cap,h1,rfl⟩:=h
 exact counts_l h1
theorem lnames (h:LRep w V g k M):Calls Tryz.prog 66 #[ptr g] w (NamesOut k.names w):=by
 obtain⟨U,ch,p,cap,h1,rfl⟩:=h
 exact names_l h1
theorem lchain (h:LRep w V g k M):∃ch,w.cell? ⟨g,0,none⟩=some (ptr ch)∧(Calls Tryz.prog 70 #[ptr ch] w (ToxOut k.c w)):=by
 obtain⟨U,ch,p,cap,h1,rfl⟩:=h
 exact⟨ch,h1.cell 0,toxics_v h1.chn⟩
theorem lfin (h:LRep w V g k M) (now:Int):Calls Tryz.prog 58 #[ptr g,.int .i64 now] w λ e w'=>e=.returned (.tuple #[])∧LStp w V g (k.finK now) M w':=by
 obtain⟨U,ch,p,cap,h1,rfl⟩:=h
 exact finish_l h1 now
theorem lcut (h:LRep w V g k M) (now:Int):Calls Tryz.prog 75 #[ptr g,.int .i64 now] w λ e w'=>e=.returned (.tuple #[])∧LStp w V g (k.cutK now) M w':=by
 obtain⟨U,ch,p,cap,h1,rfl⟩:=h
 exact cut_l h1 now
theorem lsend (h:LRep w V g k M) (now:Int) {pb:Option Addr} {nb cb:Nat} {b:ByteArray} (hb:b.size=nb) (hi:Lib.BytesIn w pb nb (gc.nums b)) (hnc:nb≤cb) (hM:M+b.size≤M') (hf:M'≤400000):
  Calls Tryz.prog 57 #[ptr g,.int .i64 now,.slice pb nb cb] w λ e w'=>e=.returned (.int .i64 (k.c.doA (Lk.oPut now b)).n)∧LStp w V g (k.sendK now b) M' w':=by
 obtain⟨U,ch,p,cap,h1,rfl⟩:=h
 exact send_l h1 now hb hi hnc hM hf
theorem lstep (h:LRep w V g k M) (now n:Int):Calls Tryz.prog 59 #[ptr g,.int .i64 now,.int .i64 n] w (GotL w V g (k.stepK now n) M (k.stepT now n) (k.stepE now n)):=by
 obtain⟨U,ch,p,cap,h1,rfl⟩:=h
 exact step_l h1 now n
theorem ladd (h:LRep w V g k M) (t:Tox) (ht:t.s.size≤maxLen) (now:Int) (hM:M+t.s.size≤M') (hf:M'≤400000):Calls Tryz.prog 53 #[ptr g,t.v,.int .i64 now] w λ e w'=>e=.returned (.int .i64 (k.addE t now))∧LStp w V g (k.addK t now) M' w':=by
 obtain⟨U,ch,p,cap,h1,rfl⟩:=h
 exact add_l h1 t ht now hM hf
theorem ldrop (h:LRep w V g k M) (s:ByteArray) (now:Int):Calls Tryz.prog 54 #[ptr g,.string s,.int .i64 now] w λ e w'=>e=.returned (.int .i64 (k.dropE s now))∧LStp w V g (k.dropK s now) M w':=by
 obtain⟨U,ch,p,cap,h1,rfl⟩:=h
 exact drop_l h1 s now
theorem lchg (h:LRep w V g k M) (t:Tox) (ht:t.s.size≤maxLen) (now:Int):Calls Tryz.prog 76 #[ptr g,t.v,.int .i64 now] w λ e w'=>e=.returned (.int .i64 (k.chgE t now))∧LStp w V g (k.chgK t now) M w':=by
 obtain⟨U,ch,p,cap,h1,rfl⟩:=h
 exact chg_l h1 t ht now
end
theorem newLE_parts {l:List Tox} {room:Int} (h:newLE l room=0):newE noTox room=0∧checkL l=0:=by
 unfold newLE at h
 split at h
 ·rename_i hc
  exact absurd h hc
 ·rename_i hc
  exact⟨by omega,h⟩
set_option maxRecDepth 100000 in
set_option maxHeartbeats 8000000 in
theorem lnew_no (p:Option Addr) (n d:Nat) (l:List Tox) (up:Bool) (seed room now:Int) (w:World) (hl:l.length=n) (hnd:n≤d) (hz:∀t∈l,t.s.size≤140737488351232) (hi:ToxIn w p n l) (hE:newLE l room≠0):
  Calls Tryz.prog 25 #[.slice p n d,.bool up,.int .u64 seed,.int .i64 room,.int .i64 now] w λ e w'=>e=.returned (.tuple #[.pointer none,.int .i64 (newLE l room)])∧Below w.heap.size w w':=by
 by_cases h0:newE noTox room=0
 ·have HN:=Lib.hid (new_v (now:=now) h0 w)
  have HC:=Lib.hid (λ (W:World) (hb:Below w.heap.size w W)=>check_l p n d l W hl hnd hz (toxs_on hi hb))
  have e1:newLE l room=checkL l:=by unfold newLE;rw[if_neg (by omega)]
  rw[e1]at hE⊢
  have d1:(checkL l !=0)=true:=by simpa using hE
  have d2:decide (checkL l=0)=false:=by simpa using hE
  generalize checkL l=E at*
  clear hl hz hi hE e1 h0
  go_enter Tryz.func25,Tryz.ntmps25
  go_wp2_with fail
  refine HN.out.mono ?_
  rintro e w1 ⟨ch,U,rfl,h1⟩
  have HB1:=Lib.hid h1.2.2
  clear h1 HN
  go_wp2_with fail
  refine(HC.out _ HB1.out).mono ?_
  rintro e w2 ⟨rfl,hb⟩
  have HB2:=Lib.hid (HB1.out.trans (hb.mono HB1.out.size))
  clear hb HC
  go_wp2_with fail
  go_ret2
  exact⟨rfl,HB2.out⟩
 ·have HN:=Lib.hid (new_c_no (room:=room) (now:=now) h0 w)
  have e1:newLE l room=newE noTox room:=by unfold newLE;rw[if_pos h0]
  rw[e1]
  have d1:(newE noTox room !=0)=true:=by simpa using h0
  have d2:decide (newE noTox room=0)=false:=by simpa using h0
  generalize newE noTox room=E at*
  clear hl hz hi hE e1 h0
  go_enter Tryz.func25,Tryz.ntmps25
  go_wp2_with fail
  refine HN.out.mono ?_
  rintro e w1 ⟨rfl,hb⟩
  have HB1:=Lib.hid hb
  clear hb HN
  go_wp2_with fail
  go_ret2
  exact⟨rfl,HB1.out⟩
theorem lk_box {w0 w:World} {U:Own} {ch:Nat} {up:Bool} {seed room now:Int} (h:CHd w0 w U ch (Ch.newC room now) 0) (hE:newE noTox room=0):
  ∃V,LHd w0 (w.alloc (.cells #[ptr ch,.bool up,.int .u64 seed,.int .u64 0,.slice none 0 0,.int .i64 0,.int .i64 0,.int .i64 0] 125)) V w.heap.size (Lk.newK up seed room now) 0:=by
 have hb:Below w.heap.size w (w.alloc (.cells #[ptr ch,.bool up,.int .u64 seed,.int .u64 0,.slice none 0 0,.int .i64 0,.int .i64 0,.int .i64 0] 125)):=(Below.refl _ _).alloc (Nat.le_refl _) _
 have h2:=h.on hb
 obtain⟨o1,o2⟩:=Lk.new_ok (up:=up) (seed:=seed) (now:=now) hE
 refine⟨blkL w.heap.size none U,⟨U,ch,none,0,⟨heap_alloc_new w _,gc.orow_nil _ _ _ _,h2.1,o1,Nat.le_refl _,o2,⟨Int.le_refl _,Int.le_refl _⟩,by decide⟩,rfl⟩,λ i hi=>?_,h2.2.2⟩
 rcases hi with rfl|⟨a,e,_⟩|e
 ·exact h.2.2.size
 ·cases e
 ·exact h.2.1 i e
set_option maxRecDepth 100000 in
set_option maxHeartbeats 8000000 in
theorem lnew (p:Option Addr) (n d:Nat) (l:List Tox) (up:Bool) (seed room now:Int) (w:World) (hl:l.length=n) (hnd:n≤d) (hz:∀t∈l,t.s.size≤140737488351232) (hi:ToxIn w p n l) (hE:newLE l room=0):
  Calls Tryz.prog 25 #[.slice p n d,.bool up,.int .u64 seed,.int .i64 room,.int .i64 now] w λ e w'=>∃g V,e=.returned (.tuple #[ptr g,.int .i64 0])∧LHd w w' V g ((Lk.newK up seed room now).addL now l) 128∧MkL ((Lk.newK up seed room now).addL now l) l up room now:=by
 obtain⟨h0,hck⟩:=newLE_parts hE
 obtain⟨hl8,hchk,_⟩:=check_ok hck
 have HN:=Lib.hid (new_v (now:=now) h0 w)
 have HC:=Lib.hid (λ (W:World) (hb:Below w.heap.size w W)=>check_l p n d l W hl hnd hz (toxs_on hi hb))
 have HBX:=Lib.hid (λ (W:World) (U:Own) (ch:Nat) (h:CHd w W U ch (Ch.newC room now) 0)=>lk_box (up:=up) (seed:=seed) h h0)
 have HMK:=Lib.hid (mk_new (up:=up) (seed:=seed) (now:=now) h0)
 have HL:=Lib.hid hl
 have HI:=Lib.hid hi
 have HK:=Lib.hid hck
 have HCK:=Lib.hid hchk
 rw[hck]at HC
 have hn8:n≤8:=by omega
 have HST:=Lib.hid (λ (K:Lk) (j:Nat) (h:MkL K (l.take j) up room now) (hj:j<l.length)=>mk_step h hck hj)
 clear hE h0 hl hz hi hck hchk
 go_enter Tryz.func25,Tryz.ntmps25
 go_wp2_with fail
 refine HN.out.mono ?_
 rintro e w1 ⟨ch,U,rfl,h1⟩
 have H1:=Lib.hid h1
 clear h1 HN
 go_wp2_with fail
 refine(HC.out _ H1.out.2.2).mono ?_
 rintro e w2 ⟨rfl,hb⟩
 obtain⟨V,h3⟩:=HBX.out w2 U ch (H1.out.on hb)
 have H3:=Lib.hid h3
 clear hb HC HBX H1 h3
 go_wp2_with fail
 generalize w2.alloc (.cells #[ptr ch,.bool up,.int .u64 seed,.int .u64 0,.slice none 0 0,.int .i64 0,.int .i64 0,.int .i64 0] 125)=w3 at*
 generalize w2.heap.size=g at*
 go_loopw [17,39] (λ _ i wr=>∃(j:Nat) (V':Own),j≤n∧i=.int .i64 j∧Hid (LHd w wr V' g ((Lk.newK up seed room now).addL now (l.take j)) (16*j))∧Hid (MkL ((Lk.newK up seed room now).addL now (l.take j)) (l.take j) up room now)) (λ _ i _=>n -(intOf i).toNat)
 case atStart=>exact⟨0,V,by omega,rfl,Lib.hid (by rw[List.take_zero];exact H3.out),Lib.hid (by rw[List.take_zero];exact HMK.out)⟩
 case round=>
  clear H3
  obtain⟨j,V1,hj,rfl,HA,HM⟩:=hrel
  by_cases hlt:j<n
  ·obtain⟨b,o,rfl,hcell⟩:=toxs_on HI.out HA.out.2.2 (by omega)
   obtain⟨c0,c1,c2,c3,c4,c5⟩:=hcell j hlt
   have hjl:j<l.length:=by rw[HL.out];exact hlt
   have hsn:=Lk.addL_snoc (Lk.newK up seed room now) now (l.take j) (l.getD j noTox)
   rw[←take_next hjl]at hsn
   have HM2:=Lib.hid (HST.out _ j HM.out hjl)
   have hcn:=Lk.chk_name (HCK.out _ (getD_mem hjl))
   have HAD:=Lib.hid (λ (W:World) (hb:Below wr.heap.size wr W)=>ladd (HA.out.on hb).1 (l.getD j noTox) (by unfold maxLen;omega) now (M':=16*(j+1)) (by omega) (by omega))
   rw[←hsn]at HM2 HAD
   generalize l.getD j noTox=tx at*
   obtain⟨K2,hK2⟩:∃K2,(Lk.newK up seed room now).addL now (l.take (j+1))=K2:=⟨_,rfl⟩
   have HK2:=Lib.hid hK2
   rw[hK2]at HM2 HAD
   clear hK2
   rw[←Nat.add_assoc]at c1 c2 c3 c4 c5
   have hal:Below wr.heap.size wr (wr.alloc (.cells #[.string tx.s,.int .i64 tx.k,.bool tx.up,.int .i64 tx.o,.int .i64 tx.a,.int .i64 tx.b] 46)):=(Below.refl _ _).alloc (Nat.le_refl _) _
   have hnew:=heap_alloc_new wr (.cells #[.string tx.s,.int .i64 tx.k,.bool tx.up,.int .i64 tx.o,.int .i64 tx.a,.int .i64 tx.b] 46)
   have HA4:=Lib.hid (HA.out.on hal)
   have HF:=Lib.hid (HAD.out _ hal)
   unfold Tox.v at HF
   clear hcell hal hsn hcn HAD HA
   go_upto_region 11 with fail
   generalize wr.alloc (.cells #[.string tx.s,.int .i64 tx.k,.bool tx.up,.int .i64 tx.o,.int .i64 tx.a,.int .i64 tx.b] 46)=w4 at*
   generalize wr.heap.size=gt at*
   have u0:=cell_of_row w4 _ 0 _ _ _ hnew
   have u1:=cell_of_row w4 _ 1 _ _ _ hnew
   have u2:=cell_of_row w4 _ 2 _ _ _ hnew
   have u3:=cell_of_row w4 _ 3 _ _ _ hnew
   have u4:=cell_of_row w4 _ 4 _ _ _ hnew
   have u5:=cell_of_row w4 _ 5 _ _ _ hnew
   clear c0 c1 c2 c3 c4 c5 hnew
   go_wp2_with fail
   refine HF.out.mono ?_
   rintro e w5 ⟨rfl,hs⟩
   obtain⟨V5,h5,_⟩:=HA4.out.step hs
   have H5:=Lib.hid h5
   clear hs h5 HF HA4 u0 u1 u2 u3 u4 u5
   go_wp2_with fail
   go_roundw
   case rel=>exact⟨j+1,V5,by omega,by go_num,Lib.hid (by rw[HK2.out];exact H5.out),Lib.hid (by rw[HK2.out];exact HM2.out)⟩
   case measure=>simp[intOf];omega
  ·obtain rfl:j=n:=by omega
   have ht:l.take j=l:=by rw[←HL.out,List.take_length]
   have HF:=Lib.hid (HA.out.mono (M':=128) (by omega) (by decide))
   rw[ht]at HF HM
   have HF2:=HM
   clear ht HA HM
   go_wp2_with fail
   go_ret2
   exact⟨g,V1,rfl,HF.out,HF2.out⟩
end Go.Proofs.YtdighjgcnaajgaaGreat
