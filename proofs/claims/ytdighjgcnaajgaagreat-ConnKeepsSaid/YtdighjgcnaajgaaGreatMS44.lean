import Derived.Shelf.Slices.Turned
import Derived.Shelf.Slices.Delete
import Derived.Shelf.Slices.Cells
import Derived.Shelf.Slices.Empties
import Derived.Shelf.Slices.Clone
import Derived.Ground.Names2Prog
import Derived.Test.YtdighjgcnaajgaaGreatProg
import Derived.Test.YtdighjgcnaajgaaGreatMS37
import Derived.Test.YtdighjgcnaajgaaGreatMS43
import Derived.StillTailTactics
namespace Go.Proofs
open Go.Shelf
def Tryz.lays109_ren:Go.Shelf.Ren:=⟨λ|109=>55|n=>n,λ|31=>36|9=>9|3=>3|0=>0|4=>4|n=>n,λ|n=>n⟩
theorem Tryz.lays109:Go.Proofs.Lays.n109 Tryz.prog Tryz.lays109_ren:={
 mixed:=by kernel_rfl
 f109:=Tryz.func55.trans (congrArg some (by kernel_rfl))
 t0:=Tryz.underlying0
 a0:=Tryz.isAgg0
 z0:=Tryz.sizeOf0
 v0:=Tryz.zeroValue0
 t3:=Tryz.underlying3
 a3:=Tryz.isAgg3
 z3:=Tryz.sizeOf3
 v3:=Tryz.zeroValue3
 t4:=Tryz.underlying4
 a4:=Tryz.isAgg4
 z4:=Tryz.sizeOf4
 v4:=Tryz.zeroValue4
 t9:=Tryz.underlying9
 a9:=Tryz.isAgg9
 z9:=Tryz.sizeOf9
 v9:=Tryz.zeroValue9
 t31:=Tryz.underlying36
 a31:=Tryz.isAgg36
 z31:=Tryz.sizeOf36
 v31:=Tryz.zeroValue36}
open Go.Lib in
theorem Tryz.slices_Index_string (b off n c:Nat) (zs:List ByteArray) (x:ByteArray) (w:World) (hz:n≤zs.length) (hbig:n≤9223372036854775807) (hc:∀j,j<zs.length→w.cell? ⟨b,off+j,none⟩=some (.string (zs.getD j ByteArray.empty))):
  Calls Tryz.prog 55 #[.slice (some ⟨b,off,none⟩) n c,.string x] w λ e w'=>e=.returned (.int .i64 (Lib.idxOfS (zs.take n) x))∧w'=w:=Any.slices_Index_string Tryz.lays109 b off n c zs x w hz hbig hc
open Go.Lib in
theorem Tryz.slices_Index_string_empty (a:Option Addr) (c:Nat) (x:ByteArray) (w:World):
  Calls Tryz.prog 55 #[.slice a 0 c,.string x] w λ e w'=>e=.returned (.int .i64 (Lib.idxOfS [] x))∧w'=w:=Any.slices_Index_string_empty Tryz.lays109 a c x w
def Tryz.lays110_ren:Go.Shelf.Ren:=⟨λ|110=>51|109=>55|n=>n,λ|31=>36|9=>9|4=>4|3=>3|0=>0|n=>n,λ|n=>n⟩
theorem Tryz.lays110:Go.Proofs.Lays.n110 Tryz.prog Tryz.lays110_ren:={
 mixed:=by kernel_rfl
 f109:=Tryz.func55.trans (congrArg some (by kernel_rfl))
 f110:=Tryz.func51.trans (congrArg some (by kernel_rfl))
 t0:=Tryz.underlying0
 a0:=Tryz.isAgg0
 z0:=Tryz.sizeOf0
 v0:=Tryz.zeroValue0
 t3:=Tryz.underlying3
 a3:=Tryz.isAgg3
 z3:=Tryz.sizeOf3
 v3:=Tryz.zeroValue3
 t4:=Tryz.underlying4
 a4:=Tryz.isAgg4
 z4:=Tryz.sizeOf4
 v4:=Tryz.zeroValue4
 t9:=Tryz.underlying9
 a9:=Tryz.isAgg9
 z9:=Tryz.sizeOf9
 v9:=Tryz.zeroValue9
 t31:=Tryz.underlying36
 a31:=Tryz.isAgg36
 z31:=Tryz.sizeOf36
 v31:=Tryz.zeroValue36}
open Go.Lib in
theorem Tryz.slices_Contains_string (b off n c:Nat) (zs:List ByteArray) (x:ByteArray) (w:World) (hz:n≤zs.length) (hbig:n≤9223372036854775807) (hc:∀j,j<zs.length→w.cell? ⟨b,off+j,none⟩=some (.string (zs.getD j ByteArray.empty))):
  Calls Tryz.prog 51 #[.slice (some ⟨b,off,none⟩) n c,.string x] w λ e w'=>e=.returned (.bool (Lib.containsS (zs.take n) x))∧w'=w:=Any.slices_Contains_string Tryz.lays110 b off n c zs x w hz hbig hc
open Go.Lib in
theorem Tryz.slices_Contains_string_empty (a:Option Addr) (c:Nat) (x:ByteArray) (w:World):
  Calls Tryz.prog 51 #[.slice a 0 c,.string x] w λ e w'=>e=.returned (.bool false)∧w'=w:=Any.slices_Contains_string_empty Tryz.lays110 a c x w
def Tryz.laysNm216_ren:Go.Shelf.Ren:=⟨λ|16=>49|n=>n,λ|24=>36|9=>9|4=>4|n=>n,λ|n=>n⟩
theorem Tryz.laysNm216:Go.Proofs.Lays2.n16 Tryz.prog Tryz.laysNm216_ren:={
 mixed:=by kernel_rfl
 f16:=Tryz.func49.trans (congrArg some (by kernel_rfl))
 t4:=Tryz.underlying4
 a4:=Tryz.isAgg4
 z4:=Tryz.sizeOf4
 v4:=Tryz.zeroValue4
 t9:=Tryz.underlying9
 a9:=Tryz.isAgg9
 z9:=Tryz.sizeOf9
 v9:=Tryz.zeroValue9
 t24:=Tryz.underlying36
 a24:=Tryz.isAgg36
 z24:=Tryz.sizeOf36
 v24:=Tryz.zeroValue36
 i9:=by kernel_rfl}
open Go.RowKit Go.Lib in
theorem Tryz.slices_Clone_string (b off n c:Nat) (zs:List ByteArray) (w:World) (hz:n≤zs.length) (hbig:n*16≤140737488355328) (hc:∀j,j<zs.length→w.cell? ⟨b,off+j,none⟩=some (.string (zs.getD j ByteArray.empty))):
  Calls Tryz.prog 49 #[.slice (some ⟨b,off,none⟩) n c] w λ e w'=>∃v',e=.returned v'∧w'.ownsRow w.heap.size 9 1 v' n ((zs.take n).map (Value.string))∧v'≠ .slice none 0 0∧Below w.heap.size w w':=Any.slices_Clone_string Tryz.laysNm216 b off n c zs w hz hbig hc
open Go.RowKit Go.Lib in
theorem Tryz.slices_Clone_string_nil (n c:Nat) (w:World):
  Calls Tryz.prog 49 #[.slice none n c] w λ e w'=>e=.returned (.slice none 0 0)∧w'=w:=Any.slices_Clone_string_nil Tryz.laysNm216 n c w
open Go.RowKit Go.Lib in
theorem Tryz.slices_Clone_string_zero (a:Addr) (c:Nat) (w:World):
  Calls Tryz.prog 49 #[.slice (some a) 0 c] w λ e w'=>∃v',e=.returned v'∧w'.ownsRow w.heap.size 9 1 v' 0 []∧v'≠ .slice none 0 0∧Below w.heap.size w w':=Any.slices_Clone_string_zero Tryz.laysNm216 a c w
def Tryz.laysNm224_ren:Go.Shelf.Ren:=⟨λ|24=>56|n=>n,λ|24=>36|9=>9|3=>3|4=>4|0=>0|n=>n,λ|n=>n⟩
theorem Tryz.laysNm224:Go.Proofs.Lays2.n24 Tryz.prog Tryz.laysNm224_ren:={
 mixed:=by kernel_rfl
 f24:=Tryz.func56.trans (congrArg some (by kernel_rfl))
 t0:=Tryz.underlying0
 a0:=Tryz.isAgg0
 z0:=Tryz.sizeOf0
 v0:=Tryz.zeroValue0
 t3:=Tryz.underlying3
 a3:=Tryz.isAgg3
 z3:=Tryz.sizeOf3
 v3:=Tryz.zeroValue3
 t4:=Tryz.underlying4
 a4:=Tryz.isAgg4
 z4:=Tryz.sizeOf4
 v4:=Tryz.zeroValue4
 t9:=Tryz.underlying9
 a9:=Tryz.isAgg9
 z9:=Tryz.sizeOf9
 v9:=Tryz.zeroValue9
 t24:=Tryz.underlying36
 a24:=Tryz.isAgg36
 z24:=Tryz.sizeOf36
 v24:=Tryz.zeroValue36
 i9:=by kernel_rfl}
open Go.RowKit Go.Lib Go.Sort in
theorem Tryz.slices_Delete_string_cells (b off n c i j:Nat) (Sx:Nat→ByteArray) (w:World) (hcap:n≤c) (hm:c≤9223372036854775807) (hij:i≤j) (hj:j≤n) (hc:∀i,i<n→w.cell? ⟨b,off+i,none⟩=some (.string (Sx i))) (hf:∀j,j<n→w.frozen? ⟨b,off+j,none⟩=false):
  Calls Tryz.prog 56 #[.slice (some ⟨b,off,none⟩) n c,.int .i64 i,.int .i64 j] w λ e w'=>e=.returned (.slice (some ⟨b,off,none⟩) (n -(j -i)) c)∧∃q,w'=(w.drewN q).setCells b off (((Lib.strsOf Sx n).take i++(Lib.strsOf Sx n).drop j++List.replicate (j -i) []).map encStr):=Any.slices_Delete_string_cells Tryz.laysNm224 b off n c i j Sx w hcap hm hij hj hc hf
open Go.RowKit Go.Lib in
theorem Tryz.slices_Delete_string_empty (a:Option Addr) (c:Nat) (w:World):
  Calls Tryz.prog 56 #[.slice a 0 c,.int .i64 0,.int .i64 0] w λ e w'=>e=.returned (.slice a 0 c)∧w'=w:=Any.slices_Delete_string_empty Tryz.laysNm224 a c w
end Go.Proofs
namespace Go.Proofs.YtdighjgcnaajgaaGreat
open Go.RowKit
theorem crep_not {w:World} {U:Own} {g:Nat} {c:Ch} {M:Nat} (h:CRep w U g c M) {i:Nat} {cs:Array Value} {T:TypeId} {fr:Nat×Nat} (hi:w.heap[i]?=some (.cells cs T fr)) (h1:T≠204) (h2:T≠225) (h3:T≠5) (h4:T≠249)
  (h5:T≠160) (h6:T≠161) (h7:T≠183):¬U i:=by
 obtain⟨c',p,cap,q,hc,_,_,_,rfl⟩:=h
 rintro(rfl|⟨a,ha,rfl⟩|⟨x,hx,e⟩)
 ·exact h5 (gc.two_types hi hc.blk)
 ·obtain⟨cur,ht⟩:=hc.row.typed a ha
  exact h6 (gc.two_types hi ht)
 ·obtain⟨k,hk,rfl⟩:=nd_of_mem hx
  have hk':k<c'.L.length:=by rw[←hc.len];exact hk
  rcases e with rfl|e
  ·exact h7 (gc.two_types hi (hc.prt k hk'))
  ·exact rep_not (hc.stg k hk') hi h1 h2 h3 h4 e
abbrev lkC (ch:Nat) (p:Option Addr) (cap:Nat) (k:Lk):Array Value:=#[ptr ch,.bool k.up,.int .u64 k.seed,.int .u64 (k.drawn:Int),.slice p k.names.length cap,.int .i64 k.sent,.int .i64 k.got,.int .i64 k.fin]
structure LAt (w:World) (U:Own) (g ch:Nat) (p:Option Addr) (cap:Nat) (k:Lk) (M:Nat):Prop where
 blk:w.heap[g]?=some (.cells (lkC ch p cap k) 125 (0,0))
 row:gc.ORow w 0 9 1 p k.names.length cap (k.names.map Value.string)
 chn:CRep w U ch k.c M
 ok:Lok k
 drw:k.drawn≤M
 bal:k.sent=k.got+k.c.bal
 pos:0≤k.got∧k.sent≤M
 top:M≤400000
def blkL (g:Nat) (p:Option Addr) (U:Own):Own:=λ i=>i=g∨(∃a,p=some a∧a.block=i)∨U i
section
variable {w w':World} {U:Own} {g ch:Nat} {p:Option Addr} {cap:Nat} {k k':Lk} {c':Ch} {M M':Nat}
theorem LAt.not_g (h:LAt w U g ch p cap k M):¬U g:=crep_not h.chn h.blk (by decide) (by decide) (by decide) (by decide) (by decide) (by decide) (by decide)
theorem LAt.not_r (h:LAt w U g ch p cap k M) {a:Addr} (ha:p=some a):¬U a.block:=by
 obtain⟨cur,hc⟩:=h.row.typed a ha
 exact crep_not h.chn hc (by decide) (by decide) (by decide) (by decide) (by decide) (by decide) (by decide)
theorem LAt.r_ne_g (h:LAt w U g ch p cap k M) {a:Addr} (ha:p=some a):a.block≠g:=λ e=>by
 obtain⟨cur,hc⟩:=h.row.typed a ha
 rw[e]at hc
 have:=gc.two_types hc h.blk
 simp at this
theorem LAt.lt (h:LAt w U g ch p cap k M) {i:Nat} (hi:blkL g p U i):i<w.heap.size:=by
 rcases hi with rfl|⟨a,ha,rfl⟩|e
 ·exact gb.blk_lt h.blk
 ·exact(h.row.lt a ha).2
 ·exact(crep_lt h.chn).2 i e
theorem LAt.keep (h:LAt w U g ch p cap k M) (hk:∀i,blkL g p U i→w'.heap[i]?=w.heap[i]?):LAt w' U g ch p cap k M:=
 ⟨(hk g (Or.inl rfl)).trans h.blk,h.row.keep λ a e=>hk _ (Or.inr (Or.inl ⟨a,e,rfl⟩)),crep_keep h.chn λ i hi=>hk i (Or.inr (Or.inr hi)),h.ok,h.drw,h.bal,h.pos,h.top⟩
theorem LAt.on (h:LAt w U g ch p cap k M) (hb:Below w.heap.size w w'):LAt w' U g ch p cap k M:=h.keep λ i hi=>hb.block i (h.lt hi)
theorem LAt.more (h:LAt w U g ch p cap k M) (hM:M≤M') (hf:M'≤400000):LAt w U g ch p cap k M':=
 ⟨h.blk,h.row,crep_mono h.chn hM hf,h.ok,Nat.le_trans h.drw hM,h.bal,⟨h.pos.1,by have:=h.pos.2;omega⟩,hf⟩
theorem LAt.cell (h:LAt w U g ch p cap k M) (i:Nat):w.cell? ⟨g,i,none⟩=(lkC ch p cap k)[i]?:=by simp[World.cell?,h.blk]
theorem LAt.frz (h:LAt w U g ch p cap k M) (i:Nat):w.frozen? ⟨g,i,none⟩=false:=gb.frozen_at h.blk
theorem LAt.lg (h:LAt w U g ch p cap k M):g<w.heap.size:=gb.blk_lt h.blk
theorem LAt.nums (h:LAt w U g ch p cap k M):0≤k.got∧k.got≤k.sent∧0≤k.sent∧k.sent≤400000∧k.got≤400000:=by
 have h1:=h.bal
 have h2:=h.pos
 have h3:=h.top
 have h4:=h.chn.lost
 unfold Ch.bal at h1
 omega
theorem LAt.strs (h:LAt w U g ch p cap k M):(0<k.names.length→∃b o,p=some ⟨b,o,none⟩∧∀j,j<k.names.length→w.cell? ⟨b,o+j,none⟩=some (.string (k.names.getD j ByteArray.empty)))∧k.names.length≤cap∧cap≤maxLen:=by
 refine⟨λ hn=>?_,h.row.cap,h.row.max⟩
 obtain⟨b,o,hp,hc⟩:=h.row.at hn
 refine⟨b,o,hp,λ j hj=>hc j _ ?_⟩
 rw[List.getElem?_map,List.getElem?_eq_getElem hj,List.getD_eq_getElem?_getD,List.getElem?_eq_getElem hj]
 rfl
theorem LAt.chain (h:LAt w U g ch p cap k M) (hs:CStp w U ch c' M' w'):
  ∃U',w'.heap[g]?=some (.cells (lkC ch p cap k) 125 (0,0))∧gc.ORow w' 0 9 1 p k.names.length cap (k.names.map Value.string)∧CRep w' U' ch c' M'∧Mvd w (blkL g p U) w' (blkL g p U'):=by
 obtain⟨U',hr,hm⟩:=hs
 refine⟨U',(hm.1.2 g h.lg h.not_g).trans h.blk,h.row.keep λ a e=>hm.1.2 _ (h.row.lt a e).2 (h.not_r e),hr,?_⟩
 exact hm.mono (λ i hi=>Or.inr (Or.inr hi)) λ i hi=>by
  rcases hi with e|e|e
  ·exact Or.inr (Or.inl e)
  ·exact Or.inr (Or.inr (Or.inl e))
  ·exact Or.inl e
theorem LAt.setG (hb:w.heap[g]?=some (.cells (lkC ch p cap k) 125 (0,0))) (hr:gc.ORow w 0 9 1 p k.names.length cap (k.names.map Value.string)) (hc:CRep w U ch k.c M) (i:Nat) (v:Value) (hv:(lkC ch p cap k).setIfInBounds i v=lkC ch p cap k')
  (hn:k'.names=k.names) (hcc:k'.c=k.c) (hok:Lok k') (hd:k'.drawn≤M) (hbl:k'.sent=k'.got+k'.c.bal) (hp:0≤k'.got∧k'.sent≤M) (hM:M≤400000):LAt (w.setCell ⟨g,i,none⟩ v) U g ch p cap k' M:=by
 have ho:∀j,j≠g→(w.setCell ⟨g,i,none⟩ v).heap[j]?=w.heap[j]?:=λ j hj=>Below.heap_setCell _ _ _ _ hj
 have hng:¬U g:=crep_not hc hb (by decide) (by decide) (by decide) (by decide) (by decide) (by decide) (by decide)
 refine⟨?_,?_,?_,hok,hd,hbl,hp,hM⟩
 ·rw[←hv]
  simp[World.setCell,Array.getElem?_modify,hb]
 ·rw[hn]
  refine hr.keep λ a e=>ho _ λ e'=>?_
  obtain⟨cur,hcu⟩:=hr.typed a e
  rw[e']at hcu
  have:=gc.two_types hcu hb
  simp at this
 ·rw[hcc]
  exact crep_keep hc λ i hi=>ho i λ e=>hng (by rw[←e];exact hi)
end
theorem Lk.bal_pos {w:World} {U:Own} {g ch:Nat} {p:Option Addr} {cap:Nat} {k:Lk} {M:Nat} (h:LAt w U g ch p cap k M) (now n:Int):0≤((k.c.doN (Lk.oStep now)).doN (Lk.oTake now n)).bal:=by
 have h1:=Ch.lost_do k.c (Lk.oStep now)
 have h2:=Ch.lost_do (k.c.doN (Lk.oStep now)) (Lk.oTake now n)
 have h3:=h.chn.lost
 unfold Ch.bal
 omega
def LRep (w:World) (V:Own) (g:Nat) (k:Lk) (M:Nat):Prop:=∃U ch p cap,LAt w U g ch p cap k M∧V=blkL g p U
def LStp (w:World) (V:Own) (g:Nat) (k:Lk) (M:Nat) (w':World):Prop:=∃V',LRep w' V' g k M∧Mvd w V w' V'
def LHd (w0 w:World) (V:Own) (g:Nat) (k:Lk) (M:Nat):Prop:=LRep w V g k M∧(∀i,V i→w0.heap.size≤i)∧Below w0.heap.size w0 w
theorem lrep_lt {w:World} {V:Own} {g:Nat} {k:Lk} {M:Nat} (h:LRep w V g k M):V g∧∀i,V i→i<w.heap.size:=by
 obtain⟨U,ch,p,cap,h1,rfl⟩:=h
 exact⟨Or.inl rfl,λ i hi=>h1.lt hi⟩
theorem lrep_keep {w w':World} {V:Own} {g:Nat} {k:Lk} {M:Nat} (h:LRep w V g k M) (hb:∀i,V i→w'.heap[i]?=w.heap[i]?):LRep w' V g k M:=by
 obtain⟨U,ch,p,cap,h1,rfl⟩:=h
 exact⟨U,ch,p,cap,h1.keep hb,rfl⟩
section
variable {w0 w w':World} {V:Own} {g:Nat} {k k':Lk} {M M':Nat}
theorem LHd.on (h:LHd w0 w V g k M) (hb:Below w.heap.size w w'):LHd w0 w' V g k M:=
 ⟨lrep_keep h.1 (λ i hi=>hb.block i ((lrep_lt h.1).2 i hi)),h.2.1,h.2.2.trans (hb.mono h.2.2.size)⟩
theorem LHd.new (h:LHd w0 w V g k M) {i:Nat} (hi:w.heap.size≤i):¬V i:=λ hu=>by
 have:=(lrep_lt h.1).2 i hu
 omega
theorem LHd.step (h:LHd w0 w V g k M) (hs:LStp w V g k' M' w'):∃V',LHd w0 w' V' g k' M'∧Rest w V w' V':=by
 obtain⟨V',hr,hm⟩:=hs
 have hf:Fr w0 w' V':=Fr.mvd ⟨h.2.2,h.2.1⟩ hm
 refine⟨V',⟨hr,hf.2,hf.1⟩,λ i hi hu=>⟨hm.1.2 i hi hu,λ hu'=>?_⟩⟩
 rcases hm.2 i hu' with e|e
 ·exact hu e
 ·omega
theorem LHd.mono (h:LHd w0 w V g k M) (hM:M≤M') (hf:M'≤400000):LHd w0 w V g k M':=by
 obtain⟨⟨U,ch,p,cap,h1,rfl⟩,h2⟩:=h
 exact⟨⟨U,ch,p,cap,h1.more hM hf,rfl⟩,h2⟩
theorem LHd.set (h:LHd w0 w V g k M) {b i:Nat} (hc:¬V b) (h0:w0.heap.size≤b) (v:Value):LHd w0 (w.setCell ⟨b,i,none⟩ v) V g k M:=
 ⟨lrep_keep h.1 (λ j hj=>Below.heap_setCell _ _ _ _ (λ e=>hc (by have e:j=b:=e;rw[←e];exact hj))),h.2.1,h.2.2.setCell (p:=⟨b,i,none⟩) h0 v⟩
theorem LHd.ok (h:LHd w0 w V g k M):Lok k:=by
 obtain⟨⟨U,ch,p,cap,h1,rfl⟩,_⟩:=h
 exact h1.ok
theorem LHd.nums (h:LHd w0 w V g k M):0≤k.got∧k.got≤k.sent∧0≤k.sent∧k.sent≤400000∧k.got≤400000:=by
 obtain⟨⟨U,ch,p,cap,h1,rfl⟩,_⟩:=h
 exact h1.nums
theorem LHd.bal (h:LHd w0 w V g k M):k.sent=k.got+k.c.held+k.c.lost:=by
 obtain⟨⟨U,ch,p,cap,h1,rfl⟩,_⟩:=h
 have:=h1.bal
 unfold Ch.bal at this
 omega
end
end Go.Proofs.YtdighjgcnaajgaaGreat
namespace Go.Proofs.YtdighjgcnaajgaaGreat
open Go.RowKit
section
variable {w w':World} {U:Own} {g ch:Nat} {p:Option Addr} {cap:Nat} {k:Lk} {M M':Nat}
theorem done_l (h:LAt w U g ch p cap k M):Calls Tryz.prog 45 #[ptr g] w λ e w'=>e=.returned (.bool (decide (k.fin≠0)))∧w=w':=by
 have x7:w.cell? ⟨g,7,none⟩=some (.int .i64 k.fin):=h.cell 7
 generalize k.fin=f at*
 by_cases hf:f=0
 ·subst hf
  clear h
  go_enter Tryz.func45,Tryz.ntmps45
  go_wp2_with fail
  go_ret
  exact⟨rfl,rfl⟩
 ·have d1:(f !=0)=true:=by simpa using hf
  have d2:decide (f≠0)=true:=by simpa using hf
  rw[d2]
  clear h d2 hf
  go_enter Tryz.func45,Tryz.ntmps45
  go_wp2_with fail
  go_ret
  exact⟨rfl,rfl⟩
theorem lstp_chain (h:LAt w U g ch p cap k M) {c':Ch} (hs:CStp w U ch c' M w') (hok:Lok {k with c:=c'}) (hb:({k with c:=c'}:Lk).Bal):LStp w (blkL g p U) g {k with c:=c'} M w':=by
 obtain⟨U',h1,h2,h3,h4⟩:=h.chain hs
 exact⟨_,⟨U',ch,p,cap,⟨h1,h2,h3,hok,h.drw,hb,h.pos,h.top⟩,rfl⟩,h4⟩
theorem finish_l (h:LAt w U g ch p cap k M) (now:Int):Calls Tryz.prog 58 #[ptr g,.int .i64 now] w λ e w'=>e=.returned (.tuple #[])∧LStp w (blkL g p U) g (k.finK now) M w':=by
 have x0:w.cell? ⟨g,0,none⟩=some (ptr ch):=h.cell 0
 have hok:=Lk.fin_ok h.ok h.bal now
 have HS:=Lib.hid (λ w' (hs:CStp w U ch (k.c.doN (Lk.oFin now)) M w')=>(show LStp w (blkL g p U) g (k.finK now) M w' from lstp_chain h hs hok.1 hok.2))
 have HC:=Lib.hid (close_v h.chn now 0 none0 noTox 0)
 clear h hok
 go_enter Tryz.func58,Tryz.ntmps58
 go_wp2_with fail
 refine HC.out.mono ?_
 rintro e w1 ⟨rfl,hs⟩
 have HL:=Lib.hid (HS.out _ hs)
 clear hs x0 HC HS
 go_wp2_with fail
 go_end0
 exact⟨rfl,HL.out⟩
theorem cut_l (h:LAt w U g ch p cap k M) (now:Int):Calls Tryz.prog 75 #[ptr g,.int .i64 now] w λ e w'=>e=.returned (.tuple #[])∧LStp w (blkL g p U) g (k.cutK now) M w':=by
 have x0:w.cell? ⟨g,0,none⟩=some (ptr ch):=h.cell 0
 have hok:=Lk.cut_ok h.ok h.bal now
 have HS:=Lib.hid (λ w' (hs:CStp w U ch (k.c.doN (Lk.oCut now)) M w')=>(show LStp w (blkL g p U) g (k.cutK now) M w' from lstp_chain h hs hok.1 hok.2))
 have HC:=Lib.hid (break_v h.chn now 0 none0 noTox 0)
 clear h hok
 go_enter Tryz.func75,Tryz.ntmps75
 go_wp2_with fail
 refine HC.out.mono ?_
 rintro e w1 ⟨rfl,hs⟩
 have HL:=Lib.hid (HS.out _ hs)
 clear hs x0 HC HS
 go_wp2_with fail
 go_end0
 exact⟨rfl,HL.out⟩
set_option maxHeartbeats 4000000 in
theorem send_l (h:LAt w U g ch p cap k M) (now:Int) {pb:Option Addr} {nb cb:Nat} {b:ByteArray} (hb:b.size=nb) (hi:Lib.BytesIn w pb nb (gc.nums b)) (hnc:nb≤cb) (hM:M+b.size≤M') (hf:M'≤400000):
  Calls Tryz.prog 57 #[ptr g,.int .i64 now,.slice pb nb cb] w λ e w'=>e=.returned (.int .i64 (k.c.doA (Lk.oPut now b)).n)∧LStp w (blkL g p U) g (k.sendK now b) M' w':=by
 have x0:w.cell? ⟨g,0,none⟩=some (ptr ch):=h.cell 0
 obtain⟨o1,o2,o3,o4⟩:=Lk.send_ok h.ok h.bal now b
 have hn:=h.nums
 have HS:=Lib.hid (λ w' (hs:CStp w U ch (k.c.doN (Lk.oPut now b)) M' w')=>(show(w'.cell? ⟨g,5,none⟩=some (.int .i64 k.sent)∧w'.frozen? ⟨g,5,none⟩=false∧g<w'.heap.size)∧LStp w (blkL g p U) g (k.sendK now b) M' (w'.setCell ⟨g,5,none⟩ (.int .i64 (k.sent+(k.c.doA (Lk.oPut now b)).n)))from by
  obtain⟨U',h1,h2,h3,h4⟩:=h.chain hs
  refine⟨⟨by simp[World.cell?,h1],gb.frozen_at h1,gb.blk_lt h1⟩,_,⟨U',ch,p,cap,LAt.setG (k:={k with c:=k.c.doN (Lk.oPut now b)}) h1 h2 h3 5 _ rfl rfl rfl o1 (Nat.le_trans h.drw (by omega)) o2 ⟨h.pos.1,?_⟩ hf,rfl⟩,h4.trans (mvd_set _ (Or.inl rfl) _ _)⟩
  show k.sent+(k.c.doA (Lk.oPut now b)).n≤M'
  have:=h.pos.2
  omega))
 have HC:=Lib.hid (put_v h.chn now 0 noTox 0 hb hi hnc hM hf)
 have e1:(⟨0,now,0,b,noTox,0⟩:COp)=Lk.oPut now b:=rfl
 rw[e1]at HC
 have hbs:b.size≤400000:=by omega
 generalize(k.c.doA (Lk.oPut now b)).n=n1 at*
 have q1:IntKind.i64.wrap (k.sent+n1)=k.sent+n1:=wrap_id (by omega) (by omega)
 generalize k.sent=x at*
 clear h o1 o2 o3 o4 hn hi hb hnc hM hf e1 hbs
 go_enter Tryz.func57,Tryz.ntmps57
 go_wp2_with fail
 refine HC.out.mono ?_
 rintro e w1 ⟨rfl,hs⟩
 obtain⟨⟨x5,f5,hlt⟩,hl⟩:=HS.out _ hs
 have HL:=Lib.hid hl
 clear hs x0 HC HS hl
 go_wp2_with fail
 go_ret
 exact⟨rfl,HL.out⟩
def LStpF (w:World) (V:Own) (g:Nat) (k:Lk) (M:Nat) (a:Option Addr) (K:Nat) (w':World):Prop:=∃V',LRep w' V' g k M∧Mvd w V w' V'∧Far a K V' w'
def GotL (w:World) (V:Own) (g:Nat) (k:Lk) (M:Nat) (T:ByteArray) (n:Int) (e:Ending) (w':World):Prop:=
 ∃a d,e=.returned (.tuple #[.slice a T.size d,.int .i64 n])∧Lib.BytesIn w' a T.size (gc.nums T)∧T.size≤d∧d≤9223372036854775807∧LStpF w V g k M a T.size w'
theorem bytes_mvd {q:Option Addr} {n:Nat} {xs:List Int} {V V':Own} (hi:Lib.BytesIn w q n xs) (hq:Far q n V w) (hm:Mvd w V w' V'):Lib.BytesIn w' q n xs∧Far q n V' w':=by
 refine⟨λ hn=>?_,λ hn a ha=>?_⟩
 ·obtain⟨b,o,rfl,hcl⟩:=hi hn
  obtain⟨h1,h2⟩:=hq hn _ rfl
  refine⟨b,o,rfl,λ i hi'=>?_⟩
  rw[←hcl i hi']
  exact World.cell?_of_block (a:=⟨b,o+i,none⟩) (hm.1.2 b h2 h1)
 ·obtain⟨h1,h2⟩:=hq hn a ha
  refine⟨λ hu=>?_,Nat.lt_of_lt_of_le h2 hm.size⟩
  rcases hm.2 _ hu with e|e
  ·exact h1 e
  ·omega
theorem LHd.stepB {w0:World} {V:Own} {k':Lk} (h:LHd w0 w V g k M) (hs:LStp w V g k' M' w') {q:Option Addr} {n:Nat} {xs:List Int} (hi:Lib.BytesIn w q n xs) (hq:Far q n V w):∃V',LHd w0 w' V' g k' M'∧Lib.BytesIn w' q n xs∧Far q n V' w':=by
 obtain⟨V',hr,hm⟩:=hs
 have hf:Fr w0 w' V':=Fr.mvd ⟨h.2.2,h.2.1⟩ hm
 exact⟨V',⟨hr,hf.2,hf.1⟩,bytes_mvd hi hq hm⟩
theorem LStpF.stp {V:Own} {a:Option Addr} {K:Nat} (h:LStpF w V g k M a K w'):LStp w V g k M w':=by
 obtain⟨V',h1,h2,_⟩:=h
 exact⟨V',h1,h2⟩
theorem lat_chain (h:LAt w U g ch p cap k M) {c':Ch} (hs:CStp w U ch c' M w') (hok:Lok {k with c:=c'}) (hb:({k with c:=c'}:Lk).Bal):∃U',LAt w' U' g ch p cap {k with c:=c'} M∧Mvd w (blkL g p U) w' (blkL g p U'):=by
 obtain⟨U',h1,h2,h3,h4⟩:=h.chain hs
 exact⟨U',⟨h1,h2,h3,hok,h.drw,hb,h.pos,h.top⟩,h4⟩
structure MidL (w:World) (V:Own) (U:Own) (g ch:Nat) (p:Option Addr) (cap:Nat) (k:Lk) (now n:Int) (M:Nat) (a:Option Addr) (K:Nat) (w':World):Prop where
 x0:w'.cell? ⟨g,0,none⟩=some (ptr ch)
 x6:w'.cell? ⟨g,6,none⟩=some (.int .i64 k.got)
 f6:w'.frozen? ⟨g,6,none⟩=false
 hl:g<w'.heap.size
 at':LAt (w'.setCell ⟨g,6,none⟩ (.int .i64 (k.got+(k.stepT now n).size))) U g ch p cap (k.st2 now n) M
 mv:Mvd w V (w'.setCell ⟨g,6,none⟩ (.int .i64 (k.got+(k.stepT now n).size))) (blkL g p U)
 far:Far a K (blkL g p U) (w'.setCell ⟨g,6,none⟩ (.int .i64 (k.got+(k.stepT now n).size)))
theorem mid_take {V:Own} {w0:World} {now:Int} (h:LAt w U g ch p cap (k.st1 now) M) (hk:Lok k) (hb:k.Bal) (hm:Mvd w0 V w (blkL g p U)) {n:Int} {a:Option Addr}
  (hi:Lib.BytesIn w' a (k.stepT now n).size (gc.nums (k.stepT now n))) (hs:∃U',CRep w' U' ch ((k.c.doN (Lk.oStep now)).doN (Lk.oTake now n)) M∧Mvd w U w' U'∧Far a (k.stepT now n).size U' w'∧∀x,a=some x→w.heap.size≤x.block):
  ∃U',MidL w0 V U' g ch p cap k now n M a (k.stepT now n).size w'∧Lib.BytesIn (w'.setCell ⟨g,6,none⟩ (.int .i64 (k.got+(k.stepT now n).size))) a (k.stepT now n).size (gc.nums (k.stepT now n)):=by
 obtain⟨U1,hr,hmv,hfar,hfr⟩:=hs
 obtain⟨h2,b2⟩:=Lk.st2_ok hk hb now n
 have hgn:g<w.heap.size:=h.lg
 have e1:w'.heap[g]?=some (.cells (lkC ch p cap (k.st1 now)) 125 (0,0)):=(hmv.1.2 g hgn h.not_g).trans h.blk
 have e2:gc.ORow w' 0 9 1 p (k.st1 now).names.length cap ((k.st1 now).names.map Value.string):=h.row.keep λ x e=>hmv.1.2 _ (h.row.lt x e).2 (h.not_r e)
 have hal:=LAt.setG (k:={k.st1 now with c:=(k.c.doN (Lk.oStep now)).doN (Lk.oTake now n)}) (k':=k.st2 now n) e1 e2 hr 6 (.int .i64 (k.got+(k.stepT now n).size)) rfl rfl rfl h2 h.drw b2 ⟨by have:=h.pos.1;show 0≤k.got+_;have e:(k.st1 now).got=k.got:=rfl;omega,h.pos.2⟩ h.top
 have hmL:Mvd w (blkL g p U) w' (blkL g p U1):=hmv.mono (λ i hi=>Or.inr (Or.inr hi)) λ i hi=>by
  rcases hi with e|e|e
  ·exact Or.inr (Or.inl e)
  ·exact Or.inr (Or.inr (Or.inl e))
  ·exact Or.inl e
 have hset:=mvd_set w' (U:=blkL g p U1) (b:=g) (Or.inl rfl) 6 (.int .i64 (k.got+(k.stepT now n).size))
 have hfar2:Far a (k.stepT now n).size (blkL g p U1) w':=λ hK x hx=>by
  obtain⟨f1,f2⟩:=hfar hK x hx
  have f3:=hfr x hx
  refine⟨λ hu=>?_,f2⟩
  rcases hu with e|⟨y,hy,e⟩|e
  ·omega
  ·have:=(h.row.lt y hy).2
   omega
  ·exact f1 e
 have hby:=bytes_mvd hi hfar2 hset
 exact⟨U1,⟨by simp[World.cell?,e1],by simp[World.cell?,e1];rfl,gb.frozen_at e1,gb.blk_lt e1,hal,(hm.trans hmL).trans hset,hby.2⟩,hby.1⟩
set_option maxRecDepth 100000 in
set_option maxHeartbeats 8000000 in
theorem step_l (h:LAt w U g ch p cap k M) (now n:Int):Calls Tryz.prog 59 #[ptr g,.int .i64 now,.int .i64 n] w (GotL w (blkL g p U) g (k.stepK now n) M (k.stepT now n) (k.stepE now n)):=by
 have x0:w.cell? ⟨g,0,none⟩=some (ptr ch):=h.cell 0
 obtain⟨o1,b1⟩:=Lk.st1_ok h.ok h.bal now
 obtain⟨o2,b2⟩:=Lk.st2_ok h.ok h.bal now n
 obtain⟨o3,b3⟩:=Lk.st1_ok o2 b2 now
 have hk:=h.ok
 have hb:=h.bal
 have hnm:=h.nums
 have HS1:=Lib.hid (λ w' (hs:CStp w U ch (k.c.doN (Lk.oStep now)) M w')=>lat_chain h hs o1 b1)
 have HM:=Lib.hid (λ (w1:World) (U1:Own) (h1:LAt w1 U1 g ch p cap (k.st1 now) M) (m1:Mvd w (blkL g p U) w1 (blkL g p U1)) (w2:World) (a:Option Addr) hi hs=>mid_take (w':=w2) (a:=a) (n:=n) h1 hk hb m1 hi hs)
 have HC:=Lib.hid (step_v h.chn now 0 none0 noTox 0)
 have HT:=Lib.hid (λ (w1:World) (U1:Own) (h1:LAt w1 U1 g ch p cap (k.st1 now) M)=>(show Calls Tryz.prog 95 #[ptr ch,.int .i64 now,.int .i64 n] w1 (GotV w1 U1 ch ((k.c.doN (Lk.oStep now)).doN (Lk.oTake now n)) M (k.stepT now n))from take_v h1.chn now n none0 noTox 0))
 have HC3:=Lib.hid (λ (w3:World) (U3:Own) (h3:LAt w3 U3 g ch p cap (k.st2 now n) M)=>(show Calls Tryz.prog 94 #[ptr ch,.int .i64 now] w3 λ e w'=>e=.returned (.int .i64 (k.stepC now n).state)∧CStp w3 U3 ch (k.stepC now n) M w' from step_v h3.chn now 0 none0 noTox 0))
 have HE:Hid (∀(w3 w4:World) (U3:Own) (a:Option Addr) (_:LAt w3 U3 g ch p cap (k.st2 now n) M) (_:Mvd w (blkL g p U) w3 (blkL g p U3)) (_:Far a (k.stepT now n).size (blkL g p U3) w3) (_:Lib.BytesIn w3 a (k.stepT now n).size (gc.nums (k.stepT now n))) (_:CStp w3 U3 ch (k.stepC now n) M w4),
   w4.cell? ⟨g,7,none⟩=some (.int .i64 k.fin)∧w4.frozen? ⟨g,7,none⟩=false∧g<w4.heap.size∧(∃U4,LAt w4 U4 g ch p cap {k.st2 now n with c:=k.stepC now n} M)∧
   (k.fin≠0→Lib.BytesIn w4 a (k.stepT now n).size (gc.nums (k.stepT now n))∧LStpF w (blkL g p U) g (k.stepK now n) M a (k.stepT now n).size w4)∧
   (k.fin=0→Lib.BytesIn (w4.setCell ⟨g,7,none⟩ (.int .i64 (k.stepC now n).state)) a (k.stepT now n).size (gc.nums (k.stepT now n))∧LStpF w (blkL g p U) g (k.stepK now n) M a (k.stepT now n).size (w4.setCell ⟨g,7,none⟩ (.int .i64 (k.stepC now n).state)))):=λ w3 w4 U3 a h3 m3 f3 i3 hs=>by
  obtain⟨U4,h4,m4⟩:=lat_chain h3 hs o3 b3
  have hy:=bytes_mvd i3 f3 m4
  refine⟨h4.cell 7,h4.frz 7,h4.lg,⟨U4,h4⟩,λ hf=>⟨hy.1,_,⟨U4,ch,p,cap,?_,rfl⟩,m3.trans m4,hy.2⟩,λ hf=>?_⟩
  ·have e:k.stepK now n={k.st2 now n with c:=k.stepC now n}:=by
    unfold Lk.stepK
    rw[if_pos hf]
    rfl
   rw[e]
   exact h4
  ·have hset:=mvd_set w4 (U:=blkL g p U4) (b:=g) (Or.inl rfl) 7 (.int .i64 (k.stepC now n).state)
   obtain⟨q1,q2,_⟩:=Lk.step_ok hk hb now n
   have e:k.stepK now n={k.st2 now n with c:=k.stepC now n,fin:=(k.stepC now n).state}:=by
    unfold Lk.stepK
    rw[if_neg (by omega)]
    rfl
   refine⟨(bytes_mvd hy.1 hy.2 hset).1,_,⟨U4,ch,p,cap,LAt.setG (k:={k.st2 now n with c:=k.stepC now n}) h4.blk h4.row h4.chn 7 _ ?_ ?_ ?_ q1 ?_ q2 ?_ h4.top,rfl⟩,(m3.trans m4).trans hset,(bytes_mvd hy.1 hy.2 hset).2⟩
   ·rw[e];rfl
   ·rw[e]
   ·rw[e]
   ·rw[e];exact h4.drw
   ·rw[e];exact h4.pos
 have HF:=Lib.hid (λ (w4:World) (U4:Own) (h4:LAt w4 U4 g ch p cap {k.st2 now n with c:=k.stepC now n} M)=>(show Calls Tryz.prog 45 #[ptr g] w4 λ e w'=>e=.returned (.bool (decide (k.fin≠0)))∧w4=w' from done_l (k:={k.st2 now n with c:=k.stepC now n}) h4))
 unfold GotL Lk.stepE
 have hT4:(k.got+((k.stepT now n).size:Int))≤400000∧0≤k.got:=by
  have e1:k.sent=k.got+(k.stepT now n).size+((k.c.doN (Lk.oStep now)).doN (Lk.oTake now n)).bal:=b2
  have e2:=h.pos
  have e3:=h.top
  have HQ:=o2
  have e4:0≤((k.c.doN (Lk.oStep now)).doN (Lk.oTake now n)).bal:=Lk.bal_pos h now n
  omega
 obtain⟨X,hX⟩:∃X,(k.stepC now n).state=X:=⟨_,rfl⟩
 have HS2:Hid (∀(w2:World) (U2:Own) (a:Option Addr),MidL w (blkL g p U) U2 g ch p cap k now n M a (k.stepT now n).size w2→True):=λ _ _ _ _=>trivial
 obtain⟨T,hT⟩:∃T,k.stepT now n=T:=⟨_,rfl⟩
 clear HS2
 rw[hX]at HC3 HE
 rw[hT]at HT HE HM hT4⊢
 rw[hX]
 have hq:IntKind.i64.wrap (k.got+(T.size:Int))=k.got+T.size:=wrap_id (by omega) (by omega)
 obtain⟨E,hE⟩:∃E:Int,(if k.fin≠0 then 0 else X)=E:=⟨_,rfl⟩
 have HE1:=Lib.hid (show k.fin=0→X=E fromλ h=>by rw[←hE,if_neg (λ h'=>h' h)])
 have HE2:=Lib.hid (show k.fin≠0→0=E fromλ h=>by rw[←hE,if_pos h])
 rw[hE]
 have HTT:=Lib.hid hT
 generalize k.stepK now n=k9 at*
 generalize k.stepC now n=c9 at*
 clear h o1 b1 o2 b2 o3 b3 hnm hT hX hT4 hk hb hE
 go_enter Tryz.func59,Tryz.ntmps59
 go_wp2_with fail
 refine HC.out.mono ?_
 rintro e w1 ⟨rfl,hs⟩
 obtain⟨U1,h1,m1⟩:=HS1.out _ hs
 have H1:=Lib.hid h1
 have M1:=Lib.hid m1
 have y0:w1.cell? ⟨g,0,none⟩=some (ptr ch):=h1.cell 0
 clear hs x0 HC HS1 h1 m1
 go_wp2_with fail
 refine(HT.out w1 U1 H1.out).mono ?_
 rintro e w2 ⟨a,d,rfl,hi,hd,hd9,hs⟩
 obtain⟨U2,hmid,hi3⟩:=HM.out w1 U1 H1.out M1.out w2 a hi hs
 have x00:=hmid.x0
 have x6:=hmid.x6
 have f6:=hmid.f6
 have hl:=hmid.hl
 have H2:=Lib.hid hmid
 have HI3:=Lib.hid hi3
 have HD:=Lib.hid (And.intro hd hd9)
 clear hi hs hmid hi3 HT HM H1 M1 y0 hd hd9
 go_wp2_with fail
 have H3:=Lib.hid H2.out.at'
 have M3:=Lib.hid H2.out.mv
 have F3:=Lib.hid H2.out.far
 rw[HTT.out]at H3 M3 F3
 generalize w2.setCell ⟨g,6,none⟩ (.int .i64 (k.got+(T.size:Int)))=w3 at*
 clear x00 x6 f6 hl H2 hq
 refine(HC3.out w3 U2 H3.out).mono ?_
 rintro e w4 ⟨rfl,hs⟩
 obtain⟨x7,f7,hl,⟨U4,h4⟩,hyes,hno⟩:=HE.out w3 w4 U2 a H3.out M3.out F3.out HI3.out hs
 have HFF:=Lib.hid (HF.out w4 U4 h4)
 have HY:=Lib.hid hyes
 have HNO:=Lib.hid hno
 clear hs h4 hyes hno HE HF HC3 H3 M3 F3 HI3
 go_wp2_with fail
 refine HFF.out.mono ?_
 rintro e w5 ⟨rfl,rfl⟩
 by_cases hf:k.fin=0
 ·obtain⟨i9,l9⟩:=HNO.out hf
  have HI:=Lib.hid i9
  have HL:=Lib.hid l9
  rw[show decide (k.fin≠0)=false from decide_eq_false (λ h=>h hf)]
  have HF0:=Lib.hid hf
  clear HFF HY HNO i9 l9 hf
  go_wp2_with fail
  go_ret2
  exact⟨a,d,by rw[←HE1.out HF0.out];rfl,HI.out,HD.out.1,HD.out.2,HL.out⟩
 ·obtain⟨i9,l9⟩:=HY.out hf
  have HI:=Lib.hid i9
  have HL:=Lib.hid l9
  rw[show decide (k.fin≠0)=true from decide_eq_true hf]
  have HF0:=Lib.hid hf
  clear HFF HY HNO i9 l9 hf x7 f7 hl
  go_wp2_with fail
  go_ret2
  exact⟨a,d,by rw[←HE2.out HF0.out];rfl,HI.out,HD.out.1,HD.out.2,HL.out⟩
end
end Go.Proofs.YtdighjgcnaajgaaGreat
