import Derived.Test.YtdighjgcnaajgaaGreatChecked
import Derived.WalkKit
import Derived.WalkMore
import Derived.Lib.Hide
import Derived.BigQuiet
import Derived.Deep.QuietTactic
import Derived.RegionTactic
import Derived.Laws.BitsAllLaws
import Derived.Laws.BitsLemmas
import Derived.OwnWalk
import Derived.Laws.AppendOwn
import Derived.Deep.AppendLies
import Derived.Lib.SliceRun
import Derived.Lib.Walk
import Derived.Lib.AppendZeros
import Derived.IntWalk
import Derived.OneCell
import Derived.Laws.IdiomStrings
import Derived.Lib.SlBytesConst
import Derived.Deep.Draws
import Derived.Deep.RegionHeld
import Derived.Deep.RegionHeldLaw
import Derived.Shelf.Bytes.SlSmallAll
namespace Go.Proofs.YtdighjgcnaajgaaGreat.gc
open Go.RowKit
theorem ret_int {k:IntKind} {a b:Int} (h:a=b):Ending.returned (.int k a)=.returned (.int k b):=by rw[h]
theorem ret_bool {a b:Bool} (h:a=b):Ending.returned (.bool a)=.returned (.bool b):=by rw[h]
theorem ret_int2 {k l:IntKind} {a b c d:Int} (h:a=b) (h':c=d):Ending.returned (.tuple #[.int k a,.int l c])=.returned (.tuple #[.int k b,.int l d]):=by rw[h,h']
def AllB (xs:List Int):Prop:=∀x∈xs,0≤x∧x<256
theorem AllB.append {xs ys:List Int} (h:AllB xs) (k:AllB ys):AllB (xs++ys):=λ x hx=>by
 rcases List.mem_append.mp hx with hx|hx
 ·exact h x hx
 ·exact k x hx
theorem AllB.drop {xs:List Int} (h:AllB xs) (n:Nat):AllB (xs.drop n):=λ x hx=>h x (List.mem_of_mem_drop hx)
theorem AllB.take {xs:List Int} (h:AllB xs) (n:Nat):AllB (xs.take n):=λ x hx=>h x (List.mem_of_mem_take hx)
theorem allB_nil:AllB []:=λ x hx=>by cases hx
theorem allB_getD {xs:List Int} (h:AllB xs) (k:Nat):0≤xs.getD k 0∧xs.getD k 0<256:=by
 rw[List.getD_eq_getElem?_getD]
 rcases Nat.lt_or_ge k xs.length with hk|hk
 ·rw[List.getElem?_eq_getElem hk]
  exact h _ (List.getElem_mem hk)
 ·rw[List.getElem?_eq_none hk]
  decide
def nums (s:ByteArray):List Int:=s.data.toList.map λ u=>(u.toNat:Int)
theorem nums_length (s:ByteArray):(nums s).length=s.size:=by simp[nums]
theorem nums_all (s:ByteArray):AllB (nums s):=by
 intro x hx
 obtain⟨u,_,rfl⟩:=List.mem_map.mp hx
 have:=u.toNat_lt
 omega
theorem nums_at (s:ByteArray) (k:Nat) (h:k<s.size):((s[k]'h).toNat:Int)=(nums s).getD k 0:=by
 rw[List.getD_eq_getElem?_getD,nums,List.getElem?_map,List.getElem?_eq_getElem (by simpa using h)]
 rfl
theorem nums_str (xs:List Int) (h:AllB xs):nums (strOfNums xs)=xs:=by
 unfold nums
 rw[show(strOfNums xs).data.toList=xs.map λ n=>UInt8.ofNat n.toNat from rfl,List.map_map]
 conv=>rhs;rw[←List.map_id xs]
 apply List.map_congr_left
 intro x hx
 have:=h x hx
 simp
 omega
theorem str_nums (s:ByteArray):strOfNums (nums s)=s:=by
 apply ByteArray.ext
 apply Array.ext'
 rw[strOfNums_data]
 unfold nums
 rw[List.map_map]
 conv=>rhs;rw[←List.map_id s.data.toList]
 apply List.map_congr_left
 intro u _
 simp
theorem str_append (xs ys:List Int):strOfNums xs++strOfNums ys=strOfNums (xs++ys):=by
 unfold strOfNums
 rw[ByteArray.mk_append_mk,List.map_append]
theorem conv_bytes {w:World} {p:Option Addr} {n:Nat} {xs:List Int} (h:Lib.BytesIn w p n xs) (hx:xs.length=n) (c:Nat):(convert 87 9 (.slice p n c)).run Tryz.prog w=.ok (.string (strOfNums xs)) w:=by
 rcases Nat.eq_zero_or_pos n with h0|h0
 ·subst h0
  obtain rfl:xs=[]:=List.eq_nil_of_length_eq_zero hx
  exact run_convert_bytes_zero w 87 5 Tryz.underlying87 Tryz.underlying5 p c 9 Tryz.underlying9
 ·obtain⟨b,o,rfl,hc⟩:=h.at h0
  exact run_convert_bytes_arg w 87 5 Tryz.underlying87 Tryz.underlying5 b o n c xs hx hc 9 Tryz.underlying9
theorem bytes_take {w:World} {p:Option Addr} {n:Nat} {xs:List Int} (h:Lib.BytesIn w p n xs) (m:Nat) (hm:m≤n):Lib.BytesIn w p m (xs.take m):=λ hn=>by
 obtain⟨b,o,e,hc⟩:=h.at (by omega)
 refine⟨b,o,e,λ i hi=>?_⟩
 rw[hc i (by omega),List.getD_eq_getElem?_getD,List.getD_eq_getElem?_getD,List.getElem?_take,if_pos hi]
theorem bytes_drop {w:World} {b o:Nat} {n:Nat} {xs:List Int} (h:Lib.BytesIn w (some ⟨b,o,none⟩) n xs) (m k:Nat) (hm:m+k=n):Lib.BytesIn w (some ⟨b,o+m,none⟩) k (xs.drop m):=λ hn=>by
 obtain⟨b',o',e,hc⟩:=h.at (by omega)
 cases e
 refine⟨b,o+m,rfl,λ i hi=>?_⟩
 rw[Nat.add_assoc,hc (m+i) (by omega),List.getD_eq_getElem?_getD,List.getD_eq_getElem?_getD,List.getElem?_drop]
theorem info5:(Tryz.prog.info? 5).map (λ i=>(i.zero,i.size,i.bytes))=some (some (.int .u8 0),1,1):=by kernel_rfl
theorem app_bytes {w:World} {base m:Nat} {v:Value} {zs:List Value} (hown:w.ownsRow base 5 1 v m zs) (hbase:base≤w.heap.size) {p:Option Addr} {n c:Nat} {xs:List Int}
  (hx:xs.length=n) (hpc:p=none→c=0) (hi:Lib.BytesIn w p n xs) (hbig:m+n≤140737488355328) (ty:TypeId):
  ∃v' w',(Builtin.append_ #[87,87] ty #[v,.slice p n c]).run Tryz.prog w=.ok v' w'∧w'.ownsRow base 5 1 v' (m+n) (zs++xs.map (Value.int .u8))∧w.grownBy w' v.ownBlock∧(v'=.slice none 0 0↔v=.slice none 0 0∧n=0):=by
 obtain⟨i0,hi0,hz0,hz1,hz2⟩:=info_parts info5
 cases p with
 |none=>
  obtain rfl:c=0:=hpc rfl
  obtain rfl:n=0:=by
   rcases Nat.eq_zero_or_pos n with h|h
   ·exact h
   ·obtain⟨_,_,h,_⟩:=hi.at h
    cases h
  obtain rfl:xs=[]:=List.eq_nil_of_length_eq_zero hx
  exact⟨v,w,run_append_owned_none (w:=w) base 87 ty 5 i0 1 Tryz.underlying87 hi0 v m zs hown,by simpa using hown,World.grownBy.refl w _,by simp⟩
 |some a=>
  refine run_append_own w base 87 ty 5 i0 (.int .u8 0) 1 1 Tryz.underlying87 hi0 hz0 hz1 hz2 rfl (by decide) v m zs hown a n c (xs.map (Value.int .u8)) (by simp[hx]) ?_ (by simp[Value.oneCell']) (by unfold maxLen;omega) (by omega) hbase
  intro j u hj
  have hj1:j<xs.length:=by have:=(List.getElem?_eq_some_iff.mp hj).1;simpa using this
  obtain⟨b,o,e,hc⟩:=hi.at (by omega)
  cases e
  rw[WideShapes.add_plain,hc j (by omega)]
  rw[List.getElem?_map,List.getElem?_eq_getElem hj1]at hj
  rw[List.getD_eq_getElem?_getD,List.getElem?_eq_getElem hj1]
  exact hj
theorem own_bytes {w:World} {base n:Nat} {v:Value} {xs:List Int} (h:w.ownsRow base 5 1 v n (xs.map (Value.int .u8))):
  ∃p c,v=.slice p n c∧xs.length=n∧Lib.BytesIn w p n xs∧(p=none→c=0)∧n≤c∧c≤9223372036854775807∧∀a,p=some a→base≤a.block∧a.block<w.heap.size:=by
 obtain⟨hl,⟨rfl,rfl⟩|⟨g,cap,cur,rfl,hb,hh,h1,h2,h3,h4⟩⟩:=h
 ·exact⟨none,0,rfl,by simpa using hl,Lib.BytesIn.nil _ _ _,λ _=>rfl,Nat.le_refl _,by omega,λ _ h=>by cases h⟩
 ·have hl':xs.length=n:=by simpa using hl
  unfold maxLen at h2
  refine⟨_,cap,rfl,hl',?_,(λ h=>by cases h),h1,by omega,λ a h=>by cases h;exact⟨hb,(Array.getElem?_eq_some_iff.1 hh).1⟩⟩
  refineλ _=>⟨g,0,rfl,λ i hi=>?_⟩
  have hk:(xs.map (Value.int .u8))[i]?=some (.int .u8 (xs.getD i 0)):=by
   rw[List.getElem?_map,List.getD_eq_getElem?_getD,List.getElem?_eq_getElem (by omega)]
   rfl
  rw[←h4,List.getElem?_take,if_pos (by omega)]at hk
  simp only[World.cell?,hh,Nat.zero_add]
  simpa using hk
theorem bytes_on {w w':World} {p:Option Addr} {n:Nat} {xs:List Int} (h:Lib.BytesIn w p n xs) (hb:Below w.heap.size w w'):Lib.BytesIn w' p n xs:=λ hn=>by
 obtain⟨b,o,e,hc⟩:=h.at hn
 exact⟨b,o,e,λ i hi=>(hb.cell (World.block_lt_of_cell? w _ (hc i hi))).trans (hc i hi)⟩
theorem seqB {w w1 w2:World} (h1:Below w.heap.size w w1) (h2:Below w1.heap.size w1 w2):Below w.heap.size w w2:=h1.trans (h2.mono h1.size)
theorem own_low {w:World} {base base' T K n:Nat} {v:Value} {zs:List Value} (h:w.ownsRow base T K v n zs) (hb:base'≤base):w.ownsRow base' T K v n zs:=by
 obtain⟨hl,h0|⟨g,cap,cur,e1,e2,e3⟩⟩:=h
 ·exact⟨hl,Or.inl h0⟩
 ·exact⟨hl,Or.inr ⟨g,cap,cur,e1,by omega,e3⟩⟩
theorem own_on {w w':World} {base T K n:Nat} {v:Value} {zs:List Value} (h:w.ownsRow base T K v n zs) (hb:Below w.heap.size w w'):w'.ownsRow base T K v n zs:=
 h.kept (row:=none) ⟨hb.os,hb.tape,hb.output,hb.size,λ i hi _=>hb.block i hi⟩ (by cases e:v.ownBlock<;>simp)
theorem below_drewN (w:World) (m:Nat):Below w.heap.size w (w.drewN m):=⟨rfl,rfl,rfl,Nat.le_refl _,λ _ _=>rfl⟩
theorem frozen_at {w:World} {g i:Nat} {cs:Array Value} {t:TypeId} (h:w.heap[g]?=some (.cells cs t (0,0))):w.frozen? ⟨g,i,none⟩=false:=by simp[World.frozen?,h]
theorem blk_lt {w:World} {g:Nat} {o:Obj} (h:w.heap[g]?=some o):g<w.heap.size:=(Array.getElem?_eq_some_iff.1 h).1
theorem World.cell?_alloc_fr (w:World) (cs:Array Value) (t:TypeId) (fr:Nat×Nat) (i:Nat):(w.alloc (.cells cs t fr)).cell? ⟨w.heap.size,i,none⟩=cs[i]?:=by
 have h:=heap_alloc_new w (.cells cs t fr)
 simp only[World.cell?]
 rw[h]
 rfl
theorem made_bytes (w:World) (xs:List Int) (n:Nat) (fr:Nat×Nat) (hn:xs.length=n):Lib.BytesIn (w.alloc (.cells (xs.map (Value.int .u8)).toArray 5 fr)) (some ⟨w.heap.size,0,none⟩) n xs:=λ _=>⟨_,_,rfl,λ i hi=>by
  rw[World.cell?_alloc_fr]
  simp only[Nat.zero_add,List.getElem?_toArray,List.getElem?_map]
  rw[List.getD_eq_getElem?_getD,List.getElem?_eq_getElem (by omega)]
  rfl⟩
theorem made_one (w:World) (x:Int):Lib.BytesIn (w.alloc (.cells #[.int .u8 x] 5)) (some ⟨w.heap.size,0,none⟩) 1 [x]:=made_bytes w [x] 1 (0,0) rfl
def OutB (zs:List Int) (w:World) (e:Ending) (w':World):Prop:=∃u,e=.returned u∧w'.ownsRow w.heap.size 5 1 u zs.length (zs.map (Value.int .u8))∧Below w.heap.size w w'
def IntsIn (w:World) (p:Option Addr) (n:Nat) (xs:List Int):Prop:=0<n→∃b o,p=some ⟨b,o,none⟩∧∀i,i<n→w.cell? ⟨b,o+i,none⟩=some (.int .i64 (xs.getD i 0))
theorem ints_on {w w':World} {p:Option Addr} {n:Nat} {xs:List Int} (h:IntsIn w p n xs) (hb:Below w.heap.size w w'):IntsIn w' p n xs:=λ hn=>by
 obtain⟨b,o,e,hc⟩:=h hn
 exact⟨b,o,e,λ i hi=>(hb.cell (World.block_lt_of_cell? w _ (hc i hi))).trans (hc i hi)⟩
theorem ints_nil (w:World) (p:Option Addr) (xs:List Int):IntsIn w p 0 xs:=λ h=>absurd h (Nat.lt_irrefl 0)
theorem ints_take {w:World} {p:Option Addr} {n:Nat} {xs:List Int} (h:IntsIn w p n xs) (m:Nat) (hm:m≤n):IntsIn w p m (xs.take m):=λ hn=>by
 obtain⟨b,o,e,hc⟩:=h (by omega)
 refine⟨b,o,e,λ i hi=>?_⟩
 rw[hc i (by omega),List.getD_eq_getElem?_getD,List.getD_eq_getElem?_getD,List.getElem?_take,if_pos hi]
theorem ints_drop {w:World} {b o:Nat} {n:Nat} {xs:List Int} (h:IntsIn w (some ⟨b,o,none⟩) n xs) (m k:Nat) (hm:m+k=n):IntsIn w (some ⟨b,o+m,none⟩) k (xs.drop m):=λ hn=>by
 obtain⟨b',o',e,hc⟩:=h (by omega)
 cases e
 refine⟨b,o+m,rfl,λ i hi=>?_⟩
 rw[Nat.add_assoc,hc (m+i) (by omega),List.getD_eq_getElem?_getD,List.getD_eq_getElem?_getD,List.getElem?_drop]
theorem own_ints {w:World} {base n:Nat} {v:Value} {xs:List Int} (h:w.ownsRow base 3 1 v n (xs.map (Value.int .i64))):
  ∃p c,v=.slice p n c∧xs.length=n∧IntsIn w p n xs∧(p=none→c=0)∧n≤c∧c≤9223372036854775807:=by
 have hl:xs.length=n:=by have:=h.1;simpa using this
 obtain⟨_,⟨rfl,rfl⟩|⟨g,cap,cur,rfl,hb,hh,h1,h2,h3,h4⟩⟩:=id h
 ·exact⟨none,0,rfl,hl,ints_nil _ _ _,λ _=>rfl,Nat.le_refl _,by omega⟩
 ·unfold maxLen at h2
  refine⟨_,cap,rfl,hl,λ _=>⟨g,0,rfl,λ i hi=>?_⟩,(λ h=>by cases h),h1,by omega⟩
  rw[Nat.zero_add,h.cellAt i (by omega),List.getElem?_map,List.getD_eq_getElem?_getD,List.getElem?_eq_getElem (by omega)]
  rfl
theorem info3:(Tryz.prog.info? 3).map (λ i=>(i.zero,i.size,i.bytes))=some (some (.int .i64 0),1,8):=by kernel_rfl
theorem app_ints {w w0:World} {base m:Nat} {v:Value} {zs:List Int} (hown:w.ownsRow base 3 1 v m (zs.map (Value.int .i64))) (hbase:base≤w.heap.size) (hb:Below base w0 w) {p:Option Addr} {n c:Nat} {xs:List Int}
  (hx:xs.length=n) (hpc:p=none→c=0∧n=0) (hi:IntsIn w p n xs) (hbig:m+n≤1000000) (ty:TypeId):
  ∃q d w',(Builtin.append_ #[168,168] ty #[v,.slice p n c]).run Tryz.prog w=.ok (.slice q (m+n) d) w'∧w'.ownsRow base 3 1 (.slice q (m+n) d) (m+n) ((zs++xs).map (Value.int .i64))∧Below base w0 w':=by
 obtain⟨i0,hi0,hz0,hz1,hz2⟩:=info_parts info3
 cases p with
 |none=>
  obtain⟨rfl,rfl⟩:=hpc rfl
  obtain rfl:xs=[]:=List.eq_nil_of_length_eq_zero hx
  obtain⟨q,d,rfl,_⟩:=own_ints hown
  exact⟨q,d,w,run_append_owned_none (w:=w) base 168 ty 3 i0 1 Tryz.underlying168 hi0 _ m _ hown,by simpa using hown,hb⟩
 |some a=>
  obtain⟨v',w',h1,h2,h3,_⟩:=run_append_own w base 168 ty 3 i0 (.int .i64 0) 1 8 Tryz.underlying168 hi0 hz0 hz1 hz2 rfl (by decide) v m _ hown a n c (xs.map (Value.int .i64)) (by simp[hx]) (by
   intro j u hj
   have hj1:j<xs.length:=by have:=(List.getElem?_eq_some_iff.mp hj).1;simpa using this
   obtain⟨b,o,e,hc⟩:=hi (by omega)
   cases e
   rw[WideShapes.add_plain,hc j (by omega)]
   rw[List.getElem?_map,List.getElem?_eq_getElem hj1]at hj
   rw[List.getD_eq_getElem?_getD,List.getElem?_eq_getElem hj1]
   exact hj) (by simp[Value.oneCell']) (by unfold maxLen;omega) (by omega) hbase
  rw[←List.map_append]at h2
  obtain⟨q,d,rfl,_⟩:=own_ints h2
  exact⟨q,d,w',h1,h2,hb.grown h3 hbase (λ j hj=>(hown.lt j hj).1)⟩
theorem made_int (w:World) (x:Int) (T:TypeId) (fr:Nat×Nat):IntsIn (w.alloc (.cells #[.int .i64 x] T fr)) (some ⟨w.heap.size,0,none⟩) 1 [x]:=λ _=>⟨_,_,rfl,λ i hi=>by
 obtain rfl:i=0:=by omega
 exact cell_of_row _ _ 0 _ _ _ (heap_alloc_new w (.cells #[.int .i64 x] T fr))⟩
theorem app_int {w w0:World} {base m:Nat} {v:Value} {zs:List Int} (hown:w.ownsRow base 3 1 v m (zs.map (Value.int .i64))) (hbase:base≤w.heap.size) (hb:Below base w0 w) (hbig:m+1≤1000000) (x:Int):
  ∃q d w',(∀ty,(Builtin.append_ #[168,168] ty #[v,.slice (some ⟨w.heap.size,0,none⟩) 1 1]).run Tryz.prog (w.alloc (.cells #[.int .i64 x] 3))=.ok (.slice q (m+1) d) w')∧w'.ownsRow base 3 1 (.slice q (m+1) d) (m+1) ((zs++[x]).map (Value.int .i64))∧Below base w0 w':=by
 have ho:=hown.alloc (.cells #[.int .i64 x] 3)
 obtain⟨q,d,w',h1,h2,h3⟩:=app_ints (p:=some ⟨w.heap.size,0,none⟩) (n:=1) (c:=1) (xs:=[x]) ho (by simp;omega) (hb.alloc hbase _) rfl (λ h=>by cases h) (made_int w x _ _) hbig 168
 exact⟨q,d,w',λ ty=>by rw[←h1];rfl,h2,h3⟩
abbrev Pc:=Int×ByteArray
def noPc:Pc:=(0,⟨#[]⟩)
def flatP (ps:List Pc):List Value:=ps.flatMap λ d=>[.int .i64 d.1,.string d.2]
theorem flatP_append (l m:List Pc):flatP (l++m)=flatP l++flatP m:=by simp[flatP]
theorem flatP_length (ps:List Pc):(flatP ps).length=ps.length*2:=by
 induction ps with
 |nil=>rfl
 |cons d r ih=>simp only[flatP,List.flatMap_cons,List.length_append,List.length_cons,List.length_nil]at ih⊢;omega
theorem flatP_at (ps:List Pc) (i:Nat) (h:i<ps.length):(flatP ps)[i*2]?=some (.int .i64 (ps.getD i noPc).1)∧(flatP ps)[i*2+1]?=some (.string (ps.getD i noPc).2):=by
 induction ps generalizing i with
 |nil=>cases h
 |cons d r ih=>
  cases i with
  |zero=>exact⟨rfl,rfl⟩
  |succ k=>
   have h':=ih k (by simpa using h)
   have e:flatP (d::r)=.int .i64 d.1::.string d.2::flatP r:=rfl
   rw[e,show(k+1)*2=k*2+1+1 by omega]
   simpa using h'
theorem flatP_one (ps:List Pc):∀v∈flatP ps,v.oneCell'=true:=by
 intro v hv
 simp only[flatP,List.mem_flatMap]at hv
 obtain⟨d,_,hd⟩:=hv
 simp only[List.mem_cons,List.not_mem_nil,or_false]at hd
 rcases hd with rfl|rfl<;>rfl
def PcsIn (w:World) (p:Option Addr) (n:Nat) (ps:List Pc):Prop:=0<n→∃b o,p=some ⟨b,o,none⟩∧∀i,i<n→w.cell? ⟨b,o+i*2,none⟩=some (.int .i64 (ps.getD i noPc).1)∧w.cell? ⟨b,o+(i*2+1),none⟩=some (.string (ps.getD i noPc).2)
theorem pcs_on {w w':World} {p:Option Addr} {n:Nat} {ps:List Pc} (h:PcsIn w p n ps) (hb:Below w.heap.size w w'):PcsIn w' p n ps:=λ hn=>by
 obtain⟨b,o,e,hc⟩:=h hn
 exact⟨b,o,e,λ i hi=>⟨(hb.cell (World.block_lt_of_cell? w _ (hc i hi).1)).trans (hc i hi).1,(hb.cell (World.block_lt_of_cell? w _ (hc i hi).2)).trans (hc i hi).2⟩⟩
theorem pcs_nil (w:World) (p:Option Addr) (ps:List Pc):PcsIn w p 0 ps:=λ h=>absurd h (Nat.lt_irrefl 0)
theorem own_pcs {w:World} {base T n:Nat} {v:Value} {ps:List Pc} (h:w.ownsRow base T 2 v n (flatP ps)):
  ∃p c,v=.slice p n c∧ps.length=n∧PcsIn w p n ps∧(p=none→c=0)∧n≤c∧c≤9223372036854775807:=by
 have hl:ps.length=n:=by have:=h.1;rw[flatP_length]at this;omega
 obtain⟨_,⟨rfl,rfl⟩|⟨g,cap,cur,rfl,hb,hh,h1,h2,h3,h4⟩⟩:=id h
 ·exact⟨none,0,rfl,hl,pcs_nil _ _ _,λ _=>rfl,Nat.le_refl _,by omega⟩
 ·unfold maxLen at h2
  refine⟨_,cap,rfl,hl,λ _=>⟨g,0,rfl,λ i hi=>?_⟩,(λ h=>by cases h),h1,by omega⟩
  rw[Nat.zero_add,Nat.zero_add,h.cellAt (i*2) (by omega),h.cellAt (i*2+1) (by omega)]
  exact flatP_at ps i (by omega)
def OutP (T:TypeId) (ps:List Pc) (w:World) (e:Ending) (w':World):Prop:=∃p c,e=.returned (.slice p ps.length c)∧w'.ownsRow w.heap.size T 2 (.slice p ps.length c) ps.length (flatP ps)∧Below w.heap.size w w'
theorem made_pc (w:World) (x:Int) (s:ByteArray) (T:TypeId) (fr:Nat×Nat):PcsIn (w.alloc (.cells #[.int .i64 x,.string s] T fr)) (some ⟨w.heap.size,0,none⟩) 1 [(x,s)]:=λ _=>⟨_,_,rfl,λ i hi=>by
 obtain rfl:i=0:=by omega
 have h:=heap_alloc_new w (.cells #[.int .i64 x,.string s] T fr)
 exact⟨cell_of_row _ _ 0 _ _ _ h,cell_of_row _ _ 1 _ _ _ h⟩⟩
end Go.Proofs.YtdighjgcnaajgaaGreat.gc
namespace Go.Proofs.YtdighjgcnaajgaaGreat.gc
open Go.RowKit
def near (n:Int):Int:=if n<0 then 0 else if 1099511627776<n then 1099511627776 else n
theorem near_range (n:Int):0≤near n∧near n≤1099511627776:=by unfold near;split<;>(try split)<;>omega
theorem near_of (n:Int) (h0:0≤n) (h1:n≤1099511627776):near n=n:=by unfold near;split<;>(try split)<;>omega
set_option maxHeartbeats 400000 in
theorem rnear_any (n:Int) (w:World):Calls Tryz.prog 139 #[.int .i64 n] w λ e w'=>e=.returned (.int .i64 (near n))∧w=w':=by
 go_enter Tryz.func139,Tryz.ntmps139
 go_wp2_with (go_in)
 all_goals go_ret
 all_goals exact⟨ret_int (by unfold near;(repeat' split at*)<;>omega),rfl⟩
def readyN (A:List Int) (x:Int):Nat:=(A.takeWhile λ d=>decide (d≤x)).length
theorem ready_le (A:List Int) (x:Int):readyN A x≤A.length:=by
 have h:=congrArg List.length (List.takeWhile_append_dropWhile (p:=λ d=>decide (d≤x)) (l:=A))
 rw[List.length_append]at h
 unfold readyN
 omega
theorem ready_yes {A:List Int} {x:Int} {k:Nat} (h:k<readyN A x):A.getD k 0≤x:=by
 induction A generalizing k with
 |nil=>simp[readyN]at h
 |cons d r ih=>
  simp only[readyN,List.takeWhile_cons]at h
  split at h
  ·rename_i hd
   cases k with
   |zero=>simpa using hd
   |succ k=>exact ih (k:=k) (by unfold readyN;simpa using h)
  ·simp at h
theorem ready_no {A:List Int} {x:Int} (h:readyN A x<A.length):x<A.getD (readyN A x) 0:=by
 induction A with
 |nil=>simp at h
 |cons d r ih=>
  by_cases hd:d≤x
  ·have e:readyN (d::r) x=readyN r x+1:=by simp[readyN,hd]
   rw[e]at h⊢
   exact ih (by simpa using h)
  ·have e:readyN (d::r) x=0:=by simp[readyN,hd]
   rw[e]
   show x<d
   omega
theorem ready_is {A:List Int} {x:Int} {n:Nat} (hn:n≤A.length) (h1:∀j,j<n→A.getD j 0≤x) (h2:n<A.length→x<A.getD n 0):readyN A x=n:=by
 have h:=ready_le A x
 rcases Nat.lt_trichotomy (readyN A x) n with e|e|e
 ·have a:=ready_no (A:=A) (x:=x) (by omega)
  have b:=h1 _ e
  omega
 ·exact e
 ·have a:=ready_yes e
  have b:=h2 (by omega)
  omega
theorem box_cells {w w1:World} {g:Nat} {S:ByteArray} {v:Value} {last:Int} {T:TypeId} {fr:Nat×Nat} (h:w.heap[g]?=some (.cells #[.string S,v,.int .i64 last] T fr)) (hb:Below w.heap.size w w1):
  w1.cell? ⟨g,0,none⟩=some (.string S)∧w1.cell? ⟨g,1,none⟩=some v∧w1.cell? ⟨g,2,none⟩=some (.int .i64 last):=by
 have h1:=(hb.block _ (blk_lt h)).trans h
 exact⟨cell_of_row _ _ 0 _ _ _ h1,cell_of_row _ _ 1 _ _ _ h1,cell_of_row _ _ 2 _ _ _ h1⟩
set_option maxRecDepth 100000 in
set_option maxHeartbeats 8000000 in
theorem rready_any (S:ByteArray) (p:Option Addr) (n c:Nat) (A:List Int) (last x:Int) (w:World) (hA:A.length=n) (hS:S.size=n) (hbig:n≤100000) (hi:IntsIn w p n A):
  Calls Tryz.prog 173 #[.agg #[.string S,.slice p n c,.int .i64 last],.int .i64 x] w λ e w'=>e=.returned (.int .i64 (readyN A x:Int))∧Below w.heap.size w w':=by
 have HI:=Lib.hid hi
 have HX:=Lib.hid hA
 obtain⟨N,hN⟩:∃N,readyN A x=N:=⟨_,rfl⟩
 rw[hN]
 have HNN:=Lib.hid hN
 have HNL:=Lib.hid (show N≤n by rw[←hN,←hA];exact ready_le _ _)
 have HS:=Lib.hid hS
 clear hi hA hN
 go_enter Tryz.func173,Tryz.ntmps173
 go_wp2_with fail
 have HB0:=Lib.hid (heap_alloc_new w (.cells #[.string S,.slice p n c,.int .i64 last] 170))
 have HW1:=Lib.hid (show Below w.heap.size w (w.alloc (.cells #[.string S,.slice p n c,.int .i64 last] 170))from(Below.refl _ _).alloc (Nat.le_refl _) _)
 have HI1:=Lib.hid (ints_on HI.out HW1.out)
 have HBW:=Lib.hid (show∀w',Below (w.alloc (.cells #[.string S,.slice p n c,.int .i64 last] 170)).heap.size (w.alloc (.cells #[.string S,.slice p n c,.int .i64 last] 170)) w'→Below w.heap.size w w' fromλ w' h=>seqB HW1.out h)
 generalize w.alloc (.cells #[.string S,.slice p n c,.int .i64 last] 170)=w1 at*
 clear HI HW1
 go_loopw [5] (λ i wr=>∃(k:Nat),k≤N∧i=.int .i64 k∧Hid (Below w1.heap.size w1 wr)) (λ i _=>n -(intOf i).toNat)
 case atStart=>exact⟨0,by omega,rfl,Lib.hid (Below.refl _ _)⟩
 case round=>
  obtain⟨k,hk,rfl,HB⟩:=hrel
  obtain⟨x0,x1,x2⟩:=box_cells HB0.out HB.out
  by_cases hkN:k<N
  ·have HKN:=Lib.hid hkN
   have hkn:k<n:=by have:=HNL.out;omega
   have HKn:=Lib.hid hkn
   obtain⟨b,o,rfl,hcell⟩:=ints_on HI1.out HB.out (by omega)
   have g0:=hcell k hkn
   have hle:=ready_yes (A:=A) (x:=x) (k:=k) (by rw[HNN.out];exact hkN)
   generalize A.getD k 0=v at g0 hle
   have dv:decide (v≤x)=true:=by simpa using hle
   have dk:decide ((k:Int)<(S.size:Int))=true:=by simp;omega
   clear hcell
   go_wp2_with fail
   go_roundw
   case rel=>exact⟨k+1,HKN.out,by go_num,HB⟩
   case measure=>have:=HKn.out;simp[intOf];omega
  ·obtain rfl:k=N:=by omega
   by_cases hkn:k<n
   ·obtain⟨b,o,rfl,hcell⟩:=ints_on HI1.out HB.out (by omega)
    have g0:=hcell k hkn
    have hgt:=ready_no (A:=A) (x:=x) (by rw[HNN.out,HX.out];exact hkn)
    rw[HNN.out]at hgt
    generalize A.getD k 0=v at g0 hgt
    have dv:decide (v≤x)=false:=by simp;omega
    have dk:decide ((k:Int)<(S.size:Int))=true:=by simp;omega
    clear hcell
    go_wp2_with fail
    go_ret
    exact⟨rfl,HBW.out _ HB.out⟩
   ·have dk:decide ((k:Int)<(S.size:Int))=false:=by simp;omega
    go_wp2_with fail
    go_ret
    exact⟨rfl,HBW.out _ HB.out⟩
end Go.Proofs.YtdighjgcnaajgaaGreat.gc
namespace Go.Proofs.YtdighjgcnaajgaaGreat.gc
def bytesOf' (ps:List Pc):List Int:=ps.flatMap λ p=>nums p.2
def tkOf (ps:List Pc):List Int:=ps.flatMap λ p=>List.replicate p.2.size p.1
def stepR (ps:List Pc) (t:Int) (b:ByteArray):List Pc:=
 match ps.getLast? with
 |some d=>if d.1=t then ps.dropLast++[(d.1,d.2++b)]else ps++[(t,b)]
 |none=>[(t,b)]
def runsK (S:ByteArray) (A:List Int):Nat→List Pc
 |0=>[]
 |k+1=>stepR (runsK S A k) (A.getD k 0) (S.extract k (k+1))
def Good (ps:List Pc):Prop:=(∀p∈ps,0<p.2.size)∧ps.Pairwise λ p q=>p.1<q.1
theorem good_nil:Good []:=⟨λ _ h=>(by cases h),List.Pairwise.nil⟩
theorem append_nums' (s t:ByteArray):nums (s++t)=nums s++nums t:=by
 conv=>lhs;rw[←str_nums s,←str_nums t,str_append]
 exact nums_str _ ((nums_all s).append (nums_all t))
theorem append_size' (s t:ByteArray):(s++t).size=s.size+t.size:=by rw[←nums_length,append_nums',List.length_append,nums_length,nums_length]
theorem nums_inj' {s t:ByteArray} (h:nums s=nums t):s=t:=by rw[←str_nums s,h,str_nums]
theorem last_split {ps:List Pc} {d:Pc} (h:ps.getLast?=some d):ps=ps.dropLast++[d]:=by
 obtain⟨ys,rfl⟩:=List.getLast?_eq_some_iff.1 h
 simp
theorem step_none {ps:List Pc} (h:ps=[]) (t:Int) (b:ByteArray):stepR ps t b=[(t,b)]:=by subst h;rfl
theorem step_same {ps:List Pc} {d:Pc} (h:ps.getLast?=some d) {t:Int} (ht:d.1=t) (b:ByteArray):stepR ps t b=ps.dropLast++[(d.1,d.2++b)]:=by unfold stepR;rw[h];simp[ht]
theorem step_more {ps:List Pc} {t:Int} (h:∀d,ps.getLast?=some d→d.1≠t) (b:ByteArray):stepR ps t b=ps++[(t,b)]:=by
 unfold stepR
 cases e:ps.getLast? with
 |none=>rw[List.getLast?_eq_none_iff]at e;subst e;rfl
 |some d=>simp[h d e]
theorem step_cases (ps:List Pc) (t:Int) (b:ByteArray):(∃d,ps.getLast?=some d∧d.1=t∧stepR ps t b=ps.dropLast++[(d.1,d.2++b)])∨((∀d,ps.getLast?=some d→d.1≠t)∧stepR ps t b=ps++[(t,b)]):=by
 cases e:ps.getLast? with
 |none=>exact Or.inr ⟨λ d h=>(by cases h),step_more (λ d h=>by rw[e]at h;cases h) b⟩
 |some d=>
  by_cases ht:d.1=t
  ·exact Or.inl ⟨d,rfl,ht,step_same e ht b⟩
  ·exact Or.inr ⟨λ d' h=>(by cases h;exact ht),step_more (λ d' h=>by rw[e]at h;cases h;exact ht) b⟩
theorem step_bytes (ps:List Pc) (t:Int) (b:ByteArray):bytesOf' (stepR ps t b)=bytesOf' ps++nums b:=by
 rcases step_cases ps t b with⟨d,h,ht,e⟩|⟨_,e⟩
 ·rw[e]
  conv=>rhs;rw[last_split h]
  simp[bytesOf',append_nums']
 ·rw[e]
  simp[bytesOf']
theorem step_tk (ps:List Pc) (t:Int) (b:ByteArray):tkOf (stepR ps t b)=tkOf ps++List.replicate b.size t:=by
 rcases step_cases ps t b with⟨d,h,ht,e⟩|⟨_,e⟩
 ·rw[e]
  conv=>rhs;rw[last_split h]
  simp[tkOf,←ht]
 ·rw[e]
  simp[tkOf]
theorem step_last (ps:List Pc) (t:Int) (b:ByteArray):∃d,(stepR ps t b).getLast?=some d∧d.1=t:=by
 rcases step_cases ps t b with⟨d,h,ht,e⟩|⟨_,e⟩
 ·exact⟨(d.1,d.2++b),by rw[e];simp,ht⟩
 ·exact⟨(t,b),by rw[e];simp,rfl⟩
theorem step_length (ps:List Pc) (t:Int) (b:ByteArray):(stepR ps t b).length≤ps.length+1:=by
 rcases step_cases ps t b with⟨d,h,ht,e⟩|⟨_,e⟩
 ·rw[e]
  simp
 ·rw[e]
  simp
theorem step_good {ps:List Pc} {t:Int} {b:ByteArray} (h:Good ps) (hb:0<b.size) (hl:∀d∈ps,d.1≤t):Good (stepR ps t b):=by
 rcases step_cases ps t b with⟨d,hd,ht,e⟩|⟨hne,e⟩
 ·rw[e]
  have h1:=h
  rw[last_split hd]at h1
  obtain⟨g1,g2⟩:=h1
  rw[List.pairwise_append]at g2
  refine⟨λ p hp=>?_,?_⟩
  ·rcases List.mem_append.1 hp with hp|hp
   ·exact g1 p (List.mem_append_left _ hp)
   ·rw[List.mem_singleton]at hp
    subst hp
    show 0<(d.2++b).size
    rw[append_size']
    omega
  ·rw[List.pairwise_append]
   refine⟨g2.1,List.pairwise_singleton _ _,λ p hp q hq=>?_⟩
   rw[List.mem_singleton]at hq
   subst hq
   exact g2.2.2 p hp d (List.mem_singleton.2 rfl)
 ·rw[e]
  refine⟨λ p hp=>?_,?_⟩
  ·rcases List.mem_append.1 hp with hp|hp
   ·exact h.1 p hp
   ·rw[List.mem_singleton]at hp
    subst hp
    exact hb
  ·rw[List.pairwise_append]
   refine⟨h.2,List.pairwise_singleton _ _,λ p hp q hq=>?_⟩
   rw[List.mem_singleton]at hq
   subst hq
   have h1:=hl p hp
   rcases Int.lt_or_eq_of_le h1 with h2|h2
   ·exact h2
   ·exfalso
    cases el:ps.getLast? with
    |none=>rw[List.getLast?_eq_none_iff]at el;subst el;cases hp
    |some d=>
     have hdm:d∈ps:=List.mem_of_getLast? el
     have hdt:=hl d hdm
     have hdn:=hne d el
     have h3:=h.2
     rw[last_split el]at h3 hp
     rcases List.mem_append.1 hp with hp|hp
     ·have:=(List.pairwise_append.1 h3).2.2 p hp d (List.mem_singleton.2 rfl)
      omega
     ·rw[List.mem_singleton]at hp
      subst hp
      exact hdn h2
theorem tk_le {ps:List Pc} {t:Int} (h:∀x∈tkOf ps,x≤t) (hp:∀p∈ps,0<p.2.size):∀d∈ps,d.1≤t:=λ d hd=>by
 refine h d.1 (List.mem_flatMap.2 ⟨d,hd,?_⟩)
 rw[List.mem_replicate]
 have:=hp d hd
 exact⟨by omega,rfl⟩
def Up (A:List Int):Prop:=A.Pairwise λ x y=>x≤y
theorem up_take {A:List Int} (h:Up A) (k:Nat):Up (A.take k):=List.Pairwise.sublist (List.take_sublist k A) h
theorem up_drop {A:List Int} (h:Up A) (k:Nat):Up (A.drop k):=List.Pairwise.sublist (List.drop_sublist k A) h
theorem up_le {A:List Int} (h:Up A) {k:Nat} (hk:k<A.length):∀x∈A.take k,x≤A.getD k 0:=λ x hx=>by
 have e:=List.take_append_drop k A
 have h':=h
 unfold Up at h'
 rw[←e,List.pairwise_append]at h'
 refine h'.2.2 x hx _ ?_
 rw[List.getD_eq_getElem?_getD,List.getElem?_eq_getElem hk]
 show A[k]∈A.drop k
 rw[List.drop_eq_getElem_cons hk]
 exact List.mem_cons_self
theorem ext_nums (S:ByteArray) (i j:Nat):nums (S.extract i j)=((nums S).drop i).take (j -i):=by
 unfold nums
 simp[List.map_take,List.map_drop]
theorem runs_all (S:ByteArray) (A:List Int) (n:Nat) (hS:S.size=n) (hA:A.length=n) (k:Nat) (hk:k≤n):
  bytesOf' (runsK S A k)=(nums S).take k∧tkOf (runsK S A k)=A.take k∧(runsK S A k).length≤k∧(0<k→∃d,(runsK S A k).getLast?=some d∧d.1=A.getD (k -1) 0)∧(Up A→Good (runsK S A k)):=by
 induction k with
 |zero=>exact⟨rfl,rfl,Nat.le_refl _,λ h=>absurd h (Nat.lt_irrefl _),λ _=>good_nil⟩
 |succ k ih=>
  obtain⟨h1,h2,h3,h4,h5⟩:=ih (by omega)
  have hn1:nums (S.extract k (k+1))=[(nums S).getD k 0]:=by
   rw[ext_nums,show k+1 -k=1 by omega,List.getD_eq_getElem?_getD]
   have hl:k<(nums S).length:=by rw[nums_length];omega
   rw[List.drop_eq_getElem_cons hl,List.getElem?_eq_getElem hl]
   rfl
  have hs1:(S.extract k (k+1)).size=1:=by rw[←nums_length,hn1];rfl
  refine⟨?_,?_,?_,λ _=>?_,λ hu=>?_⟩
  ·show bytesOf' (stepR _ _ _)=_
   rw[step_bytes,h1,hn1,List.take_add_one,List.getD_eq_getElem?_getD,List.getElem?_eq_getElem (by rw[nums_length];omega)]
   rfl
  ·show tkOf (stepR _ _ _)=_
   rw[step_tk,h2,hs1,List.take_add_one,List.getD_eq_getElem?_getD,List.getElem?_eq_getElem (by omega)]
   rfl
  ·have:=step_length (runsK S A k) (A.getD k 0) (S.extract k (k+1))
   show(stepR _ _ _).length≤_
   omega
  ·exact step_last _ _ _
  ·refine step_good (h5 hu) (by omega) (tk_le ?_ (h5 hu).1)
   rw[h2]
   exact up_le hu (by omega)
theorem tk_count {r:List Pc} {t:Int} (h:∀p∈r,t<p.1):(tkOf r).count t=0:=by
 rw[List.count_eq_zero]
 intro hm
 obtain⟨p,hp,hx⟩:=List.mem_flatMap.1 hm
 have:=h p hp
 rw[List.mem_replicate]at hx
 omega
theorem tk_first {r:List Pc} {p:Pc} (h:Good (p::r)):(tkOf (p::r)).count p.1=p.2.size∧(tkOf (p::r)).head?=some p.1:=by
 have e:tkOf (p::r)=List.replicate p.2.size p.1++tkOf r:=rfl
 have h0:=h.1 p List.mem_cons_self
 refine⟨?_,?_⟩
 ·rw[e,List.count_append,tk_count (List.pairwise_cons.1 h.2).1,List.count_replicate_self]
  rfl
 ·rw[e]
  obtain⟨m,hm⟩:∃m,p.2.size=m+1:=⟨p.2.size -1,by omega⟩
  rw[hm]
  rfl
theorem runs_unique {ps qs:List Pc} (hp:Good ps) (hq:Good qs) (hb:bytesOf' ps=bytesOf' qs) (ht:tkOf ps=tkOf qs):ps=qs:=by
 induction ps generalizing qs with
 |nil=>
  cases qs with
  |nil=>rfl
  |cons q s=>
   have h:=(tk_first hq).2
   rw[←ht]at h
   cases h
 |cons p r ih=>
  cases qs with
  |nil=>
   have h:=(tk_first hp).2
   rw[ht]at h
   cases h
  |cons q s=>
   have h1:=tk_first hp
   have h2:=tk_first hq
   rw[ht,h2.2]at h1
   have e1:q.1=p.1:=by simpa using h1.2
   rw[←e1,h2.1]at h1
   have e2:q.2.size=p.2.size:=h1.1
   have hb1:nums p.2++bytesOf' r=nums q.2++bytesOf' s:=hb
   have ht1:List.replicate p.2.size p.1++tkOf r=List.replicate q.2.size q.1++tkOf s:=ht
   have hb2:=List.append_inj hb1 (by rw[nums_length,nums_length,e2])
   have ht2:=List.append_inj ht1 (by simp[e2])
   have hpq:p=q:=Prod.ext e1.symm (nums_inj' hb2.1)
   rw[hpq,ih ⟨λ x hx=>hp.1 x (List.mem_cons_of_mem _ hx),(List.pairwise_cons.1 hp.2).2⟩ ⟨λ x hx=>hq.1 x (List.mem_cons_of_mem _ hx),(List.pairwise_cons.1 hq.2).2⟩ hb2.2 ht2.2]
end Go.Proofs.YtdighjgcnaajgaaGreat.gc
namespace Go.Proofs.YtdighjgcnaajgaaGreat.gc
open Go.RowKit
abbrev Call:=Int×Int×Int×ByteArray
def noCall:Call:=(0,0,0,⟨#[]⟩)
def OpsIn (w:World) (p:Option Addr) (n:Nat) (os:List Call):Prop:=0<n→∃b o,p=some ⟨b,o,none⟩∧∀i,i<n→
 w.cell? ⟨b,o+i*4,none⟩=some (.int .i64 (os.getD i noCall).1)∧w.cell? ⟨b,o+(i*4+1),none⟩=some (.int .i64 (os.getD i noCall).2.1)∧w.cell? ⟨b,o+(i*4+2),none⟩=some (.int .i64 (os.getD i noCall).2.2.1)∧w.cell? ⟨b,o+(i*4+3),none⟩=some (.string (os.getD i noCall).2.2.2)
theorem ops_on {w w':World} {p:Option Addr} {n:Nat} {os:List Call} (h:OpsIn w p n os) (hb:Below w.heap.size w w'):OpsIn w' p n os:=λ hn=>by
 obtain⟨b,o,e,hc⟩:=h hn
 exact⟨b,o,e,λ i hi=>⟨(hb.cell (World.block_lt_of_cell? w _ (hc i hi).1)).trans (hc i hi).1,(hb.cell (World.block_lt_of_cell? w _ (hc i hi).2.1)).trans (hc i hi).2.1,(hb.cell (World.block_lt_of_cell? w _ (hc i hi).2.2.1)).trans (hc i hi).2.2.1,(hb.cell (World.block_lt_of_cell? w _ (hc i hi).2.2.2)).trans (hc i hi).2.2.2⟩⟩
def Wf64 (x:Int):Prop:= -9223372036854775808≤x∧x≤9223372036854775807
def total:List Call→Nat
 |[]=>0
 |o::r=>o.2.2.2.size+total r
theorem total_append (l m:List Call):total (l++m)=total l+total m:=by
 induction l with
 |nil=>simp[total]
 |cons o r ih=>simp only[List.cons_append,total,ih];omega
theorem total_take_le (l:List Call) (k:Nat):total (l.take k)≤total l:=by
 have h:=total_append (l.take k) (l.drop k)
 rw[List.take_append_drop]at h
 omega
theorem total_take_succ (l:List Call) (k:Nat) (h:k<l.length):total (l.take (k+1))=total (l.take k)+(l.getD k noCall).2.2.2.size:=by
 rw[List.take_add_one,List.getElem?_eq_getElem h,total_append,List.getD_eq_getElem?_getD,List.getElem?_eq_getElem h]
 simp[total]
theorem total_bound (l:List Call) (B:Nat) (h:∀o∈l,o.2.2.2.size≤B):total l≤l.length*B:=by
 induction l with
 |nil=>simp[total]
 |cons o r ih=>
  have h1:=h o (by simp)
  have h2:=ih λ x hx=>h x (by simp[hx])
  simp only[total,List.length_cons,Nat.add_mul,Nat.one_mul]
  omega
theorem size_of_total (l:List Call) (k:Nat) (h:k<l.length):(l.getD k noCall).2.2.2.size≤total l:=by
 have h1:=total_take_succ l k h
 have h2:=total_take_le l (k+1)
 omega
theorem at_of (l:List Call) (k:Nat) (h:k<l.length):l.getD k noCall∈l:=by
 rw[List.getD_eq_getElem?_getD,List.getElem?_eq_getElem h]
 exact List.getElem_mem h
end Go.Proofs.YtdighjgcnaajgaaGreat.gc
