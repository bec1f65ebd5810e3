import Derived.Test.YtfdfgnmgpgkknaaGreatChecked
import Derived.WalkKit
import Derived.WalkMore
import Derived.Lib.Hide
import Derived.BigQuiet
import Derived.Deep.QuietTactic
import Derived.RegionTactic
import Derived.Laws.BitsAllLaws
import Derived.Laws.BitsLemmas
import Derived.OwnWalk
import Derived.Laws.AppendOwn
import Derived.Deep.AppendLies
import Derived.Lib.SliceRun
import Derived.Lib.Walk
import Derived.Lib.AppendZeros
import Derived.IntWalk
import Derived.OneCell
import Derived.Laws.IdiomStrings
import Derived.Lib.SlBytesConst
import Derived.Deep.Draws
import Derived.Deep.RegionHeld
import Derived.Deep.RegionHeldLaw
import Derived.Shelf.Bytes.SlSmallAll
set_option maxRecDepth 100000
set_option maxHeartbeats 8000000
open List renaming getD_eq_getElem?_getD→zi,getElem?_eq_getElem→zj
open Go.Proofs.Tryz renaming prog→zf
open Nat renaming le_refl→zg,le_trans→zt,lt_of_lt_of_le→zy
open Go renaming heap_alloc_new→zo,cell_of_row→ze,bodyPost_ret→zk
open Go.Lib renaming hid→zd
open Go.RowKit.Below renaming refl→zh,heap_setCell→zn
open Go.Proofs.Tryz
namespace Go.Proofs.YtfdfgnmgpgkknaaGreat
namespace gc
open Go.RowKit
theorem qR {k:IntKind} {a b:Int} (h:a=b):Ending.returned (.int k a)=.returned (.int k b):=by rw[h]
theorem qp {a b:Bool} (h:a=b):Ending.returned (.bool a)=.returned (.bool b):=by rw[h]
def JI (xs:List Int):Prop:=∀x∈xs,0≤x∧x<256
theorem JI.append {xs ys:List Int} (h:JI xs) (k:JI ys):JI (xs++ys):=λ x hx=>by
 rcases List.mem_append.mp hx with hx|hx
 ·exact h x hx
 ·exact k x hx
theorem JI.drop {xs:List Int} (h:JI xs) (n:Nat):JI (xs.drop n):=λ x hx=>h x (List.mem_of_mem_drop hx)
theorem JI.take {xs:List Int} (h:JI xs) (n:Nat):JI (xs.take n):=λ x hx=>h x (List.mem_of_mem_take hx)
theorem Kx {xs:List Int} (h:JI xs) (k:Nat):0≤xs.getD k 0∧xs.getD k 0<256:=by
 rw[zi]
 rcases Nat.lt_or_ge k xs.length with hk|hk
 ·rw[zj hk]
  exact h _ (List.getElem_mem hk)
 ·rw[List.getElem?_eq_none hk]
  decide
def nums (s:ByteArray):List Int:=s.data.toList.map λ u=>(u.toNat:Int)
theorem nums_length (s:ByteArray):(nums s).length=s.size:=by simp[nums]
theorem Uo (s:ByteArray):JI (nums s):=by
 intro x hx
 obtain⟨u,_,rfl⟩:=List.mem_map.mp hx
 have:=u.toNat_lt
 omega
theorem QD (s:ByteArray) (k:Nat) (h:k<s.size):((s[k]'h).toNat:Int)=(nums s).getD k 0:=by
 rw[zi,nums,List.getElem?_map,zj (by simpa using h)]
 rfl
theorem O4 (xs:List Int) (h:JI xs):nums (strOfNums xs)=xs:=by
 unfold nums
 rw[show(strOfNums xs).data.toList=xs.map λ n=>UInt8.ofNat n.toNat from rfl,List.map_map]
 conv=>rhs;rw[←List.map_id xs]
 apply List.map_congr_left
 intro x hx
 have:=h x hx
 simp
 omega
theorem Vk (s:ByteArray):strOfNums (nums s)=s:=by
 apply ByteArray.ext
 apply Array.ext'
 rw[strOfNums_data]
 unfold nums
 rw[List.map_map]
 conv=>rhs;rw[←List.map_id s.data.toList]
 apply List.map_congr_left
 intro u _
 simp
theorem MZ (xs ys:List Int):strOfNums xs++strOfNums ys=strOfNums (xs++ys):=by
 unfold strOfNums
 rw[ByteArray.mk_append_mk,List.map_append]
theorem Nc {w:World} {p:Option Addr} {n:Nat} {xs:List Int} (h:Lib.BytesIn w p n xs) (hx:xs.length=n) (c:Nat):(convert 49 9 (.slice p n c)).run zf w=.ok (.string (strOfNums xs)) w:=by
 rcases Nat.eq_zero_or_pos n with h0|h0
 ·subst h0
  obtain rfl:xs=[]:=List.eq_nil_of_length_eq_zero hx
  exact run_convert_bytes_zero w 49 5 underlying49 underlying5 p c 9 underlying9
 ·obtain⟨b,o,rfl,hc⟩:=h.at h0
  exact run_convert_bytes_arg w 49 5 underlying49 underlying5 b o n c xs hx hc 9 underlying9
theorem jx {w:World} {p:Option Addr} {n:Nat} {xs:List Int} (h:Lib.BytesIn w p n xs) (m:Nat) (hm:m≤n):Lib.BytesIn w p m (xs.take m):=λ hn=>by
 obtain⟨b,o,e,hc⟩:=h.at (by omega)
 refine⟨b,o,e,λ i hi=>?_⟩
 rw[hc i (by omega),zi,zi,List.getElem?_take,if_pos hi]
theorem BI {w:World} {b o:Nat} {n:Nat} {xs:List Int} (h:Lib.BytesIn w (some ⟨b,o,none⟩) n xs) (m k:Nat) (hm:m+k=n):Lib.BytesIn w (some ⟨b,o+m,none⟩) k (xs.drop m):=λ hn=>by
 obtain⟨b',o',e,hc⟩:=h.at (by omega)
 cases e
 refine⟨b,o+m,rfl,λ i hi=>?_⟩
 rw[Nat.add_assoc,hc (m+i) (by omega),zi,zi,List.getElem?_drop]
theorem G4:(Tryz.prog.info? 5).map (λ i=>(i.zero,i.size,i.bytes))=some (some (.int .u8 0),1,1):=by kernel_rfl
theorem BS {w:World} {base m:Nat} {v:Value} {zs:List Value} (hown:w.ownsRow base 5 1 v m zs) (hbase:base≤w.heap.size) {p:Option Addr} {n c:Nat} {xs:List Int}
  (hx:xs.length=n) (hpc:p=none→c=0) (hi:Lib.BytesIn w p n xs) (hbig:m+n≤140737488355328) (ty:TypeId):
  ∃v' w',(Builtin.append_ #[49,49] ty #[v,.slice p n c]).run zf w=.ok v' w'∧w'.ownsRow base 5 1 v' (m+n) (zs++xs.map (Value.int .u8))∧w.grownBy w' v.ownBlock∧(v'=.slice none 0 0↔v=.slice none 0 0∧n=0):=by
 obtain⟨i0,hi0,hz0,hz1,hz2⟩:=info_parts G4
 cases p with
 |none=>
  obtain rfl:c=0:=hpc rfl
  obtain rfl:n=0:=by
   rcases Nat.eq_zero_or_pos n with h|h
   ·exact h
   ·obtain⟨_,_,h,_⟩:=hi.at h
    cases h
  obtain rfl:xs=[]:=List.eq_nil_of_length_eq_zero hx
  exact⟨v,w,run_append_owned_none (w:=w) base 49 ty 5 i0 1 underlying49 hi0 v m zs hown,by simpa using hown,World.grownBy.refl w _,by simp⟩
 |some a=>
  refine run_append_own w base 49 ty 5 i0 (.int .u8 0) 1 1 underlying49 hi0 hz0 hz1 hz2 rfl (by decide) v m zs hown a n c (xs.map (Value.int .u8)) (by simp[hx]) ?_ (by simp[Value.oneCell']) (by unfold maxLen;omega) (by omega) hbase
  intro j u hj
  have hj1:j<xs.length:=by have:=(List.getElem?_eq_some_iff.mp hj).1;simpa using this
  obtain⟨b,o,e,hc⟩:=hi.at (by omega)
  cases e
  rw[WideShapes.add_plain,hc j (by omega)]
  rw[List.getElem?_map,zj hj1]at hj
  rw[zi,zj hj1]
  exact hj
theorem BR {w:World} {base n:Nat} {v:Value} {xs:List Int} (h:w.ownsRow base 5 1 v n (xs.map (Value.int .u8))):
  ∃p c,v=.slice p n c∧xs.length=n∧Lib.BytesIn w p n xs∧(p=none→c=0)∧n≤c∧c≤9223372036854775807∧∀a,p=some a→base≤a.block∧a.block<w.heap.size:=by
 obtain⟨hl,⟨rfl,rfl⟩|⟨g,cap,cur,rfl,hb,hh,h1,h2,h3,h4⟩⟩:=h
 ·exact⟨none,0,rfl,by simpa using hl,Lib.BytesIn.nil _ _ _,λ _=>rfl,zg _,by omega,λ _ h=>by cases h⟩
 ·have hl':xs.length=n:=by simpa using hl
  unfold maxLen at h2
  refine⟨_,cap,rfl,hl',?_,(λ h=>by cases h),h1,by omega,λ a h=>by cases h;exact⟨hb,(Array.getElem?_eq_some_iff.1 hh).1⟩⟩
  refineλ _=>⟨g,0,rfl,λ i hi=>?_⟩
  have hk:(xs.map (Value.int .u8))[i]?=some (.int .u8 (xs.getD i 0)):=by
   rw[List.getElem?_map,zi,zj (by omega)]
   rfl
  rw[←h4,List.getElem?_take,if_pos (by omega)]at hk
  simp only[World.cell?,hh,Nat.zero_add]
  simpa using hk
theorem Fv {w w':World} {p:Option Addr} {n:Nat} {xs:List Int} (h:Lib.BytesIn w p n xs) (hb:Below w.heap.size w w'):Lib.BytesIn w' p n xs:=λ hn=>by
 obtain⟨b,o,e,hc⟩:=h.at hn
 exact⟨b,o,e,λ i hi=>(hb.cell (World.block_lt_of_cell? w _ (hc i hi))).trans (hc i hi)⟩
theorem seqB {w w1 w2:World} (h1:Below w.heap.size w w1) (h2:Below w1.heap.size w1 w2):Below w.heap.size w w2:=h1.trans (h2.mono h1.size)
theorem Nx {w:World} {base base' T K n:Nat} {v:Value} {zs:List Value} (h:w.ownsRow base T K v n zs) (hb:base'≤base):w.ownsRow base' T K v n zs:=by
 obtain⟨hl,h0|⟨g,cap,cur,e1,e2,e3⟩⟩:=h
 ·exact⟨hl,Or.inl h0⟩
 ·exact⟨hl,Or.inr ⟨g,cap,cur,e1,by omega,e3⟩⟩
theorem below_drewN (w:World) (m:Nat):Below w.heap.size w (w.drewN m):=⟨rfl,rfl,rfl,zg _,λ _ _=>rfl⟩
theorem qa {w:World} {g i:Nat} {cs:Array Value} {t:TypeId} (h:w.heap[g]?=some (.cells cs t (0,0))):w.frozen? ⟨g,i,none⟩=false:=by simp[World.frozen?,h]
theorem qd {w:World} {g:Nat} {o:Obj} (h:w.heap[g]?=some o):g<w.heap.size:=(Array.getElem?_eq_some_iff.1 h).1
theorem World.jw (w:World) (cs:Array Value) (t:TypeId) (fr:Nat×Nat) (i:Nat):(w.alloc (.cells cs t fr)).cell? ⟨w.heap.size,i,none⟩=cs[i]?:=by
 have h:=zo w (.cells cs t fr)
 simp only[World.cell?]
 rw[h]
 rfl
def Yz (w:World) (p:Option Addr) (n:Nat) (xs:List Int):Prop:=0<n→∃b o,p=some ⟨b,o,none⟩∧∀i,i<n→w.cell? ⟨b,o+i,none⟩=some (.int .i64 (xs.getD i 0))
theorem UA {w w':World} {p:Option Addr} {n:Nat} {xs:List Int} (h:Yz w p n xs) (hb:Below w.heap.size w w'):Yz w' p n xs:=λ hn=>by
 obtain⟨b,o,e,hc⟩:=h hn
 exact⟨b,o,e,λ i hi=>(hb.cell (World.block_lt_of_cell? w _ (hc i hi))).trans (hc i hi)⟩
theorem Mw (w:World) (p:Option Addr) (xs:List Int):Yz w p 0 xs:=λ h=>absurd h (Nat.lt_irrefl 0)
theorem Li {w:World} {b o:Nat} {n:Nat} {xs:List Int} (h:Yz w (some ⟨b,o,none⟩) n xs) (m k:Nat) (hm:m+k=n):Yz w (some ⟨b,o+m,none⟩) k (xs.drop m):=λ hn=>by
 obtain⟨b',o',e,hc⟩:=h (by omega)
 cases e
 refine⟨b,o+m,rfl,λ i hi=>?_⟩
 rw[Nat.add_assoc,hc (m+i) (by omega),zi,zi,List.getElem?_drop]
theorem Q3 {w:World} {base n:Nat} {v:Value} {xs:List Int} (h:w.ownsRow base 3 1 v n (xs.map (Value.int .i64))):
  ∃p c,v=.slice p n c∧xs.length=n∧Yz w p n xs∧(p=none→c=0)∧n≤c∧c≤9223372036854775807:=by
 have hl:xs.length=n:=by have:=h.1;simpa using this
 obtain⟨_,⟨rfl,rfl⟩|⟨g,cap,cur,rfl,hb,hh,h1,h2,h3,h4⟩⟩:=id h
 ·exact⟨none,0,rfl,hl,Mw _ _ _,λ _=>rfl,zg _,by omega⟩
 ·unfold maxLen at h2
  refine⟨_,cap,rfl,hl,λ _=>⟨g,0,rfl,λ i hi=>?_⟩,(λ h=>by cases h),h1,by omega⟩
  rw[Nat.zero_add,h.cellAt i (by omega),List.getElem?_map,zi,zj (by omega)]
  rfl
theorem Aq:(Tryz.prog.info? 3).map (λ i=>(i.zero,i.size,i.bytes))=some (some (.int .i64 0),1,8):=by kernel_rfl
theorem MQ {w w0:World} {base m:Nat} {v:Value} {zs:List Int} (hown:w.ownsRow base 3 1 v m (zs.map (Value.int .i64))) (hbase:base≤w.heap.size) (hb:Below base w0 w) {p:Option Addr} {n c:Nat} {xs:List Int}
  (hx:xs.length=n) (hpc:p=none→c=0∧n=0) (hi:Yz w p n xs) (hbig:m+n≤1000000) (ty:TypeId):
  ∃q d w',(Builtin.append_ #[64,64] ty #[v,.slice p n c]).run zf w=.ok (.slice q (m+n) d) w'∧w'.ownsRow base 3 1 (.slice q (m+n) d) (m+n) ((zs++xs).map (Value.int .i64))∧Below base w0 w':=by
 obtain⟨i0,hi0,hz0,hz1,hz2⟩:=info_parts Aq
 cases p with
 |none=>
  obtain⟨rfl,rfl⟩:=hpc rfl
  obtain rfl:xs=[]:=List.eq_nil_of_length_eq_zero hx
  obtain⟨q,d,rfl,_⟩:=Q3 hown
  exact⟨q,d,w,run_append_owned_none (w:=w) base 64 ty 3 i0 1 underlying64 hi0 _ m _ hown,by simpa using hown,hb⟩
 |some a=>
  obtain⟨v',w',h1,h2,h3,_⟩:=run_append_own w base 64 ty 3 i0 (.int .i64 0) 1 8 underlying64 hi0 hz0 hz1 hz2 rfl (by decide) v m _ hown a n c (xs.map (Value.int .i64)) (by simp[hx]) (by
   intro j u hj
   have hj1:j<xs.length:=by have:=(List.getElem?_eq_some_iff.mp hj).1;simpa using this
   obtain⟨b,o,e,hc⟩:=hi (by omega)
   cases e
   rw[WideShapes.add_plain,hc j (by omega)]
   rw[List.getElem?_map,zj hj1]at hj
   rw[zi,zj hj1]
   exact hj) (by simp[Value.oneCell']) (by unfold maxLen;omega) (by omega) hbase
  rw[←List.map_append]at h2
  obtain⟨q,d,rfl,_⟩:=Q3 h2
  exact⟨q,d,w',h1,h2,hb.grown h3 hbase (λ j hj=>(hown.lt j hj).1)⟩
theorem Gl (w:World) (x:Int) (T:TypeId) (fr:Nat×Nat):Yz (w.alloc (.cells #[.int .i64 x] T fr)) (some ⟨w.heap.size,0,none⟩) 1 [x]:=λ _=>⟨_,_,rfl,λ i hi=>by
 obtain rfl:i=0:=by omega
 exact ze _ _ 0 _ _ _ (zo w (.cells #[.int .i64 x] T fr))⟩
theorem N0 {w w0:World} {base m:Nat} {v:Value} {zs:List Int} (hown:w.ownsRow base 3 1 v m (zs.map (Value.int .i64))) (hbase:base≤w.heap.size) (hb:Below base w0 w) (hbig:m+1≤1000000) (x:Int):
  ∃q d w',(∀ty,(Builtin.append_ #[64,64] ty #[v,.slice (some ⟨w.heap.size,0,none⟩) 1 1]).run zf (w.alloc (.cells #[.int .i64 x] 3))=.ok (.slice q (m+1) d) w')∧w'.ownsRow base 3 1 (.slice q (m+1) d) (m+1) ((zs++[x]).map (Value.int .i64))∧Below base w0 w':=by
 have ho:=hown.alloc (.cells #[.int .i64 x] 3)
 obtain⟨q,d,w',h1,h2,h3⟩:=MQ (p:=some ⟨w.heap.size,0,none⟩) (n:=1) (c:=1) (xs:=[x]) ho (by simp;omega) (hb.alloc hbase _) rfl (λ h=>by cases h) (Gl w x _ _) hbig 64
 exact⟨q,d,w',λ ty=>by rw[←h1];rfl,h2,h3⟩
abbrev Pc:=Int×ByteArray
def Ev:Pc:=(0,⟨#[]⟩)
def ZB (ps:List Pc):List Value:=ps.flatMap λ d=>[.int .i64 d.1,.string d.2]
theorem Te (ps:List Pc):(ZB ps).length=ps.length*2:=by
 induction ps with
 |nil=>rfl
 |cons d r ih=>simp only[ZB,List.flatMap_cons,List.length_append,List.length_cons,List.length_nil]at ih⊢;omega
theorem Fb (ps:List Pc) (i:Nat) (h:i<ps.length):(ZB ps)[i*2]?=some (.int .i64 (ps.getD i Ev).1)∧(ZB ps)[i*2+1]?=some (.string (ps.getD i Ev).2):=by
 induction ps generalizing i with
 |nil=>cases h
 |cons d r ih=>
  cases i with
  |zero=>exact⟨rfl,rfl⟩
  |succ k=>
   have h':=ih k (by simpa using h)
   have e:ZB (d::r)=.int .i64 d.1::.string d.2::ZB r:=rfl
   rw[e,show(k+1)*2=k*2+1+1 by omega]
   simpa using h'
def DJ (w:World) (p:Option Addr) (n:Nat) (ps:List Pc):Prop:=0<n→∃b o,p=some ⟨b,o,none⟩∧∀i,i<n→w.cell? ⟨b,o+i*2,none⟩=some (.int .i64 (ps.getD i Ev).1)∧w.cell? ⟨b,o+(i*2+1),none⟩=some (.string (ps.getD i Ev).2)
theorem Er (w:World) (p:Option Addr) (ps:List Pc):DJ w p 0 ps:=λ h=>absurd h (Nat.lt_irrefl 0)
theorem Es {w:World} {base T n:Nat} {v:Value} {ps:List Pc} (h:w.ownsRow base T 2 v n (ZB ps)):
  ∃p c,v=.slice p n c∧ps.length=n∧DJ w p n ps∧(p=none→c=0)∧n≤c∧c≤9223372036854775807:=by
 have hl:ps.length=n:=by have:=h.1;rw[Te]at this;omega
 obtain⟨_,⟨rfl,rfl⟩|⟨g,cap,cur,rfl,hb,hh,h1,h2,h3,h4⟩⟩:=id h
 ·exact⟨none,0,rfl,hl,Er _ _ _,λ _=>rfl,zg _,by omega⟩
 ·unfold maxLen at h2
  refine⟨_,cap,rfl,hl,λ _=>⟨g,0,rfl,λ i hi=>?_⟩,(λ h=>by cases h),h1,by omega⟩
  rw[Nat.zero_add,Nat.zero_add,h.cellAt (i*2) (by omega),h.cellAt (i*2+1) (by omega)]
  exact Fb ps i (by omega)
end gc
namespace gc
open Go.RowKit
def qe (n:Int):Int:=if n<0 then 0 else if 1099511627776<n then 1099511627776 else n
theorem qw (n:Int):0≤qe n∧qe n≤1099511627776:=by unfold qe;split<;>(try split)<;>omega
theorem Xv (n:Int) (h0:0≤n) (h1:n≤1099511627776):qe n=n:=by unfold qe;split<;>(try split)<;>omega
theorem Zq (n:Int) (w:World):Calls zf 52 #[.int .i64 n] w λ e w'=>e=.returned (.int .i64 (qe n))∧w=w':=by
 go_enter func52,ntmps52
 go_wp2_with (go_in)
 all_goals go_ret
 all_goals exact⟨qR (by unfold qe;(repeat' split at*)<;>omega),rfl⟩
def qn (A:List Int) (x:Int):Nat:=(A.takeWhile λ d=>decide (d≤x)).length
theorem XK (A:List Int) (x:Int):qn A x≤A.length:=by
 have h:=congrArg List.length (List.takeWhile_append_dropWhile (p:=λ d=>decide (d≤x)) (l:=A))
 rw[List.length_append]at h
 unfold qn
 omega
theorem VF {A:List Int} {x:Int} {k:Nat} (h:k<qn A x):A.getD k 0≤x:=by
 induction A generalizing k with
 |nil=>simp[qn]at h
 |cons d r ih=>
  simp only[qn,List.takeWhile_cons]at h
  split at h
  ·rename_i hd
   cases k with
   |zero=>simpa using hd
   |succ k=>exact ih (k:=k) (by unfold qn;simpa using h)
  ·simp at h
theorem Ui {A:List Int} {x:Int} (h:qn A x<A.length):x<A.getD (qn A x) 0:=by
 induction A with
 |nil=>simp at h
 |cons d r ih=>
  by_cases hd:d≤x
  ·have e:qn (d::r) x=qn r x+1:=by simp[qn,hd]
   rw[e]at h⊢
   exact ih (by simpa using h)
  ·have e:qn (d::r) x=0:=by simp[qn,hd]
   rw[e]
   show x<d
   omega
theorem OJ {A:List Int} {x:Int} {n:Nat} (hn:n≤A.length) (h1:∀j,j<n→A.getD j 0≤x) (h2:n<A.length→x<A.getD n 0):qn A x=n:=by
 have h:=XK A x
 rcases Nat.lt_trichotomy (qn A x) n with e|e|e
 ·have a:=Ui (A:=A) (x:=x) (by omega)
  have b:=h1 _ e
  omega
 ·exact e
 ·have a:=VF e
  have b:=h2 (by omega)
  omega
theorem LB {w w1:World} {g:Nat} {S:ByteArray} {v:Value} {last:Int} {T:TypeId} {fr:Nat×Nat} (h:w.heap[g]?=some (.cells #[.string S,v,.int .i64 last] T fr)) (hb:Below w.heap.size w w1):
  w1.cell? ⟨g,0,none⟩=some (.string S)∧w1.cell? ⟨g,1,none⟩=some v∧w1.cell? ⟨g,2,none⟩=some (.int .i64 last):=by
 have h1:=(hb.block _ (qd h)).trans h
 exact⟨ze _ _ 0 _ _ _ h1,ze _ _ 1 _ _ _ h1,ze _ _ 2 _ _ _ h1⟩
theorem VZ (S:ByteArray) (p:Option Addr) (n c:Nat) (A:List Int) (last x:Int) (w:World) (hA:A.length=n) (hS:S.size=n) (hbig:n≤100000) (hi:Yz w p n A):
  Calls zf 88 #[.agg #[.string S,.slice p n c,.int .i64 last],.int .i64 x] w λ e w'=>e=.returned (.int .i64 (qn A x:Int))∧Below w.heap.size w w':=by
 have HI:=zd hi
 have HX:=zd hA
 obtain⟨N,hN⟩:∃N,qn A x=N:=⟨_,rfl⟩
 rw[hN]
 have HNN:=zd hN
 have HNL:=zd (show N≤n by rw[←hN,←hA];exact XK _ _)
 have HS:=zd hS
 clear hi hA hN
 go_enter func88,ntmps88
 go_wp2_with fail
 have HB0:=zd (zo w (.cells #[.string S,.slice p n c,.int .i64 last] 66))
 have HW1:=zd (show Below w.heap.size w (w.alloc (.cells #[.string S,.slice p n c,.int .i64 last] 66))from(zh _ _).alloc (zg _) _)
 have HI1:=zd (UA HI.out HW1.out)
 have HBW:=zd (show∀w',Below (w.alloc (.cells #[.string S,.slice p n c,.int .i64 last] 66)).heap.size (w.alloc (.cells #[.string S,.slice p n c,.int .i64 last] 66)) w'→Below w.heap.size w w' fromλ w' h=>seqB HW1.out h)
 generalize w.alloc (.cells #[.string S,.slice p n c,.int .i64 last] 66)=w1 at*
 clear HI HW1
 go_loopw [5] (λ i wr=>∃(k:Nat),k≤N∧i=.int .i64 k∧Hid (Below w1.heap.size w1 wr)) (λ i _=>n -(intOf i).toNat)
 case atStart=>exact⟨0,by omega,rfl,zd (zh _ _)⟩
 case round=>
  obtain⟨k,hk,rfl,HB⟩:=hrel
  obtain⟨x0,x1,x2⟩:=LB HB0.out HB.out
  by_cases hkN:k<N
  ·have HKN:=zd hkN
   have hkn:k<n:=by have:=HNL.out;omega
   have HKn:=zd hkn
   obtain⟨b,o,rfl,hcell⟩:=UA HI1.out HB.out (by omega)
   have g0:=hcell k hkn
   have hle:=VF (A:=A) (x:=x) (k:=k) (by rw[HNN.out];exact hkN)
   generalize A.getD k 0=v at g0 hle
   have dv:decide (v≤x)=true:=by simpa using hle
   have dk:decide ((k:Int)<(S.size:Int))=true:=by simp;omega
   clear hcell
   go_wp2_with fail
   go_roundw
   case rel=>exact⟨k+1,HKN.out,by go_num,HB⟩
   case measure=>have:=HKn.out;simp[intOf];omega
  ·obtain rfl:k=N:=by omega
   by_cases hkn:k<n
   ·obtain⟨b,o,rfl,hcell⟩:=UA HI1.out HB.out (by omega)
    have g0:=hcell k hkn
    have hgt:=Ui (A:=A) (x:=x) (by rw[HNN.out,HX.out];exact hkn)
    rw[HNN.out]at hgt
    generalize A.getD k 0=v at g0 hgt
    have dv:decide (v≤x)=false:=by simp;omega
    have dk:decide ((k:Int)<(S.size:Int))=true:=by simp;omega
    clear hcell
    go_wp2_with fail
    go_ret
    exact⟨rfl,HBW.out _ HB.out⟩
   ·have dk:decide ((k:Int)<(S.size:Int))=false:=by simp;omega
    go_wp2_with fail
    go_ret
    exact⟨rfl,HBW.out _ HB.out⟩
end gc
namespace gc
open Go.RowKit
theorem qo {w:World} {g i:Nat} {cs:Array Value} {T:TypeId} {fr:Nat×Nat} (hg:w.heap[g]?=some (.cells cs T fr)) (u:Value):(w.setCell ⟨g,i,none⟩ u).heap[g]?=some (.cells (cs.setIfInBounds i u) T fr):=by
 simp[World.setCell,Array.getElem?_modify,hg]
def Y0 (w:World) (g:Nat) (a b c:Value):World:=((w.setCell ⟨g,0,none⟩ a).setCell ⟨g,1,none⟩ b).setCell ⟨g,2,none⟩ c
theorem YE {w:World} {g:Nat} {x y z:Value} {T:TypeId} (h:w.heap[g]?=some (.cells #[x,y,z] T (0,0))) (a b c:Value):(Y0 w g a b c).heap[g]?=some (.cells #[a,b,c] T (0,0)):=by
 unfold Y0
 rw[qo (qo (qo h a) b) c]
 rfl
theorem TK {w:World} {g k:Nat} (a b c:Value) (h:k≠g):(Y0 w g a b c).heap[k]?=w.heap[k]?:=by
 unfold Y0
 rw[zn _ _ _ _ h,zn _ _ _ _ h,zn _ _ _ _ h]
theorem J6 {B:Nat} {w0 w:World} {g:Nat} (h:Below B w0 w) (hg:B≤g) (a b c:Value):Below B w0 (Y0 w g a b c):=((h.setCell (p:=⟨g,0,none⟩) hg a).setCell (p:=⟨g,1,none⟩) hg b).setCell (p:=⟨g,2,none⟩) hg c
def qQ (w:World) (p:Option Addr) (n c:Nat) (xs:List Int):Prop:=xs.length=n∧n≤c∧c≤9223372036854775807∧Yz w p n xs∧(p=none→c=0)∧(0<n→∃a cs fr,p=some a∧w.heap[a.block]?=some (.cells cs 3 fr))
theorem Zc {w w':World} {p:Option Addr} {n c:Nat} {xs:List Int} (h:qQ w p n c xs) (hb:Below w.heap.size w w'):qQ w' p n c xs:=⟨h.1,h.2.1,h.2.2.1,UA h.2.2.2.1 hb,h.2.2.2.2.1,λ hn=>by
 obtain⟨a,cs,fr,e,hh⟩:=h.2.2.2.2.2 hn
 exact⟨a,cs,fr,e,(hb.block _ (qd hh)).trans hh⟩⟩
theorem QX (w:World):qQ w none 0 0 []:=⟨rfl,zg _,by omega,Mw _ _ _,λ _=>rfl,λ h=>absurd h (Nat.lt_irrefl 0)⟩
theorem Qq {w w':World} {B M d:Nat} {q:Option Addr} {xs:List Int} (ho:w.ownsRow B 3 1 (.slice q M d) M (xs.map (Value.int .i64))) (h:∀k,B≤k→w'.heap[k]?=w.heap[k]?):qQ w' q M d xs:=by
 obtain⟨p',c',e,hl,hi,hz,hc1,hc2⟩:=Q3 ho
 cases e
 refine⟨hl,hc1,hc2,λ hn=>?_,hz,λ hn=>?_⟩
 ·obtain⟨b,o,e,hc⟩:=hi hn
  have hbb:=(ho.lt b (by rw[e];rfl)).1
  refine⟨b,o,e,λ i hi=>?_⟩
  rw[World.cell?_of_block (w:=w) (h b hbb)]
  exact hc i hi
 ·rcases ho.2 with⟨e,h0⟩|⟨b,cap,cur,e,hb,hh,_⟩
  ·omega
  ·cases e
   exact⟨_,cur,_,rfl,(h b hb).trans hh⟩
def Xl (last at':Int):Int:=if qe at'<last then last else qe at'
def ko (S:ByteArray) (A:List Int) (last N:Int) (w:World) (e:Ending) (w':World):Prop:=∃p n c,e=.returned (.tuple #[.agg #[.string S,.slice p n c,.int .i64 last],.int .i64 N])∧qQ w' p n c A∧Below w.heap.size w w'
theorem Zk {w w1:World} {o0 o1:Obj} (hb:Below ((w.alloc o0).alloc o1).heap.size ((w.alloc o0).alloc o1) w1):
  w1.heap[w.heap.size]?=some o0∧w1.heap[w.heap.size+1]?=some o1∧w.heap.size+1<w1.heap.size:=by
 have hs:=hb.size
 have s0:(w.alloc o0).heap.size=w.heap.size+1:=by simp
 have s1:((w.alloc o0).alloc o1).heap.size=w.heap.size+1+1:=by simp
 rw[s1]at hs hb
 refine⟨?_,?_,by omega⟩
 ·rw[hb.block _ (by omega),Below.heap_alloc _ _ _ (by omega)]
  exact zo w o0
 ·rw[hb.block _ (by omega)]
  have:=zo (w.alloc o0) o1
  rw[s0]at this
  exact this
theorem Xw (w:World) (o o':Obj):Below w.heap.size w ((w.alloc o).alloc o'):=((zh _ _).alloc (zg _) _).alloc (by simp) _
theorem En {last a:Int} (h:qe a<last):Xl last a=last:=by unfold Xl;rw[if_pos h]
theorem Eo {last a:Int} (h:¬qe a<last):Xl last a=qe a:=by unfold Xl;rw[if_neg h]
theorem Ds {w w1 w2:World} {K:Nat} (h1:Below w.heap.size w w1) (h2:Below K w1 w2) (hk:w.heap.size≤K:=by omega):Below w.heap.size w w2:=h1.trans (h2.mono hk)
theorem UR {s:ByteArray} (h:0<s.size):s.toList.isEmpty=false:=by
 rw[←Vk s,Lib.strOfNums_toList]
 have:=nums_length s
 cases e:nums s with
 |nil=>rw[e]at this;simp at this;omega
 |cons x r=>rfl
theorem Md (w:World):(w.alloc (.cells #[] 3)).ownsRow w.heap.size 3 1 (.slice (some ⟨w.heap.size,0,none⟩) 0 0) 0 (([]:List Int).map (Value.int .i64)):=
 World.ownsRow_made w #[] 0 (zg _) (Nat.zero_le _) rfl
theorem TS (k:Nat) (T:Int) (A:List Int):(A++List.replicate k T)++[T]=A++List.replicate (k+1) T:=by rw[List.append_assoc,←List.replicate_succ']
theorem jP (S s:ByteArray) (p:Option Addr) (n c:Nat) (A:List Int) (last a:Int) (w:World) (hr:qQ w p n c A) (hn:n≤100000) (hs:s.size≤100000) (hSS:S.size≤100000) (h0:0<s.size) {T:Int} (hT:Xl last a=T):
  Calls zf 132 #[.agg #[.string S,.slice p n c,.int .i64 last],.int .i64 a,.string s] w (ko (S++s) (A++List.replicate s.size T) T T w):=by
 have HR:=zd hr
 have HN:=zd hn
 obtain⟨m,hm⟩:∃m,s.size=m:=⟨_,rfl⟩
 rw[hm]at hs h0⊢
 have HSS:=zd hs
 have HT:=zd hT
 have hb0:Below w.heap.size w ((w.alloc (.cells #[.string S,.slice p n c,.int .i64 last] 66)).alloc (.cells #[.string ⟨#[]⟩,.slice none 0 0,.int .i64 0] 66)):=Xw _ _ _
 have hz:((w.alloc (.cells #[.string S,.slice p n c,.int .i64 last] 66)).alloc (.cells #[.string ⟨#[]⟩,.slice none 0 0,.int .i64 0] 66)).heap.size=w.heap.size+1+1:=by simp
 have hmk:=Md ((w.alloc (.cells #[.string S,.slice p n c,.int .i64 last] 66)).alloc (.cells #[.string ⟨#[]⟩,.slice none 0 0,.int .i64 0] 66))
 have hba:Below ((w.alloc (.cells #[.string S,.slice p n c,.int .i64 last] 66)).alloc (.cells #[.string ⟨#[]⟩,.slice none 0 0,.int .i64 0] 66)).heap.size ((w.alloc (.cells #[.string S,.slice p n c,.int .i64 last] 66)).alloc (.cells #[.string ⟨#[]⟩,.slice none 0 0,.int .i64 0] 66)) (((w.alloc (.cells #[.string S,.slice p n c,.int .i64 last] 66)).alloc (.cells #[.string ⟨#[]⟩,.slice none 0 0,.int .i64 0] 66)).alloc (.cells #[] 3)):=(zh _ _).alloc (zg _) _
 obtain⟨q0,d0,w4,hr0,ho0,hb4⟩:=MQ (p:=p) (n:=n) (c:=c) (xs:=A) hmk (by simp) hba hr.1 (λ e=>⟨hr.2.2.2.2.1 e,by have:=hr.2.2.2.2.1 e;have:=hr.2.1;omega⟩) (UA hr.2.2.2.1 (seqB hb0 hba)) (by omega) 64
 rw[hz]at hr0 ho0 hb4
 have HR0:=zd hr0
 have HO0:=zd ho0
 have HB4:=zd hb4
 have HB0:=zd hb0
 have hb2:=Zk (zh _ ((w.alloc (.cells #[.string S,.slice p n c,.int .i64 last] 66)).alloc (.cells #[.string ⟨#[]⟩,.slice none 0 0,.int .i64 0] 66)))
 have HB2:=zd hb2
 have he:=UR (s:=s) (by omega)
 have HZ:=zd hz
 clear hr0 ho0 hb4 hmk hr hn hT hb0 hb2 hz
 by_cases hlt:qe a<last
 ·obtain rfl:last=T:=by rw[←HT.out,En hlt]
  go_enter func132,ntmps132
  go_wp2_with fail
  refine(Zq _ _).mono ?_
  rintro e w1 ⟨rfl,rfl⟩
  go_wp2_with (at_builtin;refine Lib.wpList_append_run _ rfl _ _ _ _ rfl (.slice (some ⟨w.heap.size+1+1,0,none⟩) 0 0) (.slice p n c) rfl rfl _ _ HR0.out ?_)
  clear he hba
  go_loopw [8,9] (λ u i wr=>∃(k:Nat) (q:Option Addr) (d:Nat),k≤m∧i=.int .i64 k∧u=.slice q (n+k) d∧Hid (wr.ownsRow (w.heap.size+1+1) 3 1 (.slice q (n+k) d) (n+k) ((A++List.replicate k last).map (Value.int .i64)))∧Hid (Below (w.heap.size+1+1) ((w.alloc (.cells #[.string S,.slice p n c,.int .i64 last] 66)).alloc (.cells #[.string ⟨#[]⟩,.slice none 0 0,.int .i64 0] 66)) wr)) (λ _ i _=>m -(intOf i).toNat)
  case atStart=>exact⟨0,q0,d0,by omega,rfl,by simp,zd (by simpa using HO0.out),HB4⟩
  case round=>
   obtain⟨k,q,d,hk,rfl,rfl,HO,HB⟩:=hrel
   by_cases hlt2:k<m
   ·have hlm:decide ((k:Int)<(s.size:Int))=true:=by simp;omega
    obtain⟨q',d',w',h1,h2,h3⟩:=N0 HO.out (by have:=HB.out.size;have:=HZ.out;omega) HB.out (by have:=HN.out;omega) last
    rw[TS]at h2
    have HR1:=zd h1
    have HO1:=zd h2
    have HB1:=zd h3
    clear h1 h2 h3
    go_wp2_with (at_builtin;refine Lib.wpList_append_run _ rfl _ _ _ _ rfl (.slice q (n+k) d) (.slice (some ⟨wr.heap.size,0,none⟩) 1 1) rfl rfl _ _ (HR1.out _) ?_)
    go_roundw
    case rel=>exact⟨k+1,q',d',by omega,by go_num,rfl,HO1,HB1⟩
    case measure=>simp[intOf];omega
   ·obtain rfl:k=m:=by omega
    have hlm:decide ((k:Int)<(s.size:Int))=false:=by simp;omega
    have hb2:=HB2.out
    have hg0:=(HB.out.block w.heap.size (by omega)).trans hb2.1
    have hg1:=(HB.out.block (w.heap.size+1) (by omega)).trans hb2.2.1
    have x0:wr.cell? ⟨w.heap.size,0,none⟩=some (.string S):=ze _ _ 0 _ _ _ hg0
    have y0:wr.cell? ⟨w.heap.size+1,0,none⟩=some (.string ⟨#[]⟩):=ze _ _ 0 _ _ _ hg1
    have y1:wr.cell? ⟨w.heap.size+1,1,none⟩=some (.slice none 0 0):=ze _ _ 1 _ _ _ hg1
    have y2:wr.cell? ⟨w.heap.size+1,2,none⟩=some (.int .i64 0):=ze _ _ 2 _ _ _ hg1
    have f0:wr.frozen? ⟨w.heap.size+1,0,none⟩=false:=qa hg1
    have f1:wr.frozen? ⟨w.heap.size+1,1,none⟩=false:=qa hg1
    have f2:wr.frozen? ⟨w.heap.size+1,2,none⟩=false:=qa hg1
    have hgs:w.heap.size+1+1≤wr.heap.size:=by have:=HB.out.size;have:=HZ.out;omega
    have hz:=YE hg1 (.string (S++s)) (.slice q (n+k) d) (.int .i64 last)
    have HD:=zd (J6 (Ds HB0.out HB.out) (show w.heap.size≤w.heap.size+1 by omega) (.string (S++s)) (.slice q (n+k) d) (.int .i64 last))
    have HRow:=zd (Qq (w':=Y0 wr (w.heap.size+1) (.string (S++s)) (.slice q (n+k) d) (.int .i64 last)) HO.out (λ j hj=>TK _ _ _ (by omega)))
    go_wp2_with fail
    generalize hW:Y0 wr (w.heap.size+1) (.string (S++s)) (.slice q (n+k) d) (.int .i64 last)=W at*
    unfold Y0 at hW
    rw[hW]
    clear hW
    have z0:W.cell? ⟨w.heap.size+1,0,none⟩=some (.string (S++s)):=ze W _ 0 _ _ _ hz
    have z1:W.cell? ⟨w.heap.size+1,1,none⟩=some (.slice q (n+k) d):=ze W _ 1 _ _ _ hz
    have z2:W.cell? ⟨w.heap.size+1,2,none⟩=some (.int .i64 last):=ze W _ 2 _ _ _ hz
    exact zk (v:=.tuple #[.agg #[.string (S++s),.slice q (n+k) d,.int .i64 last],.int .i64 last]) (by simp[results,results132,go_sem,z0,z1,z2]) rfl ⟨_,_,_,rfl,HRow.out,HD.out⟩
 ·obtain rfl:qe a=T:=by rw[←HT.out,Eo hlt]
  go_enter func132,ntmps132
  go_wp2_with fail
  refine(Zq _ _).mono ?_
  rintro e w1 ⟨rfl,rfl⟩
  go_wp2_with (at_builtin;refine Lib.wpList_append_run _ rfl _ _ _ _ rfl (.slice (some ⟨w.heap.size+1+1,0,none⟩) 0 0) (.slice p n c) rfl rfl _ _ HR0.out ?_)
  clear he hba
  go_loopw [8,9] (λ u i wr=>∃(k:Nat) (q:Option Addr) (d:Nat),k≤m∧i=.int .i64 k∧u=.slice q (n+k) d∧Hid (wr.ownsRow (w.heap.size+1+1) 3 1 (.slice q (n+k) d) (n+k) ((A++List.replicate k (qe a)).map (Value.int .i64)))∧Hid (Below (w.heap.size+1+1) ((w.alloc (.cells #[.string S,.slice p n c,.int .i64 last] 66)).alloc (.cells #[.string ⟨#[]⟩,.slice none 0 0,.int .i64 0] 66)) wr)) (λ _ i _=>m -(intOf i).toNat)
  case atStart=>exact⟨0,q0,d0,by omega,rfl,by simp,zd (by simpa using HO0.out),HB4⟩
  case round=>
   obtain⟨k,q,d,hk,rfl,rfl,HO,HB⟩:=hrel
   by_cases hlt2:k<m
   ·have hlm:decide ((k:Int)<(s.size:Int))=true:=by simp;omega
    obtain⟨q',d',w',h1,h2,h3⟩:=N0 HO.out (by have:=HB.out.size;have:=HZ.out;omega) HB.out (by have:=HN.out;omega) (qe a)
    rw[TS]at h2
    have HR1:=zd h1
    have HO1:=zd h2
    have HB1:=zd h3
    clear h1 h2 h3
    go_wp2_with (at_builtin;refine Lib.wpList_append_run _ rfl _ _ _ _ rfl (.slice q (n+k) d) (.slice (some ⟨wr.heap.size,0,none⟩) 1 1) rfl rfl _ _ (HR1.out _) ?_)
    go_roundw
    case rel=>exact⟨k+1,q',d',by omega,by go_num,rfl,HO1,HB1⟩
    case measure=>simp[intOf];omega
   ·obtain rfl:k=m:=by omega
    have hlm:decide ((k:Int)<(s.size:Int))=false:=by simp;omega
    have hb2:=HB2.out
    have hg0:=(HB.out.block w.heap.size (by omega)).trans hb2.1
    have hg1:=(HB.out.block (w.heap.size+1) (by omega)).trans hb2.2.1
    have x0:wr.cell? ⟨w.heap.size,0,none⟩=some (.string S):=ze _ _ 0 _ _ _ hg0
    have y0:wr.cell? ⟨w.heap.size+1,0,none⟩=some (.string ⟨#[]⟩):=ze _ _ 0 _ _ _ hg1
    have y1:wr.cell? ⟨w.heap.size+1,1,none⟩=some (.slice none 0 0):=ze _ _ 1 _ _ _ hg1
    have y2:wr.cell? ⟨w.heap.size+1,2,none⟩=some (.int .i64 0):=ze _ _ 2 _ _ _ hg1
    have f0:wr.frozen? ⟨w.heap.size+1,0,none⟩=false:=qa hg1
    have f1:wr.frozen? ⟨w.heap.size+1,1,none⟩=false:=qa hg1
    have f2:wr.frozen? ⟨w.heap.size+1,2,none⟩=false:=qa hg1
    have hgs:w.heap.size+1+1≤wr.heap.size:=by have:=HB.out.size;have:=HZ.out;omega
    have hz:=YE hg1 (.string (S++s)) (.slice q (n+k) d) (.int .i64 (qe a))
    have HD:=zd (J6 (Ds HB0.out HB.out) (show w.heap.size≤w.heap.size+1 by omega) (.string (S++s)) (.slice q (n+k) d) (.int .i64 (qe a)))
    have HRow:=zd (Qq (w':=Y0 wr (w.heap.size+1) (.string (S++s)) (.slice q (n+k) d) (.int .i64 (qe a))) HO.out (λ j hj=>TK _ _ _ (by omega)))
    go_wp2_with fail
    generalize hW:Y0 wr (w.heap.size+1) (.string (S++s)) (.slice q (n+k) d) (.int .i64 (qe a))=W at*
    unfold Y0 at hW
    rw[hW]
    clear hW
    have z0:W.cell? ⟨w.heap.size+1,0,none⟩=some (.string (S++s)):=ze W _ 0 _ _ _ hz
    have z1:W.cell? ⟨w.heap.size+1,1,none⟩=some (.slice q (n+k) d):=ze W _ 1 _ _ _ hz
    have z2:W.cell? ⟨w.heap.size+1,2,none⟩=some (.int .i64 (qe a)):=ze W _ 2 _ _ _ hz
    exact zk (v:=.tuple #[.agg #[.string (S++s),.slice q (n+k) d,.int .i64 (qe a)],.int .i64 (qe a)]) (by simp[results,results132,go_sem,z0,z1,z2]) rfl ⟨_,_,_,rfl,HRow.out,HD.out⟩
end gc
namespace gc
open Go.RowKit
theorem F3 (w:World):(sizeOf (Tryz.prog.elem 64)).run zf w=.ok 1 w:=by kernel_rfl
theorem E0:Tryz.prog.underlying 64=some (.slice (Tryz.prog.elem 64)):=by kernel_rfl
theorem M7 (p:Option Addr) (n c N:Nat) (h:N≤n) (w:World):(Instr.slice 64 (.slice p n c) (some (.int .i64 (N:Int))) none none).run zf w=.ok (.slice (if c=N then p else p.map (·.add N)) (n -N) (c -N)) w:=by
 rw[run_slice_l (P:=zf) w 64 p n c E0 .i64 (N:Int) (by omega) (by omega),F3]
 simp[Result.andThen,sliced]
theorem Pz {w:World} {p:Option Addr} {n c:Nat} {xs:List Int} (h:qQ w p n c xs) (N:Nat) (hN:N≤n):qQ w (if c=N then p else p.map (·.add N)) (n -N) (c -N) (xs.drop N):=by
 refine⟨by rw[List.length_drop,h.1],by have:=h.2.1;omega,by have:=h.2.2.1;omega,λ hn=>?_,λ e=>?_,λ hn=>?_⟩
 ·obtain⟨b,o,rfl,_⟩:=h.2.2.2.1 (by omega)
  have hne:¬c=N:=by have:=h.2.1;omega
  rw[if_neg hne]
  obtain⟨b',o',e,hc⟩:=Li h.2.2.2.1 N (n -N) (by omega) hn
  cases e
  exact⟨b,o+N,by rw[Option.map_some,WideShapes.add_plain],hc⟩
 ·by_cases hc:c=N
  ·omega
  ·rw[if_neg hc]at e
   cases p with
   |none=>have:=h.2.2.2.2.1 rfl;omega
   |some a=>cases e
 ·obtain⟨b,o,rfl,_⟩:=h.2.2.2.1 (by omega)
  obtain⟨a,cs,fr,e,hh⟩:=h.2.2.2.2.2 (by omega)
  cases e
  have hne:¬c=N:=by have:=h.2.1;omega
  rw[if_neg hne]
  exact⟨⟨b,o+N,none⟩,cs,fr,by rw[Option.map_some,WideShapes.add_plain],hh⟩
def Zz (A:List Int) (x most:Int):Nat:=min (qn A x) most.toNat
theorem Vj (A:List Int) (x most:Int):Zz A x most≤A.length:=by have:=XK A x;unfold Zz;omega
def FD (S:ByteArray) (A:List Int) (last:Int) (T:ByteArray) (w:World) (e:Ending) (w':World):Prop:=∃p n c,e=.returned (.tuple #[.agg #[.string S,.slice p n c,.int .i64 last],.string T])∧qQ w' p n c A∧Below w.heap.size w w'
theorem YH (S:ByteArray) (p:Option Addr) (n c:Nat) (A:List Int) (last x most:Int) (w:World) (hr:qQ w p n c A) (hS:S.size=n) (hn:n≤100000) {K:Nat} (hK:Zz A x most=K):
  Calls zf 90 #[.agg #[.string S,.slice p n c,.int .i64 last],.int .i64 x,.int .i64 most] w (FD (S.extract K n) (A.drop K) last (S.extract 0 K) w):=by
 have HR:=zd hr
 have HN:=zd hn
 have HKN:=zd (show K≤n by rw[←hK,←hr.1];exact Vj _ _ _)
 obtain⟨R,hR⟩:∃R,qn A x=R:=⟨_,rfl⟩
 have HRN:=zd (show R≤n by rw[←hR,←hr.1];exact XK _ _)
 have HRD:=zd (show∀w',qQ w' p n c A→Calls zf 88 #[.agg #[.string S,.slice p n c,.int .i64 last],.int .i64 x] w' λ e w''=>e=.returned (.int .i64 (R:Int))∧Below w'.heap.size w' w'' from
  λ w' h=>by rw[←hR];exact VZ S p n c A last x w' h.1 hS hn h.2.2.2.1)
 have hKR:K=min R most.toNat:=by rw[←hK,←hR];rfl
 clear hr hR hK
 have hsl:=λ w'=>M7 p n c K HKN.out w'
 have HRF:=zd (λ (w':World) (h:qQ w' p n c A)=>Pz h K HKN.out)
 generalize(if c=K then p else p.map (·.add K))=p2 at hsl HRF
 generalize n -K=n2 at hsl HRF
 generalize c -K=c2 at hsl HRF
 by_cases hmr:(R:Int)≤most
 ·obtain rfl:K=R:=by omega
  have hKS:K≤S.size:=by have:=HKN.out;omega
  clear hKR
  go_enter func90,ntmps90
  go_wp2_with fail
  refine(HRD.out _ (Zc HR.out (Xw _ _ _))).mono ?_
  rintro e w1 ⟨rfl,hb1⟩
  have hb2:=Zk hb1
  have HB1:=zd (seqB (Xw _ _ _) hb1)
  have HLT:=zd hb2.2.2
  have x0:w1.cell? ⟨w.heap.size,0,none⟩=some (.string S):=ze _ _ 0 _ _ _ hb2.1
  have x1:w1.cell? ⟨w.heap.size,1,none⟩=some (.slice p n c):=ze _ _ 1 _ _ _ hb2.1
  have x2:w1.cell? ⟨w.heap.size,2,none⟩=some (.int .i64 last):=ze _ _ 2 _ _ _ hb2.1
  have y0:w1.cell? ⟨w.heap.size+1,0,none⟩=some (.string ⟨#[]⟩):=ze _ _ 0 _ _ _ hb2.2.1
  have y1:w1.cell? ⟨w.heap.size+1,1,none⟩=some (.slice none 0 0):=ze _ _ 1 _ _ _ hb2.2.1
  have y2:w1.cell? ⟨w.heap.size+1,2,none⟩=some (.int .i64 0):=ze _ _ 2 _ _ _ hb2.2.1
  have f0:w1.frozen? ⟨w.heap.size+1,0,none⟩=false:=qa hb2.2.1
  have f1:w1.frozen? ⟨w.heap.size+1,1,none⟩=false:=qa hb2.2.1
  have f2:w1.frozen? ⟨w.heap.size+1,2,none⟩=false:=qa hb2.2.1
  have hg1:=hb2.2.2
  have HG:=zd hb2.2.1
  clear hb1 hb2 HRD
  have hz:=YE HG.out (.string (S.extract K n)) (.slice p2 n2 c2) (.int .i64 last)
  have HD:=zd ((J6 HB1.out (show w.heap.size≤w.heap.size+1 by omega) (.string (S.extract K n)) (.slice p2 n2 c2) (.int .i64 last)).drew)
  go_wp2_with fail
  go_region
  generalize hW:Y0 w1 (w.heap.size+1) (.string (S.extract K n)) (.slice p2 n2 c2) (.int .i64 last)=W at*
  unfold Y0 at hW
  rw[hW]
  clear hW x0 x1 x2 y0 y1 y2 f0 f1 f2 hsl
  go_wp2_with fail
  have z0:W.drew.cell? ⟨w.heap.size+1,0,none⟩=some (.string (S.extract K n)):=ze W.drew _ 0 _ _ _ hz
  have z1:W.drew.cell? ⟨w.heap.size+1,1,none⟩=some (.slice p2 n2 c2):=ze W.drew _ 1 _ _ _ hz
  have z2:W.drew.cell? ⟨w.heap.size+1,2,none⟩=some (.int .i64 last):=ze W.drew _ 2 _ _ _ hz
  exact zk (v:=.tuple #[.agg #[.string (S.extract K n),.slice p2 n2 c2,.int .i64 last],.string (S.extract 0 K)]) (by simp[results,results90,go_sem,z0,z1,z2]) rfl ⟨_,_,_,rfl,HRF.out _ (Zc HR.out HD.out),HD.out⟩
 ·by_cases hm0:most<0
  ·obtain rfl:K=0:=by omega
   have hKS:0≤S.size:=Nat.zero_le _
   rw[Int.natCast_zero]at hsl
   clear hKR
   go_enter func90,ntmps90
   go_wp2_with fail
   refine(HRD.out _ (Zc HR.out (Xw _ _ _))).mono ?_
   rintro e w1 ⟨rfl,hb1⟩
   have hb2:=Zk hb1
   have HB1:=zd (seqB (Xw _ _ _) hb1)
   have HLT:=zd hb2.2.2
   have x0:w1.cell? ⟨w.heap.size,0,none⟩=some (.string S):=ze _ _ 0 _ _ _ hb2.1
   have x1:w1.cell? ⟨w.heap.size,1,none⟩=some (.slice p n c):=ze _ _ 1 _ _ _ hb2.1
   have x2:w1.cell? ⟨w.heap.size,2,none⟩=some (.int .i64 last):=ze _ _ 2 _ _ _ hb2.1
   have y0:w1.cell? ⟨w.heap.size+1,0,none⟩=some (.string ⟨#[]⟩):=ze _ _ 0 _ _ _ hb2.2.1
   have y1:w1.cell? ⟨w.heap.size+1,1,none⟩=some (.slice none 0 0):=ze _ _ 1 _ _ _ hb2.2.1
   have y2:w1.cell? ⟨w.heap.size+1,2,none⟩=some (.int .i64 0):=ze _ _ 2 _ _ _ hb2.2.1
   have f0:w1.frozen? ⟨w.heap.size+1,0,none⟩=false:=qa hb2.2.1
   have f1:w1.frozen? ⟨w.heap.size+1,1,none⟩=false:=qa hb2.2.1
   have f2:w1.frozen? ⟨w.heap.size+1,2,none⟩=false:=qa hb2.2.1
   have hg1:=hb2.2.2
   have HG:=zd hb2.2.1
   clear hb1 hb2 HRD
   have hz:=YE HG.out (.string (S.extract 0 n)) (.slice p2 n2 c2) (.int .i64 last)
   have HD:=zd ((J6 HB1.out (show w.heap.size≤w.heap.size+1 by omega) (.string (S.extract 0 n)) (.slice p2 n2 c2) (.int .i64 last)).drew)
   go_wp2_with fail
   go_region
   generalize hW:Y0 w1 (w.heap.size+1) (.string (S.extract 0 n)) (.slice p2 n2 c2) (.int .i64 last)=W at*
   unfold Y0 at hW
   rw[hW]
   clear hW x0 x1 x2 y0 y1 y2 f0 f1 f2 hsl
   go_wp2_with fail
   have z0:W.drew.cell? ⟨w.heap.size+1,0,none⟩=some (.string (S.extract 0 n)):=ze W.drew _ 0 _ _ _ hz
   have z1:W.drew.cell? ⟨w.heap.size+1,1,none⟩=some (.slice p2 n2 c2):=ze W.drew _ 1 _ _ _ hz
   have z2:W.drew.cell? ⟨w.heap.size+1,2,none⟩=some (.int .i64 last):=ze W.drew _ 2 _ _ _ hz
   exact zk (v:=.tuple #[.agg #[.string (S.extract 0 n),.slice p2 n2 c2,.int .i64 last],.string (S.extract 0 0)]) (by simp[results,results90,go_sem,z0,z1,z2]) rfl ⟨_,_,_,rfl,HRF.out _ (Zc HR.out HD.out),HD.out⟩
  ·obtain⟨N,rfl⟩:=Int.eq_ofNat_of_zero_le (show 0≤most by omega)
   obtain rfl:K=N:=by omega
   have hKS:K≤S.size:=by have:=HKN.out;omega
   clear hKR
   go_enter func90,ntmps90
   go_wp2_with fail
   refine(HRD.out _ (Zc HR.out (Xw _ _ _))).mono ?_
   rintro e w1 ⟨rfl,hb1⟩
   have hb2:=Zk hb1
   have HB1:=zd (seqB (Xw _ _ _) hb1)
   have HLT:=zd hb2.2.2
   have x0:w1.cell? ⟨w.heap.size,0,none⟩=some (.string S):=ze _ _ 0 _ _ _ hb2.1
   have x1:w1.cell? ⟨w.heap.size,1,none⟩=some (.slice p n c):=ze _ _ 1 _ _ _ hb2.1
   have x2:w1.cell? ⟨w.heap.size,2,none⟩=some (.int .i64 last):=ze _ _ 2 _ _ _ hb2.1
   have y0:w1.cell? ⟨w.heap.size+1,0,none⟩=some (.string ⟨#[]⟩):=ze _ _ 0 _ _ _ hb2.2.1
   have y1:w1.cell? ⟨w.heap.size+1,1,none⟩=some (.slice none 0 0):=ze _ _ 1 _ _ _ hb2.2.1
   have y2:w1.cell? ⟨w.heap.size+1,2,none⟩=some (.int .i64 0):=ze _ _ 2 _ _ _ hb2.2.1
   have f0:w1.frozen? ⟨w.heap.size+1,0,none⟩=false:=qa hb2.2.1
   have f1:w1.frozen? ⟨w.heap.size+1,1,none⟩=false:=qa hb2.2.1
   have f2:w1.frozen? ⟨w.heap.size+1,2,none⟩=false:=qa hb2.2.1
   have hg1:=hb2.2.2
   have HG:=zd hb2.2.1
   clear hb1 hb2 HRD
   have hz:=YE HG.out (.string (S.extract K n)) (.slice p2 n2 c2) (.int .i64 last)
   have HD:=zd ((J6 HB1.out (show w.heap.size≤w.heap.size+1 by omega) (.string (S.extract K n)) (.slice p2 n2 c2) (.int .i64 last)).drew)
   go_wp2_with fail
   go_region
   generalize hW:Y0 w1 (w.heap.size+1) (.string (S.extract K n)) (.slice p2 n2 c2) (.int .i64 last)=W at*
   unfold Y0 at hW
   rw[hW]
   clear hW x0 x1 x2 y0 y1 y2 f0 f1 f2 hsl
   go_wp2_with fail
   have z0:W.drew.cell? ⟨w.heap.size+1,0,none⟩=some (.string (S.extract K n)):=ze W.drew _ 0 _ _ _ hz
   have z1:W.drew.cell? ⟨w.heap.size+1,1,none⟩=some (.slice p2 n2 c2):=ze W.drew _ 1 _ _ _ hz
   have z2:W.drew.cell? ⟨w.heap.size+1,2,none⟩=some (.int .i64 last):=ze W.drew _ 2 _ _ _ hz
   exact zk (v:=.tuple #[.agg #[.string (S.extract K n),.slice p2 n2 c2,.int .i64 last],.string (S.extract 0 K)]) (by simp[results,results90,go_sem,z0,z1,z2]) rfl ⟨_,_,_,rfl,HRF.out _ (Zc HR.out HD.out),HD.out⟩
end gc
namespace gc
open Go.RowKit
def low (t n:Int):Int:=if t<n then t else n
def AQ (t:Int) (A:List Int):List Int:=A.map (low t)
end gc
namespace gc
open Go.RowKit
def Did (S:ByteArray) (A:List Int) (last N:Int) (T:ByteArray) (w:World) (e:Ending) (w':World):Prop:=∃p n c,e=.returned (.tuple #[.agg #[.string S,.slice p n c,.int .i64 last],.int .i64 N,.string T])∧qQ w' p n c A∧Below w.heap.size w w'
end gc
namespace gc
open Go.RowKit
structure DoC where
 S:ByteArray
 A:List Int
 last:Int
 n:Int
 t:ByteArray
def doC (S:ByteArray) (A:List Int) (last kind a N:Int) (s:ByteArray):DoC:=
 if kind=0 then(if s.size=0 then⟨S,A,last,Xl last a,⟨#[]⟩⟩else⟨S++s,A++List.replicate s.size (Xl last a),Xl last a,Xl last a,⟨#[]⟩⟩)
 else if kind=1 then⟨S.extract (Zz A a N) S.size,A.drop (Zz A a N),last,0,S.extract 0 (Zz A a N)⟩
 else if kind=2 then⟨S,AQ (qe a) A,low (qe a) last,0,⟨#[]⟩⟩
 else if kind=3 then⟨⟨#[]⟩,[],last,0,S⟩
 else⟨S,A,last,0,⟨#[]⟩⟩
end gc
namespace gc
theorem UM (s t:ByteArray):nums (s++t)=nums s++nums t:=by
 conv=>lhs;rw[←Vk s,←Vk t,MZ]
 exact O4 _ ((Uo s).append (Uo t))
theorem UL (s t:ByteArray):(s++t).size=s.size+t.size:=by rw[←nums_length,UM,List.length_append,nums_length,nums_length]
def Up (A:List Int):Prop:=A.Pairwise λ x y=>x≤y
theorem MF (S:ByteArray) (i j:Nat):nums (S.extract i j)=((nums S).drop i).take (j -i):=by
 unfold nums
 simp[List.map_take,List.map_drop]
abbrev Mk:=Int×Nat
def JM:Mk:=(0,0)
def Jv:Nat→List Mk→List Int
 |_,[]=>[]
 |f,m::r=>List.replicate (m.2 -f) m.1++Jv m.2 r
def XW:Nat→List Mk→Nat→Prop
 |f,[],e=>f=e
 |f,m::r,e=>f<m.2∧XW m.2 r e
def Nk (ms:List Mk):Prop:=ms.Pairwise λ x y=>x.1<y.1
def JR (f:Nat) (ms:List Mk) (k:Nat):Nat:=if k=0 then f else(ms.getD (k -1) JM).2
theorem Th {ms:List Mk} {f e:Nat} (h:XW f ms e):f≤e:=by
 induction ms generalizing f with
 |nil=>exact Nat.le_of_eq h
 |cons m r ih=>exact zt (Nat.le_of_lt h.1) (ih h.2)
theorem Yq {l r:List Mk} {f e:Nat}:XW f (l++r) e↔∃y,XW f l y∧XW y r e:=by
 induction l generalizing f with
 |nil=>exact⟨λ h=>⟨f,rfl,h⟩,λ ⟨y,h1,h2⟩=>by rw[show f=y from h1];exact h2⟩
 |cons m l ih=>
  constructor
  ·intro h
   obtain⟨y,h1,h2⟩:=ih.1 h.2
   exact⟨y,⟨h.1,h1⟩,h2⟩
  ·rintro⟨y,h1,h2⟩
   exact⟨h1.1,ih.2 ⟨y,h1.2,h2⟩⟩
theorem VW {l:List Mk} {f y:Nat} (h:XW f l y) (r:List Mk):Jv f (l++r)=Jv f l++Jv y r:=by
 induction l generalizing f with
 |nil=>rw[show f=y from h];rfl
 |cons m l ih=>
  show List.replicate _ _++Jv m.2 (l++r)=_
  rw[ih h.2,←List.append_assoc]
  rfl
theorem FQ {ms:List Mk} {f e:Nat} (h:XW f ms e):(Jv f ms).length=e -f:=by
 induction ms generalizing f with
 |nil=>rw[show f=e from h];simp[Jv]
 |cons m r ih=>
  have:=Th h.2
  have:=h.1
  show(List.replicate (m.2 -f) m.1++Jv m.2 r).length=_
  rw[List.length_append,List.length_replicate,ih h.2]
  omega
theorem NA {ms:List Mk} {f:Nat} {x:Int} (h:x∈Jv f ms):∃m∈ms,m.1=x:=by
 induction ms generalizing f with
 |nil=>cases h
 |cons m r ih=>
  rcases List.mem_append.1 h with h|h
  ·exact⟨m,List.mem_cons_self,(List.eq_of_mem_replicate h).symm⟩
  ·obtain⟨m',h1,h2⟩:=ih h
   exact⟨m',List.mem_cons_of_mem _ h1,h2⟩
theorem NT {ms:List Mk} {f e:Nat} (h:XW f ms e) (k:Nat) (hk:k≤ms.length):XW f (ms.take k) (JR f ms k)∧XW (JR f ms k) (ms.drop k) e:=by
 induction ms generalizing f k with
 |nil=>
  obtain rfl:k=0:=by simpa using hk
  exact⟨rfl,h⟩
 |cons m r ih=>
  cases k with
  |zero=>exact⟨rfl,h⟩
  |succ k=>
   have hh:=ih h.2 k (by simpa using hk)
   have e1:JR f (m::r) (k+1)=JR m.2 r k:=by
    unfold JR
    cases k with
    |zero=>rfl
    |succ j=>rfl
   rw[e1]
   exact⟨⟨h.1,hh.1⟩,hh.2⟩
theorem js {ms:List Mk} {f e:Nat} (h:XW f ms e) (k:Nat) (hk:k≤ms.length):f≤JR f ms k∧JR f ms k≤e:=
 ⟨Th (NT h k hk).1,Th (NT h k hk).2⟩
theorem Ma (ms:List Mk) (k:Nat) (hk:k<ms.length):ms.drop k=ms.getD k JM::ms.drop (k+1):=by
 rw[List.drop_eq_getElem_cons hk,zi,zj hk]
 rfl
theorem PN (n:Nat) (a x:Int) (B:List Int) (h:a≤x):qn (List.replicate n a++B) x=n+qn B x:=by
 induction n with
 |zero=>simp
 |succ n ih=>
  have:qn (a::(List.replicate n a++B)) x=qn (List.replicate n a++B) x+1:=by simp[qn,h]
  rw[List.replicate_succ,List.cons_append,this,ih]
  omega
theorem V1 (a x:Int) (B:List Int) (h:x<a):qn (a::B) x=0:=by
 have:¬a≤x:=by omega
 simp[qn,this]
theorem jU {ms:List Mk} {f e:Nat} (h:XW f ms e) (x:Int):qn (Jv f ms) x=JR f ms (qn (ms.map Prod.fst) x) -f:=by
 induction ms generalizing f with
 |nil=>simp[Jv,qn,JR]
 |cons m r ih=>
  by_cases hx:m.1≤x
  ·have e1:qn (List.map Prod.fst (m::r)) x=qn (r.map Prod.fst) x+1:=by simp[qn,hx]
   have e2:JR f (m::r) (qn (r.map Prod.fst) x+1)=JR m.2 r (qn (r.map Prod.fst) x):=by
    unfold JR
    cases qn (r.map Prod.fst) x with
    |zero=>rfl
    |succ j=>rfl
   have hb:=(js h.2 (qn (r.map Prod.fst) x) (by have:=XK (r.map Prod.fst) x;simpa using this)).1
   rw[e1,e2]
   show qn (List.replicate _ _++Jv m.2 r) x=_
   rw[PN _ _ _ _ hx,ih h.2]
   have:=h.1
   omega
  ·have e1:qn (List.map Prod.fst (m::r)) x=0:=by rw[List.map_cons];exact V1 _ _ _ (by omega)
   rw[e1]
   show qn (List.replicate (m.2 -f) m.1++Jv m.2 r) x=f -f
   obtain⟨j,hj⟩:∃j,m.2 -f=j+1:=⟨m.2 -f -1,by have:=h.1;omega⟩
   rw[hj,List.replicate_succ,List.cons_append,V1 _ _ _ (by omega)]
   omega
theorem Sl {ms:List Mk} (h:Nk ms) (x:Int) (k:Nat) (hk:k<ms.length):decide (x<(ms.getD k JM).1)=decide (qn (ms.map Prod.fst) x≤k):=by
 have e:∀j,j<ms.length→(ms.map Prod.fst).getD j 0=(ms.getD j JM).1:=λ j hj=>by
  simp[zi,zj hj]
 rcases Nat.lt_or_ge k (qn (ms.map Prod.fst) x)with hlt|hge
 ·have:=VF hlt
  rw[e k hk]at this
  have h1:¬x<(ms.getD k JM).1:=by omega
  have h2:¬qn (ms.map Prod.fst) x≤k:=by omega
  rw[decide_eq_false h1,decide_eq_false h2]
 ·have hn:=Ui (A:=ms.map Prod.fst) (x:=x) (by rw[List.length_map];omega)
  rw[e _ (by omega)]at hn
  have h1:x<(ms.getD k JM).1:=by
   rcases Nat.lt_or_ge (qn (ms.map Prod.fst) x) k with h3|h3
   ·have h4:=List.pairwise_iff_getElem.1 h (qn (ms.map Prod.fst) x) k (by omega) hk h3
    simp only[zi,zj hk,zj (show qn (ms.map Prod.fst) x<ms.length by omega),Option.getD_some]at hn⊢
    omega
   ·rw[show k=qn (ms.map Prod.fst) x by omega]
    exact hn
  rw[decide_eq_true h1,decide_eq_true hge]
def Jj (ms:List Mk) (K:Nat):Nat:=qn (ms.map λ m=>(m.2:Int)) (K:Int)
theorem Ny (ms:List Mk) (K:Nat):Jj ms K≤ms.length:=by have:=XK (ms.map λ m=>(m.2:Int)) (K:Int);rw[List.length_map]at this;exact this
theorem Nz (ms:List Mk) (j:Nat) (hj:j<ms.length):(ms.map λ m=>(m.2:Int)).getD j 0=((ms.getD j JM).2:Int):=by
 simp[zi,zj hj]
theorem OX {ms:List Mk} {K j:Nat} (h:j<Jj ms K):(ms.getD j JM).2≤K:=by
 have h1:=VF h
 rw[Nz ms j (zy h (Ny ms K))]at h1
 omega
theorem Et {ms:List Mk} {K:Nat} (h:Jj ms K<ms.length):K<(ms.getD (Jj ms K) JM).2:=by
 have h1:=Ui (A:=ms.map λ m=>(m.2:Int)) (x:=(K:Int)) (by rw[List.length_map];exact h)
 have h2:=Nz ms _ h
 unfold Jj at h2 h⊢
 rw[h2]at h1
 omega
theorem OY {ms:List Mk} {f e K:Nat} (h:XW f ms e) (h0:f≤K) (h1:K≤e):XW K (ms.drop (Jj ms K)) e∧Jv K (ms.drop (Jj ms K))=(Jv f ms).drop (K -f):=by
 induction ms generalizing f with
 |nil=>
  have:f=e:=h
  obtain rfl:K=e:=by omega
  refine⟨rfl,?_⟩
  simp[Jj,qn,Jv]
 |cons m r ih=>
  by_cases hm:m.2≤K
  ·have e1:Jj (m::r) K=Jj r K+1:=by
    have:(m.2:Int)≤(K:Int):=by omega
    simp[Jj,qn,this]
   obtain⟨i1,i2⟩:=ih h.2 hm
   rw[e1]
   refine⟨i1,?_⟩
   show Jv K (r.drop (Jj r K))=(List.replicate (m.2 -f) m.1++Jv m.2 r).drop (K -f)
   have:=h.1
   rw[i2,show K -f=(m.2 -f)+(K -m.2) by omega,←List.drop_drop,List.drop_left' (by simp)]
  ·have e1:Jj (m::r) K=0:=by unfold Jj;rw[List.map_cons];exact V1 _ _ _ (by omega)
   rw[e1]
   refine⟨⟨by omega,h.2⟩,?_⟩
   show List.replicate (m.2 -K) m.1++Jv m.2 r=(List.replicate (m.2 -f) m.1++Jv m.2 r).drop (K -f)
   rw[List.drop_append_of_le_length (by simp;omega),List.drop_replicate,show m.2 -f -(K -f)=m.2 -K by omega]
def By (ms:List Mk) (t:Int) (y:Nat):Nat:=if ms.getLast?=some (t,y)then ms.length -1 else ms.length
def Mj (ms:List Mk) (t:Int) (y e:Nat):List Mk:=ms.take (By ms t y)++[(t,e)]
theorem KA (f e:Nat) (t:Int):Jv f [(t,e)]=List.replicate (e -f) t:=by simp[Jv]
theorem EJ {ms:List Mk} {f y e:Nat} {t:Int} (h:XW f ms y) (hy:y<e) (hr:Nk ms) (ht:∀m∈ms,m.1≤t):
  XW f (Mj ms t y e) e∧Jv f (Mj ms t y e)=Jv f ms++List.replicate (e -y) t∧Nk (Mj ms t y e)∧∀m∈Mj ms t y e,m∈ms∨m=(t,e):=by
 unfold Mj By
 split
 ·rename_i hl
  obtain⟨l,rfl⟩:=List.getLast?_eq_some_iff.1 hl
  rw[show(l++[((t,y):Mk)]).take ((l++[((t,y):Mk)]).length -1)=l by simp]
  obtain⟨z,h1,h2⟩:=Yq.1 h
  have hz:z<y:=h2.1
  have hp:=List.pairwise_append.1 hr
  refine⟨Yq.2 ⟨z,h1,⟨by show z<e;omega,rfl⟩⟩,?_,?_,?_⟩
  ·rw[VW h1,VW h1,KA,KA,List.append_assoc,List.replicate_append_replicate,show y -z+(e -y)=e -z by omega]
  ·exact List.pairwise_append.2 ⟨hp.1,List.pairwise_singleton _ _,λ a ha b hb=>by
    rw[List.mem_singleton.1 hb]
    exact hp.2.2 a ha (t,y) (by simp)⟩
  ·intro m hm
   rcases List.mem_append.1 hm with hm|hm
   ·exact Or.inl (List.mem_append_left _ hm)
   ·exact Or.inr (List.mem_singleton.1 hm)
 ·rename_i hl
  rw[List.take_length]
  refine⟨Yq.2 ⟨y,h,⟨hy,rfl⟩⟩,by rw[VW h,KA],?_,?_⟩
  ·refine List.pairwise_append.2 ⟨hr,List.pairwise_singleton _ _,λ a ha b hb=>?_⟩
   rw[List.mem_singleton.1 hb]
   show a.1<t
   have hle:=ht a ha
   rcases Int.lt_or_eq_of_le hle with h3|h3
   ·exact h3
   ·exfalso
    obtain⟨l,d,rfl⟩:∃l d,ms=l++[d]:=by
     rcases List.eq_nil_or_concat ms with h0|⟨l,d,h0⟩
     ·subst h0;cases ha
     ·exact⟨l,d,by simpa using h0⟩
    obtain⟨z,h1,h2⟩:=Yq.1 h
    have hd:d.2=y:=h2.2
    have hne:d.1≠t:=λ e0=>hl (by
     rw[List.getLast?_concat]
     congr 1
     exact Prod.ext e0 hd)
    have hdt:=ht d (by simp)
    rcases List.mem_append.1 ha with h4|h4
    ·have:=(List.pairwise_append.1 hr).2.2 a h4 d (by simp)
     omega
    ·rw[List.mem_singleton.1 h4]at h3
     exact hne h3
  ·intro m hm
   rcases List.mem_append.1 hm with hm|hm
   ·exact Or.inl hm
   ·exact Or.inr (List.mem_singleton.1 hm)
theorem DY {ms:List Mk} {f:Nat} (hr:Nk ms):Up (Jv f ms):=by
 induction ms generalizing f with
 |nil=>exact List.Pairwise.nil
 |cons m r ih=>
  have hp:=List.pairwise_cons.1 hr
  refine List.pairwise_append.2 ⟨List.pairwise_replicate.2 (Or.inr (Int.le_refl _)),ih hp.2,λ a ha b hb=>?_⟩
  rw[List.eq_of_mem_replicate ha]
  obtain⟨m',h1,rfl⟩:=NA hb
  exact Int.le_of_lt (hp.1 m' h1)
open Go.RowKit
abbrev Call:=Int×Int×Int×ByteArray
def V7:Call:=(0,0,0,⟨#[]⟩)
def Vz (w:World) (p:Option Addr) (n:Nat) (os:List Call):Prop:=0<n→∃b o,p=some ⟨b,o,none⟩∧∀i,i<n→
 w.cell? ⟨b,o+i*4,none⟩=some (.int .i64 (os.getD i V7).1)∧w.cell? ⟨b,o+(i*4+1),none⟩=some (.int .i64 (os.getD i V7).2.1)∧w.cell? ⟨b,o+(i*4+2),none⟩=some (.int .i64 (os.getD i V7).2.2.1)∧w.cell? ⟨b,o+(i*4+3),none⟩=some (.string (os.getD i V7).2.2.2)
theorem V6 {w w':World} {p:Option Addr} {n:Nat} {os:List Call} (h:Vz w p n os) (hb:Below w.heap.size w w'):Vz w' p n os:=λ hn=>by
 obtain⟨b,o,e,hc⟩:=h hn
 exact⟨b,o,e,λ i hi=>⟨(hb.cell (World.block_lt_of_cell? w _ (hc i hi).1)).trans (hc i hi).1,(hb.cell (World.block_lt_of_cell? w _ (hc i hi).2.1)).trans (hc i hi).2.1,(hb.cell (World.block_lt_of_cell? w _ (hc i hi).2.2.1)).trans (hc i hi).2.2.1,(hb.cell (World.block_lt_of_cell? w _ (hc i hi).2.2.2)).trans (hc i hi).2.2.2⟩⟩
def total:List Call→Nat
 |[]=>0
 |o::r=>o.2.2.2.size+total r
theorem Ja (l m:List Call):total (l++m)=total l+total m:=by
 induction l with
 |nil=>simp[total]
 |cons o r ih=>simp only[List.cons_append,total,ih];omega
theorem Js (l:List Call) (k:Nat):total (l.take k)≤total l:=by
 have h:=Ja (l.take k) (l.drop k)
 rw[List.take_append_drop]at h
 omega
theorem JJ (l:List Call) (k:Nat) (h:k<l.length):total (l.take (k+1))=total (l.take k)+(l.getD k V7).2.2.2.size:=by
 rw[List.take_add_one,zj h,Ja,zi,zj h]
 simp[total]
theorem Qn (l:List Call) (B:Nat) (h:∀o∈l,o.2.2.2.size≤B):total l≤l.length*B:=by
 induction l with
 |nil=>simp[total]
 |cons o r ih=>
  have h1:=h o (by simp)
  have h2:=ih λ x hx=>h x (by simp[hx])
  simp only[total,List.length_cons,Nat.add_mul,Nat.one_mul]
  omega
theorem MP (l:List Call) (k:Nat) (h:k<l.length):l.getD k V7∈l:=by
 rw[zi,zj h]
 exact List.getElem_mem h
end gc
namespace gc
open Go.RowKit
def Few (m:Nat) (os:List Call) (w:World) (e:Ending) (w':World):Prop:=∃b,e=.returned (.bool b)∧(b=true→m≤200∧total os≤5000)∧Below w.heap.size w w'
theorem J2 (os:List Call) (k m:Nat) (hm:os.length=m) (hk:k<m) (L:Nat) (hL:(os.getD k V7).2.2.2.size=L):total (os.take (k+1))=total (os.take k)+L:=by
 rw[JJ os k (by omega),hL]
end gc
end Go.Proofs.YtfdfgnmgpgkknaaGreat
