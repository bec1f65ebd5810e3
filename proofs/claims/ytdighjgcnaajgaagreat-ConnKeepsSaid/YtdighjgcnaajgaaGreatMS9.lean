import Derived.Test.YtdighjgcnaajgaaGreatChecked
import Derived.WalkKit
import Derived.WalkMore
import Derived.Lib.Hide
import Derived.BigQuiet
import Derived.Deep.QuietTactic
import Derived.RegionTactic
import Derived.OwnWalk
import Derived.Lib.SliceRun
import Derived.IntWalk
import Derived.OneCell
import Derived.Laws.IdiomStrings
import Derived.Deep.Draws
import Derived.Lib.SmallJoins
namespace Go.Proofs.YtdighjgcnaajgaaGreat.gx
open Go.RowKit
theorem ret_int {k:IntKind} {a b:Int} (h:a=b):Ending.returned (.int k a)=.returned (.int k b):=by rw[h]
theorem ret_bool {a b:Bool} (h:a=b):Ending.returned (.bool a)=.returned (.bool b):=by rw[h]
theorem ret_int2 {k l:IntKind} {a b c d:Int} (h:a=b) (h':c=d):Ending.returned (.tuple #[.int k a,.int l c])=.returned (.tuple #[.int k b,.int l d]):=by rw[h,h']
def AllB (xs:List Int):Prop:=∀x∈xs,0≤x∧x<256
theorem AllB.append {xs ys:List Int} (h:AllB xs) (k:AllB ys):AllB (xs++ys):=λ x hx=>by
 rcases List.mem_append.mp hx with hx|hx
 ·exact h x hx
 ·exact k x hx
theorem AllB.drop {xs:List Int} (h:AllB xs) (n:Nat):AllB (xs.drop n):=λ x hx=>h x (List.mem_of_mem_drop hx)
theorem AllB.take {xs:List Int} (h:AllB xs) (n:Nat):AllB (xs.take n):=λ x hx=>h x (List.mem_of_mem_take hx)
theorem allB_nil:AllB []:=λ x hx=>by cases hx
theorem allB_getD {xs:List Int} (h:AllB xs) (k:Nat):0≤xs.getD k 0∧xs.getD k 0<256:=by
 rw[List.getD_eq_getElem?_getD]
 rcases Nat.lt_or_ge k xs.length with hk|hk
 ·rw[List.getElem?_eq_getElem hk]
  exact h _ (List.getElem_mem hk)
 ·rw[List.getElem?_eq_none hk]
  decide
def nums (s:ByteArray):List Int:=s.data.toList.map λ u=>(u.toNat:Int)
theorem nums_length (s:ByteArray):(nums s).length=s.size:=by simp[nums]
theorem nums_all (s:ByteArray):AllB (nums s):=by
 intro x hx
 obtain⟨u,_,rfl⟩:=List.mem_map.mp hx
 have:=u.toNat_lt
 omega
theorem nums_at (s:ByteArray) (k:Nat) (h:k<s.size):((s[k]'h).toNat:Int)=(nums s).getD k 0:=by
 rw[List.getD_eq_getElem?_getD,nums,List.getElem?_map,List.getElem?_eq_getElem (by simpa using h)]
 rfl
theorem nums_str (xs:List Int) (h:AllB xs):nums (strOfNums xs)=xs:=by
 unfold nums
 rw[show(strOfNums xs).data.toList=xs.map λ n=>UInt8.ofNat n.toNat from rfl,List.map_map]
 conv=>rhs;rw[←List.map_id xs]
 apply List.map_congr_left
 intro x hx
 have:=h x hx
 simp
 omega
theorem str_nums (s:ByteArray):strOfNums (nums s)=s:=by
 apply ByteArray.ext
 apply Array.ext'
 rw[strOfNums_data]
 unfold nums
 rw[List.map_map]
 conv=>rhs;rw[←List.map_id s.data.toList]
 apply List.map_congr_left
 intro u _
 simp
theorem str_append (xs ys:List Int):strOfNums xs++strOfNums ys=strOfNums (xs++ys):=by
 unfold strOfNums
 rw[ByteArray.mk_append_mk,List.map_append]
def near (n:Int):Int:=if n<0 then 0 else if 1099511627776<n then 1099511627776 else n
theorem near_range (n:Int):0≤near n∧near n≤1099511627776:=by unfold near;split<;>(try split)<;>omega
theorem near_of (n:Int) (h0:0≤n) (h1:n≤1099511627776):near n=n:=by unfold near;split<;>(try split)<;>omega
set_option maxHeartbeats 400000 in
theorem rnear_any (n:Int) (w:World):Calls Tryz.prog 139 #[.int .i64 n] w λ e w'=>e=.returned (.int .i64 (near n))∧w=w':=by
 go_enter Tryz.func139,Tryz.ntmps139
 go_wp2_with (go_in)
 all_goals go_ret
 all_goals exact⟨ret_int (by unfold near;(repeat' split at*)<;>omega),rfl⟩
theorem seqB {w w1 w2:World} (h1:Below w.heap.size w w1) (h2:Below w1.heap.size w1 w2):Below w.heap.size w w2:=h1.trans (h2.mono h1.size)
theorem frozen_at {w:World} {g i:Nat} {cs:Array Value} {t:TypeId} (h:w.heap[g]?=some (.cells cs t (0,0))):w.frozen? ⟨g,i,none⟩=false:=by simp[World.frozen?,h]
theorem blk_lt {w:World} {g:Nat} {o:Obj} (h:w.heap[g]?=some o):g<w.heap.size:=(Array.getElem?_eq_some_iff.1 h).1
def wordL (k:Int):List Int:=
 if k=1 then[108,97,116,101,110,99,121]else if k=2 then[98,97,110,100,119,105,100,116,104]else if k=3 then[115,108,105,99,101,114]
 else if k=4 then[116,105,109,101,111,117,116]else if k=5 then[114,101,115,101,116,95,112,101,101,114]
 else if k=6 then[108,105,109,105,116,95,100,97,116,97]else if k=7 then[115,108,111,119,95,99,108,111,115,101]else[]
def wordB (k:Int):ByteArray:=strOfNums (wordL k)
theorem ret_strB {a b:ByteArray} (h:a=b):Ending.returned (.string a)=.returned (.string b):=by rw[h]
def numsB (k:Int):Int:=if k<1∨7<k then 0 else if k≤3 then 2 else 1
def kindB (s:ByteArray):Int:=if wordB 1=s then 1 else if wordB 2=s then 2 else if wordB 3=s then 3 else if wordB 4=s then 4 else if wordB 5=s then 5 else if wordB 6=s then 6 else if wordB 7=s then 7 else 0
theorem kind_is (s:ByteArray) (k:Nat) (h1:1≤k) (h7:k≤7) (hk:wordB (k:Int)=s) (hn:∀j:Nat,1≤j→j<k→¬wordB (j:Int)=s):kindB s=k:=by
 have n1:1<k→¬wordB 1=s:=λ h=>hn 1 (by omega) h
 have n2:2<k→¬wordB 2=s:=λ h=>hn 2 (by omega) h
 have n3:3<k→¬wordB 3=s:=λ h=>hn 3 (by omega) h
 have n4:4<k→¬wordB 4=s:=λ h=>hn 4 (by omega) h
 have n5:5<k→¬wordB 5=s:=λ h=>hn 5 (by omega) h
 have n6:6<k→¬wordB 6=s:=λ h=>hn 6 (by omega) h
 have n7:7<k→¬wordB 7=s:=λ h=>hn 7 (by omega) h
 unfold kindB
 rcases(show k=1∨k=2∨k=3∨k=4∨k=5∨k=6∨k=7 by omega)with rfl|rfl|rfl|rfl|rfl|rfl|rfl
 ·rw[if_pos (show wordB 1=s from hk)];rfl
 ·rw[if_neg (n1 (by omega)),if_pos (show wordB 2=s from hk)];rfl
 ·rw[if_neg (n1 (by omega)),if_neg (n2 (by omega)),if_pos (show wordB 3=s from hk)];rfl
 ·rw[if_neg (n1 (by omega)),if_neg (n2 (by omega)),if_neg (n3 (by omega)),if_pos (show wordB 4=s from hk)];rfl
 ·rw[if_neg (n1 (by omega)),if_neg (n2 (by omega)),if_neg (n3 (by omega)),if_neg (n4 (by omega)),if_pos (show wordB 5=s from hk)];rfl
 ·rw[if_neg (n1 (by omega)),if_neg (n2 (by omega)),if_neg (n3 (by omega)),if_neg (n4 (by omega)),if_neg (n5 (by omega)),if_pos (show wordB 6=s from hk)];rfl
 ·rw[if_neg (n1 (by omega)),if_neg (n2 (by omega)),if_neg (n3 (by omega)),if_neg (n4 (by omega)),if_neg (n5 (by omega)),if_neg (n6 (by omega)),if_pos (show wordB 7=s from hk)];rfl
theorem kind_none (s:ByteArray) (hn:∀j:Nat,1≤j→j≤7→¬wordB (j:Int)=s):kindB s=0:=by
 have n1:¬wordB 1=s:=hn 1 (by omega) (by omega)
 have n2:¬wordB 2=s:=hn 2 (by omega) (by omega)
 have n3:¬wordB 3=s:=hn 3 (by omega) (by omega)
 have n4:¬wordB 4=s:=hn 4 (by omega) (by omega)
 have n5:¬wordB 5=s:=hn 5 (by omega) (by omega)
 have n6:¬wordB 6=s:=hn 6 (by omega) (by omega)
 have n7:¬wordB 7=s:=hn 7 (by omega) (by omega)
 unfold kindB
 rw[if_neg n1,if_neg n2,if_neg n3,if_neg n4,if_neg n5,if_neg n6,if_neg n7]
theorem beq_list {a b:ByteArray} (h:¬a=b):(a.toList==b.toList)=false:=by
 rw[beq_eq_false_iff_ne]
 intro e
 apply h
 rw[Lib.toList_data,Lib.toList_data]at e
 exact ByteArray.ext (Array.ext' e)
def signB (c:Int):Bool:=decide (97≤c∧c≤122)||decide (48≤c∧c≤57)||decide (c=95)||decide (c=45)
def nameB (s:ByteArray):Bool:=(nums s).all signB&&decide (0<s.size∧s.size≤16)
end Go.Proofs.YtdighjgcnaajgaaGreat.gx
namespace Go.Proofs.YtdighjgcnaajgaaGreat.gx
open Go.RowKit
theorem name_bad {s:ByteArray} {k:Nat} (hk:k<s.size) (h:signB ((nums s).getD k 0)=false):nameB s=false:=by
 have hm:(nums s).getD k 0∈nums s:=by
  rw[List.getD_eq_getElem?_getD,List.getElem?_eq_getElem (by rw[nums_length];exact hk)]
  exact List.getElem_mem _
 have:(nums s).all signB=false:=by
  rw[List.all_eq_false]
  exact⟨_,hm,by rw[h];simp⟩
 unfold nameB
 rw[this,Bool.false_and]
theorem name_good {s:ByteArray} (h:∀k,k<s.size→signB ((nums s).getD k 0)=true):nameB s=decide (0<s.size∧s.size≤16):=by
 have:(nums s).all signB=true:=by
  rw[List.all_eq_true]
  intro x hx
  obtain⟨k,hk,rfl⟩:=List.getElem_of_mem hx
  have:=h k (by rw[←nums_length];exact hk)
  rw[List.getD_eq_getElem?_getD,List.getElem?_eq_getElem hk]at this
  exact this
 unfold nameB
 rw[this,Bool.true_and]
set_option maxHeartbeats 4000000 in
theorem rname_any (s:ByteArray) (hs:s.size≤maxLen) (w:World):Calls Tryz.prog 100 #[.string s] w λ e w'=>e=.returned (.bool (nameB s))∧w=w':=by
 unfold maxLen at hs
 go_enter Tryz.func100,Tryz.ntmps100
 go_wp2_with fail
 go_loopw [3] (λ i wr=>∃(k:Nat),k≤s.size∧i=.int .i64 k∧Hid (∀j,j<k→signB ((nums s).getD j 0)=true)∧wr=w) (λ i _=>s.size -(intOf i).toNat)
 case atStart=>exact⟨0,by omega,rfl,Lib.hid (λ j h=>by omega),rfl⟩
 case round=>
  obtain⟨k,hk,rfl,HN,rfl⟩:=hrel
  by_cases hlt:k<s.size
  ·have hc:=nums_at s k hlt
   have hrg:=allB_getD (nums_all s) k
   cases hsg:signB ((nums s).getD k 0)with
   |false=>
    have HB:=Lib.hid (name_bad hlt hsg)
    unfold signB at hsg
    simp only[Bool.or_eq_false_iff,decide_eq_false_iff_not]at hsg
    generalize(nums s).getD k 0=c at*
    go_wp2_with fail
    all_goals first
     |(go_ret;exact⟨ret_bool HB.out.symm,rfl⟩)
     |(exfalso;omega)
     |(exfalso;rename_i hh;simp at hh;omega)
   |true=>
    have HN1:=Lib.hid (show∀j,j<k+1→signB ((nums s).getD j 0)=true fromλ j hj=>by
     rcases Nat.lt_or_eq_of_le (Nat.le_of_lt_succ hj)with h|h
     ·exact HN.out j h
     ·rw[h];exact hsg)
    unfold signB at hsg
    simp only[Bool.or_eq_true,decide_eq_true_eq]at hsg
    generalize(nums s).getD k 0=c at*
    go_wp2_with fail
    all_goals first
     |(exfalso;omega)
     |(exfalso;rename_i hh;simp at hh;omega)
     |exact⟨⟨k+1,by omega,by go_num,HN1,trivial⟩,by simp[intOf];omega⟩
     |(exfalso;simp only[bne_iff_ne,ne_eq]at*;omega)
  ·obtain rfl:k=s.size:=by omega
   have HE:=Lib.hid (name_good HN.out)
   by_cases h0:0<s.size
   ·by_cases h1:s.size≤16
    ·have d0:decide ((0:Int)<(s.size:Int))=true:=by simp;omega
     have d1:decide ((s.size:Int)≤16)=true:=by simp;omega
     have HV:=Lib.hid (show nameB s=true by rw[HE.out];exact decide_eq_true ⟨h0,h1⟩)
     go_wp2_with fail
     go_ret
     exact⟨ret_bool HV.out.symm,rfl⟩
    ·have d0:decide ((0:Int)<(s.size:Int))=true:=by simp;omega
     have d1:decide ((s.size:Int)≤16)=false:=by simp;omega
     have HV:=Lib.hid (show nameB s=false by rw[HE.out];exact decide_eq_false λ h=>h1 h.2)
     go_wp2_with fail
     go_ret
     exact⟨ret_bool HV.out.symm,rfl⟩
   ·have d0:decide ((0:Int)<(s.size:Int))=false:=decide_eq_false (by omega)
    have HV:=Lib.hid (show nameB s=false by rw[HE.out];exact decide_eq_false λ h=>h0 h.1)
    go_wp2_with fail
    go_ret
    exact⟨ret_bool HV.out.symm,rfl⟩
set_option maxHeartbeats 400000 in
theorem rright_any (n:Int) (w:World):Calls Tryz.prog 141 #[.int .i64 n] w λ e w'=>e=.returned (.bool (near n==n))∧w=w':=by
 go_enter Tryz.func141,Tryz.ntmps141
 go_wp2_with fail
 refine(rnear_any _ _).mono ?_
 rintro e w' ⟨rfl,rfl⟩
 go_wp2_with fail
 go_ret
 exact⟨rfl,rfl⟩
def partsB (k a b:Int):Bool:=
 (near a==a)&&(near b==b)&&
  (if k=1 then decide (b≤a)else if k=2 then decide (1≤b∧b≤4096)else if k=3 then decide (1≤a∧a≤4096)else if k=4∨k=5 then decide (0<a∧b=0)else decide (b=0))
def checkB (s:ByteArray) (k o a b:Int):Int:=
 if nameB s=false then 90 else if k<1∨7<k then 91 else if o<0∨100<o∨partsB k a b=false then 92 else 0
def Parts (k a b:Int) (w:World) (e:Ending) (w':World):Prop:=e=.returned (.bool (partsB k a b))∧Below w.heap.size w w'
set_option maxRecDepth 100000 in
set_option maxHeartbeats 8000000 in
theorem rparts_any (s:ByteArray) (k:Int) (up:Bool) (o a b:Int) (w:World):Calls Tryz.prog 101 #[.agg #[.string s,.int .i64 k,.bool up,.int .i64 o,.int .i64 a,.int .i64 b]] w (Parts k a b w):=by
 unfold Parts
 have HB:=Lib.hid (show Below w.heap.size w (w.alloc (.cells #[.string s,.int .i64 k,.bool up,.int .i64 o,.int .i64 a,.int .i64 b] 46))from(Below.refl _ _).alloc (Nat.le_refl _) _)
 have HRT:=Lib.hid rright_any
 obtain⟨A,hA⟩:∃A,(near a==a)=A:=⟨_,rfl⟩
 obtain⟨B,hB⟩:∃B,(near b==b)=B:=⟨_,rfl⟩
 have HA:=Lib.hid (λ W=>rright_any a W)
 have HBB:=Lib.hid (λ W=>rright_any b W)
 rw[hA]at HA
 rw[hB]at HBB
 have HP:=Lib.hid (show partsB k a b=(A&&B&&(if k=1 then decide (b≤a)else if k=2 then decide (1≤b∧b≤4096)else if k=3 then decide (1≤a∧a≤4096)else if k=4∨k=5 then decide (0<a∧b=0)else decide (b=0))) by unfold partsB;rw[hA,hB])
 clear hA hB HRT
 have HK:=Lib.hid (heap_alloc_new w (.cells #[.string s,.int .i64 k,.bool up,.int .i64 o,.int .i64 a,.int .i64 b] 46))
 cases A with
 |false=>
  have HV:=Lib.hid (show partsB k a b=false by rw[HP.out];simp)
  go_enter Tryz.func101,Tryz.ntmps101
  go_wp2_with fail
  refine(HA.out _).mono ?_
  rintro e w' ⟨rfl,rfl⟩
  go_wp2_with fail
  go_ret
  exact⟨ret_bool HV.out.symm,HB.out⟩
 |true=>
  cases B with
  |false=>
   have HV:=Lib.hid (show partsB k a b=false by rw[HP.out];simp)
   go_enter Tryz.func101,Tryz.ntmps101
   go_wp2_with fail
   refine(HA.out _).mono ?_
   rintro e w' ⟨rfl,rfl⟩
   go_wp2_with fail
   refine(HBB.out _).mono ?_
   rintro e w' ⟨rfl,rfl⟩
   go_wp2_with fail
   go_ret
   exact⟨ret_bool HV.out.symm,HB.out⟩
  |true=>
   go_enter Tryz.func101,Tryz.ntmps101
   go_wp2_with fail
   refine(HA.out _).mono ?_
   rintro e w' ⟨rfl,rfl⟩
   go_wp2_with fail
   refine(HBB.out _).mono ?_
   rintro e w' ⟨rfl,rfl⟩
   go_wp2_with fail
   all_goals go_ret
   all_goals refine⟨ret_bool ?_,HB.out⟩
   all_goals rw[HP.out]
   all_goals simp_all
   all_goals first
    |rfl
    |omega
    |(intro h;omega)
def Chk (s:ByteArray) (k o a b:Int) (w:World) (e:Ending) (w':World):Prop:=e=.returned (.int .i64 (checkB s k o a b))∧Below w.heap.size w w'
set_option maxRecDepth 100000 in
set_option maxHeartbeats 8000000 in
theorem rcheck_any (s:ByteArray) (hs:s.size≤1000000) (k:Int) (up:Bool) (o a b:Int) (w:World):Calls Tryz.prog 63 #[.agg #[.string s,.int .i64 k,.bool up,.int .i64 o,.int .i64 a,.int .i64 b]] w (Chk s k o a b w):=by
 unfold Chk
 have HB:=Lib.hid (show Below w.heap.size w (w.alloc (.cells #[.string s,.int .i64 k,.bool up,.int .i64 o,.int .i64 a,.int .i64 b] 46))from(Below.refl _ _).alloc (Nat.le_refl _) _)
 have HN:=Lib.hid (λ W=>rname_any s (by unfold maxLen;omega) W)
 have HP:=Lib.hid (λ W=>rparts_any s k up o a b W)
 obtain⟨N,hN⟩:∃N,nameB s=N:=⟨_,rfl⟩
 obtain⟨P,hP⟩:∃P,partsB k a b=P:=⟨_,rfl⟩
 have HV:=Lib.hid (show checkB s k o a b=if N=false then 90 else if k<1∨7<k then 91 else if o<0∨100<o∨P=false then 92 else 0 by unfold checkB;rw[hN,hP])
 rw[hN]at HN
 unfold Parts at HP
 rw[hP]at HP
 clear hN hP hs
 have HK:=Lib.hid (heap_alloc_new w (.cells #[.string s,.int .i64 k,.bool up,.int .i64 o,.int .i64 a,.int .i64 b] 46))
 have fin:∀(c:Int),checkB s k o a b=c→Ending.returned (.int .i64 c)=.returned (.int .i64 (checkB s k o a b)):=λ c h=>by rw[h]
 have HF:=Lib.hid fin
 clear fin
 cases N with
 |false=>
  have HV1:=Lib.hid (HV.out.trans (if_pos rfl))
  go_enter Tryz.func63,Tryz.ntmps63
  go_wp2_with fail
  refine(HN.out _).mono ?_
  rintro e w' ⟨rfl,rfl⟩
  go_wp2_with fail
  go_ret
  exact⟨HF.out _ HV1.out,HB.out⟩
 |true=>
  by_cases hk:k<1∨7<k
  ·have HV1:=Lib.hid (HV.out.trans (by rw[if_neg (by simp),if_pos hk]:_=(91:Int)))
   go_enter Tryz.func63,Tryz.ntmps63
   go_wp2_with fail
   refine(HN.out _).mono ?_
   rintro e w' ⟨rfl,rfl⟩
   go_wp2_with fail
   all_goals first
    |(go_ret;exact⟨HF.out _ HV1.out,HB.out⟩)
    |(exfalso;omega)
  ·by_cases ho:o<0∨100<o
   ·have HV1:=Lib.hid (HV.out.trans (by rw[if_neg (by simp),if_neg hk,if_pos (by omega)]:_=(92:Int)))
    have k1:decide (k<1)=false:=decide_eq_false (by omega)
    have k2:decide (7<k)=false:=decide_eq_false (by omega)
    go_enter Tryz.func63,Tryz.ntmps63
    go_wp2_with fail
    refine(HN.out _).mono ?_
    rintro e w' ⟨rfl,rfl⟩
    by_cases o1:o<0
    ·have o2:decide (o<0)=true:=decide_eq_true o1
     go_wp2_with fail
     go_ret
     exact⟨HF.out _ HV1.out,HB.out⟩
    ·have o2:decide (o<0)=false:=decide_eq_false o1
     have o3:decide (100<o)=true:=decide_eq_true (by omega)
     go_wp2_with fail
     go_ret
     exact⟨HF.out _ HV1.out,HB.out⟩
   ·have k1:decide (k<1)=false:=decide_eq_false (by omega)
    have k2:decide (7<k)=false:=decide_eq_false (by omega)
    have o2:decide (o<0)=false:=decide_eq_false (by omega)
    have o3:decide (100<o)=false:=decide_eq_false (by omega)
    have HV1:=Lib.hid (HV.out.trans (show _=if P=false then(92:Int)else 0 by
     rw[if_neg (by simp),if_neg hk]
     have e:(o<0∨100<o∨P=false)↔P=false:=⟨λ h=>by rcases h with h|h|h;exact absurd (Or.inl h) ho;exact absurd (Or.inr h) ho;exact h,λ h=>Or.inr (Or.inr h)⟩
     simp only[e]))
    clear hk ho
    go_enter Tryz.func63,Tryz.ntmps63
    go_wp2_with fail
    refine(HN.out _).mono ?_
    rintro e w' ⟨rfl,rfl⟩
    go_wp2_with fail
    refine(HP.out _).mono ?_
    rintro e w' ⟨rfl,hb⟩
    have HE:=Lib.hid (seqB HB.out hb)
    clear hb
    cases P with
    |false=>
     go_wp2_with fail
     go_ret
     exact⟨HF.out _ HV1.out,HE.out⟩
    |true=>
     go_wp2_with fail
     go_ret
     exact⟨HF.out _ HV1.out,HE.out⟩
end Go.Proofs.YtdighjgcnaajgaaGreat.gx
