import Derived.Test.YtdighjgcnaajgaaGreatMS18
import Derived.Test.YtdighjgcnaajgaaGreatMS19
import Derived.MapKept
import Derived.OwnWalk
import Derived.Deep.RegionHeld
import Derived.Deep.RegionHeldLaw
namespace Go.Proofs.YtdighjgcnaajgaaGreat.gx
open Go.RowKit
def Lies (w:World) (p q:Nat) (x y:Int):Prop:=w.heap[p]?=some (.cells #[.int .i64 x] 3 (0,0))∧w.heap[q]?=some (.cells #[.int .i64 y] 3 (0,0))
theorem Lies.on {w w':World} {p q:Nat} {x y:Int} (h:Lies w p q x y) (hb:Below w.heap.size w w'):Lies w' p q x y:=⟨(hb.block _ (blk_lt h.1)).trans h.1,(hb.block _ (blk_lt h.2)).trans h.2⟩
def Bears (w:World) (p q:Nat) (f g:Value):Prop:=w.heap[p]?=some (.cells #[f] 109 (0,0))∧w.heap[q]?=some (.cells #[g] 109 (0,0))
theorem Bears.on {w w':World} {p q:Nat} {f g:Value} (h:Bears w p q f g) (hb:Below w.heap.size w w'):Bears w' p q f g:=⟨(hb.block _ (blk_lt h.1)).trans h.1,(hb.block _ (blk_lt h.2)).trans h.2⟩
def fromV (p q:Nat):Value:=.func (.func 152) #[] #[.pointer (some ⟨p,0,none⟩),.pointer (some ⟨q,0,none⟩)]
def bothV (p q:Nat):Value:=.func (.func 154) #[] #[.pointer (some ⟨p,0,none⟩),.pointer (some ⟨q,0,none⟩)]
def rightV:Value:=.func (.func 118) #[] #[]
def FromOut (x y:Int) (w:World) (e:Ending) (w':World):Prop:=∃p q,e=.returned (fromV p q)∧Below w.heap.size w w'∧Lies w' p q x y
def BothOut (f g:Value) (w:World) (e:Ending) (w':World):Prop:=∃p q,e=.returned (bothV p q)∧Below w.heap.size w w'∧Bears w' p q f g
theorem size_alloc (w:World) (o:Obj):(w.alloc o).heap.size=w.heap.size+1:=by simp
set_option maxHeartbeats 400000 in
theorem from_any (x y:Int) (w:World):Calls Tryz.prog 116 #[.int .i64 x,.int .i64 y] w (FromOut x y w):=by
 have hmf:∀(fn:Fn) (first cap:Array Value) (w:World),(Instr.makeFunc fn first cap).run Tryz.prog w=.ok (.func fn first cap) w:=λ _ _ _ _=>rfl
 have h1:=heap_alloc_new w (.cells #[.int .i64 x] 3)
 have h2:=heap_alloc_new (w.alloc (.cells #[.int .i64 x] 3)) (.cells #[.int .i64 y] 3)
 have hb:Below w.heap.size w (w.alloc (.cells #[.int .i64 x] 3)):=(Below.refl _ _).alloc (Nat.le_refl _) _
 have hb2:Below (w.alloc (.cells #[.int .i64 x] 3)).heap.size (w.alloc (.cells #[.int .i64 x] 3)) ((w.alloc (.cells #[.int .i64 x] 3)).alloc (.cells #[.int .i64 y] 3)):=(Below.refl _ _).alloc (Nat.le_refl _) _
 have HO:=Lib.hid (show FromOut x y w (.returned (fromV w.heap.size (w.heap.size+1))) ((w.alloc (.cells #[.int .i64 x] 3)).alloc (.cells #[.int .i64 y] 3))from
  ⟨_,_,rfl,seqB hb hb2,(hb2.block _ (blk_lt h1)).trans h1,by rw[←h2,size_alloc]⟩)
 clear h1 h2 hb hb2
 go_enter Tryz.func116,Tryz.ntmps116
 go_wp2_with fail
 go_ret
 exact HO.out
set_option maxHeartbeats 400000 in
theorem both_any (f1 g1:Fn) (c d:Array Value) (w:World):Calls Tryz.prog 119 #[.func f1 #[] c,.func g1 #[] d] w (BothOut (.func f1 #[] c) (.func g1 #[] d) w):=by
 have hmf:∀(fn:Fn) (first cap:Array Value) (w:World),(Instr.makeFunc fn first cap).run Tryz.prog w=.ok (.func fn first cap) w:=λ _ _ _ _=>rfl
 have h1:=heap_alloc_new w (.cells #[.func f1 #[] c] 109)
 have h2:=heap_alloc_new (w.alloc (.cells #[.func f1 #[] c] 109)) (.cells #[.func g1 #[] d] 109)
 have hb:Below w.heap.size w (w.alloc (.cells #[.func f1 #[] c] 109)):=(Below.refl _ _).alloc (Nat.le_refl _) _
 have hb2:Below (w.alloc (.cells #[.func f1 #[] c] 109)).heap.size (w.alloc (.cells #[.func f1 #[] c] 109)) ((w.alloc (.cells #[.func f1 #[] c] 109)).alloc (.cells #[.func g1 #[] d] 109)):=(Below.refl _ _).alloc (Nat.le_refl _) _
 have HO:=Lib.hid (show BothOut (.func f1 #[] c) (.func g1 #[] d) w (.returned (bothV w.heap.size (w.heap.size+1))) ((w.alloc (.cells #[.func f1 #[] c] 109)).alloc (.cells #[.func g1 #[] d] 109))from
  ⟨_,_,rfl,seqB hb hb2,(hb2.block _ (blk_lt h1)).trans h1,by rw[←h2,size_alloc]⟩)
 clear h1 h2 hb hb2
 go_enter Tryz.func119,Tryz.ntmps119
 go_wp2_with fail
 go_ret
 exact HO.out
def betw (x y n:Int):Bool:=decide (x≤n)&&decide (n≤y)
set_option maxHeartbeats 400000 in
theorem from1_any (x y n:Int) (p q:Nat) (w:World) (h:Lies w p q x y):Calls Tryz.prog 152 #[.int .i64 n,.pointer (some ⟨p,0,none⟩),.pointer (some ⟨q,0,none⟩)] w λ e w'=>e=.returned (.bool (betw x y n))∧w=w':=by
 have c1:w.cell? ⟨p,0,none⟩=some (.int .i64 x):=cell_of_row _ _ 0 _ _ _ h.1
 have c2:w.cell? ⟨q,0,none⟩=some (.int .i64 y):=cell_of_row _ _ 0 _ _ _ h.2
 unfold betw
 clear h
 by_cases hx:x≤n
 ·have d:decide (x≤n)=true:=decide_eq_true hx
  go_enter Tryz.func152,Tryz.ntmps152
  go_wp2_with fail
  go_ret
  exact⟨ret_bool (by first|rfl|rw[d,Bool.true_and]),rfl⟩
 ·have d:decide (x≤n)=false:=decide_eq_false hx
  go_enter Tryz.func152,Tryz.ntmps152
  go_wp2_with fail
  go_ret
  exact⟨ret_bool (by first|rfl|rw[d,Bool.false_and]),rfl⟩
def One (w:World) (v:Value) (r:Int→Bool):Prop:=(v=rightV∧r=λ n=>n==near n)∨∃p q x y,v=fromV p q∧Lies w p q x y∧r=betw x y
theorem One.on {w w':World} {v:Value} {r:Int→Bool} (h:One w v r) (hb:Below w.heap.size w w'):One w' v r:=by
 rcases h with h|⟨p,q,x,y,h1,h2,h3⟩
 ·exact Or.inl h
 ·exact Or.inr ⟨p,q,x,y,h1,h2.on hb,h3⟩
set_option maxHeartbeats 1000000 in
theorem both1_any (a b:Int) (p q:Nat) (f g:Value) (r s:Int→Bool) (w:World) (h:Bears w p q f g) (hf:One w f r) (hg:One w g s):
  Calls Tryz.prog 154 #[.int .i64 a,.int .i64 b,.pointer (some ⟨p,0,none⟩),.pointer (some ⟨q,0,none⟩)] w λ e w'=>e=.returned (.bool (r a&&s b))∧w=w':=by
 have c1:w.cell? ⟨p,0,none⟩=some f:=cell_of_row _ _ 0 _ _ _ h.1
 have c2:w.cell? ⟨q,0,none⟩=some g:=cell_of_row _ _ 0 _ _ _ h.2
 clear h
 rcases hf with⟨rfl,rfl⟩|⟨p1,q1,x1,y1,rfl,l1,rfl⟩
 ·unfold rightV at c1
  rcases hg with⟨rfl,rfl⟩|⟨p2,q2,x2,y2,rfl,l2,rfl⟩
  ·unfold rightV at c2
   have HA:=Lib.hid (right_any a w)
   have HB:=Lib.hid (right_any b w)
   cases hA:(a==near a)with
   |true=>
    rw[hA]at HA
    go_enter Tryz.func154,Tryz.ntmps154
    go_wp2_with fail
    refine HA.out.mono ?_
    rintro e w' ⟨rfl,rfl⟩
    go_wp2_with fail
    refine HB.out.mono ?_
    rintro e w' ⟨rfl,rfl⟩
    go_wp2_with fail
    go_ret
    exact⟨ret_bool (by first|rfl|simp[hA]),rfl⟩
   |false=>
    rw[hA]at HA
    go_enter Tryz.func154,Tryz.ntmps154
    go_wp2_with fail
    refine HA.out.mono ?_
    rintro e w' ⟨rfl,rfl⟩
    go_wp2_with fail
    go_ret
    exact⟨ret_bool (by first|rfl|simp[hA]),rfl⟩
  ·unfold fromV at c2
   have HA:=Lib.hid (right_any a w)
   have HB:=Lib.hid (from1_any x2 y2 b p2 q2 w l2)
   clear l2
   cases hA:(a==near a)with
   |true=>
    rw[hA]at HA
    go_enter Tryz.func154,Tryz.ntmps154
    go_wp2_with fail
    refine HA.out.mono ?_
    rintro e w' ⟨rfl,rfl⟩
    go_wp2_with fail
    refine HB.out.mono ?_
    rintro e w' ⟨rfl,rfl⟩
    go_wp2_with fail
    go_ret
    exact⟨ret_bool (by first|rfl|simp[hA]),rfl⟩
   |false=>
    rw[hA]at HA
    go_enter Tryz.func154,Tryz.ntmps154
    go_wp2_with fail
    refine HA.out.mono ?_
    rintro e w' ⟨rfl,rfl⟩
    go_wp2_with fail
    go_ret
    exact⟨ret_bool (by first|rfl|simp[hA]),rfl⟩
 ·unfold fromV at c1
  have HA:=Lib.hid (from1_any x1 y1 a p1 q1 w l1)
  clear l1
  rcases hg with⟨rfl,rfl⟩|⟨p2,q2,x2,y2,rfl,l2,rfl⟩
  ·unfold rightV at c2
   have HB:=Lib.hid (right_any b w)
   cases hA:betw x1 y1 a with
   |true=>
    rw[hA]at HA
    go_enter Tryz.func154,Tryz.ntmps154
    go_wp2_with fail
    refine HA.out.mono ?_
    rintro e w' ⟨rfl,rfl⟩
    go_wp2_with fail
    refine HB.out.mono ?_
    rintro e w' ⟨rfl,rfl⟩
    go_wp2_with fail
    go_ret
    exact⟨ret_bool (by first|rfl|simp[hA]),rfl⟩
   |false=>
    rw[hA]at HA
    go_enter Tryz.func154,Tryz.ntmps154
    go_wp2_with fail
    refine HA.out.mono ?_
    rintro e w' ⟨rfl,rfl⟩
    go_wp2_with fail
    go_ret
    exact⟨ret_bool (by first|rfl|simp[hA]),rfl⟩
  ·unfold fromV at c2
   have HB:=Lib.hid (from1_any x2 y2 b p2 q2 w l2)
   clear l2
   cases hA:betw x1 y1 a with
   |true=>
    rw[hA]at HA
    go_enter Tryz.func154,Tryz.ntmps154
    go_wp2_with fail
    refine HA.out.mono ?_
    rintro e w' ⟨rfl,rfl⟩
    go_wp2_with fail
    refine HB.out.mono ?_
    rintro e w' ⟨rfl,rfl⟩
    go_wp2_with fail
    go_ret
    exact⟨ret_bool (by first|rfl|simp[hA]),rfl⟩
   |false=>
    rw[hA]at HA
    go_enter Tryz.func154,Tryz.ntmps154
    go_wp2_with fail
    refine HA.out.mono ?_
    rintro e w' ⟨rfl,rfl⟩
    go_wp2_with fail
    go_ret
    exact⟨ret_bool (by first|rfl|simp[hA]),rfl⟩
set_option maxHeartbeats 1000000 in
theorem rule1_any (a b:Int) (w:World):Calls Tryz.prog 117 #[.int .i64 a,.int .i64 b] w λ e w'=>e=.returned (.bool ((a==near a)&&betw 0 a b))∧Below w.heap.size w w':=by
 have HA:=Lib.hid (right_any a w)
 have HF:=Lib.hid (from_any 0 a w)
 cases hA:(a==near a)with
 |true=>
  rw[hA]at HA
  go_enter Tryz.func117,Tryz.ntmps117
  go_wp2_with fail
  refine HA.out.mono ?_
  rintro e w' ⟨rfl,rfl⟩
  go_wp2_with fail
  refine HF.out.mono ?_
  rintro e w1 ⟨p,q,rfl,hb,hl⟩
  have HB:=Lib.hid hb
  have HG:=Lib.hid (from1_any 0 a b p q w1 hl)
  clear hb hl
  unfold fromV
  go_wp2_with fail
  refine HG.out.mono ?_
  rintro e w' ⟨rfl,rfl⟩
  go_wp2_with fail
  go_ret
  exact⟨ret_bool (by first|rfl|simp[hA]),HB.out⟩
 |false=>
  rw[hA]at HA
  go_enter Tryz.func117,Tryz.ntmps117
  go_wp2_with fail
  refine HA.out.mono ?_
  rintro e w' ⟨rfl,rfl⟩
  go_wp2_with fail
  go_ret
  exact⟨ret_bool (by first|rfl|simp[hA]),Below.refl _ _⟩
end Go.Proofs.YtdighjgcnaajgaaGreat.gx
namespace Go.Proofs.YtdighjgcnaajgaaGreat.gx
open Go.RowKit Go.MapKept
theorem kindM:Tryz.prog.underlying 153=some (.map 3 151):=by kernel_rfl
theorem kindI:Tryz.prog.underlying 3=some (.int .i64):=by kernel_rfl
def ent (k:Int) (v:Value) (n:Nat):MapEntry:={key:=.int .i64 k,val:=v,born:=n}
structure Sets (w w':World) (b:Nat) (o:Obj):Prop where
 os:w'.os=w.os
 tape:w'.tape=w.tape
 output:w'.output=w.output
 size:w'.heap.size=w.heap.size
 at_b:w'.heap[b]?=some o
 other:∀j,j≠b→w'.heap[j]?=w.heap[j]?
theorem Sets.below {w w' w0:World} {b B:Nat} {o:Obj} (h:Sets w w' b o) (hb:Below B w0 w) (hB:B≤b):Below B w0 w':=
 ⟨h.os.trans hb.os,h.tape.trans hb.tape,h.output.trans hb.output,by rw[h.size];exact hb.size,λ i hi=>(h.other i (by omega)).trans (hb.block i hi)⟩
theorem insert_run {w:World} {b:Nat} {es:Array MapEntry} {clock:Nat} (k:Int) (val:Value) (hb:w.heap[b]?=some (.map es clock)) (hf:Instr.findNow (.int .i64) (.int .i64 k) es.toList 0=some none):
  ∃w',(Instr.mapUpdate 153 (.map (some b)) (.int .i64 k) val).run Tryz.prog w=.ok () w'∧Sets w w' b (.map (es.push (ent k val clock)) (clock+1)):=by
 have hkey:IsKey (.int .i64) (.int .i64 k):=by simp[IsKey]
 refine⟨{w with heap:=w.heap.setIfInBounds b (.map (es.push (ent k val clock)) (clock+1))},?_,rfl,rfl,rfl,by simp,?_,?_⟩
 ·simp[Instr.mapUpdate,run_underlying kindM,MapKept.run_getObj_map hb,MapKept.run_checkKey kindI hkey,MapKept.run_findKey kindI hf,MapKept.run_setObj_map _ hb,Result.andThen,ent]
 ·simp[blk_lt hb]
 ·intro j hj
  simp[Ne.symm hj]
theorem lookup_hit {w:World} {b:Nat} {es:Array MapEntry} {clock:Nat} {k:Int} {i:Nat} {v:Value} (hb:w.heap[b]?=some (.map es clock)) (hf:Instr.findNow (.int .i64) (.int .i64 k) es.toList 0=some (some (i,v))):
  (Instr.lookup 153 (.map (some b)) (.int .i64 k) true).run Tryz.prog w=.ok (.tuple #[v,.bool true]) w:=by
 have hkey:IsKey (.int .i64) (.int .i64 k):=by simp[IsKey]
 simp[Instr.lookup,run_underlying kindM,MapKept.run_getObj_map hb,MapKept.run_checkKey kindI hkey,MapKept.run_findKey kindI hf,Result.andThen]
theorem lookup_miss {w:World} {b:Nat} {es:Array MapEntry} {clock:Nat} {k:Int} (hb:w.heap[b]?=some (.map es clock)) (hf:Instr.findNow (.int .i64) (.int .i64 k) es.toList 0=some none):
  (Instr.lookup 153 (.map (some b)) (.int .i64 k) true).run Tryz.prog w=.ok (.tuple #[.nilFunc,.bool false]) w:=by
 have hkey:IsKey (.int .i64) (.int .i64 k):=by simp[IsKey]
 have hz:(zeroValue 151).run Tryz.prog w=.ok .nilFunc w:=Tryz.zeroValue151 w
 simp[Instr.lookup,run_underlying kindM,MapKept.run_getObj_map hb,MapKept.run_checkKey kindI hkey,MapKept.run_findKey kindI hf,Result.andThen,hz]
structure St (w0 w:World) (b:Nat) (es:Array MapEntry) (n:Nat) (p1 q1 p2 q2 p3 q3:Nat) (bs:List (Nat×Nat×Value×Value)):Prop where
 below:Below w0.heap.size w0 w
 base:w0.heap.size≤b
 map:w.heap[b]?=some (.map es n)
 some_:Lies w p1 q1 1 1099511627776
 room:Lies w p2 q2 1 4096
 none_:Lies w p3 q3 0 0
 bears:∀x∈bs,Bears w x.1 x.2.1 x.2.2.1 x.2.2.2
theorem ne_map {w:World} {p b:Nat} {cs:Array Value} {T:TypeId} {fr:Nat×Nat} {es:Array MapEntry} {n:Nat} (h:w.heap[p]?=some (.cells cs T fr)) (hm:w.heap[b]?=some (.map es n)):p≠b:=λ e=>by
 subst e
 rw[h]at hm
 cases hm
theorem Lies.sets {w w':World} {p q b n:Nat} {x y:Int} {es:Array MapEntry} {o:Obj} (h:Lies w p q x y) (hm:w.heap[b]?=some (.map es n)) (hs:Sets w w' b o):Lies w' p q x y:=
 ⟨(hs.other _ (ne_map h.1 hm)).trans h.1,(hs.other _ (ne_map h.2 hm)).trans h.2⟩
theorem Bears.sets {w w':World} {p q b n:Nat} {x y:Value} {es:Array MapEntry} {o:Obj} (h:Bears w p q x y) (hm:w.heap[b]?=some (.map es n)) (hs:Sets w w' b o):Bears w' p q x y:=
 ⟨(hs.other _ (ne_map h.1 hm)).trans h.1,(hs.other _ (ne_map h.2 hm)).trans h.2⟩
section
variable {w0 w w':World} {b n p1 q1 p2 q2 p3 q3:Nat} {es:Array MapEntry} {bs:List (Nat×Nat×Value×Value)}
theorem St.on (h:St w0 w b es n p1 q1 p2 q2 p3 q3 bs) (hb:Below w.heap.size w w'):St w0 w' b es n p1 q1 p2 q2 p3 q3 bs:=
 ⟨seqB h.below hb,h.base,(hb.block _ (blk_lt h.map)).trans h.map,h.some_.on hb,h.room.on hb,h.none_.on hb,λ x hx=>(h.bears x hx).on hb⟩
theorem St.both (h:St w0 w b es n p1 q1 p2 q2 p3 q3 bs) (hb:Below w.heap.size w w') {f g:Nat} {F G:Value} (hbe:Bears w' f g F G):St w0 w' b es n p1 q1 p2 q2 p3 q3 ((f,g,F,G)::bs):=
 ⟨(h.on hb).below,h.base,(h.on hb).map,(h.on hb).some_,(h.on hb).room,(h.on hb).none_,λ x hx=>by
  rcases List.mem_cons.1 hx with rfl|hx
  ·exact hbe
  ·exact(h.bears x hx).on hb⟩
theorem St.ins (h:St w0 w b es n p1 q1 p2 q2 p3 q3 bs) {es':Array MapEntry} {n':Nat} (hs:Sets w w' b (.map es' n')):St w0 w' b es' n' p1 q1 p2 q2 p3 q3 bs:=
 ⟨hs.below h.below h.base,h.base,hs.at_b,h.some_.sets h.map hs,h.room.sets h.map hs,h.none_.sets h.map hs,λ x hx=>(h.bears x hx).sets h.map hs⟩
end
def rule1V:Value:=.func (.func 117) #[] #[]
def RulesOut (w:World) (e:Ending) (w':World):Prop:=∃b p1 q1 p2 q2 p3 q3 f2 g2 f3 g3 f4 g4 f5 g5 f6 g6 f7 g7,e=.returned (.map (some b))∧
 St w w' b #[ent 1 rule1V 0,ent 2 (bothV f2 g2) 1,ent 3 (bothV f3 g3) 2,ent 4 (bothV f4 g4) 3,ent 5 (bothV f5 g5) 4,ent 6 (bothV f6 g6) 5,ent 7 (bothV f7 g7) 6] 7 p1 q1 p2 q2 p3 q3
  [(f7,g7,rightV,fromV p3 q3),(f6,g6,rightV,fromV p3 q3),(f5,g5,fromV p1 q1,fromV p3 q3),(f4,g4,fromV p1 q1,fromV p3 q3),(f3,g3,fromV p2 q2,rightV),(f2,g2,rightV,fromV p2 q2)]
set_option maxRecDepth 100000 in
set_option maxHeartbeats 8000000 in
theorem rules_any (w:World):Calls Tryz.prog 89 #[] w (RulesOut w):=by
 have hmm:=@run_makeMap Tryz.prog
 have HF:=Lib.hid (λ x y W=>from_any x y W)
 go_enter Tryz.func89,Tryz.ntmps89
 go_wp2_with fail
 refine(HF.out _ _ _).mono ?_
 rintro e w1 ⟨p1,q1,rfl,hb1,hl1⟩
 have HB1:=Lib.hid hb1
 have HL1:=Lib.hid hl1
 clear hb1 hl1
 unfold fromV
 go_wp2_with fail
 refine(HF.out _ _ _).mono ?_
 rintro e w2 ⟨p2,q2,rfl,hb2,hl2⟩
 have HB2:=Lib.hid (seqB HB1.out hb2)
 have HL2:=Lib.hid hl2
 have HL12:=Lib.hid (HL1.out.on hb2)
 clear hb2 hl2 HB1 HL1
 unfold fromV
 go_wp2_with fail
 refine(HF.out _ _ _).mono ?_
 rintro e w3 ⟨p3,q3,rfl,hb3,hl3⟩
 have HS0:=Lib.hid (show St w (w3.alloc (.map #[] 0)) w3.heap.size #[] 0 p1 q1 p2 q2 p3 q3 []from
  have hm:Below w3.heap.size w3 (w3.alloc (.map #[] 0)):=(Below.refl _ _).alloc (Nat.le_refl _) _
  ⟨seqB (seqB HB2.out hb3) hm,(seqB HB2.out hb3).size,heap_alloc_new w3 _,(HL12.out.on hb3).on hm,(HL2.out.on hb3).on hm,hl3.on hm,λ x hx=>by cases hx⟩)
 obtain⟨x1,hr1,hs1⟩:=insert_run 1 (.func (.func 117) #[] #[]) HS0.out.map rfl
 have HS1:=Lib.hid (HS0.out.ins hs1)
 clear hb3 hl3 HL2 HL12 HB2 hs1 HS0
 unfold fromV
 go_wp2_with fail
 generalize w3.alloc (.map #[] 0)=w4 at*
 generalize w3.heap.size=b at*
 refine(both_any _ _ _ _ _).mono ?_
 rintro e y2 ⟨f2,g2,rfl,hb,hbe⟩
 have HT2:=Lib.hid (HS1.out.both hb (show Bears y2 f2 g2 (rightV) (fromV p2 q2)from hbe))
 obtain⟨x2,hr2,hs2⟩:=insert_run 2 (bothV f2 g2) HT2.out.map (by rfl)
 have HS2:=Lib.hid (HT2.out.ins hs2)
 clear hb hbe hs2 HT2 HS1
 go_wp2_with fail
 refine(both_any _ _ _ _ _).mono ?_
 rintro e y3 ⟨f3,g3,rfl,hb,hbe⟩
 have HT3:=Lib.hid (HS2.out.both hb (show Bears y3 f3 g3 (fromV p2 q2) (rightV)from hbe))
 obtain⟨x3,hr3,hs3⟩:=insert_run 3 (bothV f3 g3) HT3.out.map (by rfl)
 have HS3:=Lib.hid (HT3.out.ins hs3)
 clear hb hbe hs3 HT3 HS2
 go_wp2_with fail
 refine(both_any _ _ _ _ _).mono ?_
 rintro e y4 ⟨f4,g4,rfl,hb,hbe⟩
 have HT4:=Lib.hid (HS3.out.both hb (show Bears y4 f4 g4 (fromV p1 q1) (fromV p3 q3)from hbe))
 obtain⟨x4,hr4,hs4⟩:=insert_run 4 (bothV f4 g4) HT4.out.map (by rfl)
 have HS4:=Lib.hid (HT4.out.ins hs4)
 clear hb hbe hs4 HT4 HS3
 go_wp2_with fail
 refine(both_any _ _ _ _ _).mono ?_
 rintro e y5 ⟨f5,g5,rfl,hb,hbe⟩
 have HT5:=Lib.hid (HS4.out.both hb (show Bears y5 f5 g5 (fromV p1 q1) (fromV p3 q3)from hbe))
 obtain⟨x5,hr5,hs5⟩:=insert_run 5 (bothV f5 g5) HT5.out.map (by rfl)
 have HS5:=Lib.hid (HT5.out.ins hs5)
 clear hb hbe hs5 HT5 HS4
 go_wp2_with fail
 refine(both_any _ _ _ _ _).mono ?_
 rintro e y6 ⟨f6,g6,rfl,hb,hbe⟩
 have HT6:=Lib.hid (HS5.out.both hb (show Bears y6 f6 g6 (rightV) (fromV p3 q3)from hbe))
 obtain⟨x6,hr6,hs6⟩:=insert_run 6 (bothV f6 g6) HT6.out.map (by rfl)
 have HS6:=Lib.hid (HT6.out.ins hs6)
 clear hb hbe hs6 HT6 HS5
 go_wp2_with fail
 refine(both_any _ _ _ _ _).mono ?_
 rintro e y7 ⟨f7,g7,rfl,hb,hbe⟩
 have HT7:=Lib.hid (HS6.out.both hb (show Bears y7 f7 g7 (rightV) (fromV p3 q3)from hbe))
 obtain⟨x7,hr7,hs7⟩:=insert_run 7 (bothV f7 g7) HT7.out.map (by rfl)
 have HS7:=Lib.hid (HT7.out.ins hs7)
 clear hb hbe hs7 HT7 HS6
 go_wp2_with fail
 go_ret
 exact⟨b,p1,q1,p2,q2,p3,q3,f2,g2,f3,g3,f4,g4,f5,g5,f6,g6,f7,g7,rfl,HS7.out⟩
end Go.Proofs.YtdighjgcnaajgaaGreat.gx
namespace Go.Proofs.YtdighjgcnaajgaaGreat.gx
open Go.RowKit Go.MapKept
theorem near_eq (a:Int):(a==near a)=decide (0≤a∧a≤1099511627776):=by
 rw[Bool.eq_iff_iff]
 simp only[beq_iff_eq,decide_eq_true_eq]
 constructor
 ·intro h
  rw[h]
  exact near_range a
 ·intro h
  exact(near_of a h.1 h.2).symm
theorem near_eq' (a:Int):(near a==a)=decide (0≤a∧a≤1099511627776):=by rw[←near_eq,Bool.eq_iff_iff];simp only[beq_iff_eq];exact⟨Eq.symm,Eq.symm⟩
theorem betw_eq (x y n:Int):betw x y n=decide (x≤n∧n≤y):=by unfold betw;rw[Bool.eq_iff_iff];simp
theorem parts1 (a b:Int):((a==near a)&&betw 0 a b)=partsB 1 a b:=by
 unfold partsB
 rw[near_eq,near_eq',near_eq',betw_eq,Bool.eq_iff_iff]
 simp
 omega
theorem parts2 (a b:Int):((a==near a)&&betw 1 4096 b)=partsB 2 a b:=by
 unfold partsB
 rw[near_eq,near_eq',near_eq',betw_eq,Bool.eq_iff_iff]
 simp
 omega
theorem parts3 (a b:Int):(betw 1 4096 a&&(b==near b))=partsB 3 a b:=by
 unfold partsB
 rw[near_eq,near_eq',near_eq',betw_eq,Bool.eq_iff_iff]
 simp
 omega
theorem parts4 (a b:Int):(betw 1 1099511627776 a&&betw 0 0 b)=partsB 4 a b:=by
 unfold partsB
 rw[near_eq',near_eq',betw_eq,betw_eq,Bool.eq_iff_iff]
 simp
 omega
theorem parts5 (a b:Int):(betw 1 1099511627776 a&&betw 0 0 b)=partsB 5 a b:=by
 unfold partsB
 rw[near_eq',near_eq',betw_eq,betw_eq,Bool.eq_iff_iff]
 simp
 omega
theorem parts6 (a b:Int):((a==near a)&&betw 0 0 b)=partsB 6 a b:=by
 unfold partsB
 rw[near_eq,near_eq',near_eq',betw_eq,Bool.eq_iff_iff]
 simp
 omega
theorem parts7 (a b:Int):((a==near a)&&betw 0 0 b)=partsB 7 a b:=by
 unfold partsB
 rw[near_eq,near_eq',near_eq',betw_eq,Bool.eq_iff_iff]
 simp
 omega
def RuleAt (k:Int) (w:World) (e:Ending) (w':World):Prop:=∃b f g,e=.returned (.map (some b))∧Below w.heap.size w w'∧
 (Instr.lookup 153 (.map (some b)) (.int .i64 k) true).run Tryz.prog w'=.ok (.tuple #[.func (.func 154) #[] #[.pointer (some ⟨f,0,none⟩),.pointer (some ⟨g,0,none⟩)],.bool true]) w'∧
 ∀x y,Calls Tryz.prog 154 #[.int .i64 x,.int .i64 y,.pointer (some ⟨f,0,none⟩),.pointer (some ⟨g,0,none⟩)] w' λ e w''=>e=.returned (.bool (partsB k x y))∧w'=w''
def RuleOne (w:World) (e:Ending) (w':World):Prop:=∃b,e=.returned (.map (some b))∧Below w.heap.size w w'∧
 (Instr.lookup 153 (.map (some b)) (.int .i64 1) true).run Tryz.prog w'=.ok (.tuple #[.func (.func 117) #[] #[],.bool true]) w'
def RuleNone (k:Int) (w:World) (e:Ending) (w':World):Prop:=∃b,e=.returned (.map (some b))∧Below w.heap.size w w'∧
 (Instr.lookup 153 (.map (some b)) (.int .i64 k) true).run Tryz.prog w'=.ok (.tuple #[.nilFunc,.bool false]) w'
theorem one_right (w:World):One w rightV (λ n=>n==near n):=Or.inl ⟨rfl,rfl⟩
theorem one_from {w:World} {p q:Nat} {x y:Int} (h:Lies w p q x y):One w (fromV p q) (betw x y):=Or.inr ⟨p,q,x,y,rfl,h,rfl⟩
theorem rules_one (w:World):Calls Tryz.prog 89 #[] w (RuleOne w):=by
 refine(rules_any w).mono ?_
 rintro e w' ⟨b,p1,q1,p2,q2,p3,q3,f2,g2,f3,g3,f4,g4,f5,g5,f6,g6,f7,g7,rfl,h⟩
 exact⟨b,rfl,h.below,lookup_hit h.map (i:=0) (by rfl)⟩
theorem rules_none (k:Int) (hk:k<1∨7<k) (w:World):Calls Tryz.prog 89 #[] w (RuleNone k w):=by
 refine(rules_any w).mono ?_
 rintro e w' ⟨b,p1,q1,p2,q2,p3,q3,f2,g2,f3,g3,f4,g4,f5,g5,f6,g6,f7,g7,rfl,h⟩
 refine⟨b,rfl,h.below,lookup_miss h.map ?_⟩
 have n1:(k==1)=false:=by simp;omega
 have n2:(k==2)=false:=by simp;omega
 have n3:(k==3)=false:=by simp;omega
 have n4:(k==4)=false:=by simp;omega
 have n5:(k==5)=false:=by simp;omega
 have n6:(k==6)=false:=by simp;omega
 have n7:(k==7)=false:=by simp;omega
 simp[ent,Instr.findNow,Instr.sameNow,n1,n2,n3,n4,n5,n6,n7]
theorem rules_at (k:Int) (h2:2≤k) (h7:k≤7) (w:World):Calls Tryz.prog 89 #[] w (RuleAt k w):=by
 refine(rules_any w).mono ?_
 rintro e w' ⟨b,p1,q1,p2,q2,p3,q3,f2,g2,f3,g3,f4,g4,f5,g5,f6,g6,f7,g7,rfl,h⟩
 rcases(show k=2∨k=3∨k=4∨k=5∨k=6∨k=7 by omega)with rfl|rfl|rfl|rfl|rfl|rfl
 ·refine⟨b,f2,g2,rfl,h.below,lookup_hit h.map (i:=1) (by rfl),λ x y=>?_⟩
  rw[←parts2]
  exact both1_any x y f2 g2 _ _ _ _ w' (h.bears (f2,g2,rightV,fromV p2 q2) (by simp)) (one_right w') (one_from h.room)
 ·refine⟨b,f3,g3,rfl,h.below,lookup_hit h.map (i:=2) (by rfl),λ x y=>?_⟩
  rw[←parts3]
  exact both1_any x y f3 g3 _ _ _ _ w' (h.bears (f3,g3,fromV p2 q2,rightV) (by simp)) (one_from h.room) (one_right w')
 ·refine⟨b,f4,g4,rfl,h.below,lookup_hit h.map (i:=3) (by rfl),λ x y=>?_⟩
  rw[←parts4]
  exact both1_any x y f4 g4 _ _ _ _ w' (h.bears (f4,g4,fromV p1 q1,fromV p3 q3) (by simp)) (one_from h.some_) (one_from h.none_)
 ·refine⟨b,f5,g5,rfl,h.below,lookup_hit h.map (i:=4) (by rfl),λ x y=>?_⟩
  rw[←parts5]
  exact both1_any x y f5 g5 _ _ _ _ w' (h.bears (f5,g5,fromV p1 q1,fromV p3 q3) (by simp)) (one_from h.some_) (one_from h.none_)
 ·refine⟨b,f6,g6,rfl,h.below,lookup_hit h.map (i:=5) (by rfl),λ x y=>?_⟩
  rw[←parts6]
  exact both1_any x y f6 g6 _ _ _ _ w' (h.bears (f6,g6,rightV,fromV p3 q3) (by simp)) (one_right w') (one_from h.none_)
 ·refine⟨b,f7,g7,rfl,h.below,lookup_hit h.map (i:=6) (by rfl),λ x y=>?_⟩
  rw[←parts7]
  exact both1_any x y f7 g7 _ _ _ _ w' (h.bears (f7,g7,rightV,fromV p3 q3) (by simp)) (one_right w') (one_from h.none_)
end Go.Proofs.YtdighjgcnaajgaaGreat.gx
namespace Go.Proofs.YtdighjgcnaajgaaGreat.gx
open Go.RowKit
theorem box6 {w w1:World} {g:Nat} {c0 c1 c2 c3 c4 c5:Value} {T:TypeId} {fr:Nat×Nat} (h:w.heap[g]?=some (.cells #[c0,c1,c2,c3,c4,c5] T fr)) (hb:Below w.heap.size w w1):
  w1.cell? ⟨g,0,none⟩=some c0∧w1.cell? ⟨g,1,none⟩=some c1∧w1.cell? ⟨g,2,none⟩=some c2∧w1.cell? ⟨g,3,none⟩=some c3∧w1.cell? ⟨g,4,none⟩=some c4∧w1.cell? ⟨g,5,none⟩=some c5:=by
 have h1:=(hb.block _ (blk_lt h)).trans h
 exact⟨cell_of_row _ _ 0 _ _ _ h1,cell_of_row _ _ 1 _ _ _ h1,cell_of_row _ _ 2 _ _ _ h1,cell_of_row _ _ 3 _ _ _ h1,cell_of_row _ _ 4 _ _ _ h1,cell_of_row _ _ 5 _ _ _ h1⟩
theorem oftB {o:Int}:(decide (o<0)||decide (100<o))=decide (o<0∨100<o):=by rw[Bool.eq_iff_iff];simp
set_option maxRecDepth 100000 in
set_option maxHeartbeats 8000000 in
theorem check_any (s:ByteArray) (hs:s.size≤maxLen) (k:Int) (up:Bool) (o a b:Int) (w:World):Calls Tryz.prog 50 #[.agg #[.string s,.int .i64 k,.bool up,.int .i64 o,.int .i64 a,.int .i64 b]] w (Chk s k o a b w):=by
 unfold Chk
 have HB:=Lib.hid (show Below w.heap.size w (w.alloc (.cells #[.string s,.int .i64 k,.bool up,.int .i64 o,.int .i64 a,.int .i64 b] 46))from(Below.refl _ _).alloc (Nat.le_refl _) _)
 have HN:=Lib.hid (λ W=>name_any s W hs)
 obtain⟨N,hN⟩:∃N,nameB s=N:=⟨_,rfl⟩
 have HV:=Lib.hid (show checkB s k o a b=if N=false then 90 else if k<1∨7<k then 91 else if o<0∨100<o∨partsB k a b=false then 92 else 0 by unfold checkB;rw[hN])
 rw[hN]at HN
 clear hN hs
 have HK:=Lib.hid (heap_alloc_new w (.cells #[.string s,.int .i64 k,.bool up,.int .i64 o,.int .i64 a,.int .i64 b] 46))
 have HF:=Lib.hid (show∀(c:Int),checkB s k o a b=c→Ending.returned (.int .i64 c)=.returned (.int .i64 (checkB s k o a b))fromλ c h=>by rw[h])
 cases N with
 |false=>
  have HV1:=Lib.hid (HV.out.trans (if_pos rfl))
  go_enter Tryz.func50,Tryz.ntmps50
  go_wp2_with fail
  refine(HN.out _).mono ?_
  rintro e w2 ⟨rfl,hb⟩
  have HE:=Lib.hid (seqB HB.out hb)
  clear hb
  go_wp2_with fail
  go_ret
  exact⟨HF.out _ HV1.out,HE.out⟩
 |true=>
  by_cases hk:k<1∨7<k
  ·have HV1:=Lib.hid (HV.out.trans (by rw[if_neg (by simp),if_pos hk]:_=(91:Int)))
   have HR:=Lib.hid (λ W=>rules_none k hk W)
   clear hk
   go_enter Tryz.func50,Tryz.ntmps50
   go_wp2_with fail
   generalize w.alloc (.cells #[.string s,.int .i64 k,.bool up,.int .i64 o,.int .i64 a,.int .i64 b] 46)=w1 at*
   refine(HN.out _).mono ?_
   rintro e w2 ⟨rfl,hb⟩
   have HB2:=Lib.hid (seqB HB.out hb)
   obtain⟨x0,x1,x2,x3,x4,x5⟩:=box6 HK.out hb
   clear hb
   go_wp2_with fail
   have HCL:=Lib.hid (show w2.drew.cell? ⟨w.heap.size,1,none⟩=some (.int .i64 k)from x1)
   have y1:w2.drew.cell? ⟨w.heap.size,1,none⟩=some (.int .i64 k):=x1
   go_region_held (λ W=>W.cell? ⟨w.heap.size,1,none⟩=some (.int .i64 k))
    (first
     |exact HCL.out
     |with_reducible assumption)
    (first
     |(go_at_call 89;(with_reducible refine Calls.mono (HR.out _) ?_);rintro e w3 ⟨m,rfl,hb,hl⟩;have HH6:=Lib.hid hb;have y1:=(hb.cell (World.block_lt_of_cell? _ _ y1)).trans y1))
   have HE:=Lib.hid (seqB HB2.out (seqB (Below.refl _ w2).drew HH6.out))
   go_wp2_with fail
   go_ret
   exact⟨HF.out _ HV1.out,HE.out⟩
  ·have HV1:=Lib.hid (HV.out.trans (by rw[if_neg (by simp),if_neg hk]:_=if o<0∨100<o∨partsB k a b=false then(92:Int)else 0))
   by_cases h1:k=1
   ·subst h1
    have HR:=Lib.hid (λ W=>rules_one W)
    have HP:=Lib.hid (λ W=>rule1_any a b W)
    rw[parts1]at HP
    clear hk HV
    go_enter Tryz.func50,Tryz.ntmps50
    go_wp2_with fail
    generalize w.alloc (.cells #[.string s,.int .i64 1,.bool up,.int .i64 o,.int .i64 a,.int .i64 b] 46)=w1 at*
    refine(HN.out _).mono ?_
    rintro e w2 ⟨rfl,hb⟩
    have HB2:=Lib.hid (seqB HB.out hb)
    obtain⟨x0,x1,x2,x3,x4,x5⟩:=box6 HK.out hb
    have HK2:=Lib.hid ((hb.block _ (blk_lt HK.out)).trans HK.out)
    clear hb
    go_wp2_with fail
    have HCL:=Lib.hid (show w2.drew.cell? ⟨w.heap.size,1,none⟩=some (.int .i64 1)from x1)
    have y1:w2.drew.cell? ⟨w.heap.size,1,none⟩=some (.int .i64 1):=x1
    go_region_held (λ W=>W.cell? ⟨w.heap.size,1,none⟩=some (.int .i64 1))
     (first
      |exact HCL.out
      |with_reducible assumption)
     (first
      |(go_at_call 89;(with_reducible refine Calls.mono (HR.out _) ?_);rintro e w3 ⟨m,rfl,hb,hl⟩;have HH6:=Lib.hid hb;have y1:=(hb.cell (World.block_lt_of_cell? _ _ y1)).trans y1))
    have HE:=Lib.hid (seqB HB2.out (seqB (Below.refl _ w2).drew HH6.out))
    have HK3:=Lib.hid ((HH6.out.block _ (blk_lt (w:=w2.drew) HK2.out)).trans HK2.out)
    obtain⟨z0,z1,z2,z3,z4,z5⟩:=box6 HK3.out (Below.refl _ _)
    clear y1
    by_cases o1:o<0
    ·have HV2:=Lib.hid (HV1.out.trans (if_pos (Or.inl o1)))
     have o2:decide (o<0)=true:=decide_eq_true o1
     go_wp2_with fail
     go_ret
     exact⟨HF.out _ HV2.out,HE.out⟩
    have o2:decide (o<0)=false:=decide_eq_false o1
    by_cases o3:100<o
    ·have HV2:=Lib.hid (HV1.out.trans (if_pos (Or.inr (Or.inl o3))))
     have o4:decide (100<o)=true:=decide_eq_true o3
     go_wp2_with fail
     go_ret
     exact⟨HF.out _ HV2.out,HE.out⟩
    have o4:decide (100<o)=false:=decide_eq_false o3
    cases hP:partsB 1 a b with
    |false=>
     have HV2:=Lib.hid (HV1.out.trans (if_pos (Or.inr (Or.inr hP))))
     rw[hP]at HP
     go_wp2_with fail
     refine(HP.out _).mono ?_
     rintro e w4 ⟨rfl,hb4⟩
     have HE4:=Lib.hid (seqB HE.out hb4)
     clear hb4
     go_wp2_with fail
     go_ret
     exact⟨HF.out _ HV2.out,HE4.out⟩
    |true=>
     have HV2:=Lib.hid (HV1.out.trans (if_neg (λ h=>by rcases h with h|h|h;exact o1 h;exact o3 h;rw[hP]at h;cases h)))
     rw[hP]at HP
     go_wp2_with fail
     refine(HP.out _).mono ?_
     rintro e w4 ⟨rfl,hb4⟩
     have HE4:=Lib.hid (seqB HE.out hb4)
     clear hb4
     go_wp2_with fail
     go_ret
     exact⟨HF.out _ HV2.out,HE4.out⟩
   ·have HR:=Lib.hid (λ W=>rules_at k (by omega) (by omega) W)
    clear hk HV h1
    go_enter Tryz.func50,Tryz.ntmps50
    go_wp2_with fail
    generalize w.alloc (.cells #[.string s,.int .i64 k,.bool up,.int .i64 o,.int .i64 a,.int .i64 b] 46)=w1 at*
    refine(HN.out _).mono ?_
    rintro e w2 ⟨rfl,hb⟩
    have HB2:=Lib.hid (seqB HB.out hb)
    obtain⟨x0,x1,x2,x3,x4,x5⟩:=box6 HK.out hb
    have HK2:=Lib.hid ((hb.block _ (blk_lt HK.out)).trans HK.out)
    clear hb
    go_wp2_with fail
    have HCL:=Lib.hid (show w2.drew.cell? ⟨w.heap.size,1,none⟩=some (.int .i64 k)from x1)
    have y1:w2.drew.cell? ⟨w.heap.size,1,none⟩=some (.int .i64 k):=x1
    go_region_held (λ W=>W.cell? ⟨w.heap.size,1,none⟩=some (.int .i64 k))
     (first
      |exact HCL.out
      |with_reducible assumption)
     (first
      |(go_at_call 89;(with_reducible refine Calls.mono (HR.out _) ?_);rintro e w3 ⟨m,f,g,rfl,hb,hl,hc⟩;have HH6:=Lib.hid hb;have y1:=(hb.cell (World.block_lt_of_cell? _ _ y1)).trans y1))
    have HE:=Lib.hid (seqB HB2.out (seqB (Below.refl _ w2).drew HH6.out))
    have HK3:=Lib.hid ((HH6.out.block _ (blk_lt (w:=w2.drew) HK2.out)).trans HK2.out)
    obtain⟨z0,z1,z2,z3,z4,z5⟩:=box6 HK3.out (Below.refl _ _)
    clear y1
    by_cases o1:o<0
    ·have HV2:=Lib.hid (HV1.out.trans (if_pos (Or.inl o1)))
     have o2:decide (o<0)=true:=decide_eq_true o1
     go_wp2_with fail
     go_ret
     exact⟨HF.out _ HV2.out,HE.out⟩
    have o2:decide (o<0)=false:=decide_eq_false o1
    by_cases o3:100<o
    ·have HV2:=Lib.hid (HV1.out.trans (if_pos (Or.inr (Or.inl o3))))
     have o4:decide (100<o)=true:=decide_eq_true o3
     go_wp2_with fail
     go_ret
     exact⟨HF.out _ HV2.out,HE.out⟩
    have o4:decide (100<o)=false:=decide_eq_false o3
    have HP:=Lib.hid (hc a b)
    clear hc
    cases hP:partsB k a b with
    |false=>
     have HV2:=Lib.hid (HV1.out.trans (if_pos (Or.inr (Or.inr hP))))
     rw[hP]at HP
     go_wp2_with fail
     refine HP.out.mono ?_
     rintro e w4 ⟨rfl,rfl⟩
     go_wp2_with fail
     go_ret
     exact⟨HF.out _ HV2.out,HE.out⟩
    |true=>
     have HV2:=Lib.hid (HV1.out.trans (if_neg (λ h=>by rcases h with h|h|h;exact o1 h;exact o3 h;rw[hP]at h;cases h)))
     rw[hP]at HP
     go_wp2_with fail
     refine HP.out.mono ?_
     rintro e w4 ⟨rfl,rfl⟩
     go_wp2_with fail
     go_ret
     exact⟨HF.out _ HV2.out,HE.out⟩
end Go.Proofs.YtdighjgcnaajgaaGreat.gx
