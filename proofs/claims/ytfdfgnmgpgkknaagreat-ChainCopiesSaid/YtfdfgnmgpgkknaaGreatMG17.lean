import Derived.Test.YtfdfgnmgpgkknaaGreatMG15
import Derived.Test.YtfdfgnmgpgkknaaGreatMG16
import Derived.MapKept
import Derived.OwnWalk
import Derived.Deep.RegionHeld
import Derived.Deep.RegionHeldLaw
set_option maxRecDepth 100000
set_option maxHeartbeats 8000000
open Go.Proofs.Tryz renaming prog→zf
open Go renaming heap_alloc_new→zo,cell_of_row→ze
open Go.RowKit.Below renaming refl→zh
open Nat renaming le_refl→zg
open Go.Lib renaming hid→zd
open Go.Calls renaming mono→zr
open Go.Proofs.Tryz
namespace Go.Proofs.YtfdfgnmgpgkknaaGreat
namespace gx
open Go.RowKit
def Ql (w:World) (p q:Nat) (x y:Int):Prop:=w.heap[p]?=some (.cells #[.int .i64 x] 3 (0,0))∧w.heap[q]?=some (.cells #[.int .i64 y] 3 (0,0))
theorem Ql.on {w w':World} {p q:Nat} {x y:Int} (h:Ql w p q x y) (hb:Below w.heap.size w w'):Ql w' p q x y:=⟨(hb.block _ (qd h.1)).trans h.1,(hb.block _ (qd h.2)).trans h.2⟩
def JT (w:World) (p q:Nat) (f g:Value):Prop:=w.heap[p]?=some (.cells #[f] 94 (0,0))∧w.heap[q]?=some (.cells #[g] 94 (0,0))
theorem JT.on {w w':World} {p q:Nat} {f g:Value} (h:JT w p q f g) (hb:Below w.heap.size w w'):JT w' p q f g:=⟨(hb.block _ (qd h.1)).trans h.1,(hb.block _ (qd h.2)).trans h.2⟩
def ZM (p q:Nat):Value:=.func (.func 142) #[] #[.pointer (some ⟨p,0,none⟩),.pointer (some ⟨q,0,none⟩)]
def Ys (p q:Nat):Value:=.func (.func 143) #[] #[.pointer (some ⟨p,0,none⟩),.pointer (some ⟨q,0,none⟩)]
def XI:Value:=.func (.func 129) #[] #[]
def N2 (x y:Int) (w:World) (e:Ending) (w':World):Prop:=∃p q,e=.returned (ZM p q)∧Below w.heap.size w w'∧Ql w' p q x y
def N3 (f g:Value) (w:World) (e:Ending) (w':World):Prop:=∃p q,e=.returned (Ys p q)∧Below w.heap.size w w'∧JT w' p q f g
theorem size_alloc (w:World) (o:Obj):(w.alloc o).heap.size=w.heap.size+1:=by simp
theorem Mz (x y:Int) (w:World):Calls zf 127 #[.int .i64 x,.int .i64 y] w (N2 x y w):=by
 have hmf:∀(fn:Fn) (first cap:Array Value) (w:World),(Instr.makeFunc fn first cap).run zf w=.ok (.func fn first cap) w:=λ _ _ _ _=>rfl
 have h1:=zo w (.cells #[.int .i64 x] 3)
 have h2:=zo (w.alloc (.cells #[.int .i64 x] 3)) (.cells #[.int .i64 y] 3)
 have hb:Below w.heap.size w (w.alloc (.cells #[.int .i64 x] 3)):=(zh _ _).alloc (zg _) _
 have hb2:Below (w.alloc (.cells #[.int .i64 x] 3)).heap.size (w.alloc (.cells #[.int .i64 x] 3)) ((w.alloc (.cells #[.int .i64 x] 3)).alloc (.cells #[.int .i64 y] 3)):=(zh _ _).alloc (zg _) _
 have HO:=zd (show N2 x y w (.returned (ZM w.heap.size (w.heap.size+1))) ((w.alloc (.cells #[.int .i64 x] 3)).alloc (.cells #[.int .i64 y] 3))from
  ⟨_,_,rfl,seqB hb hb2,(hb2.block _ (qd h1)).trans h1,by rw[←h2,size_alloc]⟩)
 clear h1 h2 hb hb2
 go_enter func127,ntmps127
 go_wp2_with fail
 go_ret
 exact HO.out
theorem YV (f1 g1:Fn) (c d:Array Value) (w:World):Calls zf 130 #[.func f1 #[] c,.func g1 #[] d] w (N3 (.func f1 #[] c) (.func g1 #[] d) w):=by
 have hmf:∀(fn:Fn) (first cap:Array Value) (w:World),(Instr.makeFunc fn first cap).run zf w=.ok (.func fn first cap) w:=λ _ _ _ _=>rfl
 have h1:=zo w (.cells #[.func f1 #[] c] 94)
 have h2:=zo (w.alloc (.cells #[.func f1 #[] c] 94)) (.cells #[.func g1 #[] d] 94)
 have hb:Below w.heap.size w (w.alloc (.cells #[.func f1 #[] c] 94)):=(zh _ _).alloc (zg _) _
 have hb2:Below (w.alloc (.cells #[.func f1 #[] c] 94)).heap.size (w.alloc (.cells #[.func f1 #[] c] 94)) ((w.alloc (.cells #[.func f1 #[] c] 94)).alloc (.cells #[.func g1 #[] d] 94)):=(zh _ _).alloc (zg _) _
 have HO:=zd (show N3 (.func f1 #[] c) (.func g1 #[] d) w (.returned (Ys w.heap.size (w.heap.size+1))) ((w.alloc (.cells #[.func f1 #[] c] 94)).alloc (.cells #[.func g1 #[] d] 94))from
  ⟨_,_,rfl,seqB hb hb2,(hb2.block _ (qd h1)).trans h1,by rw[←h2,size_alloc]⟩)
 clear h1 h2 hb hb2
 go_enter func130,ntmps130
 go_wp2_with fail
 go_ret
 exact HO.out
def Vg (x y n:Int):Bool:=decide (x≤n)&&decide (n≤y)
theorem VP (x y n:Int) (p q:Nat) (w:World) (h:Ql w p q x y):Calls zf 142 #[.int .i64 n,.pointer (some ⟨p,0,none⟩),.pointer (some ⟨q,0,none⟩)] w λ e w'=>e=.returned (.bool (Vg x y n))∧w=w':=by
 have c1:w.cell? ⟨p,0,none⟩=some (.int .i64 x):=ze _ _ 0 _ _ _ h.1
 have c2:w.cell? ⟨q,0,none⟩=some (.int .i64 y):=ze _ _ 0 _ _ _ h.2
 unfold Vg
 clear h
 by_cases hx:x≤n
 ·have d:decide (x≤n)=true:=decide_eq_true hx
  go_enter func142,ntmps142
  go_wp2_with fail
  go_ret
  exact⟨qp (by first|rfl|rw[d,Bool.true_and]),rfl⟩
 ·have d:decide (x≤n)=false:=decide_eq_false hx
  go_enter func142,ntmps142
  go_wp2_with fail
  go_ret
  exact⟨qp (by first|rfl|rw[d,Bool.false_and]),rfl⟩
def One (w:World) (v:Value) (r:Int→Bool):Prop:=(v=XI∧r=λ n=>n==qe n)∨∃p q x y,v=ZM p q∧Ql w p q x y∧r=Vg x y
theorem One.on {w w':World} {v:Value} {r:Int→Bool} (h:One w v r) (hb:Below w.heap.size w w'):One w' v r:=by
 rcases h with h|⟨p,q,x,y,h1,h2,h3⟩
 ·exact Or.inl h
 ·exact Or.inr ⟨p,q,x,y,h1,h2.on hb,h3⟩
theorem JZ (a b:Int) (p q:Nat) (f g:Value) (r s:Int→Bool) (w:World) (h:JT w p q f g) (hf:One w f r) (hg:One w g s):
  Calls zf 143 #[.int .i64 a,.int .i64 b,.pointer (some ⟨p,0,none⟩),.pointer (some ⟨q,0,none⟩)] w λ e w'=>e=.returned (.bool (r a&&s b))∧w=w':=by
 have c1:w.cell? ⟨p,0,none⟩=some f:=ze _ _ 0 _ _ _ h.1
 have c2:w.cell? ⟨q,0,none⟩=some g:=ze _ _ 0 _ _ _ h.2
 clear h
 rcases hf with⟨rfl,rfl⟩|⟨p1,q1,x1,y1,rfl,l1,rfl⟩
 ·unfold XI at c1
  rcases hg with⟨rfl,rfl⟩|⟨p2,q2,x2,y2,rfl,l2,rfl⟩
  ·unfold XI at c2
   have HA:=zd (Jn a w)
   have HB:=zd (Jn b w)
   cases hA:(a==qe a)with
   |true=>
    rw[hA]at HA
    go_enter func143,ntmps143
    go_wp2_with fail
    refine HA.out.mono ?_
    rintro e w' ⟨rfl,rfl⟩
    go_wp2_with fail
    refine HB.out.mono ?_
    rintro e w' ⟨rfl,rfl⟩
    go_wp2_with fail
    go_ret
    exact⟨qp (by first|rfl|simp[hA]),rfl⟩
   |false=>
    rw[hA]at HA
    go_enter func143,ntmps143
    go_wp2_with fail
    refine HA.out.mono ?_
    rintro e w' ⟨rfl,rfl⟩
    go_wp2_with fail
    go_ret
    exact⟨qp (by first|rfl|simp[hA]),rfl⟩
  ·unfold ZM at c2
   have HA:=zd (Jn a w)
   have HB:=zd (VP x2 y2 b p2 q2 w l2)
   clear l2
   cases hA:(a==qe a)with
   |true=>
    rw[hA]at HA
    go_enter func143,ntmps143
    go_wp2_with fail
    refine HA.out.mono ?_
    rintro e w' ⟨rfl,rfl⟩
    go_wp2_with fail
    refine HB.out.mono ?_
    rintro e w' ⟨rfl,rfl⟩
    go_wp2_with fail
    go_ret
    exact⟨qp (by first|rfl|simp[hA]),rfl⟩
   |false=>
    rw[hA]at HA
    go_enter func143,ntmps143
    go_wp2_with fail
    refine HA.out.mono ?_
    rintro e w' ⟨rfl,rfl⟩
    go_wp2_with fail
    go_ret
    exact⟨qp (by first|rfl|simp[hA]),rfl⟩
 ·unfold ZM at c1
  have HA:=zd (VP x1 y1 a p1 q1 w l1)
  clear l1
  rcases hg with⟨rfl,rfl⟩|⟨p2,q2,x2,y2,rfl,l2,rfl⟩
  ·unfold XI at c2
   have HB:=zd (Jn b w)
   cases hA:Vg x1 y1 a with
   |true=>
    rw[hA]at HA
    go_enter func143,ntmps143
    go_wp2_with fail
    refine HA.out.mono ?_
    rintro e w' ⟨rfl,rfl⟩
    go_wp2_with fail
    refine HB.out.mono ?_
    rintro e w' ⟨rfl,rfl⟩
    go_wp2_with fail
    go_ret
    exact⟨qp (by first|rfl|simp[hA]),rfl⟩
   |false=>
    rw[hA]at HA
    go_enter func143,ntmps143
    go_wp2_with fail
    refine HA.out.mono ?_
    rintro e w' ⟨rfl,rfl⟩
    go_wp2_with fail
    go_ret
    exact⟨qp (by first|rfl|simp[hA]),rfl⟩
  ·unfold ZM at c2
   have HB:=zd (VP x2 y2 b p2 q2 w l2)
   clear l2
   cases hA:Vg x1 y1 a with
   |true=>
    rw[hA]at HA
    go_enter func143,ntmps143
    go_wp2_with fail
    refine HA.out.mono ?_
    rintro e w' ⟨rfl,rfl⟩
    go_wp2_with fail
    refine HB.out.mono ?_
    rintro e w' ⟨rfl,rfl⟩
    go_wp2_with fail
    go_ret
    exact⟨qp (by first|rfl|simp[hA]),rfl⟩
   |false=>
    rw[hA]at HA
    go_enter func143,ntmps143
    go_wp2_with fail
    refine HA.out.mono ?_
    rintro e w' ⟨rfl,rfl⟩
    go_wp2_with fail
    go_ret
    exact⟨qp (by first|rfl|simp[hA]),rfl⟩
theorem Ps (a b:Int) (w:World):Calls zf 128 #[.int .i64 a,.int .i64 b] w λ e w'=>e=.returned (.bool ((a==qe a)&&Vg 0 a b))∧Below w.heap.size w w':=by
 have HA:=zd (Jn a w)
 have HF:=zd (Mz 0 a w)
 cases hA:(a==qe a)with
 |true=>
  rw[hA]at HA
  go_enter func128,ntmps128
  go_wp2_with fail
  refine HA.out.mono ?_
  rintro e w' ⟨rfl,rfl⟩
  go_wp2_with fail
  refine HF.out.mono ?_
  rintro e w1 ⟨p,q,rfl,hb,hl⟩
  have HB:=zd hb
  have HG:=zd (VP 0 a b p q w1 hl)
  clear hb hl
  unfold ZM
  go_wp2_with fail
  refine HG.out.mono ?_
  rintro e w' ⟨rfl,rfl⟩
  go_wp2_with fail
  go_ret
  exact⟨qp (by first|rfl|simp[hA]),HB.out⟩
 |false=>
  rw[hA]at HA
  go_enter func128,ntmps128
  go_wp2_with fail
  refine HA.out.mono ?_
  rintro e w' ⟨rfl,rfl⟩
  go_wp2_with fail
  go_ret
  exact⟨qp (by first|rfl|simp[hA]),zh _ _⟩
end gx
namespace gx
open Go.RowKit Go.MapKept
theorem GL:Tryz.prog.underlying 149=some (.map 3 147):=by kernel_rfl
theorem Ki:Tryz.prog.underlying 3=some (.int .i64):=by kernel_rfl
def ent (k:Int) (v:Value) (n:Nat):MapEntry:={key:=.int .i64 k,val:=v,born:=n}
structure Sets (w w':World) (b:Nat) (o:Obj):Prop where
 os:w'.os=w.os
 tape:w'.tape=w.tape
 output:w'.output=w.output
 size:w'.heap.size=w.heap.size
 at_b:w'.heap[b]?=some o
 other:∀j,j≠b→w'.heap[j]?=w.heap[j]?
theorem Sets.below {w w' w0:World} {b B:Nat} {o:Obj} (h:Sets w w' b o) (hb:Below B w0 w) (hB:B≤b):Below B w0 w':=
 ⟨h.os.trans hb.os,h.tape.trans hb.tape,h.output.trans hb.output,by rw[h.size];exact hb.size,λ i hi=>(h.other i (by omega)).trans (hb.block i hi)⟩
theorem X3 {w:World} {b:Nat} {es:Array MapEntry} {clock:Nat} (k:Int) (val:Value) (hb:w.heap[b]?=some (.map es clock)) (hf:Instr.findNow (.int .i64) (.int .i64 k) es.toList 0=some none):
  ∃w',(Instr.mapUpdate 149 (.map (some b)) (.int .i64 k) val).run zf w=.ok () w'∧Sets w w' b (.map (es.push (ent k val clock)) (clock+1)):=by
 have hkey:IsKey (.int .i64) (.int .i64 k):=by simp[IsKey]
 refine⟨{w with heap:=w.heap.setIfInBounds b (.map (es.push (ent k val clock)) (clock+1))},?_,rfl,rfl,rfl,by simp,?_,?_⟩
 ·simp[Instr.mapUpdate,run_underlying GL,MapKept.run_getObj_map hb,MapKept.run_checkKey Ki hkey,MapKept.run_findKey Ki hf,MapKept.run_setObj_map _ hb,Result.andThen,ent]
 ·simp[qd hb]
 ·intro j hj
  simp[Ne.symm hj]
theorem X0 {w:World} {b:Nat} {es:Array MapEntry} {clock:Nat} {k:Int} {i:Nat} {v:Value} (hb:w.heap[b]?=some (.map es clock)) (hf:Instr.findNow (.int .i64) (.int .i64 k) es.toList 0=some (some (i,v))):
  (Instr.lookup 149 (.map (some b)) (.int .i64 k) true).run zf w=.ok (.tuple #[v,.bool true]) w:=by
 have hkey:IsKey (.int .i64) (.int .i64 k):=by simp[IsKey]
 simp[Instr.lookup,run_underlying GL,MapKept.run_getObj_map hb,MapKept.run_checkKey Ki hkey,MapKept.run_findKey Ki hf,Result.andThen]
theorem Mg {w:World} {b:Nat} {es:Array MapEntry} {clock:Nat} {k:Int} (hb:w.heap[b]?=some (.map es clock)) (hf:Instr.findNow (.int .i64) (.int .i64 k) es.toList 0=some none):
  (Instr.lookup 149 (.map (some b)) (.int .i64 k) true).run zf w=.ok (.tuple #[.nilFunc,.bool false]) w:=by
 have hkey:IsKey (.int .i64) (.int .i64 k):=by simp[IsKey]
 have hz:(zeroValue 147).run zf w=.ok .nilFunc w:=zeroValue147 w
 simp[Instr.lookup,run_underlying GL,MapKept.run_getObj_map hb,MapKept.run_checkKey Ki hkey,MapKept.run_findKey Ki hf,Result.andThen,hz]
structure St (w0 w:World) (b:Nat) (es:Array MapEntry) (n:Nat) (p1 q1 p2 q2 p3 q3:Nat) (bs:List (Nat×Nat×Value×Value)):Prop where
 below:Below w0.heap.size w0 w
 base:w0.heap.size≤b
 map:w.heap[b]?=some (.map es n)
 some_:Ql w p1 q1 1 1099511627776
 room:Ql w p2 q2 1 4096
 none_:Ql w p3 q3 0 0
 bears:∀x∈bs,JT w x.1 x.2.1 x.2.2.1 x.2.2.2
theorem KZ {w:World} {p b:Nat} {cs:Array Value} {T:TypeId} {fr:Nat×Nat} {es:Array MapEntry} {n:Nat} (h:w.heap[p]?=some (.cells cs T fr)) (hm:w.heap[b]?=some (.map es n)):p≠b:=λ e=>by
 subst e
 rw[h]at hm
 cases hm
theorem Ql.Od {w w':World} {p q b n:Nat} {x y:Int} {es:Array MapEntry} {o:Obj} (h:Ql w p q x y) (hm:w.heap[b]?=some (.map es n)) (hs:Sets w w' b o):Ql w' p q x y:=
 ⟨(hs.other _ (KZ h.1 hm)).trans h.1,(hs.other _ (KZ h.2 hm)).trans h.2⟩
theorem JT.Od {w w':World} {p q b n:Nat} {x y:Value} {es:Array MapEntry} {o:Obj} (h:JT w p q x y) (hm:w.heap[b]?=some (.map es n)) (hs:Sets w w' b o):JT w' p q x y:=
 ⟨(hs.other _ (KZ h.1 hm)).trans h.1,(hs.other _ (KZ h.2 hm)).trans h.2⟩
section
variable {w0 w w':World} {b n p1 q1 p2 q2 p3 q3:Nat} {es:Array MapEntry} {bs:List (Nat×Nat×Value×Value)}
theorem St.on (h:St w0 w b es n p1 q1 p2 q2 p3 q3 bs) (hb:Below w.heap.size w w'):St w0 w' b es n p1 q1 p2 q2 p3 q3 bs:=
 ⟨seqB h.below hb,h.base,(hb.block _ (qd h.map)).trans h.map,h.some_.on hb,h.room.on hb,h.none_.on hb,λ x hx=>(h.bears x hx).on hb⟩
theorem St.both (h:St w0 w b es n p1 q1 p2 q2 p3 q3 bs) (hb:Below w.heap.size w w') {f g:Nat} {F G:Value} (hbe:JT w' f g F G):St w0 w' b es n p1 q1 p2 q2 p3 q3 ((f,g,F,G)::bs):=
 ⟨(h.on hb).below,h.base,(h.on hb).map,(h.on hb).some_,(h.on hb).room,(h.on hb).none_,λ x hx=>by
  rcases List.mem_cons.1 hx with rfl|hx
  ·exact hbe
  ·exact(h.bears x hx).on hb⟩
theorem St.ins (h:St w0 w b es n p1 q1 p2 q2 p3 q3 bs) {es':Array MapEntry} {n':Nat} (hs:Sets w w' b (.map es' n')):St w0 w' b es' n' p1 q1 p2 q2 p3 q3 bs:=
 ⟨hs.below h.below h.base,h.base,hs.at_b,h.some_.Od h.map hs,h.room.Od h.map hs,h.none_.Od h.map hs,λ x hx=>(h.bears x hx).Od h.map hs⟩
end
def D5:Value:=.func (.func 128) #[] #[]
def FE (w:World) (e:Ending) (w':World):Prop:=∃b p1 q1 p2 q2 p3 q3 f2 g2 f3 g3 f4 g4 f5 g5 f6 g6 f7 g7,e=.returned (.map (some b))∧
 St w w' b #[ent 1 D5 0,ent 2 (Ys f2 g2) 1,ent 3 (Ys f3 g3) 2,ent 4 (Ys f4 g4) 3,ent 5 (Ys f5 g5) 4,ent 6 (Ys f6 g6) 5,ent 7 (Ys f7 g7) 6] 7 p1 q1 p2 q2 p3 q3
  [(f7,g7,XI,ZM p3 q3),(f6,g6,XI,ZM p3 q3),(f5,g5,ZM p1 q1,ZM p3 q3),(f4,g4,ZM p1 q1,ZM p3 q3),(f3,g3,ZM p2 q2,XI),(f2,g2,XI,ZM p2 q2)]
theorem US (w:World):Calls zf 108 #[] w (FE w):=by
 have hmm:=@run_makeMap zf
 have HF:=zd (λ x y W=>Mz x y W)
 go_enter func108,ntmps108
 go_wp2_with fail
 refine(HF.out _ _ _).mono ?_
 rintro e w1 ⟨p1,q1,rfl,hb1,hl1⟩
 have HB1:=zd hb1
 have HL1:=zd hl1
 clear hb1 hl1
 unfold ZM
 go_wp2_with fail
 refine(HF.out _ _ _).mono ?_
 rintro e w2 ⟨p2,q2,rfl,hb2,hl2⟩
 have HB2:=zd (seqB HB1.out hb2)
 have HL2:=zd hl2
 have HL12:=zd (HL1.out.on hb2)
 clear hb2 hl2 HB1 HL1
 unfold ZM
 go_wp2_with fail
 refine(HF.out _ _ _).mono ?_
 rintro e w3 ⟨p3,q3,rfl,hb3,hl3⟩
 have HS0:=zd (show St w (w3.alloc (.map #[] 0)) w3.heap.size #[] 0 p1 q1 p2 q2 p3 q3 []from
  have hm:Below w3.heap.size w3 (w3.alloc (.map #[] 0)):=(zh _ _).alloc (zg _) _
  ⟨seqB (seqB HB2.out hb3) hm,(seqB HB2.out hb3).size,zo w3 _,(HL12.out.on hb3).on hm,(HL2.out.on hb3).on hm,hl3.on hm,λ x hx=>by cases hx⟩)
 obtain⟨x1,hr1,hs1⟩:=X3 1 (.func (.func 128) #[] #[]) HS0.out.map rfl
 have HS1:=zd (HS0.out.ins hs1)
 clear hb3 hl3 HL2 HL12 HB2 hs1 HS0
 unfold ZM
 go_wp2_with fail
 generalize w3.alloc (.map #[] 0)=w4 at*
 generalize w3.heap.size=b at*
 refine(YV _ _ _ _ _).mono ?_
 rintro e y2 ⟨f2,g2,rfl,hb,hbe⟩
 have HT2:=zd (HS1.out.both hb (show JT y2 f2 g2 (XI) (ZM p2 q2)from hbe))
 obtain⟨x2,hr2,hs2⟩:=X3 2 (Ys f2 g2) HT2.out.map (by rfl)
 have HS2:=zd (HT2.out.ins hs2)
 clear hb hbe hs2 HT2 HS1
 go_wp2_with fail
 refine(YV _ _ _ _ _).mono ?_
 rintro e y3 ⟨f3,g3,rfl,hb,hbe⟩
 have HT3:=zd (HS2.out.both hb (show JT y3 f3 g3 (ZM p2 q2) (XI)from hbe))
 obtain⟨x3,hr3,hs3⟩:=X3 3 (Ys f3 g3) HT3.out.map (by rfl)
 have HS3:=zd (HT3.out.ins hs3)
 clear hb hbe hs3 HT3 HS2
 go_wp2_with fail
 refine(YV _ _ _ _ _).mono ?_
 rintro e y4 ⟨f4,g4,rfl,hb,hbe⟩
 have HT4:=zd (HS3.out.both hb (show JT y4 f4 g4 (ZM p1 q1) (ZM p3 q3)from hbe))
 obtain⟨x4,hr4,hs4⟩:=X3 4 (Ys f4 g4) HT4.out.map (by rfl)
 have HS4:=zd (HT4.out.ins hs4)
 clear hb hbe hs4 HT4 HS3
 go_wp2_with fail
 refine(YV _ _ _ _ _).mono ?_
 rintro e y5 ⟨f5,g5,rfl,hb,hbe⟩
 have HT5:=zd (HS4.out.both hb (show JT y5 f5 g5 (ZM p1 q1) (ZM p3 q3)from hbe))
 obtain⟨x5,hr5,hs5⟩:=X3 5 (Ys f5 g5) HT5.out.map (by rfl)
 have HS5:=zd (HT5.out.ins hs5)
 clear hb hbe hs5 HT5 HS4
 go_wp2_with fail
 refine(YV _ _ _ _ _).mono ?_
 rintro e y6 ⟨f6,g6,rfl,hb,hbe⟩
 have HT6:=zd (HS5.out.both hb (show JT y6 f6 g6 (XI) (ZM p3 q3)from hbe))
 obtain⟨x6,hr6,hs6⟩:=X3 6 (Ys f6 g6) HT6.out.map (by rfl)
 have HS6:=zd (HT6.out.ins hs6)
 clear hb hbe hs6 HT6 HS5
 go_wp2_with fail
 refine(YV _ _ _ _ _).mono ?_
 rintro e y7 ⟨f7,g7,rfl,hb,hbe⟩
 have HT7:=zd (HS6.out.both hb (show JT y7 f7 g7 (XI) (ZM p3 q3)from hbe))
 obtain⟨x7,hr7,hs7⟩:=X3 7 (Ys f7 g7) HT7.out.map (by rfl)
 have HS7:=zd (HT7.out.ins hs7)
 clear hb hbe hs7 HT7 HS6
 go_wp2_with fail
 go_ret
 exact⟨b,p1,q1,p2,q2,p3,q3,f2,g2,f3,g3,f4,g4,f5,g5,f6,g6,f7,g7,rfl,HS7.out⟩
end gx
namespace gx
open Go.RowKit Go.MapKept
theorem VK (a:Int):(a==qe a)=decide (0≤a∧a≤1099511627776):=by
 rw[Bool.eq_iff_iff]
 simp only[beq_iff_eq,decide_eq_true_eq]
 constructor
 ·intro h
  rw[h]
  exact qw a
 ·intro h
  exact(Xv a h.1 h.2).symm
theorem Xa (a:Int):(qe a==a)=decide (0≤a∧a≤1099511627776):=by rw[←VK,Bool.eq_iff_iff];simp only[beq_iff_eq];exact⟨Eq.symm,Eq.symm⟩
theorem JY (x y n:Int):Vg x y n=decide (x≤n∧n≤y):=by unfold Vg;rw[Bool.eq_iff_iff];simp
theorem Bn (a b:Int):((a==qe a)&&Vg 0 a b)=Zv 1 a b:=by
 unfold Zv
 rw[VK,Xa,Xa,JY,Bool.eq_iff_iff]
 simp
 omega
theorem Bm (a b:Int):((a==qe a)&&Vg 1 4096 b)=Zv 2 a b:=by
 unfold Zv
 rw[VK,Xa,Xa,JY,Bool.eq_iff_iff]
 simp
 omega
theorem Bl (a b:Int):(Vg 1 4096 a&&(b==qe b))=Zv 3 a b:=by
 unfold Zv
 rw[VK,Xa,Xa,JY,Bool.eq_iff_iff]
 simp
 omega
theorem Bk (a b:Int):(Vg 1 1099511627776 a&&Vg 0 0 b)=Zv 4 a b:=by
 unfold Zv
 rw[Xa,Xa,JY,JY,Bool.eq_iff_iff]
 simp
 omega
theorem Bj (a b:Int):(Vg 1 1099511627776 a&&Vg 0 0 b)=Zv 5 a b:=by
 unfold Zv
 rw[Xa,Xa,JY,JY,Bool.eq_iff_iff]
 simp
 omega
theorem Bi (a b:Int):((a==qe a)&&Vg 0 0 b)=Zv 6 a b:=by
 unfold Zv
 rw[VK,Xa,Xa,JY,Bool.eq_iff_iff]
 simp
 omega
theorem Bh (a b:Int):((a==qe a)&&Vg 0 0 b)=Zv 7 a b:=by
 unfold Zv
 rw[VK,Xa,Xa,JY,Bool.eq_iff_iff]
 simp
 omega
def BO (k:Int) (w:World) (e:Ending) (w':World):Prop:=∃b f g,e=.returned (.map (some b))∧Below w.heap.size w w'∧
 (Instr.lookup 149 (.map (some b)) (.int .i64 k) true).run zf w'=.ok (.tuple #[.func (.func 143) #[] #[.pointer (some ⟨f,0,none⟩),.pointer (some ⟨g,0,none⟩)],.bool true]) w'∧
 ∀x y,Calls zf 143 #[.int .i64 x,.int .i64 y,.pointer (some ⟨f,0,none⟩),.pointer (some ⟨g,0,none⟩)] w' λ e w''=>e=.returned (.bool (Zv k x y))∧w'=w''
def Dk (w:World) (e:Ending) (w':World):Prop:=∃b,e=.returned (.map (some b))∧Below w.heap.size w w'∧
 (Instr.lookup 149 (.map (some b)) (.int .i64 1) true).run zf w'=.ok (.tuple #[.func (.func 128) #[] #[],.bool true]) w'
def FG (k:Int) (w:World) (e:Ending) (w':World):Prop:=∃b,e=.returned (.map (some b))∧Below w.heap.size w w'∧
 (Instr.lookup 149 (.map (some b)) (.int .i64 k) true).run zf w'=.ok (.tuple #[.nilFunc,.bool false]) w'
theorem VH (w:World):One w XI (λ n=>n==qe n):=Or.inl ⟨rfl,rfl⟩
theorem JB {w:World} {p q:Nat} {x y:Int} (h:Ql w p q x y):One w (ZM p q) (Vg x y):=Or.inr ⟨p,q,x,y,rfl,h,rfl⟩
theorem Pr (w:World):Calls zf 108 #[] w (Dk w):=by
 refine(US w).mono ?_
 rintro e w' ⟨b,p1,q1,p2,q2,p3,q3,f2,g2,f3,g3,f4,g4,f5,g5,f6,g6,f7,g7,rfl,h⟩
 exact⟨b,rfl,h.below,X0 h.map (i:=0) (by rfl)⟩
theorem Sg (k:Int) (hk:k<1∨7<k) (w:World):Calls zf 108 #[] w (FG k w):=by
 refine(US w).mono ?_
 rintro e w' ⟨b,p1,q1,p2,q2,p3,q3,f2,g2,f3,g3,f4,g4,f5,g5,f6,g6,f7,g7,rfl,h⟩
 refine⟨b,rfl,h.below,Mg h.map ?_⟩
 have n1:(k==1)=false:=by simp;omega
 have n2:(k==2)=false:=by simp;omega
 have n3:(k==3)=false:=by simp;omega
 have n4:(k==4)=false:=by simp;omega
 have n5:(k==5)=false:=by simp;omega
 have n6:(k==6)=false:=by simp;omega
 have n7:(k==7)=false:=by simp;omega
 simp[ent,Instr.findNow,Instr.sameNow,n1,n2,n3,n4,n5,n6,n7]
theorem Oi (k:Int) (h2:2≤k) (h7:k≤7) (w:World):Calls zf 108 #[] w (BO k w):=by
 refine(US w).mono ?_
 rintro e w' ⟨b,p1,q1,p2,q2,p3,q3,f2,g2,f3,g3,f4,g4,f5,g5,f6,g6,f7,g7,rfl,h⟩
 rcases(show k=2∨k=3∨k=4∨k=5∨k=6∨k=7 by omega)with rfl|rfl|rfl|rfl|rfl|rfl
 ·refine⟨b,f2,g2,rfl,h.below,X0 h.map (i:=1) (by rfl),λ x y=>?_⟩
  rw[←Bm]
  exact JZ x y f2 g2 _ _ _ _ w' (h.bears (f2,g2,XI,ZM p2 q2) (by simp)) (VH w') (JB h.room)
 ·refine⟨b,f3,g3,rfl,h.below,X0 h.map (i:=2) (by rfl),λ x y=>?_⟩
  rw[←Bl]
  exact JZ x y f3 g3 _ _ _ _ w' (h.bears (f3,g3,ZM p2 q2,XI) (by simp)) (JB h.room) (VH w')
 ·refine⟨b,f4,g4,rfl,h.below,X0 h.map (i:=3) (by rfl),λ x y=>?_⟩
  rw[←Bk]
  exact JZ x y f4 g4 _ _ _ _ w' (h.bears (f4,g4,ZM p1 q1,ZM p3 q3) (by simp)) (JB h.some_) (JB h.none_)
 ·refine⟨b,f5,g5,rfl,h.below,X0 h.map (i:=4) (by rfl),λ x y=>?_⟩
  rw[←Bj]
  exact JZ x y f5 g5 _ _ _ _ w' (h.bears (f5,g5,ZM p1 q1,ZM p3 q3) (by simp)) (JB h.some_) (JB h.none_)
 ·refine⟨b,f6,g6,rfl,h.below,X0 h.map (i:=5) (by rfl),λ x y=>?_⟩
  rw[←Bi]
  exact JZ x y f6 g6 _ _ _ _ w' (h.bears (f6,g6,XI,ZM p3 q3) (by simp)) (VH w') (JB h.none_)
 ·refine⟨b,f7,g7,rfl,h.below,X0 h.map (i:=6) (by rfl),λ x y=>?_⟩
  rw[←Bh]
  exact JZ x y f7 g7 _ _ _ _ w' (h.bears (f7,g7,XI,ZM p3 q3) (by simp)) (VH w') (JB h.none_)
end gx
namespace gx
open Go.RowKit
theorem Fx {w w1:World} {g:Nat} {c0 c1 c2 c3 c4 c5:Value} {T:TypeId} {fr:Nat×Nat} (h:w.heap[g]?=some (.cells #[c0,c1,c2,c3,c4,c5] T fr)) (hb:Below w.heap.size w w1):
  w1.cell? ⟨g,0,none⟩=some c0∧w1.cell? ⟨g,1,none⟩=some c1∧w1.cell? ⟨g,2,none⟩=some c2∧w1.cell? ⟨g,3,none⟩=some c3∧w1.cell? ⟨g,4,none⟩=some c4∧w1.cell? ⟨g,5,none⟩=some c5:=by
 have h1:=(hb.block _ (qd h)).trans h
 exact⟨ze _ _ 0 _ _ _ h1,ze _ _ 1 _ _ _ h1,ze _ _ 2 _ _ _ h1,ze _ _ 3 _ _ _ h1,ze _ _ 4 _ _ _ h1,ze _ _ 5 _ _ _ h1⟩
theorem Jr (s:ByteArray) (hs:s.size≤maxLen) (k:Int) (up:Bool) (o a b:Int) (w:World):Calls zf 79 #[.agg #[.string s,.int .i64 k,.bool up,.int .i64 o,.int .i64 a,.int .i64 b]] w (Chk s k o a b w):=by
 unfold Chk
 have HB:=zd (show Below w.heap.size w (w.alloc (.cells #[.string s,.int .i64 k,.bool up,.int .i64 o,.int .i64 a,.int .i64 b] 35))from(zh _ _).alloc (zg _) _)
 have HN:=zd (λ W=>Gg s W hs)
 obtain⟨N,hN⟩:∃N,JC s=N:=⟨_,rfl⟩
 have HV:=zd (show Ye s k o a b=if N=false then 90 else if k<1∨7<k then 91 else if o<0∨100<o∨Zv k a b=false then 92 else 0 by unfold Ye;rw[hN])
 rw[hN]at HN
 clear hN hs
 have HK:=zd (zo w (.cells #[.string s,.int .i64 k,.bool up,.int .i64 o,.int .i64 a,.int .i64 b] 35))
 have HF:=zd (show∀(c:Int),Ye s k o a b=c→Ending.returned (.int .i64 c)=.returned (.int .i64 (Ye s k o a b))fromλ c h=>by rw[h])
 cases N with
 |false=>
  have HV1:=zd (HV.out.trans (if_pos rfl))
  go_enter func79,ntmps79
  go_wp2_with fail
  refine(HN.out _).mono ?_
  rintro e w2 ⟨rfl,hb⟩
  have HE:=zd (seqB HB.out hb)
  clear hb
  go_wp2_with fail
  go_ret
  exact⟨HF.out _ HV1.out,HE.out⟩
 |true=>
  by_cases hk:k<1∨7<k
  ·have HV1:=zd (HV.out.trans (by rw[if_neg (by simp),if_pos hk]:_=(91:Int)))
   have HR:=zd (λ W=>Sg k hk W)
   clear hk
   go_enter func79,ntmps79
   go_wp2_with fail
   generalize w.alloc (.cells #[.string s,.int .i64 k,.bool up,.int .i64 o,.int .i64 a,.int .i64 b] 35)=w1 at*
   refine(HN.out _).mono ?_
   rintro e w2 ⟨rfl,hb⟩
   have HB2:=zd (seqB HB.out hb)
   obtain⟨x0,x1,x2,x3,x4,x5⟩:=Fx HK.out hb
   clear hb
   go_wp2_with fail
   have HCL:=zd (show w2.drew.cell? ⟨w.heap.size,1,none⟩=some (.int .i64 k)from x1)
   have y1:w2.drew.cell? ⟨w.heap.size,1,none⟩=some (.int .i64 k):=x1
   go_region_held (λ W=>W.cell? ⟨w.heap.size,1,none⟩=some (.int .i64 k))
    (first
     |exact HCL.out
     |with_reducible assumption)
    (first
     |(go_at_call 108;(with_reducible refine zr (HR.out _) ?_);rintro e w3 ⟨m,rfl,hb,hl⟩;have HH6:=zd hb;have y1:=(hb.cell (World.block_lt_of_cell? _ _ y1)).trans y1))
   have HE:=zd (seqB HB2.out (seqB (zh _ w2).drew HH6.out))
   go_wp2_with fail
   go_ret
   exact⟨HF.out _ HV1.out,HE.out⟩
  ·have HV1:=zd (HV.out.trans (by rw[if_neg (by simp),if_neg hk]:_=if o<0∨100<o∨Zv k a b=false then(92:Int)else 0))
   by_cases h1:k=1
   ·subst h1
    have HR:=zd (λ W=>Pr W)
    have HP:=zd (λ W=>Ps a b W)
    rw[Bn]at HP
    clear hk HV
    go_enter func79,ntmps79
    go_wp2_with fail
    generalize w.alloc (.cells #[.string s,.int .i64 1,.bool up,.int .i64 o,.int .i64 a,.int .i64 b] 35)=w1 at*
    refine(HN.out _).mono ?_
    rintro e w2 ⟨rfl,hb⟩
    have HB2:=zd (seqB HB.out hb)
    obtain⟨x0,x1,x2,x3,x4,x5⟩:=Fx HK.out hb
    have HK2:=zd ((hb.block _ (qd HK.out)).trans HK.out)
    clear hb
    go_wp2_with fail
    have HCL:=zd (show w2.drew.cell? ⟨w.heap.size,1,none⟩=some (.int .i64 1)from x1)
    have y1:w2.drew.cell? ⟨w.heap.size,1,none⟩=some (.int .i64 1):=x1
    go_region_held (λ W=>W.cell? ⟨w.heap.size,1,none⟩=some (.int .i64 1))
     (first
      |exact HCL.out
      |with_reducible assumption)
     (first
      |(go_at_call 108;(with_reducible refine zr (HR.out _) ?_);rintro e w3 ⟨m,rfl,hb,hl⟩;have HH6:=zd hb;have y1:=(hb.cell (World.block_lt_of_cell? _ _ y1)).trans y1))
    have HE:=zd (seqB HB2.out (seqB (zh _ w2).drew HH6.out))
    have HK3:=zd ((HH6.out.block _ (qd (w:=w2.drew) HK2.out)).trans HK2.out)
    obtain⟨z0,z1,z2,z3,z4,z5⟩:=Fx HK3.out (zh _ _)
    clear y1
    by_cases o1:o<0
    ·have HV2:=zd (HV1.out.trans (if_pos (Or.inl o1)))
     have o2:decide (o<0)=true:=decide_eq_true o1
     go_wp2_with fail
     go_ret
     exact⟨HF.out _ HV2.out,HE.out⟩
    have o2:decide (o<0)=false:=decide_eq_false o1
    by_cases o3:100<o
    ·have HV2:=zd (HV1.out.trans (if_pos (Or.inr (Or.inl o3))))
     have o4:decide (100<o)=true:=decide_eq_true o3
     go_wp2_with fail
     go_ret
     exact⟨HF.out _ HV2.out,HE.out⟩
    have o4:decide (100<o)=false:=decide_eq_false o3
    cases hP:Zv 1 a b with
    |false=>
     have HV2:=zd (HV1.out.trans (if_pos (Or.inr (Or.inr hP))))
     rw[hP]at HP
     go_wp2_with fail
     refine(HP.out _).mono ?_
     rintro e w4 ⟨rfl,hb4⟩
     have HE4:=zd (seqB HE.out hb4)
     clear hb4
     go_wp2_with fail
     go_ret
     exact⟨HF.out _ HV2.out,HE4.out⟩
    |true=>
     have HV2:=zd (HV1.out.trans (if_neg (λ h=>by rcases h with h|h|h;exact o1 h;exact o3 h;rw[hP]at h;cases h)))
     rw[hP]at HP
     go_wp2_with fail
     refine(HP.out _).mono ?_
     rintro e w4 ⟨rfl,hb4⟩
     have HE4:=zd (seqB HE.out hb4)
     clear hb4
     go_wp2_with fail
     go_ret
     exact⟨HF.out _ HV2.out,HE4.out⟩
   ·have HR:=zd (λ W=>Oi k (by omega) (by omega) W)
    clear hk HV h1
    go_enter func79,ntmps79
    go_wp2_with fail
    generalize w.alloc (.cells #[.string s,.int .i64 k,.bool up,.int .i64 o,.int .i64 a,.int .i64 b] 35)=w1 at*
    refine(HN.out _).mono ?_
    rintro e w2 ⟨rfl,hb⟩
    have HB2:=zd (seqB HB.out hb)
    obtain⟨x0,x1,x2,x3,x4,x5⟩:=Fx HK.out hb
    have HK2:=zd ((hb.block _ (qd HK.out)).trans HK.out)
    clear hb
    go_wp2_with fail
    have HCL:=zd (show w2.drew.cell? ⟨w.heap.size,1,none⟩=some (.int .i64 k)from x1)
    have y1:w2.drew.cell? ⟨w.heap.size,1,none⟩=some (.int .i64 k):=x1
    go_region_held (λ W=>W.cell? ⟨w.heap.size,1,none⟩=some (.int .i64 k))
     (first
      |exact HCL.out
      |with_reducible assumption)
     (first
      |(go_at_call 108;(with_reducible refine zr (HR.out _) ?_);rintro e w3 ⟨m,f,g,rfl,hb,hl,hc⟩;have HH6:=zd hb;have y1:=(hb.cell (World.block_lt_of_cell? _ _ y1)).trans y1))
    have HE:=zd (seqB HB2.out (seqB (zh _ w2).drew HH6.out))
    have HK3:=zd ((HH6.out.block _ (qd (w:=w2.drew) HK2.out)).trans HK2.out)
    obtain⟨z0,z1,z2,z3,z4,z5⟩:=Fx HK3.out (zh _ _)
    clear y1
    by_cases o1:o<0
    ·have HV2:=zd (HV1.out.trans (if_pos (Or.inl o1)))
     have o2:decide (o<0)=true:=decide_eq_true o1
     go_wp2_with fail
     go_ret
     exact⟨HF.out _ HV2.out,HE.out⟩
    have o2:decide (o<0)=false:=decide_eq_false o1
    by_cases o3:100<o
    ·have HV2:=zd (HV1.out.trans (if_pos (Or.inr (Or.inl o3))))
     have o4:decide (100<o)=true:=decide_eq_true o3
     go_wp2_with fail
     go_ret
     exact⟨HF.out _ HV2.out,HE.out⟩
    have o4:decide (100<o)=false:=decide_eq_false o3
    have HP:=zd (hc a b)
    clear hc
    cases hP:Zv k a b with
    |false=>
     have HV2:=zd (HV1.out.trans (if_pos (Or.inr (Or.inr hP))))
     rw[hP]at HP
     go_wp2_with fail
     refine HP.out.mono ?_
     rintro e w4 ⟨rfl,rfl⟩
     go_wp2_with fail
     go_ret
     exact⟨HF.out _ HV2.out,HE.out⟩
    |true=>
     have HV2:=zd (HV1.out.trans (if_neg (λ h=>by rcases h with h|h|h;exact o1 h;exact o3 h;rw[hP]at h;cases h)))
     rw[hP]at HP
     go_wp2_with fail
     refine HP.out.mono ?_
     rintro e w4 ⟨rfl,rfl⟩
     go_wp2_with fail
     go_ret
     exact⟨HF.out _ HV2.out,HE.out⟩
end gx
end Go.Proofs.YtfdfgnmgpgkknaaGreat
