import Derived.Test.YtfdfgnmgpgkknaaGreatMG33
import Derived.Test.YtfdfgnmgpgkknaaGreatMG34
import Derived.Test.YtfdfgnmgpgkknaaGreatMG39
import Derived.Deep.MidRow
import Derived.Deep.Upon
set_option maxRecDepth 100000
set_option maxHeartbeats 8000000
open List renaming take_succ_cons→zx,length_take→zw,getElem?_eq_getElem→zj,getD_eq_getElem?_getD→zi,setIfInBounds_toArray→zm,set_cons_zero→zq,set_cons_succ→zp
open Go.Proofs.Tryz renaming prog→zf
open Nat renaming le_refl→zg
open Go renaming heap_alloc_new→zo,cell_of_row→ze,bodyPost_ret→zk,wpAnyH_take→zu
open Go.RowKit.Below renaming refl→zh,heap_setCell→zn,trans→zz
open Go.Lib renaming hid→zd
open Go.Calls renaming mono→zr
open Go.Proofs.Tryz
namespace Go.Proofs.YtfdfgnmgpgkknaaGreat
section
open Go.RowKit
section
variable {α β:Type} {f:α→List β} {K:Nat}
theorem NR (hf:∀a,(f a).length=K) (l:List α) (k:Nat):(l.take k).flatMap f=(l.flatMap f).take (k*K):=by
 induction l generalizing k with
 |nil=>simp
 |cons a r ih=>
  cases k with
  |zero=>simp
  |succ k=>rw[zx,List.flatMap_cons,List.flatMap_cons,ih,List.take_append,hf,List.take_of_length_le (l:=f a) (i:=(k+1)*K) (by rw[hf,Nat.add_mul];omega),show(k+1)*K -K=k*K by rw[Nat.add_mul];omega]
theorem NS (hf:∀a,(f a).length=K) (l:List α) (k:Nat):(l.drop k).flatMap f=(l.flatMap f).drop (k*K):=by
 induction l generalizing k with
 |nil=>simp
 |cons a r ih=>
  cases k with
  |zero=>simp
  |succ k=>rw[List.drop_succ_cons,List.flatMap_cons,ih,List.drop_append,hf,List.drop_of_length_le (l:=f a) (i:=(k+1)*K) (by rw[hf,Nat.add_mul];omega),List.nil_append,show(k+1)*K -K=k*K by rw[Nat.add_mul];omega]
theorem Td (hf:∀a,(f a).length=K) (l:List α) (k j:Nat) (hk:k<l.length) (hj:j<K):(l.flatMap f)[k*K+j]?=(f l[k])[j]?:=by
 induction l generalizing k with
 |nil=>cases hk
 |cons a r ih=>
  rw[List.flatMap_cons]
  cases k with
  |zero=>rw[Nat.zero_mul,Nat.zero_add,List.getElem?_append_left (by rw[hf];exact hj)];rfl
  |succ k=>
   have hk:k<r.length:=by simpa using hk
   rw[show(k+1)*K+j=K+(k*K+j) by rw[Nat.add_mul];omega,List.getElem?_append_right (by rw[hf];omega),hf,show K+(k*K+j) -K=k*K+j by omega,ih k hk]
   rfl
theorem BC (hf:∀a,(f a).length=K) (l:List α) (k:Nat) (z:α) (hk:k<l.length):(l.set k z).flatMap f=(l.flatMap f).take (k*K)++f z++(l.flatMap f).drop ((k+1)*K):=by
 rw[←NR hf,←NS hf,List.set_eq_take_append_cons_drop,if_pos hk,List.flatMap_append,List.flatMap_cons,List.append_assoc]
end
theorem VT (b:Nat) (T:TypeId) (fr:Nat×Nat):∀(vs:List Value) (o:Nat) (w:World) (cur:Array Value),w.heap[b]?=some (.cells cur T fr)→o+vs.length≤cur.size→
  ∃cur',(w.setCells b o vs).heap[b]?=some (.cells cur' T fr)∧cur'.size=cur.size∧∀j,cur'[j]?=if o≤j∧j<o+vs.length then vs[j -o]? else cur[j]?
 |[],o,w,cur,h,_=>⟨cur,h,rfl,λ j=>by rw[if_neg (by simp)]⟩
 |v::vs,o,w,cur,h,hl=>by
  simp only[List.length_cons]at hl
  obtain⟨cur',h1,h2,h3⟩:=VT b T fr vs (o+1) (w.setCell ⟨b,o,none⟩ v) (cur.setIfInBounds o v) (gb.qo h v) (by rw[Array.size_setIfInBounds];omega)
  refine⟨cur',h1,by rw[h2,Array.size_setIfInBounds],λ j=>?_⟩
  rw[h3 j,List.length_cons]
  by_cases e:o=j
  ·subst e
   rw[if_neg (by omega),if_pos (by omega),Nat.sub_self,Array.getElem?_setIfInBounds,if_pos rfl,if_pos (by omega)]
   rfl
  ·by_cases e2:o+1≤j∧j<o+1+vs.length
   ·rw[if_pos e2,if_pos (by omega),show j -o=(j -(o+1))+1 by omega]
    rfl
   ·rw[if_neg e2,if_neg (by omega),Array.getElem?_setIfInBounds,if_neg e]
section
variable {w w':World} {base T K n c:Nat} {zs:List Value}
theorem jF {b o:Nat} (h:gc.ORow w base T K (some ⟨b,o,none⟩) n c zs) (k:Nat) (hk:k<n) (vs:List Value) (hv:vs.length=K):
  gc.ORow (w.setCells b (o+k*K) vs) base T K (some ⟨b,o,none⟩) n c (zs.take (k*K)++vs++zs.drop ((k+1)*K)):=by
 have hkn:(k+1)*K≤n*K:=Nat.mul_le_mul_right K hk
 have hk1:(k+1)*K=k*K+K:=by rw[Nat.add_mul,Nat.one_mul]
 have hcc:n*K≤c*K:=Nat.mul_le_mul_right K h.cap
 have hl:=h.len
 refine⟨by rw[List.length_append,List.length_append,zw,List.length_drop,hv,hl];omega,h.cap,h.max,(λ e=>by cases e),λ a e=>?_⟩
 cases e
 obtain⟨b',o',cur,e,hb,hh,hs,hz⟩:=h.som _ rfl
 cases e
 obtain⟨cur',h1,h2,h3⟩:=VT b T (0,0) vs (o+k*K) w cur hh (by rw[hv];omega)
 refine⟨b,o,cur',rfl,hb,h1,by rw[h2];exact hs,λ j v hj=>?_⟩
 rw[h3,hv]
 rw[List.append_assoc]at hj
 by_cases e1:j<k*K
 ·rw[if_neg (by omega)]
  rw[List.getElem?_append_left (by rw[zw,hl];omega),List.getElem?_take,if_pos e1]at hj
  exact hz j v hj
 ·rw[List.getElem?_append_right (by rw[zw,hl];omega),zw,hl,Nat.min_eq_left (by omega)]at hj
  by_cases e2:j -k*K<K
  ·rw[if_pos (by omega),show o+j -(o+k*K)=j -k*K by omega]
   rw[List.getElem?_append_left (by rw[hv];exact e2)]at hj
   exact hj
  ·rw[if_neg (by omega)]
   rw[List.getElem?_append_right (by rw[hv];omega),hv,List.getElem?_drop,show(k+1)*K+(j -k*K -K)=j by omega]at hj
   exact hz j v hj
theorem V5 {b o:Nat} (h:gc.ORow w base T K (some ⟨b,o,none⟩) n c zs) (k:Nat) (vs:List Value) (hv:∀j v,vs[j]?=some v→zs[k+j]?=some v):w.rangeAt b (o+k) vs:=λ j v hj=>by
 obtain⟨b',o',cur,e,hb,hh,hs,hz⟩:=h.som _ rfl
 cases e
 have:=hz (k+j) v (hv j v hj)
 rw[Nat.add_assoc]
 simp only[World.cell?,hh]
 exact this
theorem SB {b o:Nat} (h:gc.ORow w base T K (some ⟨b,o,none⟩) n c zs) (k:Nat) (hk:k<n):w.there b (o+k*K) K:=λ j hj=>by
 obtain⟨b',o',cur,e,hb,hh,hs,hz⟩:=h.som _ rfl
 cases e
 have hkn:(k+1)*K≤n*K:=Nat.mul_le_mul_right K hk
 have hk1:(k+1)*K=k*K+K:=by rw[Nat.add_mul,Nat.one_mul]
 have hcc:n*K≤c*K:=Nat.mul_le_mul_right K h.cap
 refine⟨?_,gb.qa hh⟩
 simp only[World.cell?,hh]
 have:o+k*K+j<cur.size:=by omega
 simp[Array.getElem?_eq_getElem this]
end
structure Pc where
 p:Option Addr
 n:Nat
 c:Nat
 x:Prt
def pC (z:Pc):Array Value:=(rC z.p z.n z.c z.x.s).push (.bool z.x.closed)
def pL (z:Pc):List Value:=(pC z).toList
theorem J9 (z:Pc):(pL z).length=23:=by simp[pL,pC,rC]
def ZB (l:List Pc):List Value:=l.flatMap pL
def kC (p:Option Addr) (n c:Nat) (k:Ch):Array Value:=#[.slice p n c,.int .i64 k.room,.int .i64 k.lost,.bool k.shut,.int .i64 k.state]
structure DAt (w:World) (p:Option Addr) (n c:Nat) (k:Ch) (l:List Pc):Prop where
 row:gc.ORow w 0 72 23 p n c (ZB l)
 len:l.length=n
 is:l.map (·.x)=k.L
 rows:∀z∈l,gc.qQ w z.p z.n z.c z.x.s.A∧z.x.s.S.size=z.n
end
section
open Go.RowKit
def KAt (w:World) (q:Nat) (z:Pc):Prop:=w.heap[q]?=some (.cells (pC z) 72 (0,0))
def Dy (v:Value):Sem Value:=Instr.loadAt 72 v
def L5 (v x:Value):Sem Unit:=Instr.storeAt 72 v x
theorem Jb (v:Value):Instr.loadAt 72 v=Dy v:=rfl
theorem XP (v x:Value):Instr.storeAt 72 v x=L5 v x:=rfl
theorem Uk (z:Pc):(pC z).size=23:=by simp[pC,rC]
theorem Sy (z:Pc):(pC z).all (·.oneCell')=true:=by simp[pC,rC,Value.oneCell']
theorem jN {w:World} {b o:Nat} {z:Pc} (h:w.rangeAt b o (pL z)):(Dy (.pointer (some ⟨b,o,none⟩))).run zf w=.ok (.agg (pC z)) w:=by
 have:=run_loadAt_mid (P:=zf) w b o 72 (pL z) _ h underlying72 rfl (by rw[J9];kernel_rfl)
 exact this
theorem Se {w:World} {b o:Nat} {z:Pc} (h:w.there b o 23):(L5 (.pointer (some ⟨b,o,none⟩)) (.agg (pC z))).run zf w=.ok () (w.setCells b o (pL z)):=by
 have:=run_storeAt_mid (P:=zf) w b o 72 (pC z) (by rw[Uk];exact h) (by rw[Uk];kernel_rfl) (Sy z)
 exact this
attribute [local go_sem ↓] Jb XP
section
variable {w w':World} {p:Option Addr} {n c:Nat} {k:Ch} {l:List Pc}
theorem Ap:(Tryz.prog.info? 72).map (λ i=>(i.zero.map (·.cells.size),i.size,decide (i.bytes≤1000)))=some (some 23,23,true):=by kernel_rfl
theorem J0 {w0 w:World} {base n0 c0 m d:Nat} {p0 q:Option Addr} {l0 l1:List Pc} (ho:gc.ORow w base 72 23 p0 n0 c0 (ZB l0)) (hb:Below base w0 w) (hbase:base≤w.heap.size) (hr:gc.ORow w 0 72 23 q m d (ZB l1)) (hm:0<m) (hmax:n0+m≤100):
  ∃q' d' w',(∀ty,(Builtin.append_ #[29,29] ty #[.slice p0 n0 c0,.slice q m d]).run zf w=.ok (.slice q' (n0+m) d') w')∧gc.ORow w' base 72 23 q' (n0+m) d' (ZB (l0++l1))∧Below base w0 w'∧(∀i,i<w.heap.size→(∀a,p0=some a→a.block≠i)→w'.heap[i]?=w.heap[i]?)∧w.heap.size≤w'.heap.size:=by
 obtain⟨b,o,rfl,hz⟩:=hr.at hm
 have hi:=Ap
 cases hq:Tryz.prog.info? 72 with
 |none=>rw[hq]at hi;cases hi
 |some i0=>
  rw[hq]at hi
  simp only[Option.map_some,Option.some.injEq,Prod.mk.injEq]at hi
  obtain⟨hz0,hz1,hz2⟩:=hi
  have hz2:=of_decide_eq_true hz2
  obtain⟨z,hzz,hz3⟩:∃z,i0.zero=some z∧z.cells.size=23:=by
   cases hx:i0.zero with
   |none=>rw[hx]at hz0;cases hz0
   |some z=>rw[hx]at hz0;exact⟨z,rfl,by simpa using hz0⟩
  obtain⟨q',d',w',h1,h2,h3,h4⟩:=gc.Yu (t:=29) ho hbase underlying29 hq hzz hz1 rfl hz3 (by decide) (a:=⟨b,o,none⟩) (m:=m) (d:=d) (news:=ZB l1) hr.len (λ j u hj=>by rw[WideShapes.add_plain];exact hz j u hj) (λ u hu=>by
   obtain⟨x,_,hx⟩:=List.mem_flatMap.1 hu
   exact Array.all_eq_true_iff_forall_mem.1 (Sy x) u (by simpa[pL]using hx)) (by unfold maxLen;omega) (by have:=Nat.mul_le_mul hmax hz2;omega)
  rw[show ZB l0++ZB l1=ZB (l0++l1) by unfold ZB;rw[List.flatMap_append]]at h2
  refine⟨q',d',w',h1,h2,hb.grown h3 hbase (λ j hj=>?_),λ i hi hne=>h3.block i hi (λ e=>?_),h3.size⟩
  ·cases p0 with
   |none=>cases hj
   |some a=>
    have hj:some a.block=some j:=hj
    cases hj
    exact(ho.lt a rfl).1
  ·cases p0 with
   |none=>cases e
   |some a=>
    have e:some i=some a.block:=e
    cases e
    exact hne a rfl rfl
theorem Vd {B b:Nat} {a:World} (hb:B≤b):∀(vs:List Value) (o:Nat) (w:World),Below B a w→Below B a (w.setCells b o vs)
 |[],_,_,h=>h
 |v::vs,o,_,h=>Vd hb vs (o+1) _ (h.setCell (p:=⟨b,o,none⟩) hb v)
theorem Q6 (w:World):gc.ORow (w.alloc (.cells #[] 72)) w.heap.size 72 23 (some ⟨w.heap.size,0,none⟩) 0 0 (ZB []):=
 ⟨rfl,zg _,Nat.zero_le _,(λ e=>by cases e),λ a e=>by
  cases e
  exact⟨w.heap.size,0,#[],rfl,zg _,zo w _,zg _,(λ j v hj=>by cases hj)⟩⟩
theorem DAt.on (h:DAt w p n c k l) (hb:Below w.heap.size w w'):DAt w' p n c k l:=⟨h.row.on hb,h.len,h.is,λ z hz=>⟨gc.Zc (h.rows z hz).1 hb,(h.rows z hz).2⟩⟩
theorem K9 (w:World) (o0 o1 o2:Obj):(((w.alloc o0).alloc o1).alloc o2).heap[w.heap.size]?=some o0∧(((w.alloc o0).alloc o1).alloc o2).heap[w.heap.size+1]?=some o1∧(((w.alloc o0).alloc o1).alloc o2).heap[w.heap.size+2]?=some o2:=by
 have s1:(w.alloc o0).heap.size=w.heap.size+1:=by simp
 have s2:((w.alloc o0).alloc o1).heap.size=w.heap.size+2:=by simp
 have b1:Below (w.alloc o0).heap.size (w.alloc o0) ((w.alloc o0).alloc o1):=(zh _ _).alloc (zg _) _
 have b2:Below ((w.alloc o0).alloc o1).heap.size ((w.alloc o0).alloc o1) (((w.alloc o0).alloc o1).alloc o2):=(zh _ _).alloc (zg _) _
 have h0:=zo w o0
 have h1:=zo (w.alloc o0) o1
 have h2:=zo ((w.alloc o0).alloc o1) o2
 rw[s1]at h1
 rw[s2]at h2
 exact⟨(b2.block _ (by omega)).trans ((b1.block _ (by omega)).trans h0),(b2.block _ (by omega)).trans h1,h2⟩
theorem MS (w:World) (p:Option Addr) (n c:Nat) (k:Ch) (z:Pc):∃W,((w.alloc (.cells #[.slice p n c,.int .i64 k.room,.int .i64 k.lost,.bool k.shut,.int .i64 k.state] 31)).alloc (.cells (pC z) 72)).alloc (.cells #[.slice none 0 0,.int .i64 0,.int .i64 0,.bool false,.int .i64 0] 31)=W∧Below w.heap.size w W∧W.heap.size=w.heap.size+3∧
  W.heap[w.heap.size]?=some (.cells #[.slice p n c,.int .i64 k.room,.int .i64 k.lost,.bool k.shut,.int .i64 k.state] 31 (0,0))∧KAt W (w.heap.size+1) z∧W.heap[w.heap.size+2]?=some (.cells #[.slice none 0 0,.int .i64 0,.int .i64 0,.bool false,.int .i64 0] 31 (0,0)):=by
 obtain⟨h0,h1,h2⟩:=K9 w (.cells #[.slice p n c,.int .i64 k.room,.int .i64 k.lost,.bool k.shut,.int .i64 k.state] 31) (.cells (pC z) 72) (.cells #[.slice none 0 0,.int .i64 0,.int .i64 0,.bool false,.int .i64 0] 31)
 exact⟨_,rfl,(((zh _ _).alloc (zg _) _).alloc (by simp) _).alloc (by simp;omega) _,by simp,h0,h1,h2⟩
def jc (w:World) (g:Nat) (a b c d e:Value):World:=((((w.setCell ⟨g,0,none⟩ a).setCell ⟨g,1,none⟩ b).setCell ⟨g,2,none⟩ c).setCell ⟨g,3,none⟩ d).setCell ⟨g,4,none⟩ e
theorem SR {w:World} {g:Nat} {v0 v1 v2 v3 v4:Value} {T:TypeId} {fr:Nat×Nat} (hg:w.heap[g]?=some (.cells #[v0,v1,v2,v3,v4] T fr)) (a b c d e:Value):(jc w g a b c d e).heap[g]?=some (.cells #[a,b,c,d,e] T fr):=
 gb.qo (i:=4) (gb.qo (i:=3) (gb.qo (i:=2) (gb.qo (i:=1) (gb.qo (i:=0) hg a) b) c) d) e
theorem Mm (w:World) {g i:Nat} (h:i≠g) (a b c d e:Value):(jc w g a b c d e).heap[i]?=w.heap[i]?:=by
 unfold jc
 rw[zn _ _ _ _ h,zn _ _ _ _ h,zn _ _ _ _ h,zn _ _ _ _ h,zn _ _ _ _ h]
theorem Mn {B g:Nat} {w0 w:World} (h:Below B w0 w) (hg:B≤g) (a b c d e:Value):Below B w0 (jc w g a b c d e):=
 ((((h.setCell (p:=⟨g,0,none⟩) hg a).setCell (p:=⟨g,1,none⟩) hg b).setCell (p:=⟨g,2,none⟩) hg c).setCell (p:=⟨g,3,none⟩) hg d).setCell (p:=⟨g,4,none⟩) hg e
theorem Tp (h:DAt w p n c k l) (i:Nat) (hi:i<n) (hn:n≤20) (z:Pc) (hz:gc.qQ w z.p z.n z.c z.x.s.A∧z.x.s.S.size=z.n):Calls zf 55 #[.agg (kC p n c k),.int .i64 (i:Int),.agg (pC z)] w λ e w'=>∃p' c',e=.returned (.agg (kC p' n c' {k with L:=k.L.set i z.x}))∧DAt w' p' n c' {k with L:=k.L.set i z.x} (l.set i z)∧Below w.heap.size w w':=by
 obtain⟨W,hW,hb0,hs0,hk0,hk1,hk2⟩:=MS w p n c k z
 obtain⟨q',d',w1,happ,ho1,hb1,hf1,hsz1⟩:=J0 (w0:=W) (w:=W.alloc (.cells #[] 72)) (Q6 W) ((zh _ _).alloc (zg _) _) (by simp) ((h.row.on hb0).on ((zh _ _).alloc (zg _) _)) (by omega) (by omega)
 rw[Nat.zero_add,List.nil_append]at ho1
 simp only[Nat.zero_add]at happ
 have HAP:=zd happ
 have k0:=(hb1.block _ (gb.qd hk0)).trans hk0
 have k1:=(hb1.block _ (gb.qd hk1)).trans hk1
 have k2:=(hb1.block _ (gb.qd hk2)).trans hk2
 obtain⟨b,o,rfl,_⟩:=ho1.at (by omega)
 have hbb:=(ho1.lt _ rfl).1
 have hbb:W.heap.size≤b:=hbb
 have HL:=zd (jN (w:=w1) (b:=w.heap.size+1) (o:=0) (z:=z) (λ j v hj=>by
  rw[Nat.zero_add]
  simp only[World.cell?,k1]
  simpa[pL]using hj))
 have hth:=SB ho1 i hi
 have HS:=zd (Se (z:=z) hth)
 have hset:=jF ho1 i hi (pL z) (J9 z)
 have hll:i<l.length:=by rw[h.len];exact hi
 rw[show(ZB l).take (i*23)++pL z++(ZB l).drop ((i+1)*23)=ZB (l.set i z)from(BC J9 l i z hll).symm]at hset
 have ho:=λ j (hj:j<w1.heap.size) (hne:j≠b)=>World.heap_setCells_other w1 b (o+i*23) (pL z) hj hne
 have hb2:Below W.heap.size w1 (w1.setCells b (o+i*23) (pL z)):=Vd hbb _ _ _ (zh _ _)
 obtain⟨W2,hW2⟩:∃W2,w1.setCells b (o+i*23) (pL z)=W2:=⟨_,rfl⟩
 rw[hW2]at HS hset ho hb2
 have j0:=(ho _ (gb.qd k0) (by omega)).trans k0
 have j2:=(ho _ (gb.qd k2) (by omega)).trans k2
 have HB2:=zd (gb.seqB hb0 ((hb1.trans (hb2.mono (zg _))).mono (by omega)))
 have hix:decide ((i:Int)<(n:Int))=true:=decide_eq_true (by omega)
 have HSET:=zd hset
 have HJ0:=zd j0
 have HJ2:=zd j2
 have x0:W.cell? ⟨w.heap.size,0,none⟩=some (.slice p n c):=ze _ _ 0 _ _ _ hk0
 have HK:=zd (show∀y∈l.set i z,∀W',Below w.heap.size w W'→gc.qQ W' y.p y.n y.c y.x.s.A∧y.x.s.S.size=y.n fromλ y hy W' hbw=>by
  rcases List.mem_or_eq_of_mem_set hy with e|e
  ·exact⟨gc.Zc (h.rows y e).1 hbw,(h.rows y e).2⟩
  ·rw[e];exact⟨gc.Zc hz.1 hbw,hz.2⟩)
 have HIS:=zd (show(l.set i z).map (·.x)=k.L.set i z.x from by rw[List.map_set,h.is])
 have HLN:=zd (show(l.set i z).length=n from by rw[List.length_set];exact h.len)
 have hsW:w.heap.size<W.heap.size:=gb.qd hk0
 clear happ hb1 hf1 hsz1 ho1 hth hset ho hb2 k0 k1 k2 hk0 hk1 hk2 hb0 hs0 j0 j2 hll hW2 hbb h hz
 unfold kC
 go_enter func55,ntmps55
 go_wp2_with (at_builtin;refine Lib.wpList_append_run _ rfl _ _ _ _ rfl (.slice (some ⟨W.heap.size,0,none⟩) 0 0) (.slice p n c) rfl rfl _ _ (HAP.out _) ?_)
 simp only[HL.out,Result.andThen_ok]
 have y1:W2.cell? ⟨w.heap.size,1,none⟩=some (.int .i64 k.room):=ze _ _ 1 _ _ _ HJ0.out
 have y2:W2.cell? ⟨w.heap.size,2,none⟩=some (.int .i64 k.lost):=ze _ _ 2 _ _ _ HJ0.out
 have y3:W2.cell? ⟨w.heap.size,3,none⟩=some (.bool k.shut):=ze _ _ 3 _ _ _ HJ0.out
 have y4:W2.cell? ⟨w.heap.size,4,none⟩=some (.int .i64 k.state):=ze _ _ 4 _ _ _ HJ0.out
 have y0:W2.cell? ⟨w.heap.size,0,none⟩=some (.slice p n c):=ze _ _ 0 _ _ _ HJ0.out
 have f0:W2.frozen? ⟨w.heap.size,0,none⟩=false:=gb.qa HJ0.out
 have r0:W2.cell? ⟨w.heap.size+2,0,none⟩=some (.slice none 0 0):=ze _ _ 0 _ _ _ HJ2.out
 have r1:W2.cell? ⟨w.heap.size+2,1,none⟩=some (.int .i64 0):=ze _ _ 1 _ _ _ HJ2.out
 have r2:W2.cell? ⟨w.heap.size+2,2,none⟩=some (.int .i64 0):=ze _ _ 2 _ _ _ HJ2.out
 have r3:W2.cell? ⟨w.heap.size+2,3,none⟩=some (.bool false):=ze _ _ 3 _ _ _ HJ2.out
 have r4:W2.cell? ⟨w.heap.size+2,4,none⟩=some (.int .i64 0):=ze _ _ 4 _ _ _ HJ2.out
 have e0:W2.frozen? ⟨w.heap.size+2,0,none⟩=false:=gb.qa HJ2.out
 have e1:W2.frozen? ⟨w.heap.size+2,1,none⟩=false:=gb.qa HJ2.out
 have e2:W2.frozen? ⟨w.heap.size+2,2,none⟩=false:=gb.qa HJ2.out
 have e3:W2.frozen? ⟨w.heap.size+2,3,none⟩=false:=gb.qa HJ2.out
 have e4:W2.frozen? ⟨w.heap.size+2,4,none⟩=false:=gb.qa HJ2.out
 have hlt2:=gb.qd HJ2.out
 go_wp2_with (simp only[HS.out])
 obtain⟨W3,hW3⟩:∃W3,W2.setCell ⟨w.heap.size,0,none⟩ (.slice (some ⟨b,o,none⟩) n d')=W3:=⟨_,rfl⟩
 have h32:W3.heap[w.heap.size+2]?=some (.cells #[.slice none 0 0,.int .i64 0,.int .i64 0,.bool false,.int .i64 0] 31 (0,0)):=by
  rw[←hW3,zn _ _ _ _ (show w.heap.size+2≠w.heap.size by omega)]
  exact HJ2.out
 have hset3:gc.ORow W3 W.heap.size 72 23 (some ⟨b,o,none⟩) n d' (ZB (l.set i z)):=by
  rw[←hW3]
  exact HSET.out.set HJ0.out (by decide) 0 _
 have hb3:Below w.heap.size w W3:=by
  rw[←hW3]
  exact HB2.out.setCell (p:=⟨w.heap.size,0,none⟩) (zg _) _
 rw[hW3]
 have h4:=SR (g:=w.heap.size+1+1) h32 (.slice (some ⟨b,o,none⟩) n d') (.int .i64 k.room) (.int .i64 k.lost) (.bool k.shut) (.int .i64 k.state)
 have hb4:=Mn hb3 (show w.heap.size≤w.heap.size+1+1 by omega) (.slice (some ⟨b,o,none⟩) n d') (.int .i64 k.room) (.int .i64 k.lost) (.bool k.shut) (.int .i64 k.state)
 have hr4:=hset3.keep (w':=jc W3 (w.heap.size+1+1) (.slice (some ⟨b,o,none⟩) n d') (.int .i64 k.room) (.int .i64 k.lost) (.bool k.shut) (.int .i64 k.state)) (λ a e=>Mm W3 (λ eb=>by
  obtain⟨cur,ht⟩:=hset3.typed a e
  rw[eb,h32]at ht
  injection ht with ht
  injection ht with _ ht
  exact absurd ht (by decide)) _ _ _ _ _)
 obtain⟨W4,hW4⟩:∃W4,jc W3 (w.heap.size+1+1) (.slice (some ⟨b,o,none⟩) n d') (.int .i64 k.room) (.int .i64 k.lost) (.bool k.shut) (.int .i64 k.state)=W4:=⟨_,rfl⟩
 rw[hW4]at h4 hb4 hr4
 unfold jc at hW4
 rw[hW4]
 have z0:=ze W4 _ 0 _ _ _ h4
 have z1:=ze W4 _ 1 _ _ _ h4
 have z2:=ze W4 _ 2 _ _ _ h4
 have z3:=ze W4 _ 3 _ _ _ h4
 have z4:=ze W4 _ 4 _ _ _ h4
 have hfin:DAt W4 (some ⟨b,o,none⟩) n d' {k with L:=k.L.set i z.x} (l.set i z):=⟨⟨hr4.len,hr4.cap,hr4.max,hr4.non,λ a e=>by
  obtain⟨b',o',cur,e',hbb,hh⟩:=hr4.som a e
  exact⟨b',o',cur,e',Nat.zero_le _,hh⟩⟩,HLN.out,HIS.out,λ y hy=>HK.out y hy W4 hb4⟩
 exact zk (v:=.agg #[.slice (some ⟨b,o,none⟩) n d',.int .i64 k.room,.int .i64 k.lost,.bool k.shut,.int .i64 k.state]) (by simp[results,results55,go_sem,z0,z1,z2,z3,z4]) rfl ⟨_,_,rfl,hfin,hb4⟩
end
end
section
open Go.RowKit
def IsB (T K:Nat) (w:World) (q:Nat):Prop:=∃cs:Array Value,w.heap[q]?=some (.cells cs T (0,0))∧cs.size=K
def BAt (T:Nat) (w:World) (q:Nat) (cs:Array Value):Prop:=w.heap[q]?=some (.cells cs T (0,0))
def OkC (K:Nat) (cs:Array Value):Prop:=cs.size=K∧cs.all (·.oneCell')=true
section
variable {T K T' K' q g:Nat} {w w':World} {cs:Array Value}
theorem BAt.lt (h:BAt T w q cs):q<w.heap.size:=(Array.getElem?_eq_some_iff.1 h).1
theorem IsB.lt (h:IsB T K w q):q<w.heap.size:=by
 obtain⟨cs,h,_⟩:=h
 exact(Array.getElem?_eq_some_iff.1 h).1
theorem BAt.is (h:BAt T w q cs) (hk:cs.size=K):IsB T K w q:=⟨cs,h,hk⟩
theorem BAt.cells (h:BAt T w q cs):qE w q=cs:=by
 unfold BAt at h
 unfold qE
 rw[h]
theorem BAt.cell (h:BAt T w q cs) (i:Nat):w.cell? ⟨q,i,none⟩=cs[i]?:=by
 unfold BAt at h
 simp[World.cell?,h]
theorem BAt.frz (h:BAt T w q cs) (i:Nat):w.frozen? ⟨q,i,none⟩=false:=by
 unfold BAt at h
 simp[World.frozen?,h]
theorem BAt.on (h:BAt T w q cs) (hb:Below w.heap.size w w'):BAt T w' q cs:=(hb.block _ h.lt).trans h
theorem BAt.alloc (h:BAt T w q cs) (o:Obj):BAt T (w.alloc o) q cs:=h.on ((zh _ _).alloc (zg _) _)
theorem BAt.other (h:BAt T w q cs) (hg:q≠g) (ds:Array Value):BAt T (w.setRow g ds) q cs:=(setRow_other w g q ds hg).trans h
theorem BAt.far (h:BAt T w q cs) (hg:q≠g) (i:Nat) (v:Value):BAt T (w.setCell ⟨g,i,none⟩ v) q cs:=(zn w ⟨g,i,none⟩ v q hg).trans h
theorem BAt.set (h:BAt T w q cs) (i:Nat) (v:Value):BAt T (w.setCell ⟨q,i,none⟩ v) q (cs.setIfInBounds i v):=by
 unfold BAt at h⊢
 simp[World.setCell,Array.getElem?_modify,h]
theorem Va (w:World) (cs:Array Value):BAt T (w.alloc (.cells cs T)) w.heap.size cs:=zo w _
theorem IsB.on (h:IsB T K w q) (hb:Below w.heap.size w w'):IsB T K w' q:=by
 obtain⟨cs,h,hk⟩:=h
 exact⟨cs,BAt.on h hb,hk⟩
theorem IsB.alloc (h:IsB T K w q) (o:Obj):IsB T K (w.alloc o) q:=h.on ((zh _ _).alloc (zg _) _)
theorem IsB.row (h:IsB T K w q) (ds:Array Value):BAt T (w.setRow q ds) q ds:=by
 obtain⟨cs,h,_⟩:=h
 exact setRow_heap w q _ _ _ _ h
theorem IsB.other (h:IsB T K w q) (hg:q≠g) (ds:Array Value):IsB T K (w.setRow g ds) q:=by
 obtain⟨cs,h,hk⟩:=h
 exact⟨cs,BAt.other h hg ds,hk⟩
theorem IsB.ne (h:IsB T K w q) (k:IsB T' K' w g) (ht:T≠T'):q≠g:=λ e=>by
 obtain⟨cs,h,_⟩:=h
 obtain⟨ds,k,_⟩:=k
 rw[e,k]at h
 injection h with h
 injection h with _ h
 exact ht h.symm
theorem IsB.far (h:IsB T K w q) (hg:q≠g) (i:Nat) (v:Value):IsB T K (w.setCell ⟨g,i,none⟩ v) q:=by
 obtain⟨cs,h,hk⟩:=h
 exact⟨cs,BAt.far h hg i v,hk⟩
theorem IsB.apart (h:IsB T K w q) (k:IsB T' K' w g) (ht:T≠T') (ds:Array Value):IsB T K (w.setRow g ds) q:=h.other (h.ne k ht) ds
theorem XZ {B:Nat} {w0:World} (h:IsB T K w q) (k:IsB T' K' w g) (ht:T≠T') (hb:Below B w0 w) (hq:B≤q) (hg:B≤g) (cs ds:Array Value):
  BAt T ((w.setRow q cs).setRow g ds) q cs∧BAt T' ((w.setRow q cs).setRow g ds) g ds∧Below B w0 ((w.setRow q cs).setRow g ds):=
 ⟨(h.row cs).other (h.ne k ht) ds,(k.apart h ht.symm cs).row ds,below_setRow (below_setRow hb hq cs) hg ds⟩
end
section
variable {T K q:Nat} {w:World} {cs:Array Value}
theorem YG {d:TypeDesc} (hu:Tryz.prog.underlying T=some d) (hd:d.isRow=true) (hi:(Tryz.prog.info? T).map (·.size)=some K) (h:IsB T K w q):(Instr.loadAt T (.pointer (some ⟨q,0,none⟩))).run zf w=.ok (.agg (qE w q)) w:=by
 obtain⟨cs,h,hk⟩:=h
 have h:BAt T w q cs:=h
 rw[h.cells]
 have:=run_loadVar_mid (P:=zf) w q 0 T cs.toList _ (λ j v hv=>by
  rw[Nat.zero_add,h.cell j,←Array.getElem?_toList]
  exact hv) hu hd (by rw[hi,←hk,Array.length_toList])
 simp only[Instr.loadAt,Instr.sureAddr,Sem.run_bind,Sem.run_pure,Result.andThen_ok]
 exact this
theorem Jm (hi:(Tryz.prog.info? T).map (·.size)=some K) (h:IsB T K w q) (hv:OkC K cs):(Instr.storeAt T (.pointer (some ⟨q,0,none⟩)) (.agg cs)).run zf w=.ok () (w.setRow q cs):=by
 obtain⟨ds,h,hk⟩:=h
 simp only[Instr.storeAt,Instr.sureAddr,Sem.run_bind,Sem.run_pure,Result.andThen_ok,run_storeVar_row (P:=zf) w q _ T _ cs h (by rw[hi,hv.1]) (by rw[hk,hv.1]) hv.2]
end
def DA (v:Value):Sem Value:=Instr.loadAt 31 v
def L7 (v x:Value):Sem Unit:=Instr.storeAt 31 v x
def Dx (v:Value):Sem Value:=Instr.loadAt 73 v
def L4 (v x:Value):Sem Unit:=Instr.storeAt 73 v x
def Dw (v:Value):Sem Value:=Instr.loadAt 40 v
def L3 (v x:Value):Sem Unit:=Instr.storeAt 40 v x
def Gv (v:Value):Sem Value:=Instr.loadAt 68 v
def L2 (v x:Value):Sem Unit:=Instr.storeAt 68 v x
theorem ZY (v:Value):Instr.loadAt 31 v=DA v:=rfl
theorem ZD (v x:Value):Instr.storeAt 31 v x=L7 v x:=rfl
theorem Xy (v:Value):Instr.loadAt 73 v=Dx v:=rfl
theorem Z3 (v x:Value):Instr.storeAt 73 v x=L4 v x:=rfl
theorem Vi (v:Value):Instr.loadAt 40 v=Dw v:=rfl
theorem YA (v x:Value):Instr.storeAt 40 v x=L3 v x:=rfl
theorem Xx (v:Value):Instr.loadAt 68 v=Gv v:=rfl
theorem Z2 (v x:Value):Instr.storeAt 68 v x=L2 v x:=rfl
abbrev IsC (w:World) (q:Nat):Prop:=IsB 31 5 w q
abbrev IsN (w:World) (q:Nat):Prop:=IsB 73 3 w q
abbrev IsO (w:World) (q:Nat):Prop:=IsB 40 3 w q
abbrev IsS (w:World) (q:Nat):Prop:=IsB 68 22 w q
section
variable {q:Nat} {w:World} {cs:Array Value}
theorem ZF (h:IsC w q):(DA (.pointer (some ⟨q,0,none⟩))).run zf w=.ok (.agg (qE w q)) w:=YG underlying31 rfl (by kernel_rfl) h
theorem Zu (h:IsC w q) (hv:OkC 5 cs):(L7 (.pointer (some ⟨q,0,none⟩)) (.agg cs)).run zf w=.ok () (w.setRow q cs):=Jm (by kernel_rfl) h hv
theorem Z5 (h:IsN w q):(Dx (.pointer (some ⟨q,0,none⟩))).run zf w=.ok (.agg (qE w q)) w:=YG underlying73 rfl (by kernel_rfl) h
theorem ZQ (h:IsN w q) (hv:OkC 3 cs):(L4 (.pointer (some ⟨q,0,none⟩)) (.agg cs)).run zf w=.ok () (w.setRow q cs):=Jm (by kernel_rfl) h hv
theorem YF (h:IsO w q):(Dw (.pointer (some ⟨q,0,none⟩))).run zf w=.ok (.agg (qE w q)) w:=YG underlying40 rfl (by kernel_rfl) h
theorem J7 (h:IsO w q) (hv:OkC 3 cs):(L3 (.pointer (some ⟨q,0,none⟩)) (.agg cs)).run zf w=.ok () (w.setRow q cs):=Jm (by kernel_rfl) h hv
theorem Xj (h:IsS w q):(Gv (.pointer (some ⟨q,0,none⟩))).run zf w=.ok (.agg (qE w q)) w:=YG underlying68 rfl (by kernel_rfl) h
theorem ZZ (h:IsS w q) (hv:OkC 22 cs):(L2 (.pointer (some ⟨q,0,none⟩)) (.agg cs)).run zf w=.ok () (w.setRow q cs):=Jm (by kernel_rfl) h hv
theorem okC (p:Option Addr) (n c:Nat) (k:Ch):OkC 5 (kC p n c k):=⟨rfl,by simp[kC,Value.oneCell']⟩
theorem okN (x:Ans):OkC 3 (ql x):=⟨rfl,by simp[ql,Value.oneCell']⟩
theorem okS (p:Option Addr) (n c:Nat) (s:St):OkC 22 (rC p n c s):=⟨rfl,OO p n c s⟩
theorem Yk (a b:Int) (s:ByteArray) (i j:IntKind):OkC 3 #[.int i a,.string s,.int j b]:=⟨rfl,by simp[Value.oneCell']⟩
end
theorem Qa {T K q:Nat} {w:World} {cs:Array Value} {d:TypeDesc} (hu:Tryz.prog.underlying T=some d) (hd:d.isRow=true) (hi:(Tryz.prog.info? T).map (·.size)=some K) (h:BAt T w q cs) (hk:cs.size=K):(loadVar T ⟨q,0,none⟩).run zf w=.ok (.agg cs) w:=by
 have:=run_loadVar_mid (P:=zf) w q 0 T cs.toList _ (λ j v hv=>by
  rw[Nat.zero_add,h.cell j,←Array.getElem?_toList]
  exact hv) hu hd (by rw[hi,←hk,Array.length_toList])
 exact this
theorem qt {q n c:Nat} {w:World} {p:Option Addr} {k:Ch} (h:BAt 31 w q (kC p n c k)):(loadVar 31 ⟨q,0,none⟩).run zf w=.ok (.agg (kC p n c k)) w:=Qa underlying31 rfl (by kernel_rfl) h rfl
theorem Ke {q:Nat} {w:World} {x:Ans} (h:BAt 73 w q (ql x)):(loadVar 73 ⟨q,0,none⟩).run zf w=.ok (.agg (ql x)) w:=Qa underlying73 rfl (by kernel_rfl) h rfl
theorem ZG {q:Nat} {w:World} {x:Ans} (h:BAt 40 w q (ql x)):(loadVar 40 ⟨q,0,none⟩).run zf w=.ok (.agg (ql x)) w:=Qa underlying40 rfl (by kernel_rfl) h rfl
def Ng (parts:Array (Nat×Value)):Sem Value:=Instr.build 72 parts
theorem Z4 (parts:Array (Nat×Value)):Instr.build 72 parts=Ng parts:=rfl
theorem Z0 (p:Option Addr) (n c:Nat) (s:St) (b:Bool) (w:World):(Ng #[(0,.agg (rC p n c s)),(1,.bool b)]).run zf w=.ok (.agg (pC ⟨p,n,c,⟨s,b⟩⟩)) w:=run_build w _ _ _ (by kernel_rfl)
theorem ZK (p:Option Addr) (n c:Nat) (s:St) (w:World):(Ng #[(0,.agg (rC p n c s))]).run zf w=.ok (.agg (pC ⟨p,n,c,⟨s,false⟩⟩)) w:=run_build w _ _ _ (by kernel_rfl)
def Ji:Obj:=.cells #[.slice none 0 0,.int .i64 0,.int .i64 0,.bool false,.int .i64 0] 31
def Vh:Obj:=.cells #[.int .i64 0,.string ⟨#[]⟩,.int .i64 0] 73
def Ue:Obj:=.cells #[.string ⟨#[]⟩,.int .i64 0,.bool false,.int .i64 0,.int .i64 0,.int .i64 0,.int .u64 0,.int .i64 0,.int .i64 0,.int .i64 0,.int .i64 0,.string ⟨#[]⟩,.slice none 0 0,.int .i64 0,.int .i64 0,.int .i64 0,.int .i64 0,.int .i64 0,.int .i64 0,.bool false,.int .i64 0,.int .i64 0] 68
theorem Yn (w:World):IsC (w.alloc Ji) w.heap.size:=⟨_,zo w _,rfl⟩
theorem Ym (w:World):IsN (w.alloc Vh) w.heap.size:=⟨_,zo w _,rfl⟩
theorem Jt (w:World):IsS (w.alloc Ue) w.heap.size:=⟨_,zo w _,rfl⟩
theorem Uw (w:World) (o:Obj):IsN ((w.alloc o).alloc Vh) (w.heap.size+1):=by
 have:=Ym (w.alloc o)
 rwa[show(w.alloc o).heap.size=w.heap.size+1 by simp]at this
theorem Mt (w:World) (o:Obj):IsS ((w.alloc o).alloc Ue) (w.heap.size+1):=by
 have:=Jt (w.alloc o)
 rwa[show(w.alloc o).heap.size=w.heap.size+1 by simp]at this
theorem Mu (w:World) (o:Obj):IsC ((w.alloc o).alloc Ji) (w.heap.size+1):=by
 have:=Yn (w.alloc o)
 rwa[show(w.alloc o).heap.size=w.heap.size+1 by simp]at this
section
variable {w w':World} {p:Option Addr} {n c:Nat} {k:Ch} {l:List Pc}
theorem DAt.typed (h:DAt w p n c k l) (hk:∀(b:Nat) (cs:Array Value) (T:TypeId) (fr:Nat×Nat),T=72∨T=3→w.heap[b]?=some (.cells cs T fr)→w'.heap[b]?=w.heap[b]?):DAt w' p n c k l:=
 ⟨h.row.keep λ a e=>by
  obtain⟨cur,ht⟩:=h.row.typed a e
  exact hk _ _ _ _ (Or.inl rfl) ht,h.len,h.is,λ z hz=>⟨ZR (h.rows z hz).1 λ b cs fr hb=>hk _ _ _ _ (Or.inr rfl) hb,(h.rows z hz).2⟩⟩
theorem DAt.setRow (h:DAt w p n c k l) {T K q:Nat} (hq:IsB T K w q) (h1:T≠72) (h2:T≠3) (cs:Array Value):DAt (w.setRow q cs) p n c k l:=h.typed λ b ds T' fr ht hb=>setRow_other w q b cs (λ e=>by
 obtain⟨es,hq,_⟩:=hq
 rw[←e,hb]at hq
 injection hq with hq
 injection hq with _ hq
 rcases ht with rfl|rfl
 ·exact h1 hq.symm
 ·exact h2 hq.symm)
theorem DAt.setCell (h:DAt w p n c k l) {T K q:Nat} (hq:IsB T K w q) (h1:T≠72) (h2:T≠3) (i:Nat) (v:Value):DAt (w.setCell ⟨q,i,none⟩ v) p n c k l:=h.typed λ b ds T' fr ht hb=>zn w ⟨q,i,none⟩ v b (λ e=>by
 obtain⟨es,hq,_⟩:=hq
 have e:b=q:=e
 rw[←e,hb]at hq
 injection hq with hq
 injection hq with _ hq
 rcases ht with rfl|rfl
 ·exact h1 hq.symm
 ·exact h2 hq.symm)
theorem DAt.as (h:DAt w p n c k l) {k':Ch} (e:k'.L=k.L):DAt w p n c k' l:=⟨h.row,h.len,by rw[h.is,e],h.rows⟩
end
theorem jR {w:World} {p:Option Addr} {n c:Nat} {xs:List Int} {T K q:Nat} (h:gc.qQ w p n c xs) (hq:IsB T K w q) (ht:T≠3) (cs:Array Value):gc.qQ (w.setRow q cs) p n c xs:=ZR h λ b ds fr hb=>setRow_other w q b cs (λ e=>by
 obtain⟨es,hq,_⟩:=hq
 rw[←e,hb]at hq
 injection hq with hq
 injection hq with _ hq
 exact ht hq.symm)
theorem LP {w0 w5 X:World} {B q g p1n p1c:Nat} {p1:Option Addr} {s1:St} (hr:gc.qQ w5 p1 p1n p1c s1.A) (hk:Below B w0 w5) (hB:B≤w5.heap.size) (hx:Below w5.heap.size w5 X) (h:IsS X q) (k:IsN X g) (hq:B≤q) (hg:B≤g) (x:Ans):
  BAt 68 ((X.setRow q (rC p1 p1n p1c s1)).setRow g #[.int .i64 x.n,.string x.s,.int .i64 x.e]) q (rC p1 p1n p1c s1)∧BAt 73 ((X.setRow q (rC p1 p1n p1c s1)).setRow g #[.int .i64 x.n,.string x.s,.int .i64 x.e]) g (ql x)∧gc.qQ ((X.setRow q (rC p1 p1n p1c s1)).setRow g #[.int .i64 x.n,.string x.s,.int .i64 x.e]) p1 p1n p1c s1.A∧Below B w0 ((X.setRow q (rC p1 p1n p1c s1)).setRow g #[.int .i64 x.n,.string x.s,.int .i64 x.e]):=by
 obtain⟨h1,h2,h3⟩:=XZ h k (by decide) (hk.trans (hx.mono hB)) hq hg (rC p1 p1n p1c s1) (ql x)
 exact⟨h1,h2,jR (jR (gc.Zc hr hx) h (by decide) _) (k.apart h (by decide) _) (by decide) _,h3⟩
theorem ki {a b c d e f:Prop} (h:a∧b∧c∧d) (he:e) (hf:f):a∧b∧c∧d∧e∧f:=⟨h.1,h.2.1,h.2.2.1,h.2.2.2,he,hf⟩
def Xn (w w':World) (g1 g2:Nat):Prop:=∀i,i<w.heap.size→i≠g1→i≠g2→w'.heap[i]?=w.heap[i]?
theorem Xn.of {w w':World} {g1 g2:Nat} (h:Below w.heap.size w w'):Xn w w' g1 g2:=λ i hi _ _=>h.block i hi
theorem Xn.B2 {w w':World} {g1 g2:Nat} (h:Xn w w' g1 g2) (cs:Array Value):Xn w (w'.setRow g1 cs) g1 g2:=λ i hi h1 h2=>(setRow_other w' g1 i cs h1).trans (h i hi h1 h2)
theorem Xn.B1 {w w':World} {g1 g2:Nat} (h:Xn w w' g1 g2) (cs:Array Value):Xn w (w'.setRow g2 cs) g1 g2:=λ i hi h1 h2=>(setRow_other w' g2 i cs h2).trans (h i hi h1 h2)
theorem BAt.same {T q g1 g2:Nat} {w w':World} {cs:Array Value} (h:BAt T w q cs) (hs:Xn w w' g1 g2) (h1:q≠g1) (h2:q≠g2):BAt T w' q cs:=(hs q h.lt h1 h2).trans h
def Nl (k:Ch) (n:Nat) (w:World) (e:Ending) (w':World):Prop:=∃p c l,e=.returned (.agg (kC p n c k))∧DAt w' p n c k l∧Below w.heap.size w w'
def JS (k:Ch) (x:Ans) (n:Nat) (w:World) (e:Ending) (w':World):Prop:=∃p c l,e=.returned (.tuple #[.agg (kC p n c k),.agg (ql x)])∧DAt w' p n c k l∧Below w.heap.size w w'
def jC (k:Ch) (x:Int) (n:Nat) (w:World) (e:Ending) (w':World):Prop:=∃p c l,e=.returned (.tuple #[.agg (kC p n c k),.int .i64 x])∧DAt w' p n c k l∧Below w.heap.size w w'
end
section
open Go.RowKit
def Vs (w:World) (b o:Nat):Array Value:=((List.range 22).map λ j=>(w.cell? ⟨b,o+j,none⟩).getD (.bool false)).toArray
def MIs (w:World) (b o:Nat):Prop:=∃p n c s,w.rangeAt b o (rC p n c s).toList
theorem V9 {w:World} {b o:Nat} {p:Option Addr} {n c:Nat} {s:St} (h:w.rangeAt b o (rC p n c s).toList):Vs w b o=rC p n c s:=by
 have hk:∀j v,(rC p n c s).toList[j]?=some v→(w.cell? ⟨b,o+j,none⟩).getD (.bool false)=v:=λ j v hv=>by rw[h j v hv];rfl
 unfold Vs
 apply Array.ext'
 apply List.ext_getElem
 ·simp[rC]
 ·intro j h1 h2
  simp only[List.getElem_map,List.getElem_range]
  exact hk j _ (zj h2)
theorem Xc {w:World} {b o:Nat} (h:MIs w b o):(Gv (.pointer (some ⟨b,o,none⟩))).run zf w=.ok (.agg (Vs w b o)) w:=by
 obtain⟨p,n,c,s,h⟩:=h
 rw[V9 h]
 have:=run_loadAt_mid (P:=zf) w b o 68 (rC p n c s).toList _ h underlying68 rfl (by kernel_rfl)
 exact this
theorem Q1 {w w':World} {b o:Nat} {vs:List Value} (h:w.rangeAt b o vs) (hb:Below w.heap.size w w'):w'.rangeAt b o vs:=λ j v hj=>by
 have hc:=h j v hj
 have hlt:b<w.heap.size:=by
  rcases Nat.lt_or_ge b w.heap.size with e|e
  ·exact e
  ·simp only[World.cell?,Array.getElem?_eq_none e]at hc
   cases hc
 simp only[World.cell?,hb.block _ hlt]at hc⊢
 exact hc
theorem DAt.TH {w:World} {b o n c:Nat} {k:Ch} {l:List Pc} (h:DAt w (some ⟨b,o,none⟩) n c k l) {i:Nat} (hi:i<n) {z:Pc} (hz:l[i]?=some z):w.rangeAt b (o+i*23) (rC z.p z.n z.c z.x.s).toList:=V5 h.row (i*23) _ (λ j v hv=>by
 have hj:j<22:=by
  have:=(List.getElem?_eq_some_iff.1 hv).1
  simpa[rC]using this
 have hil:i<l.length:=by rw[h.len];exact hi
 rw[show ZB l=l.flatMap pL from rfl,Td J9 l i j hil (by omega)]
 rw[zj hil,Option.some.injEq]at hz
 rw[hz]
 simp only[pL,pC,Array.toList_push]
 rw[List.getElem?_append_left (by simp[rC];omega)]
 exact hv)
theorem DAt.shut {w:World} {b o n c:Nat} {k:Ch} {l:List Pc} (h:DAt w (some ⟨b,o,none⟩) n c k l) {i:Nat} (hi:i<n) {z:Pc} (hz:l[i]?=some z):w.cell? ⟨b,o+i*23+22,none⟩=some (.bool z.x.closed):=by
 have hil:i<l.length:=by rw[h.len];exact hi
 have:=V5 h.row (i*23+22) [.bool z.x.closed] (λ j v hv=>by
  obtain⟨hj,hv⟩:=List.getElem?_eq_some_iff.1 hv
  have hj:j=0:=by simpa using hj
  subst hj
  rw[Nat.add_zero,show ZB l=l.flatMap pL from rfl,Td J9 l i 22 hil (by omega)]
  rw[zj hil,Option.some.injEq]at hz
  rw[hz]
  simp only[pL,pC,Array.toList_push]
  rw[List.getElem?_append_right (by simp[rC])]
  simpa[rC]using hv) 0 _ rfl
 rw[Nat.add_zero,←Nat.add_assoc]at this
 exact this
attribute [local go_sem ↓] ZY ZD Xy Z3 Xx Z2 Jb XP Z4
attribute [local go_sem] Z0 ZK Xc ZF Zu Z5 ZQ Xj ZZ okC okN okS Yk
section
variable {w w':World} {p:Option Addr} {n c:Nat} {k:Ch} {l:List Pc}
theorem Na (w:World) (p:Option Addr) (n c:Nat) (k:Ch) (o:Op):∃W,(((w.alloc (.cells (kC p n c k) 31)).alloc (.cells (oC o) 77)).alloc Ji).alloc Vh=W∧Below w.heap.size w W∧W.heap.size=w.heap.size+4∧
  BAt 31 W w.heap.size (kC p n c k)∧BAt 77 W (w.heap.size+1) (oC o)∧IsC W (w.heap.size+2)∧IsN W (w.heap.size+3):=by
 obtain⟨h0,h1,h2⟩:=K9 w (.cells (kC p n c k) 31) (.cells (oC o) 77) Ji
 obtain⟨W3,hW3⟩:∃W3,((w.alloc (.cells (kC p n c k) 31)).alloc (.cells (oC o) 77)).alloc Ji=W3:=⟨_,rfl⟩
 have hs3:W3.heap.size=w.heap.size+3:=by rw[←hW3];simp
 have hb3:Below w.heap.size w W3:=by
  rw[←hW3]
  exact(((zh _ _).alloc (zg _) _).alloc (by simp) _).alloc (by simp;omega) _
 rw[hW3]at h0 h1 h2⊢
 have hb4:Below W3.heap.size W3 (W3.alloc Vh):=(zh _ _).alloc (zg _) _
 have h3:=Ym W3
 rw[hs3]at h3
 have c2:IsC W3 (w.heap.size+2):=⟨_,h2,rfl⟩
 exact⟨_,rfl,gb.seqB hb3 hb4,by simp[hs3],BAt.on h0 hb4,BAt.on h1 hb4,c2.on hb4,h3⟩
theorem Jq {M : Nat} (h : DAt w p n c k l) (hF : Ch.Fine k M) (hM : M ≤ 100000) (i : Nat) (hi : i < n) (kd now N : Int) (s ts : ByteArray) (tk : Int) (tu : Bool) (to ta tb : Int) (hs : s.size ≤ 100000) (hts : ts.size ≤ maxLen) :
    Calls zf 22 #[.agg (kC p n c k), .int .i64 (i : Int), .agg #[.int .i64 kd, .int .i64 now, .int .i64 N, .string s, .string ts, .int .i64 tk, .bool tu, .int .i64 to, .int .i64 ta, .int .i64 tb]] w (JS (k.onC i ⟨kd, now, N, s, ⟨ts, tk, tu, to, ta, tb⟩⟩) (k.ql i ⟨kd, now, N, s, ⟨ts, tk, tu, to, ta, tb⟩⟩) n w) := by
  have hlen : l.length = n := h.len
  have hkn : k.L.length = n := by rw [← h.is, List.length_map, hlen]
  obtain ⟨b, oo, rfl, _⟩ := h.row.at (by omega)
  obtain ⟨z, hzl⟩ : ∃ z, l[i]? = some z := ⟨_, zj (by omega)⟩
  have hzm : z ∈ l := List.mem_of_getElem? hzl
  have hzx : k.at' i = z.x := by
    unfold Ch.at'
    rw [zi, ← h.is, List.getElem?_map, hzl]
    rfl
  obtain ⟨hok, hln⟩ := hF.ok i (by omega)
  have hpre := hF.pre i (by omega)
  have hsz := Ch.Xq k i (by omega)
  have hps := hok.passed
  rw [hzx] at hok hln hpre hsz hps
  obtain ⟨o, ho⟩ : ∃ o : Op, (⟨kd, now, N, s, ⟨ts, tk, tu, to, ta, tb⟩⟩ : Op) = o := ⟨_, rfl⟩
  obtain ⟨s1, hs1⟩ : ∃ s1, (doS z.x.s o).1 = s1 := ⟨_, rfl⟩
  obtain ⟨a1, ha1⟩ : ∃ a1, (doS z.x.s o).2 = a1 := ⟨_, rfl⟩
  have hdo : ∀ W, gc.qQ W z.p z.n z.c z.x.s.A → Calls zf 54 #[.agg (rC z.p z.n z.c z.x.s), .agg #[.int .i64 kd, .int .i64 now, .int .i64 N, .string s, .string ts, .int .i64 tk, .bool tu, .int .i64 to, .int .i64 ta, .int .i64 tb]] W (Brg s1 a1 W) := λ W hr => by
    have := Eh z.p z.n z.c z.x.s o W hr (h.rows z hzm).2 (by rw [← (h.rows z hzm).2]; omega) (by rw [← ho]; exact hs) (by rw [← ho]; exact hts) hok
    rw [hs1, ha1, ← ho] at this
    exact this
  have hon : k.onC i o = { k with L := k.L.set i ⟨s1, z.x.closed || kd == 3⟩ } := by
    unfold Ch.onC
    rw [hzx, hs1, ← ho]
  have han : k.ql i o = a1 := by
    unfold Ch.ql
    rw [hzx]
    exact ha1
  rw [ho, hon, han]
  have hln1 : s1.A.length = s1.S.size := by rw [← hs1]; exact GC hln o
  have hn10 : n ≤ 20 := by have := hF.len; omega
  obtain ⟨W, hW, hb0, hs0, hk0, hk1, hk2, hk3⟩ := Na w (some ⟨b, oo, none⟩) n c k ⟨kd, now, N, s, ⟨ts, tk, tu, to, ta, tb⟩⟩
  have hW : (((w.alloc (.cells (kC (some ⟨b, oo, none⟩) n c k) 31)).alloc (.cells #[.int .i64 kd, .int .i64 now, .int .i64 N, .string s, .string ts, .int .i64 tk, .bool tu, .int .i64 to, .int .i64 ta, .int .i64 tb] 77)).alloc (.cells #[.slice none 0 0, .int .i64 0, .int .i64 0, .bool false, .int .i64 0] 31)).alloc (.cells #[.int .i64 0, .string ⟨#[]⟩, .int .i64 0] 73) = W := hW
  have HD := zd (h.on hb0)
  have HRG := zd (show ∀ W', Below W.drew.heap.size W.drew W' → W'.rangeAt b (oo + i * 23) (rC z.p z.n z.c z.x.s).toList from λ W' hb => Q1 (w := W.drew) (HD.out.TH hi hzl) hb)
  have HDO := zd (λ W' (hb : Below W.drew.heap.size W.drew W') => hdo W' (gc.Zc (gc.Zc (HD.out.rows z hzm).1 (zh _ W).drew) hb))
  have x0 : W.cell? ⟨w.heap.size, 0, none⟩ = some (.slice (some ⟨b, oo, none⟩) n c) := hk0.cell 0
  have y0 : W.cell? ⟨w.heap.size + 1, 0, none⟩ = some (.int .i64 kd) := hk1.cell 0
  have y1 : W.cell? ⟨w.heap.size + 1, 1, none⟩ = some (.int .i64 now) := hk1.cell 1
  have y2 : W.cell? ⟨w.heap.size + 1, 2, none⟩ = some (.int .i64 N) := hk1.cell 2
  have y3 : W.cell? ⟨w.heap.size + 1, 3, none⟩ = some (.string s) := hk1.cell 3
  have y4 : W.cell? ⟨w.heap.size + 1, 4, none⟩ = some (.string ts) := hk1.cell 4
  have y5 : W.cell? ⟨w.heap.size + 1, 5, none⟩ = some (.int .i64 tk) := hk1.cell 5
  have y6 : W.cell? ⟨w.heap.size + 1, 6, none⟩ = some (.bool tu) := hk1.cell 6
  have y7 : W.cell? ⟨w.heap.size + 1, 7, none⟩ = some (.int .i64 to) := hk1.cell 7
  have y8 : W.cell? ⟨w.heap.size + 1, 8, none⟩ = some (.int .i64 ta) := hk1.cell 8
  have y9 : W.cell? ⟨w.heap.size + 1, 9, none⟩ = some (.int .i64 tb) := hk1.cell 9
  have H0 := zd hk0
  have H1 := zd hk1
  have H2 := zd hk2
  have H3 := zd hk3
  have HB := zd hb0
  have hsW : w.heap.size + 3 < W.heap.size := hk3.lt
  have hs1W : w.heap.size + 1 < W.heap.size := by omega
  have hs0W : w.heap.size < W.heap.size := by omega
  have hix : decide ((i : Int) < (n : Int)) = true := decide_eq_true (by omega)
  clear hk0 hk1 hk2 hk3 hb0 hs0 hdo h hon han hok hln hpre hsz hps hF hs1 ha1 ho
  go_enter func22, ntmps22
  go_upto_region 1 with fail
  go_cut [8, 9] from 10 (λ v8 v9 wc => ∃ g1 g2 p1 n1 c1, v8 = .pointer (some ⟨g1, 0, none⟩) ∧ v9 = .pointer (some ⟨g2, 0, none⟩) ∧ BAt 68 wc g1 (rC p1 n1 c1 s1) ∧ BAt 73 wc g2 (ql a1) ∧ gc.qQ wc p1 n1 c1 s1.A ∧ Below W.heap.size W wc ∧ W.heap.size ≤ g1 ∧ W.heap.size ≤ g2)
  case first =>
    have HC0 := zd (HDO.out W.drew (zh _ _))
    have HC0B := zd (show Below W.drew.heap.size W.drew W.drew from zh _ _)
    have HC1 := zd (HDO.out (W.alloc (.cells #[.string ⟨#[]⟩, .int .i64 0, .bool false, .int .i64 0, .int .i64 0, .int .i64 0, .int .u64 0, .int .i64 0, .int .i64 0, .int .i64 0, .int .i64 0, .string ⟨#[]⟩, .slice none 0 0, .int .i64 0, .int .i64 0, .int .i64 0, .int .i64 0, .int .i64 0, .int .i64 0, .bool false, .int .i64 0, .int .i64 0] 68)).drew (show Below W.drew.heap.size W.drew (W.drew.alloc _) from (zh _ _).alloc (zg _) _))
    have HC1B := zd (show Below W.drew.heap.size W.drew (W.alloc (.cells #[.string ⟨#[]⟩, .int .i64 0, .bool false, .int .i64 0, .int .i64 0, .int .i64 0, .int .u64 0, .int .i64 0, .int .i64 0, .int .i64 0, .int .i64 0, .string ⟨#[]⟩, .slice none 0 0, .int .i64 0, .int .i64 0, .int .i64 0, .int .i64 0, .int .i64 0, .int .i64 0, .bool false, .int .i64 0, .int .i64 0] 68)).drew from show Below W.drew.heap.size W.drew (W.drew.alloc _) from (zh _ _).alloc (zg _) _)
    have HC2 := zd (HDO.out (W.alloc (.cells #[.int .i64 0, .string ⟨#[]⟩, .int .i64 0] 73)).drew (show Below W.drew.heap.size W.drew (W.drew.alloc _) from (zh _ _).alloc (zg _) _))
    have HC2B := zd (show Below W.drew.heap.size W.drew (W.alloc (.cells #[.int .i64 0, .string ⟨#[]⟩, .int .i64 0] 73)).drew from show Below W.drew.heap.size W.drew (W.drew.alloc _) from (zh _ _).alloc (zg _) _)
    have HC3 := zd (HDO.out ((W.alloc (.cells #[.string ⟨#[]⟩, .int .i64 0, .bool false, .int .i64 0, .int .i64 0, .int .i64 0, .int .u64 0, .int .i64 0, .int .i64 0, .int .i64 0, .int .i64 0, .string ⟨#[]⟩, .slice none 0 0, .int .i64 0, .int .i64 0, .int .i64 0, .int .i64 0, .int .i64 0, .int .i64 0, .bool false, .int .i64 0, .int .i64 0] 68)).alloc (.cells #[.int .i64 0, .string ⟨#[]⟩, .int .i64 0] 73)).drew (show Below W.drew.heap.size W.drew ((W.drew.alloc _).alloc _) from ((zh _ _).alloc (zg _) _).alloc (by simp) _))
    have HC3B := zd (show Below W.drew.heap.size W.drew ((W.alloc (.cells #[.string ⟨#[]⟩, .int .i64 0, .bool false, .int .i64 0, .int .i64 0, .int .i64 0, .int .u64 0, .int .i64 0, .int .i64 0, .int .i64 0, .int .i64 0, .string ⟨#[]⟩, .slice none 0 0, .int .i64 0, .int .i64 0, .int .i64 0, .int .i64 0, .int .i64 0, .int .i64 0, .bool false, .int .i64 0, .int .i64 0] 68)).alloc (.cells #[.int .i64 0, .string ⟨#[]⟩, .int .i64 0] 73)).drew from show Below W.drew.heap.size W.drew ((W.drew.alloc _).alloc _) from ((zh _ _).alloc (zg _) _).alloc (by simp) _)
    have HC4 := zd (HDO.out ((W.alloc (.cells #[.int .i64 0, .string ⟨#[]⟩, .int .i64 0] 73)).alloc (.cells #[.string ⟨#[]⟩, .int .i64 0, .bool false, .int .i64 0, .int .i64 0, .int .i64 0, .int .u64 0, .int .i64 0, .int .i64 0, .int .i64 0, .int .i64 0, .string ⟨#[]⟩, .slice none 0 0, .int .i64 0, .int .i64 0, .int .i64 0, .int .i64 0, .int .i64 0, .int .i64 0, .bool false, .int .i64 0, .int .i64 0] 68)).drew (show Below W.drew.heap.size W.drew ((W.drew.alloc _).alloc _) from ((zh _ _).alloc (zg _) _).alloc (by simp) _))
    have HC4B := zd (show Below W.drew.heap.size W.drew ((W.alloc (.cells #[.int .i64 0, .string ⟨#[]⟩, .int .i64 0] 73)).alloc (.cells #[.string ⟨#[]⟩, .int .i64 0, .bool false, .int .i64 0, .int .i64 0, .int .i64 0, .int .u64 0, .int .i64 0, .int .i64 0, .int .i64 0, .int .i64 0, .string ⟨#[]⟩, .slice none 0 0, .int .i64 0, .int .i64 0, .int .i64 0, .int .i64 0, .int .i64 0, .int .i64 0, .bool false, .int .i64 0, .int .i64 0] 68)).drew from show Below W.drew.heap.size W.drew ((W.drew.alloc _).alloc _) from ((zh _ _).alloc (zg _) _).alloc (by simp) _)
    have HCK := zd (show ∀ W', Hid (Below W.drew.heap.size W.drew W') → W'.cell? ⟨w.heap.size, 0, none⟩ = some (.slice (some ⟨b, oo, none⟩) n c) ∧ MIs W' b (oo + i * 23) ∧ Vs W' b (oo + i * 23) = rC z.p z.n z.c z.x.s ∧ W'.cell? ⟨w.heap.size + 1, 0, none⟩ = some (.int .i64 kd) ∧ W'.cell? ⟨w.heap.size + 1, 1, none⟩ = some (.int .i64 now) ∧ W'.cell? ⟨w.heap.size + 1, 2, none⟩ = some (.int .i64 N) ∧ W'.cell? ⟨w.heap.size + 1, 3, none⟩ = some (.string s) ∧ W'.cell? ⟨w.heap.size + 1, 4, none⟩ = some (.string ts) ∧ W'.cell? ⟨w.heap.size + 1, 5, none⟩ = some (.int .i64 tk) ∧ W'.cell? ⟨w.heap.size + 1, 6, none⟩ = some (.bool tu) ∧ W'.cell? ⟨w.heap.size + 1, 7, none⟩ = some (.int .i64 to) ∧ W'.cell? ⟨w.heap.size + 1, 8, none⟩ = some (.int .i64 ta) ∧ W'.cell? ⟨w.heap.size + 1, 9, none⟩ = some (.int .i64 tb) ∧ Hid (Below W.drew.heap.size W.drew W') from λ W' hb => by
      have hb' := hb.out
      refine ⟨?_, ⟨_, _, _, _, HRG.out W' hb'⟩, V9 (HRG.out W' hb'), ?_, ?_, ?_, ?_, ?_, ?_, ?_, ?_, ?_, ?_, hb⟩
      · exact (BAt.on (w := W.drew) H0.out hb').cell 0
      · exact (BAt.on (w := W.drew) H1.out hb').cell 0
      · exact (BAt.on (w := W.drew) H1.out hb').cell 1
      · exact (BAt.on (w := W.drew) H1.out hb').cell 2
      · exact (BAt.on (w := W.drew) H1.out hb').cell 3
      · exact (BAt.on (w := W.drew) H1.out hb').cell 4
      · exact (BAt.on (w := W.drew) H1.out hb').cell 5
      · exact (BAt.on (w := W.drew) H1.out hb').cell 6
      · exact (BAt.on (w := W.drew) H1.out hb').cell 7
      · exact (BAt.on (w := W.drew) H1.out hb').cell 8
      · exact (BAt.on (w := W.drew) H1.out hb').cell 9)
    have HK0 := zd (show Hid (Below W.drew.heap.size W.drew W.drew) from zd (zh _ _))
    have HKA := zd (show ∀ W' o, Hid (Below W.drew.heap.size W.drew W') → Hid (Below W.drew.heap.size W.drew (W'.alloc o)) from λ W' o h => zd (h.out.alloc h.out.size _))
    have HKB := zd (show ∀ o, Hid (Below W.drew.heap.size W.drew (W.alloc o).drew) from λ o => zd (show Below W.drew.heap.size W.drew (W.drew.alloc o) from (zh _ _).alloc (zg _) _))
    have HKD := zd (show ∀ o o2, Hid (Below W.drew.heap.size W.drew ((W.alloc o).alloc o2).drew) from λ o o2 => zd (show Below W.drew.heap.size W.drew ((W.drew.alloc o).alloc o2) from ((zh _ _).alloc (zg _) _).alloc (by simp) _))
    have HKR := zd (show ∀ W' g cs, W.heap.size ≤ g → Hid (Below W.drew.heap.size W.drew W') → Hid (Below W.drew.heap.size W.drew (World.setRow W' g cs)) from λ W' g cs hg h => zd (below_setRow h.out hg cs))
    clear x0 y0 y1 y2 y3 y4 y5 y6 y7 y8 y9
    go_region_held (λ W' => W'.cell? ⟨w.heap.size, 0, none⟩ = some (.slice (some ⟨b, oo, none⟩) n c) ∧ MIs W' b (oo + i * 23) ∧ Vs W' b (oo + i * 23) = rC z.p z.n z.c z.x.s ∧ W'.cell? ⟨w.heap.size + 1, 0, none⟩ = some (.int .i64 kd) ∧ W'.cell? ⟨w.heap.size + 1, 1, none⟩ = some (.int .i64 now) ∧ W'.cell? ⟨w.heap.size + 1, 2, none⟩ = some (.int .i64 N) ∧ W'.cell? ⟨w.heap.size + 1, 3, none⟩ = some (.string s) ∧ W'.cell? ⟨w.heap.size + 1, 4, none⟩ = some (.string ts) ∧ W'.cell? ⟨w.heap.size + 1, 5, none⟩ = some (.int .i64 tk) ∧ W'.cell? ⟨w.heap.size + 1, 6, none⟩ = some (.bool tu) ∧ W'.cell? ⟨w.heap.size + 1, 7, none⟩ = some (.int .i64 to) ∧ W'.cell? ⟨w.heap.size + 1, 8, none⟩ = some (.int .i64 ta) ∧ W'.cell? ⟨w.heap.size + 1, 9, none⟩ = some (.int .i64 tb) ∧ Hid (Below W.drew.heap.size W.drew W'))
      ((refine HCK.out _ ?_
        go_split_ands
        first
          | with_reducible exact HK0.out
          | with_reducible exact HKB.out _
          | with_reducible exact HKD.out _ _
          | with_reducible exact hk5
          | with_reducible exact HKA.out _ _ (by assumption)
          | with_reducible exact HKR.out _ _ _ (by omega) (by assumption)))
      (first
        | (go_at_call 54; (with_reducible refine zr HC0.out ?_); rintro e w5 ⟨p1, n1, c1, rfl, hr5, hb5⟩; have hk5 := zd (zz HC0B.out (hb5.mono HC0B.out.size)); have hz5 : W.heap.size ≤ w5.heap.size := hk5.out.size; have q1 : IsS ((w5.alloc (.cells #[.string ⟨#[]⟩, .int .i64 0, .bool false, .int .i64 0, .int .i64 0, .int .i64 0, .int .u64 0, .int .i64 0, .int .i64 0, .int .i64 0, .int .i64 0, .string ⟨#[]⟩, .slice none 0 0, .int .i64 0, .int .i64 0, .int .i64 0, .int .i64 0, .int .i64 0, .int .i64 0, .bool false, .int .i64 0, .int .i64 0] 68)).alloc (.cells #[.int .i64 0, .string ⟨#[]⟩, .int .i64 0] 73)) w5.heap.size := (Jt w5).alloc Vh; have m1 : IsN ((w5.alloc (.cells #[.string ⟨#[]⟩, .int .i64 0, .bool false, .int .i64 0, .int .i64 0, .int .i64 0, .int .u64 0, .int .i64 0, .int .i64 0, .int .i64 0, .int .i64 0, .string ⟨#[]⟩, .slice none 0 0, .int .i64 0, .int .i64 0, .int .i64 0, .int .i64 0, .int .i64 0, .int .i64 0, .bool false, .int .i64 0, .int .i64 0] 68)).alloc (.cells #[.int .i64 0, .string ⟨#[]⟩, .int .i64 0] 73)) (w5.heap.size + 1) := Uw w5 Ue; have r1 : IsN (World.setRow ((w5.alloc (.cells #[.string ⟨#[]⟩, .int .i64 0, .bool false, .int .i64 0, .int .i64 0, .int .i64 0, .int .u64 0, .int .i64 0, .int .i64 0, .int .i64 0, .int .i64 0, .string ⟨#[]⟩, .slice none 0 0, .int .i64 0, .int .i64 0, .int .i64 0, .int .i64 0, .int .i64 0, .int .i64 0, .bool false, .int .i64 0, .int .i64 0] 68)).alloc (.cells #[.int .i64 0, .string ⟨#[]⟩, .int .i64 0] 73)) w5.heap.size (rC p1 n1 c1 s1)) (w5.heap.size + 1) := m1.apart q1 (by decide) _; have q2 : IsS ((w5.alloc (.cells #[.int .i64 0, .string ⟨#[]⟩, .int .i64 0] 73)).alloc (.cells #[.string ⟨#[]⟩, .int .i64 0, .bool false, .int .i64 0, .int .i64 0, .int .i64 0, .int .u64 0, .int .i64 0, .int .i64 0, .int .i64 0, .int .i64 0, .string ⟨#[]⟩, .slice none 0 0, .int .i64 0, .int .i64 0, .int .i64 0, .int .i64 0, .int .i64 0, .int .i64 0, .bool false, .int .i64 0, .int .i64 0] 68)) (w5.heap.size + 1) := Mt w5 Vh; have m2 : IsN ((w5.alloc (.cells #[.int .i64 0, .string ⟨#[]⟩, .int .i64 0] 73)).alloc (.cells #[.string ⟨#[]⟩, .int .i64 0, .bool false, .int .i64 0, .int .i64 0, .int .i64 0, .int .u64 0, .int .i64 0, .int .i64 0, .int .i64 0, .int .i64 0, .string ⟨#[]⟩, .slice none 0 0, .int .i64 0, .int .i64 0, .int .i64 0, .int .i64 0, .int .i64 0, .int .i64 0, .bool false, .int .i64 0, .int .i64 0] 68)) w5.heap.size := (Ym w5).alloc Ue; have r2 : IsN (World.setRow ((w5.alloc (.cells #[.int .i64 0, .string ⟨#[]⟩, .int .i64 0] 73)).alloc (.cells #[.string ⟨#[]⟩, .int .i64 0, .bool false, .int .i64 0, .int .i64 0, .int .i64 0, .int .u64 0, .int .i64 0, .int .i64 0, .int .i64 0, .int .i64 0, .string ⟨#[]⟩, .slice none 0 0, .int .i64 0, .int .i64 0, .int .i64 0, .int .i64 0, .int .i64 0, .int .i64 0, .bool false, .int .i64 0, .int .i64 0] 68)) (w5.heap.size + 1) (rC p1 n1 c1 s1)) w5.heap.size := m2.apart q2 (by decide) _)
        | (go_at_call 54; (with_reducible refine zr HC1.out ?_); rintro e w5 ⟨p1, n1, c1, rfl, hr5, hb5⟩; have hk5 := zd (zz HC1B.out (hb5.mono HC1B.out.size)); have hz5 : W.heap.size ≤ w5.heap.size := hk5.out.size; have q1 : IsS (w5.alloc (.cells #[.int .i64 0, .string ⟨#[]⟩, .int .i64 0] 73)) W.heap.size := ((Jt W.drew).on hb5).alloc Vh; have m1 : IsN (w5.alloc (.cells #[.int .i64 0, .string ⟨#[]⟩, .int .i64 0] 73)) w5.heap.size := Ym w5; have r1 : IsN (World.setRow (w5.alloc (.cells #[.int .i64 0, .string ⟨#[]⟩, .int .i64 0] 73)) W.heap.size (rC p1 n1 c1 s1)) w5.heap.size := m1.apart q1 (by decide) _)
        | (go_at_call 54; (with_reducible refine zr HC2.out ?_); rintro e w5 ⟨p1, n1, c1, rfl, hr5, hb5⟩; have hk5 := zd (zz HC2B.out (hb5.mono HC2B.out.size)); have hz5 : W.heap.size ≤ w5.heap.size := hk5.out.size; have q1 : IsS (w5.alloc (.cells #[.string ⟨#[]⟩, .int .i64 0, .bool false, .int .i64 0, .int .i64 0, .int .i64 0, .int .u64 0, .int .i64 0, .int .i64 0, .int .i64 0, .int .i64 0, .string ⟨#[]⟩, .slice none 0 0, .int .i64 0, .int .i64 0, .int .i64 0, .int .i64 0, .int .i64 0, .int .i64 0, .bool false, .int .i64 0, .int .i64 0] 68)) w5.heap.size := Jt w5; have m1 : IsN (w5.alloc (.cells #[.string ⟨#[]⟩, .int .i64 0, .bool false, .int .i64 0, .int .i64 0, .int .i64 0, .int .u64 0, .int .i64 0, .int .i64 0, .int .i64 0, .int .i64 0, .string ⟨#[]⟩, .slice none 0 0, .int .i64 0, .int .i64 0, .int .i64 0, .int .i64 0, .int .i64 0, .int .i64 0, .bool false, .int .i64 0, .int .i64 0] 68)) W.heap.size := ((Ym W.drew).on hb5).alloc Ue; have r1 : IsN (World.setRow (w5.alloc (.cells #[.string ⟨#[]⟩, .int .i64 0, .bool false, .int .i64 0, .int .i64 0, .int .i64 0, .int .u64 0, .int .i64 0, .int .i64 0, .int .i64 0, .int .i64 0, .string ⟨#[]⟩, .slice none 0 0, .int .i64 0, .int .i64 0, .int .i64 0, .int .i64 0, .int .i64 0, .int .i64 0, .bool false, .int .i64 0, .int .i64 0] 68)) w5.heap.size (rC p1 n1 c1 s1)) W.heap.size := m1.apart q1 (by decide) _)
        | (go_at_call 54; (with_reducible refine zr HC3.out ?_); rintro e w5 ⟨p1, n1, c1, rfl, hr5, hb5⟩; have hk5 := zd (zz HC3B.out (hb5.mono HC3B.out.size)); have hz5 : W.heap.size ≤ w5.heap.size := hk5.out.size; have q1 : IsS w5 W.heap.size := ((Jt W.drew).alloc Vh).on hb5; have m1 : IsN w5 (W.heap.size + 1) := (Uw W.drew Ue).on hb5; have r1 : IsN (World.setRow w5 W.heap.size (rC p1 n1 c1 s1)) (W.heap.size + 1) := m1.apart q1 (by decide) _)
        | (go_at_call 54; (with_reducible refine zr HC4.out ?_); rintro e w5 ⟨p1, n1, c1, rfl, hr5, hb5⟩; have hk5 := zd (zz HC4B.out (hb5.mono HC4B.out.size)); have hz5 : W.heap.size ≤ w5.heap.size := hk5.out.size; have q1 : IsS w5 (W.heap.size + 1) := (Mt W.drew Vh).on hb5; have m1 : IsN w5 W.heap.size := ((Ym W.drew).alloc Ue).on hb5; have r1 : IsN (World.setRow w5 (W.heap.size + 1) (rC p1 n1 c1 s1)) W.heap.size := m1.apart q1 (by decide) _))
    all_goals (
      go_wp2_with fail
      go_meet
      refine ⟨_, _, p1, n1, c1, rfl, rfl, ki (LP hr5 ((zh W.heap.size W).drew.trans hk5.out) hz5 ?_ ?_ ?_ ?_ ?_ a1) ?_ ?_⟩
      · first
          | exact zh _ _
          | exact (zh _ _).alloc (zg _) _
          | exact ((zh _ _).alloc (zg _) _).alloc (by simp) _
      · first
          | exact q1
          | exact q2
      · first
          | exact m1
          | exact m2
      · omega
      · omega
      · omega
      · omega)
  case rest =>
    obtain ⟨g1, g2, p1, n1, c1, rfl, rfl, hg1, hg2, hr1, hbc, hz1, hz2⟩ := hcut
    clear x0 y0 y1 y2 y3 y4 y5 y6 y7 y8 y9 HRG HDO
    have HD2 := zd (HD.out.on hbc)
    have HG0 := zd (H0.out.on hbc)
    have HG1 := zd hg1
    have HG2 := zd hg2
    have HO := zd (H1.out.on hbc)
    have HR2 := zd (show IsC wc (w.heap.size + 1 + 1) from H2.out.on hbc)
    have HR3 := zd (show IsN wc (w.heap.size + 1 + 1 + 1) from H3.out.on hbc)
    have HRC := zd hr1
    have HN1 := zd (show s1.S.size = n1 from hln1.symm.trans hr1.1)
    have HBC := zd (gb.seqB HB.out hbc)
    have HNE := zd (show b ≠ w.heap.size + 1 + 1 ∧ b ≠ w.heap.size + 1 + 1 + 1 from by
      obtain ⟨cur, ht⟩ := HD2.out.row.typed _ rfl
      exact ⟨(show IsB 72 cur.size wc b from ⟨cur, ht, rfl⟩).ne HR2.out (by decide), (show IsB 72 cur.size wc b from ⟨cur, ht, rfl⟩).ne HR3.out (by decide)⟩)
    have HKW := zd (show Hid (Xn wc wc.drew (w.heap.size + 1 + 1) (w.heap.size + 1 + 1 + 1)) from zd (Xn.of (zh _ _).drew))
    clear hg1 hg2 hr1 hbc H0 H1 H2 H3 HD hln1 hs hts hlen hkn hW hM
    cases hcl : z.x.closed
    · have HSH := zd (show ∀ W', Xn wc W' (w.heap.size + 1 + 1) (w.heap.size + 1 + 1 + 1) → W'.cell? ⟨b, oo + i * 23 + 22, none⟩ = some (.bool false) from λ W' hb => by
        have hsh := HD2.out.shut hi hzl
        rw [hcl] at hsh
        have hlt := World.block_lt_of_cell? wc _ hsh
        simp only [World.cell?, hb b hlt HNE.out.1 HNE.out.2] at hsh ⊢
        exact hsh)
      have HWI := zd (λ W' (hb : Below wc.heap.size wc W') => Tp (w := W') (HD2.out.on hb) i hi hn10 ⟨p1, n1, c1, ⟨s1, (kd == 3)⟩⟩ ⟨gc.Zc HRC.out hb, HN1.out⟩)
      have HCK := zd (show ∀ W', Hid (Xn wc W' (w.heap.size + 1 + 1) (w.heap.size + 1 + 1 + 1)) → IsC W' w.heap.size ∧ qE W' w.heap.size = kC (some ⟨b, oo, none⟩) n c k ∧ IsS W' g1 ∧ qE W' g1 = rC p1 n1 c1 s1 ∧ IsN W' g2 ∧ qE W' g2 = ql a1 ∧ W'.cell? ⟨w.heap.size, 0, none⟩ = some (.slice (some ⟨b, oo, none⟩) n c) ∧ W'.cell? ⟨b, oo + i * 23 + 22, none⟩ = some (.bool false) ∧ W'.cell? ⟨w.heap.size + 1, 0, none⟩ = some (.int .i64 kd) ∧ Hid (Xn wc W' (w.heap.size + 1 + 1) (w.heap.size + 1 + 1 + 1)) from λ W' hb => by
        have h0 := HG0.out.same hb.out (by omega) (by omega)
        have h1 := HG1.out.same hb.out (by omega) (by omega)
        have h2 := HG2.out.same hb.out (by omega) (by omega)
        have h3 := HO.out.same hb.out (by omega) (by omega)
        exact ⟨h0.is rfl, h0.cells, h1.is rfl, h1.cells, h2.is rfl, h2.cells, h0.cell 0, HSH.out W' hb.out, h3.cell 0, hb⟩)
      have HCL := zd hcl
      clear HSH hcl hzl hzm HG0 HG1 HG2 HO
      go_wp2_with fail
      go_region_held (λ W' => IsC W' w.heap.size ∧ qE W' w.heap.size = kC (some ⟨b, oo, none⟩) n c k ∧ IsS W' g1 ∧ qE W' g1 = rC p1 n1 c1 s1 ∧ IsN W' g2 ∧ qE W' g2 = ql a1 ∧ W'.cell? ⟨w.heap.size, 0, none⟩ = some (.slice (some ⟨b, oo, none⟩) n c) ∧ W'.cell? ⟨b, oo + i * 23 + 22, none⟩ = some (.bool false) ∧ W'.cell? ⟨w.heap.size + 1, 0, none⟩ = some (.int .i64 kd) ∧ Hid (Xn wc W' (w.heap.size + 1 + 1) (w.heap.size + 1 + 1 + 1)))
        ((refine HCK.out _ ?_
          go_split_ands
          first
            | with_reducible exact HKW.out
            | with_reducible exact hk6
            | with_reducible exact hk7
            | with_reducible exact hk8))
        (first
          | (go_at_call 55; (with_reducible refine zr (HWI.out wc.drew (zh wc.heap.size wc).drew) ?_); rintro e w6 ⟨p2, c2, rfl, hd6, hb6⟩; have hb6' := gb.seqB (zh wc.heap.size wc).drew hb6; have hk6 : Hid (Xn wc w6 (w.heap.size + 1 + 1) (w.heap.size + 1 + 1 + 1)) := zd (Xn.of hb6'); have q6 : IsC w6 (w.heap.size + 1 + 1) := HR2.out.on hb6'; have m6 : IsN w6 (w.heap.size + 1 + 1 + 1) := HR3.out.on hb6'; have r6 : IsN (w6.setRow (w.heap.size + 1 + 1) (kC p2 n c2 { k with L := k.L.set i ⟨s1, (kd == 3)⟩ })) (w.heap.size + 1 + 1 + 1) := m6.apart q6 (by decide) _; have hk7 : Hid (Xn wc (w6.setRow (w.heap.size + 1 + 1) (kC p2 n c2 { k with L := k.L.set i ⟨s1, (kd == 3)⟩ })) (w.heap.size + 1 + 1) (w.heap.size + 1 + 1 + 1)) := zd (hk6.out.B2 _); have hk8 : Hid (Xn wc ((w6.setRow (w.heap.size + 1 + 1) (kC p2 n c2 { k with L := k.L.set i ⟨s1, (kd == 3)⟩ })).setRow (w.heap.size + 1 + 1 + 1) (ql a1)) (w.heap.size + 1 + 1) (w.heap.size + 1 + 1 + 1)) := zd (hk7.out.B1 _)))
      obtain ⟨hz0, hz1, hzb⟩ := XZ q6 m6 (by decide) (gb.seqB HBC.out hb6') (show w.heap.size ≤ (w.heap.size + 1 + 1) by omega) (show w.heap.size ≤ (w.heap.size + 1 + 1 + 1) by omega) (kC p2 n c2 { k with L := k.L.set i ⟨s1, (kd == 3)⟩ }) (ql a1)
      have hzd := (hd6.setRow q6 (by decide) (by decide) (kC p2 n c2 { k with L := k.L.set i ⟨s1, (kd == 3)⟩ })).setRow (m6.apart q6 (by decide) (kC p2 n c2 { k with L := k.L.set i ⟨s1, (kd == 3)⟩ })) (by decide) (by decide) (ql a1)
      have HZ0 := zd hz0
      have HZ1 := zd hz1
      have HZB := zd hzb
      have HZD := zd hzd
      clear hz0 hz1 hzb hzd q6 m6 r6 hk6 hk7 hk8 hd6 hb6 hb6'
      go_wp2_with fail
      refine zk (v := .tuple #[.agg (kC p2 n c2 { k with L := k.L.set i ⟨s1, (kd == 3)⟩ }), .agg (ql a1)]) (by simp [results, results22, asAddr, qt HZ0.out, Ke HZ1.out]) rfl ⟨p2, c2, l.set i ⟨p1, n1, c1, ⟨s1, (kd == 3)⟩⟩, ?_, ?_, HZB.out⟩
      · rw [HCL.out]
        rfl
      · rw [HCL.out]
        exact HZD.out
    · have HSH := zd (show ∀ W', Xn wc W' (w.heap.size + 1 + 1) (w.heap.size + 1 + 1 + 1) → W'.cell? ⟨b, oo + i * 23 + 22, none⟩ = some (.bool true) from λ W' hb => by
        have hsh := HD2.out.shut hi hzl
        rw [hcl] at hsh
        have hlt := World.block_lt_of_cell? wc _ hsh
        simp only [World.cell?, hb b hlt HNE.out.1 HNE.out.2] at hsh ⊢
        exact hsh)
      have HWI := zd (λ W' (hb : Below wc.heap.size wc W') => Tp (w := W') (HD2.out.on hb) i hi hn10 ⟨p1, n1, c1, ⟨s1, true⟩⟩ ⟨gc.Zc HRC.out hb, HN1.out⟩)
      have HCK := zd (show ∀ W', Hid (Xn wc W' (w.heap.size + 1 + 1) (w.heap.size + 1 + 1 + 1)) → IsC W' w.heap.size ∧ qE W' w.heap.size = kC (some ⟨b, oo, none⟩) n c k ∧ IsS W' g1 ∧ qE W' g1 = rC p1 n1 c1 s1 ∧ IsN W' g2 ∧ qE W' g2 = ql a1 ∧ W'.cell? ⟨w.heap.size, 0, none⟩ = some (.slice (some ⟨b, oo, none⟩) n c) ∧ W'.cell? ⟨b, oo + i * 23 + 22, none⟩ = some (.bool true) ∧ W'.cell? ⟨w.heap.size + 1, 0, none⟩ = some (.int .i64 kd) ∧ Hid (Xn wc W' (w.heap.size + 1 + 1) (w.heap.size + 1 + 1 + 1)) from λ W' hb => by
        have h0 := HG0.out.same hb.out (by omega) (by omega)
        have h1 := HG1.out.same hb.out (by omega) (by omega)
        have h2 := HG2.out.same hb.out (by omega) (by omega)
        have h3 := HO.out.same hb.out (by omega) (by omega)
        exact ⟨h0.is rfl, h0.cells, h1.is rfl, h1.cells, h2.is rfl, h2.cells, h0.cell 0, HSH.out W' hb.out, h3.cell 0, hb⟩)
      have HCL := zd hcl
      clear HSH hcl hzl hzm HG0 HG1 HG2 HO
      go_wp2_with fail
      refine wp_region_held_drew (S := λ W' => IsC W' w.heap.size ∧ qE W' w.heap.size = kC (some ⟨b, oo, none⟩) n c k ∧ IsS W' g1 ∧ qE W' g1 = rC p1 n1 c1 s1 ∧ IsN W' g2 ∧ qE W' g2 = ql a1 ∧ W'.cell? ⟨w.heap.size, 0, none⟩ = some (.slice (some ⟨b, oo, none⟩) n c) ∧ W'.cell? ⟨b, oo + i * 23 + 22, none⟩ = some (.bool true) ∧ W'.cell? ⟨w.heap.size + 1, 0, none⟩ = some (.int .i64 kd) ∧ Hid (Xn wc W' (w.heap.size + 1 + 1) (w.heap.size + 1 + 1 + 1))) (by kernel_rfl) (HCK.out _ HKW.out) (λ hHeld => ?_)
      refine zu (i := 0) (oi := { dst := some 21, op := Op.load 31 (Operand.tmp 3), type := 31, pos := "ref.go:62", after := #[], guard := none }) (v := ?v0) rfl (by kernel_rfl) (by kernel_rfl) (by kernel_rfl) (λ _ _ _ h => h) (Or.inl ⟨by rfl, ?hy0⟩) hHeld ?rest0
      case hy0 =>
        intro w hSw
        (try dsimp only at hSw)
        (go_simp <;> with_reducible rfl)
      simp only [Act.put, zm, zq, zp]
      refine zu (i := 1) (oi := { dst := some 22, op := Op.move (Operand.tmp 1), type := 3, pos := "ref.go:62", after := #[], guard := none }) (v := ?v1) rfl (by kernel_rfl) (by kernel_rfl) (by kernel_rfl) (λ _ _ _ h => h) (Or.inl ⟨by rfl, ?hy1⟩) hHeld ?rest1
      case hy1 =>
        intro w hSw
        (try dsimp only at hSw)
        (go_simp <;> with_reducible rfl)
      simp only [Act.put, zm, zq, zp]
      refine zu (i := 2) (oi := { dst := some 23, op := Op.load 68 (Operand.tmp 8), type := 68, pos := "ref.go:62", after := #[], guard := none }) (v := ?v2) rfl (by kernel_rfl) (by kernel_rfl) (by kernel_rfl) (λ _ _ _ h => h) (Or.inl ⟨by rfl, ?hy2⟩) hHeld ?rest2
      case hy2 =>
        intro w hSw
        (try dsimp only at hSw)
        (go_simp <;> with_reducible rfl)
      simp only [Act.put, zm, zq, zp]
      refine zu (i := 3) (oi := { dst := some 24, op := Op.fieldAddr 31 (Operand.tmp 3) 0, type := 0, pos := "ref.go:62", after := #[], guard := none }) (v := ?v3) rfl (by kernel_rfl) (by kernel_rfl) (by kernel_rfl) (λ _ _ _ h => h) (Or.inl ⟨by rfl, ?hy3⟩) hHeld ?rest3
      case hy3 =>
        intro w hSw
        (try dsimp only at hSw)
        (go_simp <;> with_reducible rfl)
      simp only [Act.put, zm, zq, zp]
      refine zu (i := 4) (oi := { dst := some 25, op := Op.load 29 (Operand.tmp 24), type := 29, pos := "ref.go:62", after := #[{ on := 3, ground := Ground.data }], guard := none }) (v := ?v4) rfl (by kernel_rfl) (by kernel_rfl) (by kernel_rfl) (λ _ _ _ h => h) (Or.inl ⟨by rfl, ?hy4⟩) hHeld ?rest4
      case hy4 =>
        intro w hSw
        (try dsimp only at hSw)
        (go_simp <;> with_reducible rfl)
      simp only [Act.put, zm, zq, zp]
      refine zu (i := 5) (oi := { dst := some 26, op := Op.move (Operand.tmp 1), type := 3, pos := "ref.go:62", after := #[], guard := none }) (v := ?v5) rfl (by kernel_rfl) (by kernel_rfl) (by kernel_rfl) (λ _ _ _ h => h) (Or.inl ⟨by rfl, ?hy5⟩) hHeld ?rest5
      case hy5 =>
        intro w hSw
        (try dsimp only at hSw)
        (go_simp <;> with_reducible rfl)
      simp only [Act.put, zm, zq, zp]
      refine zu (i := 6) (oi := { dst := some 27, op := Op.indexAddr 29 (Operand.tmp 25) (Operand.tmp 26), type := 0, pos := "ref.go:62", after := #[{ on := 4, ground := Ground.data }, { on := 5, ground := Ground.data }], guard := none }) (v := ?v6) rfl (by kernel_rfl) (by kernel_rfl) (by kernel_rfl) (λ _ _ _ h => h) (Or.inl ⟨by rfl, ?hy6⟩) hHeld ?rest6
      case hy6 =>
        intro w hSw
        (try dsimp only at hSw)
        (go_simp <;> with_reducible rfl)
      simp only [Act.put, zm, zq, zp]
      refine zu (i := 7) (oi := { dst := some 28, op := Op.fieldAddr 72 (Operand.tmp 27) 1, type := 0, pos := "ref.go:62", after := #[{ on := 6, ground := Ground.data }], guard := none }) (v := ?v7) rfl (by kernel_rfl) (by kernel_rfl) (by kernel_rfl) (λ _ _ _ h => h) (Or.inl ⟨by rfl, ?hy7⟩) hHeld ?rest7
      case hy7 =>
        intro w hSw
        (try dsimp only at hSw)
        (go_simp <;> with_reducible rfl)
      simp only [Act.put, zm, zq, zp]
      refine zu (i := 8) (oi := { dst := some 29, op := Op.load 4 (Operand.tmp 28), type := 4, pos := "ref.go:62", after := #[{ on := 7, ground := Ground.data }], guard := none }) (v := ?v8) rfl (by kernel_rfl) (by kernel_rfl) (by kernel_rfl) (λ _ _ _ h => h) (Or.inl ⟨by rfl, ?hy8⟩) hHeld ?rest8
      case hy8 =>
        intro w hSw
        (try dsimp only at hSw)
        (go_simp <;> with_reducible rfl)
      simp only [Act.put, zm, zq, zp]
      refine zu (i := 9) (oi := { dst := some 30, op := Op.move (Operand.tmp 29), type := 4, pos := "ref.go:62", after := #[{ on := 8, ground := Ground.data }], guard := none }) (v := ?v9) rfl (by kernel_rfl) (by kernel_rfl) (by kernel_rfl) (λ _ _ _ h => h) (Or.inl ⟨by rfl, ?hy9⟩) hHeld ?rest9
      case hy9 =>
        intro w hSw
        (try dsimp only at hSw)
        (go_simp <;> with_reducible rfl)
      simp only [Act.put, zm, zq, zp]
      refine zu (i := 10) (oi := { dst := some 31, op := Op.fieldAddr 77 (Operand.tmp 5) 0, type := 0, pos := "ref.go:62", after := #[{ on := 9, ground := Ground.guard }], guard := some (9, false) }) (v := undef) rfl (by kernel_rfl) (by kernel_rfl) (by kernel_rfl) (λ _ _ _ h => h) (Or.inr ⟨by rfl, rfl⟩) hHeld ?_
      simp only [Act.put, zm, zq, zp]
      refine zu (i := 11) (oi := { dst := some 32, op := Op.load 3 (Operand.tmp 31), type := 3, pos := "ref.go:62", after := #[{ on := 10, ground := Ground.data }, { on := 9, ground := Ground.guard }], guard := some (9, false) }) (v := undef) rfl (by kernel_rfl) (by kernel_rfl) (by kernel_rfl) (λ _ _ _ h => h) (Or.inr ⟨by rfl, rfl⟩) hHeld ?_
      simp only [Act.put, zm, zq, zp]
      refine zu (i := 12) (oi := { dst := some 33, op := Op.binOp BinOp.eql 3 (Operand.tmp 32) (Operand.const (Value.int IntKind.i64 3)) 3, type := 4, pos := "ref.go:62", after := #[{ on := 11, ground := Ground.data }, { on := 9, ground := Ground.guard }], guard := some (9, false) }) (v := undef) rfl (by kernel_rfl) (by kernel_rfl) (by kernel_rfl) (λ _ _ _ h => h) (Or.inr ⟨by rfl, rfl⟩) hHeld ?_
      simp only [Act.put, zm, zq, zp]
      refine zu (i := 13) (oi := { dst := some 34, op := Op.pick (Operand.tmp 30) (Operand.const (Value.bool true)) (Operand.tmp 33), type := 4, pos := "ref.go:62", after := #[{ on := 9, ground := Ground.data }, { on := 12, ground := Ground.data }], guard := none }) (v := ?v13) rfl (by kernel_rfl) (by kernel_rfl) (by kernel_rfl) (λ _ _ _ h => h) (Or.inl ⟨by rfl, ?hy13⟩) hHeld ?rest13
      case hy13 =>
        intro w hSw
        (try dsimp only at hSw)
        (go_simp <;> with_reducible rfl)
      simp only [Act.put, zm, zq, zp]
      refine zu (i := 14) (oi := { dst := some 35, op := Op.build 72 #[(0, Operand.tmp 23), (1, Operand.tmp 34)], type := 72, pos := "ref.go:62", after := #[{ on := 2, ground := Ground.data }, { on := 13, ground := Ground.data }], guard := none }) (v := ?v14) rfl (by kernel_rfl) (by kernel_rfl) (by kernel_rfl) (λ _ _ _ h => h) (Or.inl ⟨by rfl, ?hy14⟩) hHeld ?rest14
      case hy14 =>
        intro w hSw
        (try dsimp only at hSw)
        (go_simp <;> with_reducible rfl)
      simp only [Act.put, zm, zq, zp]
      refine zu (i := 16) (oi := { dst := some 37, op := Op.load 73 (Operand.tmp 9), type := 73, pos := "ref.go:62", after := #[{ on := 17, ground := Ground.gcOnly Departure.lateStores }], guard := none }) (v := ?v16) rfl (by kernel_rfl) (by kernel_rfl) (by kernel_rfl) (λ _ _ _ h => h) (Or.inl ⟨by rfl, ?hy16⟩) hHeld ?rest16
      case hy16 =>
        intro w hSw
        (try dsimp only at hSw)
        (go_simp <;> with_reducible rfl)
      simp only [Act.put, zm, zq, zp]
      refine wpAnyH_ready (rs := [15]) (by kernel_rfl) (by simp) ?_
      refine AllReadyH.cons (o := { dst := some 36, op := Op.call { callee := Callee.value (Operand.func 55), args := #[Operand.tmp 21, Operand.tmp 22, Operand.tmp 35], argTypes := #[31, 3, 72] }, type := 31, pos := "ref.go:62", after := #[{ on := 0, ground := Ground.data }, { on := 1, ground := Ground.data }, { on := 14, ground := Ground.data }, { on := 9, ground := Ground.chain }], guard := none }) rfl (λ K hK => ?_) AllReadyH.nil
      go_simp
      go_at_call 55
      (with_reducible refine zr (HWI.out wc.drew (zh wc.heap.size wc).drew) ?_)
      rintro e w6 ⟨p2, c2, rfl, hd6, hb6⟩
      have hb6' := gb.seqB (zh wc.heap.size wc).drew hb6
      have hk6 : Hid (Xn wc w6 (w.heap.size + 1 + 1) (w.heap.size + 1 + 1 + 1)) := zd (Xn.of hb6')
      have q6 : IsC w6 (w.heap.size + 1 + 1) := HR2.out.on hb6'
      have m6 : IsN w6 (w.heap.size + 1 + 1 + 1) := HR3.out.on hb6'
      have r6 : IsN (w6.setRow (w.heap.size + 1 + 1) (kC p2 n c2 { k with L := k.L.set i ⟨s1, true⟩ })) (w.heap.size + 1 + 1 + 1) := m6.apart q6 (by decide) _
      have hk7 : Hid (Xn wc (w6.setRow (w.heap.size + 1 + 1) (kC p2 n c2 { k with L := k.L.set i ⟨s1, true⟩ })) (w.heap.size + 1 + 1) (w.heap.size + 1 + 1 + 1)) := zd (hk6.out.B2 _)
      have hk8 : Hid (Xn wc ((w6.setRow (w.heap.size + 1 + 1) (kC p2 n c2 { k with L := k.L.set i ⟨s1, true⟩ })).setRow (w.heap.size + 1 + 1 + 1) (ql a1)) (w.heap.size + 1 + 1) (w.heap.size + 1 + 1 + 1)) := zd (hk7.out.B1 _)
      go_wp2_with fail
      refine hK.out _ _ (HCK.out _ hk6) (λ hHeld2 => ?_)
      clear hK K hHeld
      refine wpAnyH_ready (rs := [17]) (by kernel_rfl) (by simp) ?_
      refine AllReadyH.cons (o := { dst := none, op := Op.store 31 (Operand.tmp 6) (Operand.tmp 36), type := 0, pos := "ref.go:62", after := #[{ on := 15, ground := Ground.data }, { on := 15, ground := Ground.chain }, { on := 0, ground := Ground.phase }, { on := 1, ground := Ground.phase }, { on := 2, ground := Ground.phase }, { on := 3, ground := Ground.phase }, { on := 4, ground := Ground.phase }, { on := 5, ground := Ground.phase }, { on := 6, ground := Ground.phase }, { on := 7, ground := Ground.phase }, { on := 8, ground := Ground.phase }, { on := 9, ground := Ground.phase }, { on := 10, ground := Ground.phase }, { on := 11, ground := Ground.phase }, { on := 12, ground := Ground.phase }, { on := 13, ground := Ground.phase }, { on := 14, ground := Ground.phase }, { on := 15, ground := Ground.phase }, { on := 16, ground := Ground.textOnly Departure.lateStores }], guard := none }) rfl (λ K hK => ?_) AllReadyH.nil
      go_simp
      refine hK.out _ _ (HCK.out _ hk7) (λ hHeld => ?_)
      clear hK K hHeld2
      refine wpAnyH_ready (rs := [18]) (by kernel_rfl) (by simp) ?_
      refine AllReadyH.cons (o := { dst := none, op := Op.store 73 (Operand.tmp 7) (Operand.tmp 37), type := 0, pos := "ref.go:62", after := #[{ on := 16, ground := Ground.data }, { on := 17, ground := Ground.chain }, { on := 0, ground := Ground.phase }, { on := 1, ground := Ground.phase }, { on := 2, ground := Ground.phase }, { on := 3, ground := Ground.phase }, { on := 4, ground := Ground.phase }, { on := 5, ground := Ground.phase }, { on := 6, ground := Ground.phase }, { on := 7, ground := Ground.phase }, { on := 8, ground := Ground.phase }, { on := 9, ground := Ground.phase }, { on := 10, ground := Ground.phase }, { on := 11, ground := Ground.phase }, { on := 12, ground := Ground.phase }, { on := 13, ground := Ground.phase }, { on := 14, ground := Ground.phase }, { on := 15, ground := Ground.phase }, { on := 16, ground := Ground.phase }, { on := 17, ground := Ground.phase }], guard := none }) rfl (λ K hK => ?_) AllReadyH.nil
      go_simp
      refine hK.out _ _ (HCK.out _ hk8) (λ hHeld2 => ?_)
      clear hK K hHeld
      refine wpAnyH_done (by kernel_rfl) ?_ _
      obtain ⟨hz0, hz1, hzb⟩ := XZ q6 m6 (by decide) (gb.seqB HBC.out hb6') (show w.heap.size ≤ (w.heap.size + 1 + 1) by omega) (show w.heap.size ≤ (w.heap.size + 1 + 1 + 1) by omega) (kC p2 n c2 { k with L := k.L.set i ⟨s1, true⟩ }) (ql a1)
      have hzd := (hd6.setRow q6 (by decide) (by decide) (kC p2 n c2 { k with L := k.L.set i ⟨s1, true⟩ })).setRow (m6.apart q6 (by decide) (kC p2 n c2 { k with L := k.L.set i ⟨s1, true⟩ })) (by decide) (by decide) (ql a1)
      have HZ0 := zd hz0
      have HZ1 := zd hz1
      have HZB := zd hzb
      have HZD := zd hzd
      clear hz0 hz1 hzb hzd q6 m6 r6 hk6 hk7 hk8 hd6 hb6 hb6'
      go_wp2_with fail
      refine zk (v := .tuple #[.agg (kC p2 n c2 { k with L := k.L.set i ⟨s1, true⟩ }), .agg (ql a1)]) (by simp [results, results22, asAddr, qt HZ0.out, Ke HZ1.out]) rfl ⟨p2, c2, l.set i ⟨p1, n1, c1, ⟨s1, true⟩⟩, ?_, ?_, HZB.out⟩
      · rw [HCL.out]
        rfl
      · rw [HCL.out]
        exact HZD.out
end
end
section
open Go.RowKit
attribute [local go_sem ↓] ZY ZD Xy Z3 Xx Z2 Jb XP Z4
attribute [local go_sem] Z0 ZK ZF Zu Z5 ZQ Xj ZZ okC okN okS Yk
section
variable {w w':World} {p:Option Addr} {n c:Nat} {k:Ch} {l:List Pc} {M:Nat}
theorem DAt.ZT (h:DAt w p n c k l):k.L.length=n:=by rw[←h.is,List.length_map,h.len]
theorem jh (h:DAt w p n c k l) (hF:Ch.Fine k M) (hM:M≤100000) (i:Nat) (hi:i<n) (now:Int) (b:ByteArray) (hb:b.size≤100000):
  Calls zf 22 #[.agg (kC p n c k),.int .i64 (i:Int),.agg #[.int .i64 1,.int .i64 now,.int .i64 0,.string b,.string ⟨#[]⟩,.int .i64 0,.bool false,.int .i64 0,.int .i64 0,.int .i64 0]] w (JS (k.onC i (Ch.qJ now b)) (k.ql i (Ch.qJ now b)) n w):=
 Jq h hF hM i hi 1 now 0 b ⟨#[]⟩ 0 false 0 0 0 hb (by decide)
theorem Lh (h:DAt w p n c k l) (hF:Ch.Fine k M) (hM:M≤100000) (i:Nat) (hi:i<n) (now:Int) (b:ByteArray) (hb:b.size≤100000):
  Calls zf 22 #[.agg (kC p n c k),.int .i64 (i:Int),.agg #[.int .i64 0,.int .i64 now,.int .i64 0,.string b,.string ⟨#[]⟩,.int .i64 0,.bool false,.int .i64 0,.int .i64 0,.int .i64 0]] w (JS (k.onC i (Ch.JV now b)) (k.ql i (Ch.JV now b)) n w):=
 Jq h hF hM i hi 0 now 0 b ⟨#[]⟩ 0 false 0 0 0 hb (by decide)
theorem jg (h:DAt w p n c k l) (hF:Ch.Fine k M) (hM:M≤100000) (i:Nat) (hi:i<n) (now N:Int):
  Calls zf 22 #[.agg (kC p n c k),.int .i64 (i:Int),.agg #[.int .i64 2,.int .i64 now,.int .i64 N,.string ⟨#[]⟩,.string ⟨#[]⟩,.int .i64 0,.bool false,.int .i64 0,.int .i64 0,.int .i64 0]] w (JS (k.onC i (Ch.qH now N)) (k.ql i (Ch.qH now N)) n w):=
 Jq h hF hM i hi 2 now N ⟨#[]⟩ ⟨#[]⟩ 0 false 0 0 0 (by decide) (by decide)
theorem JD (h:DAt w p n c k l) (hF:Ch.Fine k M) (hM:M≤100000) (i:Nat) (hi:i<n) (now:Int):
  Calls zf 22 #[.agg (kC p n c k),.int .i64 (i:Int),.agg #[.int .i64 3,.int .i64 now,.int .i64 0,.string ⟨#[]⟩,.string ⟨#[]⟩,.int .i64 0,.bool false,.int .i64 0,.int .i64 0,.int .i64 0]] w (JS (k.onC i (Ch.qA now)) (k.ql i (Ch.qA now)) n w):=
 Jq h hF hM i hi 3 now 0 ⟨#[]⟩ ⟨#[]⟩ 0 false 0 0 0 (by decide) (by decide)
theorem SX (h:DAt w p n c k l) (hF:Ch.Fine k M) (hM:M≤100000) (i:Nat) (hi:i<n) (now:Int):
  Calls zf 22 #[.agg (kC p n c k),.int .i64 (i:Int),.agg #[.int .i64 4,.int .i64 now,.int .i64 0,.string ⟨#[]⟩,.string ⟨#[]⟩,.int .i64 0,.bool false,.int .i64 0,.int .i64 0,.int .i64 0]] w (JS (k.onC i (Ch.qh now)) (k.ql i (Ch.qh now)) n w):=
 Jq h hF hM i hi 4 now 0 ⟨#[]⟩ ⟨#[]⟩ 0 false 0 0 0 (by decide) (by decide)
theorem Lf (h : DAt w p n c k l) (hF : Ch.Fine k M) (hM : M ≤ 100000) (i : Nat) (hi : i < n) (now : Int) (ts : ByteArray) (tk : Int) (tu : Bool) (to ta tb : Int) (hts : ts.size ≤ maxLen) :
    Calls zf 22 #[.agg (kC p n c k), .int .i64 (i : Int), .agg #[.int .i64 5, .int .i64 now, .int .i64 0, .string ⟨#[]⟩, .string ts, .int .i64 tk, .bool tu, .int .i64 to, .int .i64 ta, .int .i64 tb]] w (JS (k.onC i (Ch.Ve now ⟨ts, tk, tu, to, ta, tb⟩)) (k.ql i (Ch.Ve now ⟨ts, tk, tu, to, ta, tb⟩)) n w) :=
  Jq h hF hM i hi 5 now 0 ⟨#[]⟩ ts tk tu to ta tb (by decide) hts
theorem Mq (h:DAt w p n c k l) (hF:Ch.Fine k M) (hM:M≤100000) (i:Nat) (hi:i<n):
  Calls zf 22 #[.agg (kC p n c k),.int .i64 (i:Int),.agg #[.int .i64 6,.int .i64 0,.int .i64 0,.string ⟨#[]⟩,.string ⟨#[]⟩,.int .i64 0,.bool false,.int .i64 0,.int .i64 0,.int .i64 0]] w (JS (k.onC i Ch.qv) (k.ql i Ch.qv) n w):=
 Jq h hF hM i hi 6 0 0 ⟨#[]⟩ ⟨#[]⟩ 0 false 0 0 0 (by decide) (by decide)
end
theorem Mr (w:World) (p:Option Addr) (n c:Nat) (k:Ch):∃W,(w.alloc (.cells (kC p n c k) 31)).alloc Ji=W∧BAt 31 W w.heap.size (kC p n c k)∧IsC W (w.heap.size+1)∧Below w.heap.size w W∧w.heap.size+1<W.heap.size:=by
 have h1:=(Va (T:=31) w (kC p n c k)).alloc Ji
 have h2:=Mu w (.cells (kC p n c k) 31)
 exact⟨_,rfl,h1,h2,((zh _ _).alloc (zg _) _).alloc (by simp) _,h2.lt⟩
theorem jd (w:World) (p:Option Addr) (n c:Nat) (k:Ch) (x:Ans):∃W,(w.alloc Ji).alloc Vh=W∧IsC W w.heap.size∧IsN (W.setRow w.heap.size (kC p n c k)) (w.heap.size+1)∧BAt 31 ((W.setRow w.heap.size (kC p n c k)).setRow (w.heap.size+1) (ql x)) w.heap.size (kC p n c k)∧
  BAt 73 ((W.setRow w.heap.size (kC p n c k)).setRow (w.heap.size+1) (ql x)) (w.heap.size+1) (ql x)∧Below w.heap.size w ((W.setRow w.heap.size (kC p n c k)).setRow (w.heap.size+1) (ql x))∧W.heap.size=w.heap.size+2:=by
 have h1:=(Yn w).alloc Vh
 have h2:=Uw w Ji
 obtain⟨a,b,d⟩:=XZ h1 h2 (by decide) (((zh _ _).alloc (zg _) _).alloc (by simp) _) (zg _) (show w.heap.size≤w.heap.size+1 by omega) (kC p n c k) (ql x)
 exact⟨_,rfl,h1,h2.apart h1 (by decide) _,a,b,d,by simp⟩
theorem Y5 {w:World} {p:Option Addr} {n c:Nat} {k:Ch} {l:List Pc} {M:Nat} (h:DAt w p n c k l) (hF:Ch.Fine k M) (hM:M≤100000) (i:Nat) (hi:i<n) (now:Int):
  Calls zf 57 #[.agg (kC p n c k),.int .i64 (i:Int),.int .i64 now] w (jC (k.onC i (Ch.qh now)) (k.ql i (Ch.qh now)).n n w):=by
 obtain⟨W,hW,hk0,hk1,hb0,hlt⟩:=Mr w p n c k
 have hW:(w.alloc (.cells (kC p n c k) 31)).alloc (.cells #[.slice none 0 0,.int .i64 0,.int .i64 0,.bool false,.int .i64 0] 31)=W:=hW
 have HD:=zd (SX (h.on hb0) hF hM i hi now)
 have i0:=hk0.is (K:=5) rfl
 have c0:=hk0.cells
 have HK1:=zd hk1
 have HB:=zd hb0
 obtain⟨k1,hk1e⟩:∃k1,k.onC i (Ch.qh now)=k1:=⟨_,rfl⟩
 obtain⟨a1,ha1⟩:∃a1,k.ql i (Ch.qh now)=a1:=⟨_,rfl⟩
 rw[hk1e,ha1]at HD⊢
 clear h hF hk0 hk1 hb0 hk1e ha1
 go_enter func57,ntmps57
 go_wp2_with fail
 refine HD.out.mono ?_
 rintro e w1 ⟨p1,c1,l1,rfl,hd1,hb1⟩
 have hK1:=HK1.out.on hb1
 have hls:=hK1.lt
 obtain⟨W2,hW2,i2,i3,z2,z3,hb2,hs2⟩:=jd w1 p1 n c1 k1 a1
 have hW2:(w1.alloc (.cells #[.slice none 0 0,.int .i64 0,.int .i64 0,.bool false,.int .i64 0] 31)).alloc (.cells #[.int .i64 0,.string ⟨#[]⟩,.int .i64 0] 73)=W2:=hW2
 have HD2:=zd (hd1.on hb2)
 have HK2:=zd (hK1.on hb2)
 have HB2:=zd (gb.seqB HB.out (gb.seqB hb1 hb2))
 have HZ2:=zd z2
 have HZ3:=zd z3
 clear HD i0 c0 HK1 hK1 hb1 hb2 hd1 z2 z3 hW HB
 go_upto_region 2 with fail
 generalize(W2.setRow w1.heap.size (kC p1 n c1 k1)).setRow (w1.heap.size+1) (ql a1)=w3 at*
 have e0:IsC w3.drew w1.heap.size:=HZ2.out.is rfl
 have e1:qE w3.drew w1.heap.size=kC p1 n c1 k1:=HZ2.out.cells
 have e2:w3.drew.cell? ⟨w1.heap.size+1,0,none⟩=some (.int .i64 a1.n):=HZ3.out.cell 0
 have e3:IsC w3.drew (w.heap.size+1):=HK2.out
 have e4:(w3.drew.setRow (w.heap.size+1) (kC p1 n c1 k1)).cell? ⟨w1.heap.size+1,0,none⟩=some (.int .i64 a1.n):=(BAt.other (w:=w3.drew) HZ3.out (by omega) _).cell 0
 clear hW2 i2 i3 hs2
 go_region
 have hz:=(show IsC w3.drew (w.heap.size+1)from HK2.out).row (kC p1 n c1 k1)
 have hzb:=below_setRow HB2.out.drew (show w.heap.size≤w.heap.size+1 by omega) (kC p1 n c1 k1)
 have hzd:=(HD2.out.on (zh _ _).drew).setRow (show IsC w3.drew (w.heap.size+1)from HK2.out) (by decide) (by decide) (kC p1 n c1 k1)
 have HZ:=zd hz
 have HZB:=zd hzb
 have HZD:=zd hzd
 clear hz hzb hzd e0 e1 e2 e3
 go_wp2_with fail
 exact zk (v:=.tuple #[.agg (kC p1 n c1 k1),.int .i64 a1.n]) (by simp[results,results57,asAddr,qt HZ.out]) rfl ⟨p1,c1,l1,rfl,HZD.out,HZB.out⟩
end
end Go.Proofs.YtfdfgnmgpgkknaaGreat
