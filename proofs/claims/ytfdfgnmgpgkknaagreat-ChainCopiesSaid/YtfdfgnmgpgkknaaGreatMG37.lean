import Derived.Test.YtfdfgnmgpgkknaaGreatMG35
import Derived.Test.YtfdfgnmgpgkknaaGreatMG36
import Derived.RangeFuncNested
import Derived.RangeFuncBound
import Derived.RangeFuncCalls
import Derived.RangeFuncLeaves
import Derived.Shelf.Abstract
import Derived.Shelf.RegionOpen
import Derived.OwnWalkIn
import Derived.TacticsInMore
import Derived.LoopNIn
import Derived.LoopIn
set_option maxRecDepth 100000
set_option maxHeartbeats 16000000
open Go.Proofs.Tryz renaming prog→zf
open Go.Exit renaming noGoto_ret→zl
open Go.Lib renaming hid→zd
open Go renaming bodyPost_ret→zk,cell_of_row→ze,heap_alloc_new→zo,wpAnyH_take→zu
open Nat renaming le_trans→zt,lt_of_lt_of_le→zy,le_refl→zg
open Go.RowKit.Below renaming heap_setCell→zn,refl→zh
open List renaming setIfInBounds_toArray→zm,set_cons_zero→zq,set_cons_succ→zp
open Go.Calls renaming mono→zr
open Go.Proofs.Tryz
namespace Go.Proofs.YtfdfgnmgpgkknaaGreat
section
open Go.RowKit
attribute [local go_sem] Oper.semAt_some
def JO (B g b o m cap:Nat) (pp:Nat→Nat) (W:World):Prop:=
 W.cell? ⟨B,0,none⟩=some (ptr g)∧W.cell? ⟨g,0,none⟩=some (.slice (some ⟨b,o,none⟩) (m+1) cap)∧∀k,k<m+1→W.cell? ⟨b,o+k,none⟩=some (ptr (pp k))
abbrev Dj (m:Nat):={k:Nat//k<m}
theorem TI {B g b o m cap:Nat} {pp:Nat→Nat} {W:World} (h:JO B g b o m cap pp W) {l:Nat} {x x':Obj} (hl:W.heap[l]?=some x) (hx:x.isCells=false):JO B g b o m cap pp (W.putObj l x'):=by
 have key:∀(i k:Nat) (v:Value),W.cell? ⟨i,k,none⟩=some v→(W.putObj l x').cell? ⟨i,k,none⟩=some v:=λ i k v hv=>by
  have hne:i≠l:=λ e=>by
   subst e
   simp only[World.cell?,hl]at hv
   cases x<;>first|(simp[Obj.isCells]at hx;done)|cases hv
  have:=World.putObj_heap_other (w:=W) (r:=l) (o:=x') (k:=i) (by first|exact hne|exactλ e=>hne e.symm)
  simp only[World.cell?]at hv⊢
  rw[this]
  exact hv
 exact⟨key _ _ _ h.1,key _ _ _ h.2.1,λ k hk=>key _ _ _ (h.2.2 k hk)⟩
theorem Nr (g:Nat) (w:World):Calls zf 72 #[ptr g] w λ e w'=>e=.returned (.func (.func 99) #[] #[ptr w.heap.size])∧w'=w.alloc (.cells #[ptr g] 25):=by
 go_enter func72,ntmps72
 go_wp2_with fail
 try rw[zl]
 go_ret
 exact⟨rfl,rfl⟩
theorem QV (n:Nat) (B g b o m cap:Nat) (pp:Nat→Nat) (h1:1≤m) (hm:m≤10) (hmc:m+1≤cap) (w:World) (hB:B<w.heap.size) (hg:g<w.heap.size) (hb:b<w.heap.size) (hs:JO B g b o m cap pp w):
  SeqStopsK Fence.wide n zf 99 #[ptr B] (λ x:Dj m=>#[ptr (pp x.1),ptr (pp (x.1+1))]) (λ W W'=>JO B g b o m cap pp W→JO B g b o m cap pp W') (λ xs=>xs.map (·.1)=List.range m) (λ _=>True) m w:=λ l J Jx W hW _ _ hY h0=>by
 have hsW:JO B g b o m cap pp W:=⟨(hW.cell (p:=⟨B,0,none⟩) hB).trans hs.1,(hW.cell (p:=⟨g,0,none⟩) hg).trans hs.2.1,λ k hk=>(hW.cell (p:=⟨b,o+k,none⟩) hb).trans (hs.2.2 k hk)⟩
 have x0:=hsW.1
 have x1:=hsW.2.1
 have HS:=zd hsW
 have hc1:¬cap=1:=by omega
 clear hs hsW hW hB hg hb
 refine callsIn_of_wp func99 rfl trivial ?_ rfl
 simp only[ntmps99,List.size_toArray,List.length_cons,List.length_nil,Nat.reduceAdd,Nat.reduceSub,Array.replicate_succ,Array.replicate_zero,List.push_toArray,List.append_toArray,List.nil_append,List.cons_append]
 gi_wp2
 gi_loopw [11] (λ i wr=>∃(k:Nat) (pre:List (Dj m)),k≤m∧i=.int .i64 k∧Hid (pre.map (·.1)=List.range k)∧J pre wr∧Hid (JO B g b o m cap pp wr)) (λ i _=>m -(intOf i).toNat)
 case atStart=>exact⟨0,[],Nat.zero_le _,rfl,zd rfl,h0,HS⟩
 case round=>
  clear x0 x1 HS
  obtain⟨k,pre,hk,rfl,HP,hJ,HS⟩:=hrel
  by_cases hlt:k<m
  ·have hlen:pre.length=k:=by
    have:=congrArg List.length HP.out
    simpa using this
   obtain⟨fn,tmps,assign,body,hy,hR⟩:=hY pre ⟨k,hlt⟩ wr hJ (by omega)
   dsimp only at hy
   have x0:=HS.out.1
   have x1:=HS.out.2.1
   have y0:=HS.out.2.2 k (by omega)
   have y1:=HS.out.2.2 (k+1) (by omega)
   rw[show o+(k+1)=o+1+k by omega]at y1
   generalize pp k=pk at*
   generalize pp (k+1)=pk1 at*
   gi_wp2
   refine⟨λ e=>absurd e (by simp[Fence.wide]),hR.mono ?_⟩
   rintro e W3 (⟨rfl,hJ3,hk3⟩|⟨rfl,hJx3⟩)
   ·have HS3:=zd (hk3 HS.out)
    have HP3:=zd (show(pre++[(⟨k,hlt⟩:Dj m)]).map (·.1)=List.range (k+1) by rw[List.map_append,HP.out,List.range_succ];rfl)
    clear hk3 HS x0 x1 y0 y1
    gi_wp2
    go_roundw
    case rel=>exact⟨k+1,pre++[⟨k,hlt⟩],by omega,by first|go_num|simp,HP3,hJ3,HS3⟩
    case measure=>simp[intOf];omega
   ·gi_wp2
    refine zk (results_none rfl _ _ _) rfl ?_
    exact⟨⟨_,rfl⟩,.inr ⟨_,trivial,hJx3⟩⟩
  ·obtain rfl:k=m:=by omega
   gi_wp2
   go_end0
   exact⟨⟨_,rfl⟩,.inl ⟨_,HP.out,hJ⟩⟩
end
section
open Go.RowKit
section
variable {w w' w0 W W':World} {g:Nat} {p:Option Addr} {cap:Nat} {q:List Nd} {c c' d:Ch} {M M':Nat}
theorem PG {U:Own} {gg m:Nat} {s:St} (h:Rep w U gg s m) {i:Nat} (hi:U i):∃cs T fr,w.heap[i]?=some (.cells cs T fr):=by
 obtain⟨base,c,u,s',hr,_,_,rfl⟩:=h
 obtain⟨ms,G,hR,_⟩:=hr.car
 obtain⟨⟨c0,t0⟩,t1,t2⟩:=hR.typed
 rcases hi with rfl|rfl|e|e
 ·exact⟨_,_,_,hr.blk⟩
 ·exact⟨_,_,_,t0⟩
 ·obtain⟨_,c1,t3⟩:=t1 i e
  exact⟨_,_,_,t3⟩
 ·obtain⟨_,c1,t3⟩:=t2 i e
  exact⟨_,_,_,t3⟩
theorem CAt.cells (h:CAt w g p cap q c M) {i:Nat} (hi:ZX g p q i):∃cs T fr,w.heap[i]?=some (.cells cs T fr):=by
 rcases h.own hi with rfl|⟨a,ha,rfl⟩|⟨k,hk,e⟩
 ·exact⟨_,_,_,h.blk⟩
 ·obtain⟨cur,hc⟩:=h.row.typed a ha
  exact⟨_,_,_,hc⟩
 ·rw[h.len]at hk
  rcases e with rfl|e
  ·exact⟨_,_,_,h.prt k hk⟩
  ·exact PG (h.stg k hk) e
theorem CAt.KV (h:CAt w g p cap q c M) {i:Nat} {cs:Array Value} {T:TypeId} {fr:Nat×Nat} (hi:w.heap[i]?=some (.cells cs T fr)) (h1:T≠113) (h2:T≠137) (h3:T≠5) (h4:T≠142)
  (h5:T≠58) (h6:T≠90) (h7:T≠59):¬ZX g p q i:=λ hu=>by
 rcases h.own hu with rfl|⟨a,ha,rfl⟩|⟨k,hk,e⟩
 ·exact h5 (gc.Zo hi h.blk)
 ·obtain⟨cur,hc⟩:=h.row.typed a ha
  exact h7 (gc.Zo hi hc)
 ·rw[h.len]at hk
  rcases e with rfl|e
  ·exact h6 (gc.Zo hi (h.prt k hk))
  ·exact Y1 (h.stg k hk) hi h1 h2 h3 h4 e
theorem Mvd.kept {U U':Own} (h:Mvd w U w' U') {i:Nat} {o:Obj} (hi:w.heap[i]?=some o) (hu:¬U i):w'.heap[i]?=some o:=(h.1.2 i (gb.qd hi) hu).trans hi
theorem CAt.others (h:CAt w g p cap q c M) {U':Own} (hm:Mvd w (ZX g p q) w' U') (B:Nat):KeepsFrom B w w':=
 ⟨hm.size,λ k o _ hk ho=>hm.kept hk λ hu=>by
  obtain⟨cs,T,fr,hc⟩:=h.cells hu
  rw[hc]at hk
  cases hk
  cases ho⟩
theorem Qf {row:Option Nat} (h:qx w0 g p cap q c M W) (hg:W.grownBy W' row) (hr:∀r,row=some r→w0.heap.size≤r∧∃o:Obj,W.heap[r]?=some o∧o.isCells=false):qx w0 g p cap q c M W':=by
 obtain⟨q',h1,⟨⟨hb,hk⟩,hn⟩,h3⟩:=h
 refine⟨q',h1.keep λ i hi=>hg.block i (h1.lt hi) λ e=>?_,⟨⟨⟨hg.os.trans hb.os,hg.tape.trans hb.tape,hg.output.trans hb.output,zt hb.size hg.size,λ i hi=>absurd hi (Nat.not_lt_zero i)⟩,λ i hi hu=>?_⟩,hn⟩,h3⟩
 ·obtain⟨_,o,ho,hc⟩:=hr i e.symm
  obtain⟨cs,T,fr,hx⟩:=h1.cells hi
  rw[hx]at ho
  cases ho
  cases hc
 ·refine(hg.block i (zy hi hb.size) λ e=>?_).trans (hk i hi hu)
  have:=(hr i e.symm).1
  omega
theorem Un {row:Option Nat} {i:Nat} {cs:Array Value} {T:TypeId} {fr:Nat×Nat} (h:W.heap[i]?=some (.cells cs T fr)) (hg:W.grownBy W' row) (hr:∀r,row=some r→w0.heap.size≤r∧∃o:Obj,W.heap[r]?=some o∧o.isCells=false):W'.heap[i]?=some (.cells cs T fr):=
 (hg.block i (gb.qd h) λ e=>by
  obtain⟨_,o,ho,hc⟩:=hr i e.symm
  rw[h]at ho
  cases ho
  cases hc).trans h
def Vy (w0:World) (g:Nat) (p:Option Addr) (cap:Nat) (q:List Nd) (M:Nat) (now:Int) (nb B:Nat) (d:Ch) (W:World):Prop:=
 qx w0 g p cap q d M W∧W.heap[nb]?=some (.cells #[.int .i64 now] 3 (0,0))∧W.heap[B]?=some (.cells #[ptr g] 25 (0,0))
theorem TP {β:Type} {now:Int} {nb B:Nat} (f:β→Ch):OwnFrom w0.heap.size (λ (s:β) W=>Vy w0 g p cap q M now nb B (f s) W):=
 λ _ _ _ _ hs hg hr=>⟨Qf hs.1 hg hr,Un (w0:=w0) hs.2.1 hg hr,Un (w0:=w0) hs.2.2 hg hr⟩
theorem Vy.side {now:Int} {nb B m b o:Nat} (h:Vy w0 g (some ⟨b,o,none⟩) cap q M now nb B d W) (hm:d.L.length=m+1):JO B g b o m cap (λ k=>(nd q k).p) W:=by
 obtain⟨⟨q',a1,a2,a3⟩,_,h3⟩:=h
 refine⟨ze _ _ 0 _ _ _ h3,?_,λ k hk=>?_⟩
 ·have:=a1.cell 0
  rw[hm]at this
  exact this
 ·have:=a1.Sj (k:=k) (by omega)
  rw[(a3 k).1]at this
  exact this
end
def Qw (c:Ch) (now:Int) (l:List Nat):Ch:=l.foldl (λ d x=>d.ZI now x) c
theorem Kc (c:Ch) (now:Int) (l:List Nat) (x:Nat):Qw c now (l++[x])=(Qw c now l).ZI now x:=by simp[Qw,List.foldl_append]
theorem SH (c:Ch) (now:Int) (n:Nat):Qw c now (List.range n)=c.Xf now n:=by
 induction n with
 |zero=>rfl
 |succ n ih=>rw[List.range_succ,Kc,ih];rfl
theorem GA (c:Ch) (now:Int) (l:List Nat):(Qw c now l).L.length=c.L.length:=by
 induction l generalizing c with
 |nil=>rfl
 |cons x r ih=>exact(ih (c.ZI now x)).trans (Ch.Qb _ _ _)
def Qy (c:Ch) (now:Int) (j x:Nat):Ch:=
 let d:=c.onC x (Ch.qh now)
 if(c.ql x (Ch.qh now)).n=1 then(d.Za (j+1)).onC (x+1) (Ch.qA now)else d
def MG (c:Ch) (now:Int) (l:List Nat):Ch×Nat:=l.foldl (λ s x=>(Qy s.1 now s.2 x,s.2+1)) (c,0)
def Qz (c:Ch) (now:Int) (l:List Nat):Ch:=(MG c now l).1
theorem Lr (c:Ch) (now:Int) (l:List Nat) (x:Nat):MG c now (l++[x])=(Qy (MG c now l).1 now (MG c now l).2 x,(MG c now l).2+1):=by simp[MG,List.foldl_append]
theorem Ff (c:Ch) (now:Int) (l:List Nat):(MG c now l).2=l.length:=by
 have:∀(l:List Nat) (s:Ch×Nat),(l.foldl (λ s x=>(Qy s.1 now s.2 x,s.2+1)) s).2=s.2+l.length:=by
  intro l
  induction l with
  |nil=>intro s;rfl
  |cons x r ih=>intro s;rw[List.foldl_cons,ih,List.length_cons];show s.2+1+r.length=_;omega
 have h:=this l (c,0)
 show(l.foldl _ (c,0)).2=_
 rw[h]
 omega
theorem Ko (c:Ch) (now:Int) (l:List Nat) (x:Nat):Qz c now (l++[x])=Qy (Qz c now l) now l.length x:=by
 show(MG c now (l++[x])).1=_
 rw[Lr,Ff]
 rfl
theorem S9 (c:Ch) (now:Int) (n:Nat):Qz c now (List.range n)=c.ends now n:=by
 induction n with
 |zero=>rfl
 |succ n ih=>rw[List.range_succ,Ko,ih,List.length_range];rfl
theorem Mh (c:Ch) (now:Int) (j x:Nat):(Qy c now j x).L.length=c.L.length:=by
 unfold Qy
 dsimp only
 split<;>simp only[Ch.qk,Ch.ZL]
theorem GB (c:Ch) (now:Int) (l:List Nat):(Qz c now l).L.length=c.L.length:=by
 have:∀(l:List Nat) (s:Ch×Nat),(l.foldl (λ s x=>(Qy s.1 now s.2 x,s.2+1)) s).1.L.length=s.1.L.length:=by
  intro l
  induction l with
  |nil=>intro s;rfl
  |cons x r ih=>intro s;rw[List.foldl_cons,ih];exact Mh _ _ _ _
 exact this l (c,0)
section
variable {w w' w'':World} {g:Nat} {p:Option Addr} {cap:Nat} {q:List Nd} {c c':Ch} {M M':Nat}
def Way (w:World) (g:Nat) (p:Option Addr) (cap:Nat) (q:List Nd) (c:Ch) (M:Nat) (x:Nat) (now F:Int) (w':World):Prop:=
 ∃q',CAt w' g p cap q' (c.onC x (Ch.qH now F)) M∧Mvd w (ZX g p q) w' (ZX g p q')∧Pg q' q∧
  (∀j,x+1≤j→j<c.L.length→(nd q' j).m+Zj (c.onC x (Ch.qH now F)).L j+(c.ql x (Ch.qH now F)).s.size≤M)∧c.lost+(Zj (c.onC x (Ch.qH now F)).L c.L.length:Nat)+(c.ql x (Ch.qH now F)).s.size≤M
theorem LJ (h:CAt w g p cap q c M) {x:Nat} (hx:x+1<c.L.length) {now F:Int} (hs:Stp w (nd q x).U (nd q x).g (Zw (c.at' x).s now F).1 (nd q x).m w'):Way w g p cap q c M x now F w':=by
 have hx0:x<c.L.length:=by omega
 have hq:x<q.length:=by rw[h.len];exact hx0
 have hz:(Zw (c.at' x).s now F).1.S.size+(Zw (c.at' x).s now F).2.size=(c.at' x).s.S.size:=Ch.JU _ now F
 obtain⟨U',h1,h2⟩:=h.Nq hx0 hs (by omega)
 have e:c.onC x (Ch.qH now F)=XR c x (Zw (c.at' x).s now F).1:=Y3 _ _ _ (by show(2:Int)≠3;decide)
 have e2:(c.ql x (Ch.qH now F)).s=(Zw (c.at' x).s now F).2:=rfl
 have hsum:∀j,x<j→Zj (XR c x (Zw (c.at' x).s now F).1).L j+(Zw (c.at' x).s now F).2.size=Zj c.L j:=λ j hj=>by
  have:=(J4 c x j (Zw (c.at' x).s now F).1 hx0).1 hj
  omega
 unfold Way
 rw[e,e2]
 refine⟨_,h1,h2,λ j=>JL q x j U' _ hq,λ j hj hj'=>?_,?_⟩
 ·rw[Gm]
  have:=hsum j (by omega)
  have:=h.sum j hj'
  omega
 ·have:=hsum c.L.length hx0
  have:=h.los.2
  omega
end
end
section
open Go.RowKit
section
variable {w0 Ws W W':World} {g:Nat} {p:Option Addr} {cap:Nat} {q:List Nd} {d d':Ch} {M:Nat} {now:Int} {nb B:Nat}
def Nn (Ws W:World):Prop:=∀(i:Nat) (cs:Array Value) (T:TypeId) (fr:Nat×Nat),(T=3∨T=25)→Ws.heap[i]?=some (.cells cs T fr)→W.heap[i]?=some (.cells cs T fr)
theorem Nn.trans {W'':World} (h:Nn W W') (k:Nn W' W''):Nn W W'':=λ i cs T fr hT hi=>k i cs T fr hT (h i cs T fr hT hi)
theorem LC (hb:Below W.heap.size W W'):Nn W W':=λ _ _ _ _ _ hi=>(hb.block _ (gb.qd hi)).trans hi
theorem Fw {q':List Nd} (h:CAt W g p cap q' d M) {U':Own} (hm:Mvd W (ZX g p q') W' U'):Nn W W':=λ i cs T fr hT hi=>by
 rcases hT with rfl|rfl
 ·exact hm.kept hi (h.KV hi (by decide) (by decide) (by decide) (by decide) (by decide) (by decide) (by decide))
 ·exact hm.kept hi (h.KV hi (by decide) (by decide) (by decide) (by decide) (by decide) (by decide) (by decide))
def Rnd (w0:World) (g:Nat) (p:Option Addr) (cap:Nat) (q:List Nd) (M:Nat) (now:Int) (nb B:Nat) (Ws:World) (d:Ch) (W:World):Prop:=Vy w0 g p cap q M now nb B d W∧KeepsFrom w0.heap.size Ws W∧Nn Ws W
theorem Rnd.start (h:Vy w0 g p cap q M now nb B d W):Rnd w0 g p cap q M now nb B W d W:=⟨h,KeepsFrom.refl _ _,λ _ _ _ _ _ h=>h⟩
theorem Vy.on (h:Vy w0 g p cap q M now nb B d W) (hb:Below W.heap.size W W'):Vy w0 g p cap q M now nb B d W':=
 ⟨h.1.on hb,(hb.block _ (gb.qd h.2.1)).trans h.2.1,(hb.block _ (gb.qd h.2.2)).trans h.2.2⟩
theorem Mp (hb:Below W.heap.size W W') (b:Nat):KeepsFrom b W W':=⟨hb.size,λ k _ _ hk _=>(hb.block k (gb.qd hk)).trans hk⟩
theorem Rnd.on (h:Rnd w0 g p cap q M now nb B Ws d W) (hb:Below W.heap.size W W'):Rnd w0 g p cap q M now nb B Ws d W':=⟨h.1.on hb,h.2.1.trans (Mp hb _),h.2.2.trans (LC hb)⟩
theorem QY {q':List Nd} (h:Rnd w0 g p cap q M now nb B Ws d W) (a1:CAt W g p cap q' d M) (a2:Mvd w0 (ZX g p q) W (ZX g p q')) (a3:Pg q' q) (hp:qx W g p cap q' d' M W'):Rnd w0 g p cap q M now nb B Ws d' W':=by
 obtain⟨q2,b1,b2,b3⟩:=hp
 have hk:=Fw a1 b2
 exact⟨⟨⟨q2,b1,a2.trans b2,b3.trans a3⟩,hk _ _ _ _ (Or.inl rfl) h.1.2.1,hk _ _ _ _ (Or.inr rfl) h.1.2.2⟩,h.2.1.trans (a1.others b2 _),h.2.2.trans hk⟩
theorem Rnd.at (h:Rnd w0 g p cap q M now nb B Ws d W):∃q',CAt W g p cap q' d M∧Pg q' q:=by
 obtain⟨q',a1,a2,a3⟩:=h.1.1
 exact⟨q',a1,a3⟩
theorem Rnd.cells (h:Rnd w0 g p cap q M now nb B Ws d W) {x:Nat} (hx:x<d.L.length):W.cell? ⟨(nd q x).p,0,none⟩=some (ptr (nd q x).g)∧W.cell? ⟨nb,0,none⟩=some (.int .i64 now)∧W.cell? ⟨B,0,none⟩=some (ptr g):=by
 obtain⟨q',a1,a3⟩:=h.at
 have:=(a1.Vc hx).1
 rw[(a3 x).1,(a3 x).2]at this
 exact⟨this,ze _ _ 0 _ _ _ h.1.2.1,ze _ _ 0 _ _ _ h.1.2.2⟩
theorem jS (h:Rnd w0 g p cap q M now nb B Ws d W) {x:Nat} (hx:x<d.L.length):Calls zf 45 #[ptr (nd q x).g,.int .i64 now] W λ e w'=>e=.returned (.int .i64 (d.ql x (Ch.qh now)).n)∧Rnd w0 g p cap q M now nb B Ws (d.onC x (Ch.qh now)) w':=by
 obtain⟨q',a1,a2,a3⟩:=h.1.1
 rw[←(a3 x).2]
 refine(QB (a1.stg x hx) now).mono ?_
 rintro e w' ⟨rfl,hs⟩
 refine⟨rfl,QY h a1 a2 a3 ?_⟩
 rw[Us]
 exact a1.Su hx hs (zg _)
theorem Oz (h:Rnd w0 g p cap q M now nb B Ws d W) {x:Nat} (hx:x<d.L.length):Calls zf 67 #[ptr (nd q x).g] W λ e w'=>e=.returned (.int .i64 (Zt (d.at' x).s))∧Rnd w0 g p cap q M now nb B Ws d w':=by
 obtain⟨q',a1,a3⟩:=h.at
 rw[←(a3 x).2]
 refine(BB (a1.stg x hx)).mono ?_
 rintro e w' ⟨rfl,hb⟩
 exact⟨rfl,h.on hb⟩
def Mid (w0:World) (g:Nat) (p:Option Addr) (cap:Nat) (q:List Nd) (M:Nat) (now:Int) (nb B:Nat) (Ws:World) (d:Ch) (x:Nat) (F:Int) (T:ByteArray) (W:World):Prop:=
 Rnd w0 g p cap q M now nb B Ws (d.onC x (Ch.qH now F)) W∧∃q',CAt W g p cap q' (d.onC x (Ch.qH now F)) M∧Pg q' q∧
  (∀j,x+1≤j→j<d.L.length→(nd q' j).m+Zj (d.onC x (Ch.qH now F)).L j+T.size≤M)∧d.lost+(Zj (d.onC x (Ch.qH now F)).L d.L.length:Nat)+T.size≤M∧Mvd w0 (ZX g p q) W (ZX g p q')
theorem Ow (h:Rnd w0 g p cap q M now nb B Ws d W) {x:Nat} (hx:x+1<d.L.length) (F:Int) {T:ByteArray} (hT:(d.ql x (Ch.qH now F)).s=T):
  Calls zf 46 #[ptr (nd q x).g,.int .i64 now,.int .i64 F] W λ e w'=>∃a dd,e=.returned (.slice a T.size dd)∧Lib.BytesIn w' a T.size (gc.nums T)∧Mid w0 g p cap q M now nb B Ws d x F T w':=by
 obtain⟨q',a1,a2,a3⟩:=h.1.1
 have hx0:x<d.L.length:=by omega
 rw[←(a3 x).2]
 refine(LW (a1.stg x hx0) now F (T:=T) hT).mono ?_
 rintro e w' ⟨a,dd,rfl,hi,_,_,_,hs⟩
 obtain⟨q2,b1,b2,b3,b4,b5⟩:=LJ a1 hx hs.stp
 rw[hT]at b4 b5
 exact⟨a,dd,rfl,hi,QY h a1 a2 a3 ⟨q2,b1,b2,b3⟩,q2,b1,b3.trans a3,b4,b5,a2.trans b2⟩
theorem Ox {x:Nat} {F:Int} {T:ByteArray} (h:Mid w0 g p cap q M now nb B Ws d x F T W) (hx:x+1<d.L.length) {a:Option Addr} {dd:Nat} (hi:Lib.BytesIn W a T.size (gc.nums T)):
  Calls zf 62 #[ptr (nd q (x+1)).g,.int .i64 now,.slice a T.size dd] W λ e w'=>e=.returned (.tuple #[])∧Rnd w0 g p cap q M now nb B Ws ((d.onC x (Ch.qH now F)).onC (x+1) (Ch.qJ now T)) w':=by
 obtain⟨hr,q',a1,a3,h4,h5,a2⟩:=h
 have hl:(d.onC x (Ch.qH now F)).L.length=d.L.length:=Ch.qk _ _ _
 have hx1:x+1<(d.onC x (Ch.qH now F)).L.length:=by omega
 have ht:=a1.top
 have hm:=h4 (x+1) (zg _) hx
 rw[←(a3 (x+1)).2]
 refine(NP (a1.stg (x+1) hx1) now (b:=T) rfl hi (M':=(nd q' (x+1)).m+T.size) (zg _) (by omega)).mono ?_
 rintro e w' ⟨rfl,hs⟩
 have hz:(Zy ((d.onC x (Ch.qH now F)).at' (x+1)).s now T).S.size≤((d.onC x (Ch.qH now F)).at' (x+1)).s.S.size+T.size:=by
  have e1:(Zy ((d.onC x (Ch.qH now F)).at' (x+1)).s now T).S.size=_:=Ch.Jc ((d.onC x (Ch.qH now F)).at' (x+1)).s now T
  rw[e1]
  split<;>omega
 have hp:qx W g p cap q' ((d.onC x (Ch.qH now F)).onC (x+1) (Ch.qJ now T)) M w':=by
  rw[Y3 _ _ _ (show(Ch.qJ now T).kind≠3 by show(1:Int)≠3;decide)]
  exact a1.Be hx1 hs hz (λ j hj hj'=>h4 j (by omega) (by omega)) (by rw[hl];exact h5) (zg _) ht
 exact⟨rfl,QY hr a1 a2 a3 hp⟩
theorem Oy (h:Rnd w0 g p cap q M now nb B Ws d W) (h2:2≤d.L.length) (N:Nat) (hN:N≤d.L.length):Calls zf 60 #[ptr g,.int .i64 (N:Int)] W λ e w'=>e=.returned (.tuple #[])∧Rnd w0 g p cap q M now nb B Ws (d.Za N) w':=by
 obtain⟨q',a1,a2,a3⟩:=h.1.1
 refine(SO a1 h2 N hN).mono ?_
 rintro e w' ⟨rfl,hp⟩
 exact⟨rfl,QY h a1 a2 a3 hp⟩
theorem PD (h:Rnd w0 g p cap q M now nb B Ws d W) {x:Nat} (hx:x<d.L.length):Calls zf 39 #[ptr (nd q x).p,.int .i64 now] W λ e w'=>e=.returned (.tuple #[])∧Rnd w0 g p cap q M now nb B Ws (d.onC x (Ch.qA now)) w':=by
 obtain⟨q',a1,a2,a3⟩:=h.1.1
 rw[←(a3 x).1]
 refine(KH (a1.part hx) now).mono ?_
 intro e w' hs
 refine⟨hs.1,QY h a1 a2 a3 (a1.shut hx now hs)⟩
theorem SW {b b':Nat} (h:KeepsFrom b W W') (hb:b≤b'):KeepsFrom b' W W':=⟨h.size,λ k o hk=>h.same k o (zt hb hk)⟩
theorem Vy.set (h:Vy w0 g p cap q M now nb B d W) {kb:Nat} {cs:Array Value} {fr:Nat×Nat} (hk:W.heap[kb]?=some (.cells cs 3 fr)) (hb:w0.heap.size≤kb) (h1:kb≠nb) (h2:kb≠B) (i:Nat) (v:Value):Vy w0 g p cap q M now nb B d (W.setCell ⟨kb,i,none⟩ v):=by
 obtain⟨⟨q',a1,⟨⟨b1,b2⟩,b3⟩,a3⟩,h3,h4⟩:=h
 have hno:=a1.KV hk (by decide) (by decide) (by decide) (by decide) (by decide) (by decide) (by decide)
 have ho:∀j,j≠kb→(W.setCell ⟨kb,i,none⟩ v).heap[j]?=W.heap[j]?:=λ j hj=>zn _ _ _ _ hj
 refine⟨⟨q',a1.keep λ j hj=>ho j λ e=>hno (by rw[←e];exact hj),⟨⟨⟨b1.os,b1.tape,b1.output,by simpa[World.setCell]using b1.size,λ j hj=>absurd hj (Nat.not_lt_zero j)⟩,λ j hj hu=>(ho j (by omega)).trans (b2 j hj hu)⟩,b3⟩,a3⟩,(ho _ λ e=>h1 e.symm).trans h3,(ho _ λ e=>h2 e.symm).trans h4⟩
theorem OW {β:Type} {I:β→World→Prop} {b b':Nat} (h:OwnFrom b I) (hb:b≤b'):OwnFrom b' I:=λ s W W' row hs hg hr=>h s W W' row hs hg λ r e=>⟨zt hb (hr r e).1,(hr r e).2⟩
end
end
section
open Go.RowKit
attribute [local go_sem] Oper.semAt_some
section
variable {w w':World} {g:Nat} {p:Option Addr} {cap:Nat} {q:List Nd} {c c':Ch} {M M':Nat}
def ES:Go.Op→Bool
 | .defer _=>true
 |_=>false
theorem Q7 {ops:Array Oper} (h:(ops.all λ o=>!ES o.op)=true):∀o∈ops,∀c,o.op≠ .defer c:=λ o ho c e=>by
 have:=Array.all_eq_true_iff_forall_mem.1 h o ho
 rw[e]at this
 cases this
theorem Bv (h:CAt w g p cap q c M) (h2:2≤c.L.length) (now:Int):Calls zf 42 #[ptr g,.int .i64 now] w λ e w'=>e=.returned (.tuple #[])∧qx w g p cap q (c.Xf now (c.L.length -1)) M w':=by
 have h10:=h.ten
 have hal:Below w.heap.size w ((w.alloc (.cells #[.int .i64 now] 3)).alloc (.cells #[ptr g] 25)):=((zh _ _).alloc (zg _) _).alloc (by simp) _
 have hn1:((w.alloc (.cells #[.int .i64 now] 3)).alloc (.cells #[ptr g] 25)).heap[w.heap.size]?=some (.cells #[.int .i64 now] 3 (0,0)):=by
  have b2:Below (w.alloc (.cells #[.int .i64 now] 3)).heap.size (w.alloc (.cells #[.int .i64 now] 3)) ((w.alloc (.cells #[.int .i64 now] 3)).alloc (.cells #[ptr g] 25)):=(zh _ _).alloc (zg _) _
  exact(b2.block _ (by simp)).trans (zo w _)
 have hn2:((w.alloc (.cells #[.int .i64 now] 3)).alloc (.cells #[ptr g] 25)).heap[w.heap.size+1]?=some (.cells #[ptr g] 25 (0,0)):=by
  have:=zo (w.alloc (.cells #[.int .i64 now] 3)) (.cells #[ptr g] 25)
  rw[World.size_alloc]at this
  exact this
 obtain⟨W0,hW0⟩:∃W0,(w.alloc (.cells #[.int .i64 now] 3)).alloc (.cells #[ptr g] 25)=W0:=⟨_,rfl⟩
 rw[hW0]at hal hn1 hn2
 obtain⟨m,hm⟩:∃m,c.L.length=m+1:=⟨c.L.length -1,by omega⟩
 obtain⟨b,o,rfl,hr,hnc,hmx⟩:=h.rows (by omega)
 have hI0:Vy W0 g (some ⟨b,o,none⟩) cap q M now w.heap.size (w.heap.size+1) c W0:=⟨qx.refl (h.on hal),hn1,hn2⟩
 have hbl:b<W0.heap.size:=zy (h.row.lt _ rfl).2 hal.size
 have hgl:g<W0.heap.size:=zy (gb.qd h.blk) hal.size
 have hBl:=gb.qd hn2
 have HFIN:=zd (λ d W (hp:qx W0 g (some ⟨b,o,none⟩) cap q d M W)=>(show qx w g (some ⟨b,o,none⟩) cap q d M W from by
  obtain⟨q9,a1,a2,a3⟩:=hp
  exact⟨q9,a1,((Mvd.refl w _).on hal).trans a2,a3⟩))
 have HSD:=zd (hI0.side hm)
 have HI0:=zd hI0
 have HMM:=zd hm
 have h1m:1≤m:=by omega
 have hm10:m≤10:=by omega
 have hmc:m+1≤cap:=by omega
 rw[hm,Nat.add_sub_cancel]
 clear h hr hI0 hn1 hn2 hal hnc hm h2 h10
 refine(callsIn_wide (n:=3)).1 ?_
 refine callsIn_of_wp_marks func42 rfl trivial ?_ rfl
 simp only[ntmps42,List.size_toArray,List.length_cons,List.length_nil,Nat.reduceAdd,Nat.reduceSub,Array.replicate_succ,Array.replicate_zero,List.push_toArray,List.append_toArray,List.nil_append,List.cons_append]
 gi_wp2_with (refine⟨trivial,?_⟩;gi_at_call 72;refine(callsIn_wide.2 (Nr _ _)).mono ?_;rintro e w' ⟨rfl,rfl⟩)
 try rw[hW0]
 clear hW0
 generalize w.heap.size=nb at*
 refine wpIn_rangeFunc_ownG rfl (by omega) (gf:=99) (lb:=#[ptr (nb+1)]) rfl trivial (enters_of func99 (by kernel_rfl) rfl)
  (QV _ (nb+1) g b o m cap (λ k=>(nd q k).p) h1m hm10 hmc W0 hBl hgl hbl HSD.out) (λ h k x=>k (h x)) (λ W l x x' _ hx hc _ hs=>TI hs hx hc) (zh _ _) (λ _=>rfl)
  (λ pre W=>Vy W0 g (some ⟨b,o,none⟩) cap q M now nb (nb+1) (Qw c now (pre.map (·.1))) W)
  (λ _ _ _=>False)
  (TP _)
  (λ _ _ _ _ _ hs _ _=>hs)
  HI0.out
  (λ x=>{tmps:=#[ptr g,.int .i64 now,undef,ptr nb,ptr (nd q x.1).p,ptr (nd q (x.1+1)).p,ptr g,.func (.func 99) #[] #[ptr (nb+1)],ptr (nd q x.1).p,ptr (nd q (x.1+1)).p,undef,undef,undef,undef,undef,undef,undef,undef,undef,undef,undef,undef,undef,undef,undef,undef,undef,undef,undef,undef,undef,undef,undef,undef],defers:=[]}) ?assign ?body ?done ?stop
 case assign=>
  intro l x W K hK
  gi_wp2
  exact hK
 case done=>
  rintro D xs W hD hxs hI hK
  rw[hxs,SH]at hI
  have HE:=zd (HFIN.out _ _ hI.1)
  have HT:=zd (λ (W':World) (hp:qx W0 g (some ⟨b,o,none⟩) cap q (c.Xf now m) M W')=>HFIN.out _ _ hp)
  have HC:=zd hI.1
  clear hI HE
  gi_wp2
  refine⟨by simp,.inl ⟨_,_,rfl,run_takeDeferred hK,?_⟩⟩
  exact⟨_,results_none rfl _ _ _,rfl,HT.out _ (Qf HC.out (grownBy_putObj' _ D (.deferred none)) (λ r e=>by cases e;exact⟨hD,_,hK,rfl⟩))⟩
 case stop=>
  rintro D c pre W _ _ h _
  exact h.elim
 case body=>
  rintro l pre x W hI _
  have hmx2:Tryz.prog.follows .mixedOrders=true:=by kernel_rfl
  have hlen:(Qw c now (pre.map (·.1))).L.length=m+1:=(GA _ _ _).trans HMM.out
  have hx:=x.2
  have HFL:=zd (show Qw c now ((pre++[x]).map (·.1))=(Qw c now (pre.map (·.1))).ZI now x.1 by rw[List.map_append];exact Kc _ _ _ _)
  obtain⟨x,hxm⟩:=x
  dsimp only at hx HFL⊢
  generalize Qw c now (pre.map (·.1))=d at*
  have hx1:x+1<d.L.length:=by omega
  have hr0:=(Rnd.start hI).on (zh _ W).drew
  have HST:=zd (jS hr0 hx1)
  have HS0:=zd (show∀(d':Ch) W1,d'.L.length=m+1→Rnd W0 g (some ⟨b,o,none⟩) cap q M now nb (nb+1) W d' W1→W1.cell? ⟨(nd q (x+1)).p,0,none⟩=some (ptr (nd q (x+1)).g)∧W1.cell? ⟨nb,0,none⟩=some (.int .i64 now)∧W1.cell? ⟨(nd q x).p,0,none⟩=some (ptr (nd q x).g)from
   λ d' W1 hl h=>⟨(h.cells (by omega)).1,(h.cells (x:=x) (by omega)).2.1,(h.cells (by omega)).1⟩)
  have hl1:(d.onC (x+1) (Ch.qh now)).L.length=m+1:=by rw[Ch.qk];exact hlen
  have HS1:=zd (λ W1 h=>HS0.out (d.onC (x+1) (Ch.qh now)) W1 hl1 h)
  have hc0:=HS0.out _ _ hlen hr0
  have HKP:=zd (λ (d':Ch) W1 (hl:d'.L.length=m+1) (h:Rnd W0 g (some ⟨b,o,none⟩) cap q M now nb (nb+1) W d' W1)=>(⟨h.2.1,λ _=>h.1.side hl⟩:KeepsFrom W0.heap.size W W1∧(JO (nb+1) g b o m cap (λ k=>(nd q k).p) W→JO (nb+1) g b o m cap (λ k=>(nd q k).p) W1)))
  have HNO:=zd (show(d.ql (x+1) (Ch.qh now)).n≠0→d.ZI now x=d.onC (x+1) (Ch.qh now)fromλ hn=>by unfold Ch.ZI;dsimp only;rw[if_neg hn])
  have HYES:=zd (show(d.ql (x+1) (Ch.qh now)).n=0→d.ZI now x=((d.onC (x+1) (Ch.qh now)).onC x (Ch.qH now (Zt ((d.onC (x+1) (Ch.qh now)).at' (x+1)).s))).onC (x+1) (Ch.qJ now ((d.onC (x+1) (Ch.qh now)).ql x (Ch.qH now (Zt ((d.onC (x+1) (Ch.qh now)).at' (x+1)).s))).s)fromλ hn=>by unfold Ch.ZI;dsimp only;rw[if_pos hn])
  have hlf:(d.ZI now x).L.length=m+1:=by rw[Ch.Qb];exact hlen
  have HLF:=zd hlf
  generalize(d.ql (x+1) (Ch.qh now)).n=X at*
  generalize d.onC (x+1) (Ch.qh now)=d1 at*
  have hx11:x+1<d1.L.length:=by omega
  have HFR0:=zd (λ W1 (h:Rnd W0 g (some ⟨b,o,none⟩) cap q M now nb (nb+1) W d1 W1)=>Oz (h.on (zh _ W1).drew) hx11)
  obtain⟨FF,hF⟩:∃F,Zt (d1.at' (x+1)).s=F:=⟨_,rfl⟩
  rw[hF]at HFR0 HYES
  obtain⟨TT,hT⟩:∃T,(d1.ql x (Ch.qH now FF)).s=T:=⟨_,rfl⟩
  rw[hT]at HYES
  have HTK:=zd (λ W1 (h:Rnd W0 g (some ⟨b,o,none⟩) cap q M now nb (nb+1) W d1 W1)=>Ow h hx11 FF hT)
  have HPU:=zd (λ W1 ta td (h:Mid W0 g (some ⟨b,o,none⟩) cap q M now nb (nb+1) W d1 x FF TT W1) (hi:Lib.BytesIn W1 ta TT.size (gc.nums TT))=>Ox (dd:=td) h hx11 hi)
  have HS3:=zd (λ W1 (h:Mid W0 g (some ⟨b,o,none⟩) cap q M now nb (nb+1) W d1 x FF TT W1)=>HS0.out (d1.onC x (Ch.qH now FF)) W1 (by rw[Ch.qk];exact hl1) h.1)
  have HS4:=zd (λ W1 h=>HS0.out ((d1.onC x (Ch.qH now FF)).onC (x+1) (Ch.qJ now TT)) W1 (by rw[Ch.qk,Ch.qk];exact hl1) h)
  generalize TT.size=K at*
  generalize(nd q (x+1)).p=py at*
  generalize(nd q (x+1)).g=gy at*
  generalize hpx:(nd q x).p=px at*
  generalize(nd q x).g=gx at*
  have HC0:=zd hc0
  clear hI hr0 hlen hx hx1 hx11 hl1 hlf hF hT hc0 HS0 HSD HI0 HFIN
  gi_wp2
  refine V0 (S:=λ w'=>(w'.cell? ⟨py,0,none⟩=some (ptr gy)∧w'.cell? ⟨nb,0,none⟩=some (.int .i64 now)∧w'.cell? ⟨px,0,none⟩=some (ptr gx))∧True) hmx2 (Q7 (by kernel_rfl)) (λ a w h=>h) ⟨HC0.out,trivial⟩ (λ hHeld=>?_)
  refine zu (i:=0) (oi:={dst:=some 10,op:=Op.move (Operand.tmp 5),type:=59,pos:=_,after:=#[],guard:=none}) (v:=?va0) rfl (by kernel_rfl) (by kernel_rfl) (by kernel_rfl) (λ _ _ _ h=>h) (Or.inl ⟨by rfl,?hya0⟩) hHeld ?resta0
  case hya0=>
   intro w hSw
   clear hSw
   (go_simp<;>with_reducible rfl)
  simp only[Act.put,zm,zq,zp]
  refine zu (i:=1) (oi:={dst:=some 11,op:=Op.nilCheck (Operand.tmp 10),type:=0,pos:=_,after:=#[{on:=0,ground:=Ground.data}],guard:=none}) (v:=?va1) rfl (by kernel_rfl) (by kernel_rfl) (by kernel_rfl) (λ _ _ _ h=>h) (Or.inl ⟨by rfl,?hya1⟩) hHeld ?resta1
  case hya1=>
   intro w hSw
   clear hSw
   (go_simp<;>with_reducible rfl)
  simp only[Act.put,zm,zq,zp]
  refine zu (i:=2) (oi:={dst:=some 12,op:=Op.fieldAddr 90 (Operand.tmp 11) 0,type:=0,pos:=_,after:=#[{on:=1,ground:=Ground.data}],guard:=none}) (v:=?va2) rfl (by kernel_rfl) (by kernel_rfl) (by kernel_rfl) (λ _ _ _ h=>h) (Or.inl ⟨by rfl,?hya2⟩) hHeld ?resta2
  case hya2=>
   intro w hSw
   clear hSw
   (go_simp<;>with_reducible rfl)
  simp only[Act.put,zm,zq,zp]
  refine zu (i:=3) (oi:={dst:=some 13,op:=Op.load 88 (Operand.tmp 12),type:=88,pos:=_,after:=#[{on:=2,ground:=Ground.data}],guard:=none}) (v:=?va3) rfl (by kernel_rfl) (by kernel_rfl) (by kernel_rfl) (λ _ _ _ h=>h) (Or.inl ⟨by rfl,?hya3⟩) hHeld ?resta3
  case hya3=>
   intro w hSw
   obtain⟨⟨c0,c1,c2⟩,_⟩:=hSw
   (go_simp<;>with_reducible rfl)
  simp only[Act.put,zm,zq,zp]
  refine zu (i:=4) (oi:={dst:=some 14,op:=Op.load 3 (Operand.tmp 3),type:=3,pos:=_,after:=#[],guard:=none}) (v:=?va4) rfl (by kernel_rfl) (by kernel_rfl) (by kernel_rfl) (λ _ _ _ h=>h) (Or.inl ⟨by rfl,?hya4⟩) hHeld ?resta4
  case hya4=>
   intro w hSw
   obtain⟨⟨c0,c1,c2⟩,_⟩:=hSw
   (go_simp<;>with_reducible rfl)
  simp only[Act.put,zm,zq,zp]
  refine wpAnyH_ready (rs:=[5]) (by kernel_rfl) (by simp) ?_
  refine AllReadyH.cons (o:={dst:=some 15,op:=Op.call {callee:=Callee.value (Operand.func 45),args:=#[Operand.tmp 13,Operand.tmp 14],argTypes:=#[88,3]},type:=3,pos:=_,after:=#[{on:=3,ground:=Ground.data},{on:=4,ground:=Ground.data}],guard:=none}) rfl (λ K hK=>?_) AllReadyH.nil
  go_simp
  go_at_call 45
  refine zr HST.out ?_
  rintro e w1 ⟨rfl,hr1⟩
  have HR1:=zd hr1
  clear hr1 HST
  refine hK.out _ _ ⟨HS1.out w1 HR1.out,trivial⟩ (λ hHeld1=>?_)
  clear hK K hHeld
  refine zu (i:=6) (oi:={dst:=some 16,op:=Op.binOp BinOp.eql 3 (Operand.tmp 15) (Operand.const (Value.int IntKind.i64 0)) 3,type:=4,pos:=_,after:=#[{on:=5,ground:=Ground.data}],guard:=none}) (v:=?va6) rfl (by kernel_rfl) (by kernel_rfl) (by kernel_rfl) (λ _ _ _ h=>h) (Or.inl ⟨by rfl,?hya6⟩) hHeld1 ?resta6
  case hya6=>
   intro w hSw
   clear hSw
   (go_simp<;>with_reducible rfl)
  simp only[Act.put,zm,zq,zp]
  refine wpAnyH_done (by kernel_rfl) ?_ _
  clear HC0
  by_cases hX:X=0
  ·subst hX
   have HFR:=zd (HFR0.out w1 HR1.out)
   have HC1:=zd (HS1.out _ (HR1.out.on (zh _ w1).drew))
   clear HNO HFR0 HR1 hHeld1
   gi_wp2
   refine V0 (S:=λ w'=>(w'.cell? ⟨py,0,none⟩=some (ptr gy)∧w'.cell? ⟨nb,0,none⟩=some (.int .i64 now)∧w'.cell? ⟨px,0,none⟩=some (ptr gx))∧True) hmx2 (Q7 (by kernel_rfl)) (λ a w h=>h) ⟨HC1.out,trivial⟩ (λ hHeld=>?_)
   refine zu (i:=0) (oi:={dst:=some 17,op:=Op.move (Operand.tmp 5),type:=59,pos:=_,after:=#[],guard:=none}) (v:=?vb0) rfl (by kernel_rfl) (by kernel_rfl) (by kernel_rfl) (λ _ _ _ h=>h) (Or.inl ⟨by rfl,?hyb0⟩) hHeld ?restb0
   case hyb0=>
    intro w hSw
    clear hSw
    (go_simp<;>with_reducible rfl)
   simp only[Act.put,zm,zq,zp]
   refine zu (i:=1) (oi:={dst:=some 18,op:=Op.nilCheck (Operand.tmp 17),type:=0,pos:=_,after:=#[{on:=0,ground:=Ground.data}],guard:=none}) (v:=?vb1) rfl (by kernel_rfl) (by kernel_rfl) (by kernel_rfl) (λ _ _ _ h=>h) (Or.inl ⟨by rfl,?hyb1⟩) hHeld ?restb1
   case hyb1=>
    intro w hSw
    clear hSw
    (go_simp<;>with_reducible rfl)
   simp only[Act.put,zm,zq,zp]
   refine zu (i:=2) (oi:={dst:=some 19,op:=Op.fieldAddr 90 (Operand.tmp 18) 0,type:=0,pos:=_,after:=#[{on:=1,ground:=Ground.data}],guard:=none}) (v:=?vb2) rfl (by kernel_rfl) (by kernel_rfl) (by kernel_rfl) (λ _ _ _ h=>h) (Or.inl ⟨by rfl,?hyb2⟩) hHeld ?restb2
   case hyb2=>
    intro w hSw
    clear hSw
    (go_simp<;>with_reducible rfl)
   simp only[Act.put,zm,zq,zp]
   refine zu (i:=3) (oi:={dst:=some 20,op:=Op.load 88 (Operand.tmp 19),type:=88,pos:=_,after:=#[{on:=2,ground:=Ground.data}],guard:=none}) (v:=?vb3) rfl (by kernel_rfl) (by kernel_rfl) (by kernel_rfl) (λ _ _ _ h=>h) (Or.inl ⟨by rfl,?hyb3⟩) hHeld ?restb3
   case hyb3=>
    intro w hSw
    obtain⟨⟨c0,c1,c2⟩,_⟩:=hSw
    (go_simp<;>with_reducible rfl)
   simp only[Act.put,zm,zq,zp]
   refine zu (i:=4) (oi:={dst:=some 21,op:=Op.load 3 (Operand.tmp 3),type:=3,pos:=_,after:=#[],guard:=none}) (v:=?vb4) rfl (by kernel_rfl) (by kernel_rfl) (by kernel_rfl) (λ _ _ _ h=>h) (Or.inl ⟨by rfl,?hyb4⟩) hHeld ?restb4
   case hyb4=>
    intro w hSw
    obtain⟨⟨c0,c1,c2⟩,_⟩:=hSw
    (go_simp<;>with_reducible rfl)
   simp only[Act.put,zm,zq,zp]
   refine zu (i:=5) (oi:={dst:=some 22,op:=Op.move (Operand.tmp 4),type:=59,pos:=_,after:=#[],guard:=none}) (v:=?vb5) rfl (by kernel_rfl) (by kernel_rfl) (by kernel_rfl) (λ _ _ _ h=>h) (Or.inl ⟨by rfl,?hyb5⟩) hHeld ?restb5
   case hyb5=>
    intro w hSw
    clear hSw
    (go_simp<;>with_reducible rfl)
   simp only[Act.put,zm,zq,zp]
   refine zu (i:=6) (oi:={dst:=some 23,op:=Op.nilCheck (Operand.tmp 22),type:=0,pos:=_,after:=#[{on:=5,ground:=Ground.data}],guard:=none}) (v:=?vb6) rfl (by kernel_rfl) (by kernel_rfl) (by kernel_rfl) (λ _ _ _ h=>h) (Or.inl ⟨by rfl,?hyb6⟩) hHeld ?restb6
   case hyb6=>
    intro w hSw
    clear hSw
    (go_simp<;>with_reducible rfl)
   simp only[Act.put,zm,zq,zp]
   refine zu (i:=7) (oi:={dst:=some 24,op:=Op.fieldAddr 90 (Operand.tmp 23) 0,type:=0,pos:=_,after:=#[{on:=6,ground:=Ground.data}],guard:=none}) (v:=?vb7) rfl (by kernel_rfl) (by kernel_rfl) (by kernel_rfl) (λ _ _ _ h=>h) (Or.inl ⟨by rfl,?hyb7⟩) hHeld ?restb7
   case hyb7=>
    intro w hSw
    clear hSw
    (go_simp<;>with_reducible rfl)
   simp only[Act.put,zm,zq,zp]
   refine zu (i:=8) (oi:={dst:=some 25,op:=Op.load 88 (Operand.tmp 24),type:=88,pos:=_,after:=#[{on:=7,ground:=Ground.data}],guard:=none}) (v:=?vb8) rfl (by kernel_rfl) (by kernel_rfl) (by kernel_rfl) (λ _ _ _ h=>h) (Or.inl ⟨by rfl,?hyb8⟩) hHeld ?restb8
   case hyb8=>
    intro w hSw
    obtain⟨⟨c0,c1,c2⟩,_⟩:=hSw
    (go_simp<;>with_reducible rfl)
   simp only[Act.put,zm,zq,zp]
   refine zu (i:=9) (oi:={dst:=some 26,op:=Op.load 3 (Operand.tmp 3),type:=3,pos:=_,after:=#[],guard:=none}) (v:=?vb9) rfl (by kernel_rfl) (by kernel_rfl) (by kernel_rfl) (λ _ _ _ h=>h) (Or.inl ⟨by rfl,?hyb9⟩) hHeld ?restb9
   case hyb9=>
    intro w hSw
    obtain⟨⟨c0,c1,c2⟩,_⟩:=hSw
    (go_simp<;>with_reducible rfl)
   simp only[Act.put,zm,zq,zp]
   refine zu (i:=10) (oi:={dst:=some 27,op:=Op.move (Operand.tmp 5),type:=59,pos:=_,after:=#[],guard:=none}) (v:=?vb10) rfl (by kernel_rfl) (by kernel_rfl) (by kernel_rfl) (λ _ _ _ h=>h) (Or.inl ⟨by rfl,?hyb10⟩) hHeld ?restb10
   case hyb10=>
    intro w hSw
    clear hSw
    (go_simp<;>with_reducible rfl)
   simp only[Act.put,zm,zq,zp]
   refine zu (i:=11) (oi:={dst:=some 28,op:=Op.nilCheck (Operand.tmp 27),type:=0,pos:=_,after:=#[{on:=10,ground:=Ground.data}],guard:=none}) (v:=?vb11) rfl (by kernel_rfl) (by kernel_rfl) (by kernel_rfl) (λ _ _ _ h=>h) (Or.inl ⟨by rfl,?hyb11⟩) hHeld ?restb11
   case hyb11=>
    intro w hSw
    clear hSw
    (go_simp<;>with_reducible rfl)
   simp only[Act.put,zm,zq,zp]
   refine zu (i:=12) (oi:={dst:=some 29,op:=Op.fieldAddr 90 (Operand.tmp 28) 0,type:=0,pos:=_,after:=#[{on:=11,ground:=Ground.data}],guard:=none}) (v:=?vb12) rfl (by kernel_rfl) (by kernel_rfl) (by kernel_rfl) (λ _ _ _ h=>h) (Or.inl ⟨by rfl,?hyb12⟩) hHeld ?restb12
   case hyb12=>
    intro w hSw
    clear hSw
    (go_simp<;>with_reducible rfl)
   simp only[Act.put,zm,zq,zp]
   refine zu (i:=13) (oi:={dst:=some 30,op:=Op.load 88 (Operand.tmp 29),type:=88,pos:=_,after:=#[{on:=12,ground:=Ground.data}],guard:=none}) (v:=?vb13) rfl (by kernel_rfl) (by kernel_rfl) (by kernel_rfl) (λ _ _ _ h=>h) (Or.inl ⟨by rfl,?hyb13⟩) hHeld ?restb13
   case hyb13=>
    intro w hSw
    obtain⟨⟨c0,c1,c2⟩,_⟩:=hSw
    (go_simp<;>with_reducible rfl)
   simp only[Act.put,zm,zq,zp]
   refine wpAnyH_ready (rs:=[14]) (by kernel_rfl) (by simp) ?_
   refine AllReadyH.cons (o:={dst:=some 31,op:=Op.call {callee:=Callee.value (Operand.func 67),args:=#[Operand.tmp 30],argTypes:=#[88]},type:=3,pos:=_,after:=#[{on:=13,ground:=Ground.data}],guard:=none}) rfl (λ K hK=>?_) AllReadyH.nil
   go_simp
   go_at_call 67
   refine zr HFR.out ?_
   rintro e w2 ⟨rfl,hr2⟩
   have HR2:=zd hr2
   clear hr2 HFR
   refine hK.out _ _ ⟨HS1.out w2 HR2.out,trivial⟩ (λ hHeld1=>?_)
   clear hK K hHeld
   refine wpAnyH_ready (rs:=[15]) (by kernel_rfl) (by simp) ?_
   refine AllReadyH.cons (o:={dst:=some 32,op:=Op.call {callee:=Callee.value (Operand.func 46),args:=#[Operand.tmp 25,Operand.tmp 26,Operand.tmp 31],argTypes:=#[88,3,3]},type:=49,pos:=_,after:=#[{on:=8,ground:=Ground.data},{on:=9,ground:=Ground.data},{on:=14,ground:=Ground.data},{on:=14,ground:=Ground.chain}],guard:=none}) rfl (λ K hK=>?_) AllReadyH.nil
   go_simp
   go_at_call 46
   refine zr (HTK.out w2 HR2.out) ?_
   rintro e w3 ⟨ta,td,rfl,hi3,hm3⟩
   have HM3:=zd hm3
   have HI3:=zd hi3
   clear hm3 hi3 HTK HR2
   refine hK.out _ _ ⟨HS3.out w3 HM3.out,trivial⟩ (λ hHeld2=>?_)
   clear hK K hHeld1
   refine wpAnyH_ready (rs:=[16]) (by kernel_rfl) (by simp) ?_
   refine AllReadyH.cons (o:={dst:=some 33,op:=Op.call {callee:=Callee.value (Operand.func 62),args:=#[Operand.tmp 20,Operand.tmp 21,Operand.tmp 32],argTypes:=#[88,3,49]},type:=0,pos:=_,after:=#[{on:=3,ground:=Ground.data},{on:=4,ground:=Ground.data},{on:=15,ground:=Ground.data},{on:=15,ground:=Ground.chain}],guard:=none}) rfl (λ K hK=>?_) AllReadyH.nil
   go_simp
   go_at_call 62
   refine zr (HPU.out w3 ta td HM3.out HI3.out) ?_
   rintro e w4 ⟨rfl,hr4⟩
   have HR4:=zd hr4
   clear hr4 HPU HM3 HI3
   refine hK.out _ _ ⟨HS4.out w4 HR4.out,trivial⟩ (λ hHeld3=>?_)
   clear hK K hHeld2
   refine wpAnyH_done (by kernel_rfl) ?_ _
   gi_wp2
   have e:=HYES.out (by trivial)
   refine⟨(HKP.out _ _ ?_ HR4.out).1,(HKP.out _ _ ?_ HR4.out).2,?_⟩
   ·rw[←e];exact HLF.out
   ·rw[←e];exact HLF.out
   ·show Vy _ _ _ _ _ _ _ _ _ (Qw c now _) _
    rw[HFL.out,e]
    exact HR4.out.1
  ·have d1x:decide (X=0)=false:=by simpa using hX
   have d2x:(X==0)=false:=by simpa using hX
   clear HFR0 HTK HPU HS3 HS4 HYES
   gi_wp2
   have e:=HNO.out hX
   refine⟨(HKP.out _ _ ?_ HR1.out).1,(HKP.out _ _ ?_ HR1.out).2,?_⟩
   ·rw[←e];exact HLF.out
   ·rw[←e];exact HLF.out
   ·show Vy _ _ _ _ _ _ _ _ _ (Qw c now _) _
    rw[HFL.out,e]
    exact HR1.out.1
end
end
section
open Go.RowKit
attribute [local go_sem] Oper.semAt_some
section
variable {w w':World} {g:Nat} {p:Option Addr} {cap:Nat} {q:List Nd} {c c':Ch} {M M':Nat}
theorem MB (w:World) (o0 o1 o2 o3:Obj):∃W,(((w.alloc o0).alloc o1).alloc o2).alloc o3=W∧Below w.heap.size w W∧W.heap[w.heap.size]?=some o0∧W.heap[w.heap.size+1]?=some o1∧W.heap[w.heap.size+2]?=some o2∧W.heap[w.heap.size+3]?=some o3:=by
 have s1:(w.alloc o0).heap.size=w.heap.size+1:=by simp
 have s2:((w.alloc o0).alloc o1).heap.size=w.heap.size+2:=by simp
 have s3:(((w.alloc o0).alloc o1).alloc o2).heap.size=w.heap.size+3:=by simp
 have b1:Below w.heap.size w (w.alloc o0):=(zh _ _).alloc (zg _) _
 have b2:Below (w.alloc o0).heap.size (w.alloc o0) ((w.alloc o0).alloc o1):=(zh _ _).alloc (zg _) _
 have b3:Below ((w.alloc o0).alloc o1).heap.size ((w.alloc o0).alloc o1) (((w.alloc o0).alloc o1).alloc o2):=(zh _ _).alloc (zg _) _
 have b4:Below (((w.alloc o0).alloc o1).alloc o2).heap.size (((w.alloc o0).alloc o1).alloc o2) ((((w.alloc o0).alloc o1).alloc o2).alloc o3):=(zh _ _).alloc (zg _) _
 have h0:=zo w o0
 have h1:=zo (w.alloc o0) o1
 have h2:=zo ((w.alloc o0).alloc o1) o2
 have h3:=zo (((w.alloc o0).alloc o1).alloc o2) o3
 rw[s1]at h1
 rw[s2]at h2
 rw[s3]at h3
 exact⟨_,rfl,((b1.trans (b2.mono (by omega))).trans (b3.mono (by omega))).trans (b4.mono (by omega)),(b4.block _ (by omega)).trans ((b3.block _ (by omega)).trans ((b2.block _ (by omega)).trans h0)),(b4.block _ (by omega)).trans ((b3.block _ (by omega)).trans h1),(b4.block _ (by omega)).trans h2,h3⟩
def FL (w:World) (g:Nat) (p:Option Addr) (cap:Nat) (q:List Nd) (M:Nat) (now:Int) (s:Nat) (d:Ch) (j:Nat) (W:World):Prop:=
 Vy w g p cap q M now (s+1) (s+3) d W∧W.heap[s]?=some (.cells #[ptr g] 25 (0,0))∧W.heap[s+2]?=some (.cells #[.int .i64 (j:Int)] 3 (0,0))
theorem Fg {β:Type} {now:Int} {s:Nat} (f:β→Ch) (k:β→Nat):OwnFrom w.heap.size (λ (x:β) W=>FL w g p cap q M now s (f x) (k x) W):=
 λ x _ _ _ hs hg hr=>⟨TP f x _ _ _ hs.1 hg hr,Un (w0:=w) hs.2.1 hg hr,Un (w0:=w) hs.2.2 hg hr⟩
theorem As (h:CAt w g p cap q c M) (h2:2≤c.L.length) (now:Int):Calls zf 43 #[ptr g,.int .i64 now] w λ e w'=>e=.returned (.tuple #[])∧qx w g p cap q (c.ends now (c.L.length -1)) M w':=by
 have h10:=h.ten
 obtain⟨W0,hW0,hal,hn0,hn1,hn2,hn3⟩:=MB w (.cells #[ptr g] 25) (.cells #[.int .i64 now] 3) (.cells #[.int .i64 0] 3) (.cells #[ptr g] 25)
 obtain⟨m,hm⟩:∃m,c.L.length=m+1:=⟨c.L.length -1,by omega⟩
 obtain⟨b,o,rfl,hr,hnc,hmx⟩:=h.rows (by omega)
 have hI0:FL w g (some ⟨b,o,none⟩) cap q M now w.heap.size c 0 W0:=⟨⟨(qx.refl h).on hal,hn1,hn3⟩,hn0,hn2⟩
 have hbl:b<W0.heap.size:=zy (h.row.lt _ rfl).2 hal.size
 have hgl:g<W0.heap.size:=zy (gb.qd h.blk) hal.size
 have hBl:=gb.qd hn3
 have hws:=hal.size
 have HSD:=zd (hI0.1.side hm)
 have HI0:=zd hI0
 have HMM:=zd hm
 have h1m:1≤m:=by omega
 have hm10:m≤10:=by omega
 have hmc:m+1≤cap:=by omega
 rw[hm,Nat.add_sub_cancel]
 clear h hr hI0 hn0 hn1 hn2 hn3 hal hnc hm h2 h10
 refine(callsIn_wide (n:=3)).1 ?_
 refine callsIn_of_wp_marks func43 rfl trivial ?_ rfl
 simp only[ntmps43,List.size_toArray,List.length_cons,List.length_nil,Nat.reduceAdd,Nat.reduceSub,Array.replicate_succ,Array.replicate_zero,List.push_toArray,List.append_toArray,List.nil_append,List.cons_append]
 gi_wp2_with (refine⟨trivial,?_⟩;gi_at_call 72;refine(callsIn_wide.2 (Nr _ _)).mono ?_;rintro e w' ⟨rfl,rfl⟩)
 try rw[hW0]
 clear hW0
 obtain⟨s,hs⟩:∃s,w.heap.size=s:=⟨_,rfl⟩
 rw[hs]at hws HSD HI0 hBl
 simp only[hs]
 have HSE:=zd hs
 clear hs
 refine wpIn_rangeFunc_ownG rfl (by omega) (gf:=99) (lb:=#[ptr (s+3)]) rfl trivial (enters_of func99 (by kernel_rfl) rfl)
  (QV _ (s+3) g b o m cap (λ k=>(nd q k).p) h1m hm10 hmc W0 hBl hgl hbl HSD.out) (λ h k x=>k (h x)) (λ W l x x' _ hx hc _ hs=>TI hs hx hc) (zh _ _) (λ _=>rfl)
  (λ pre W=>FL w g (some ⟨b,o,none⟩) cap q M now s (Qz c now (pre.map (·.1))) pre.length W)
  (λ _ _ _=>False)
  (OW (Fg (λ pre:List (Dj m)=>Qz c now (pre.map (·.1))) (λ pre=>pre.length)) (by rw[HSE.out];exact hws))
  (λ _ _ _ _ _ hs _ _=>hs)
  HI0.out
  (λ x=>{tmps:=#[ptr g,.int .i64 now,ptr s,ptr (s+1),ptr (s+2),ptr (nd q x.1).p,ptr (nd q (x.1+1)).p,ptr g,.func (.func 99) #[] #[ptr (s+3)],ptr (nd q x.1).p,ptr (nd q (x.1+1)).p,undef,undef,undef,undef,undef,undef,undef,undef,undef,undef,undef,undef,undef,undef,undef],defers:=[]}) ?assign ?body ?done ?stop
 case assign=>
  intro l x W K hK
  gi_wp2
  exact hK
 case done=>
  rintro D xs W hD hxs hI hK
  rw[hxs,S9]at hI
  have HC:=zd hI.1.1
  clear hI
  gi_wp2
  refine⟨by simp,.inl ⟨_,_,rfl,run_takeDeferred hK,?_⟩⟩
  exact⟨_,results_none rfl _ _ _,rfl,Qf HC.out (grownBy_putObj' _ D (.deferred none)) (λ r e=>by cases e;exact⟨by rw[HSE.out];exact zt hws hD,_,hK,rfl⟩)⟩
 case stop=>
  rintro D c pre W _ _ h _
  exact h.elim
 case body=>
  rintro l pre x W hI hlt
  have hmx2:Tryz.prog.follows .mixedOrders=true:=by kernel_rfl
  have hlen:(Qz c now (pre.map (·.1))).L.length=m+1:=(GB _ _ _).trans HMM.out
  have hx:=x.2
  have HFL:=zd (show Qz c now ((pre++[x]).map (·.1))=Qy (Qz c now (pre.map (·.1))) now pre.length x.1 by rw[List.map_append];have:=Ko c now (pre.map (·.1)) x.1;rw[List.length_map]at this;exact this)
  have HPL:=zd (show(pre++[x]).length=pre.length+1 by simp)
  obtain⟨x,hxm⟩:=x
  dsimp only at hx HFL⊢
  generalize Qz c now (pre.map (·.1))=d at*
  obtain⟨j,hj⟩:∃j,pre.length=j:=⟨_,rfl⟩
  rw[hj]at hI hlt HFL HPL
  have hx1:x+1<d.L.length:=by omega
  have hx0:x<d.L.length:=by omega
  obtain⟨hI1,hI2,hI3⟩:=hI
  have k0:W.cell? ⟨s+2,0,none⟩=some (.int .i64 (j:Int)):=ze _ _ 0 _ _ _ hI3
  have f0:W.frozen? ⟨s+2,0,none⟩=false:=gb.qa hI3
  have hji:IntKind.i64.wrap ((j:Int)+1)=(j:Int)+1:=qs (by omega) (by omega)
  have hset:=hI1.set hI3 (by rw[HSE.out];omega) (by omega) (by omega) 0 (.int .i64 ((j:Int)+1))
  have hW2:(W.setCell ⟨s+2,0,none⟩ (.int .i64 ((j:Int)+1))).heap[s+2]?=some (.cells #[.int .i64 ((j:Int)+1)] 3 (0,0)):=gb.qo hI3 _
  have hW1:(W.setCell ⟨s+2,0,none⟩ (.int .i64 ((j:Int)+1))).heap[s]?=some (.cells #[ptr g] 25 (0,0)):=(zn _ _ _ _ (show s≠s+2 by omega)).trans hI2
  have HKS:=zd ((KeepsOthers.setCell W ⟨s+2,0,none⟩ (.int .i64 ((j:Int)+1))).from W0.heap.size)
  obtain⟨Ws,hWs⟩:∃Ws,W.setCell ⟨s+2,0,none⟩ (.int .i64 ((j:Int)+1))=Ws:=⟨_,rfl⟩
  rw[hWs]at hset hW1 hW2 HKS
  have hr0:=(Rnd.start hset).on (zh _ Ws).drew
  have HST:=zd (jS hr0 hx0)
  have HS0:=zd (show∀(d':Ch) W1,d'.L.length=m+1→Rnd w g (some ⟨b,o,none⟩) cap q M now (s+1) (s+3) Ws d' W1→(W1.cell? ⟨(nd q x).p,0,none⟩=some (ptr (nd q x).g)∧W1.cell? ⟨s+1,0,none⟩=some (.int .i64 now))∧(W1.cell? ⟨s,0,none⟩=some (ptr g)∧W1.cell? ⟨s+2,0,none⟩=some (.int .i64 ((j:Int)+1)))from
   λ d' W1 hl h=>⟨⟨(h.cells (by omega)).1,(h.cells (x:=x) (by omega)).2.1⟩,ze _ _ 0 _ _ _ (h.2.2 _ _ _ _ (Or.inr rfl) hW1),ze _ _ 0 _ _ _ (h.2.2 _ _ _ _ (Or.inl rfl) hW2)⟩)
  have hl1:(d.onC x (Ch.qh now)).L.length=m+1:=by rw[Ch.qk];exact hlen
  have HS1:=zd (λ W1 h=>(HS0.out (d.onC x (Ch.qh now)) W1 hl1 h).1)
  have HS2:=zd (λ W1 h=>(HS0.out (d.onC x (Ch.qh now)) W1 hl1 h).2)
  have hc0:=(HS0.out _ _ hlen hr0).1
  have HEND:=zd (λ (d':Ch) W1 (hl:d'.L.length=m+1) (h:Rnd w g (some ⟨b,o,none⟩) cap q M now (s+1) (s+3) Ws d' W1)=>(⟨HKS.out.trans (SW h.2.1 (by rw[HSE.out];exact hws)),λ _=>h.1.side hl,h.1,h.2.2 _ _ _ _ (Or.inr rfl) hW1,h.2.2 _ _ _ _ (Or.inl rfl) hW2⟩:
   KeepsFrom W0.heap.size W W1∧(JO (s+3) g b o m cap (λ k=>(nd q k).p) W→JO (s+3) g b o m cap (λ k=>(nd q k).p) W1)∧Vy w g (some ⟨b,o,none⟩) cap q M now (s+1) (s+3) d' W1∧W1.heap[s]?=some (.cells #[ptr g] 25 (0,0))∧W1.heap[s+2]?=some (.cells #[.int .i64 ((j:Int)+1)] 3 (0,0))))
  have HNO:=zd (show(d.ql x (Ch.qh now)).n≠1→Qy d now j x=d.onC x (Ch.qh now)fromλ hn=>by unfold Qy;dsimp only;rw[if_neg hn])
  have HYES:=zd (show(d.ql x (Ch.qh now)).n=1→Qy d now j x=((d.onC x (Ch.qh now)).Za (j+1)).onC (x+1) (Ch.qA now)fromλ hn=>by unfold Qy;dsimp only;rw[if_pos hn])
  have HLF:=zd ((Mh d now j x).trans hlen)
  generalize(d.ql x (Ch.qh now)).n=X at*
  generalize d.onC x (Ch.qh now)=d1 at*
  have HLO:=zd (λ W1 (h:Rnd w g (some ⟨b,o,none⟩) cap q M now (s+1) (s+3) Ws d1 W1)=>Oy h (by omega) (j+1) (by omega))
  have hl2:(d1.Za (j+1)).L.length=m+1:=by rw[Ch.ZL];exact hl1
  have HCL:=zd (λ W1 (h:Rnd w g (some ⟨b,o,none⟩) cap q M now (s+1) (s+3) Ws (d1.Za (j+1)) W1)=>PD h (x:=x+1) (by omega))
  have HS3:=zd (λ W1 h=>(HS0.out (d1.Za (j+1)) W1 hl2 h).1.2)
  have hjc:((j+1:Nat):Int)=(j:Int)+1:=by omega
  rw[hjc]at HLO
  generalize(nd q (x+1)).p=py at*
  generalize hpx:(nd q x).p=px at*
  generalize(nd q x).g=gx at*
  have HC0:=zd hc0
  clear hI1 hI2 hI3 hset hW1 hW2 hr0 hlen hx hx1 hx0 hl1 hl2 hc0 HS0 HSD HI0 hj hjc
  gi_wp2
  refine V0 (S:=λ w'=>(w'.cell? ⟨px,0,none⟩=some (ptr gx)∧w'.cell? ⟨s+1,0,none⟩=some (.int .i64 now))∧True) hmx2 (Q7 (by kernel_rfl)) (λ a w h=>h) ⟨HC0.out,trivial⟩ (λ hHeld=>?_)
  refine zu (i:=0) (oi:={dst:=some 13,op:=Op.move (Operand.tmp 5),type:=59,pos:=_,after:=#[],guard:=none}) (v:=?vc0) rfl (by kernel_rfl) (by kernel_rfl) (by kernel_rfl) (λ _ _ _ h=>h) (Or.inl ⟨by rfl,?hyc0⟩) hHeld ?restc0
  case hyc0=>
   intro w hSw
   clear hSw
   (go_simp<;>with_reducible rfl)
  simp only[Act.put,zm,zq,zp]
  refine zu (i:=1) (oi:={dst:=some 14,op:=Op.nilCheck (Operand.tmp 13),type:=0,pos:=_,after:=#[{on:=0,ground:=Ground.data}],guard:=none}) (v:=?vc1) rfl (by kernel_rfl) (by kernel_rfl) (by kernel_rfl) (λ _ _ _ h=>h) (Or.inl ⟨by rfl,?hyc1⟩) hHeld ?restc1
  case hyc1=>
   intro w hSw
   clear hSw
   (go_simp<;>with_reducible rfl)
  simp only[Act.put,zm,zq,zp]
  refine zu (i:=2) (oi:={dst:=some 15,op:=Op.fieldAddr 90 (Operand.tmp 14) 0,type:=0,pos:=_,after:=#[{on:=1,ground:=Ground.data}],guard:=none}) (v:=?vc2) rfl (by kernel_rfl) (by kernel_rfl) (by kernel_rfl) (λ _ _ _ h=>h) (Or.inl ⟨by rfl,?hyc2⟩) hHeld ?restc2
  case hyc2=>
   intro w hSw
   clear hSw
   (go_simp<;>with_reducible rfl)
  simp only[Act.put,zm,zq,zp]
  refine zu (i:=3) (oi:={dst:=some 16,op:=Op.load 88 (Operand.tmp 15),type:=88,pos:=_,after:=#[{on:=2,ground:=Ground.data}],guard:=none}) (v:=?vc3) rfl (by kernel_rfl) (by kernel_rfl) (by kernel_rfl) (λ _ _ _ h=>h) (Or.inl ⟨by rfl,?hyc3⟩) hHeld ?restc3
  case hyc3=>
   intro w hSw
   obtain⟨⟨c0,c1⟩,_⟩:=hSw
   (go_simp<;>with_reducible rfl)
  simp only[Act.put,zm,zq,zp]
  refine zu (i:=4) (oi:={dst:=some 17,op:=Op.load 3 (Operand.tmp 3),type:=3,pos:=_,after:=#[],guard:=none}) (v:=?vc4) rfl (by kernel_rfl) (by kernel_rfl) (by kernel_rfl) (λ _ _ _ h=>h) (Or.inl ⟨by rfl,?hyc4⟩) hHeld ?restc4
  case hyc4=>
   intro w hSw
   obtain⟨⟨c0,c1⟩,_⟩:=hSw
   (go_simp<;>with_reducible rfl)
  simp only[Act.put,zm,zq,zp]
  refine wpAnyH_ready (rs:=[5]) (by kernel_rfl) (by simp) ?_
  refine AllReadyH.cons (o:={dst:=some 18,op:=Op.call {callee:=Callee.value (Operand.func 45),args:=#[Operand.tmp 16,Operand.tmp 17],argTypes:=#[88,3]},type:=3,pos:=_,after:=#[{on:=3,ground:=Ground.data},{on:=4,ground:=Ground.data}],guard:=none}) rfl (λ K hK=>?_) AllReadyH.nil
  go_simp
  go_at_call 45
  refine zr HST.out ?_
  rintro e w1 ⟨rfl,hr1⟩
  have HR1:=zd hr1
  clear hr1 HST
  refine hK.out _ _ ⟨HS1.out w1 HR1.out,trivial⟩ (λ hHeld1=>?_)
  clear hK K hHeld
  refine zu (i:=6) (oi:={dst:=some 19,op:=Op.binOp BinOp.eql 3 (Operand.tmp 18) (Operand.const (Value.int IntKind.i64 1)) 3,type:=4,pos:=_,after:=#[{on:=5,ground:=Ground.data}],guard:=none}) (v:=?vc6) rfl (by kernel_rfl) (by kernel_rfl) (by kernel_rfl) (λ _ _ _ h=>h) (Or.inl ⟨by rfl,?hyc6⟩) hHeld1 ?restc6
  case hyc6=>
   intro w hSw
   clear hSw
   (go_simp<;>with_reducible rfl)
  simp only[Act.put,zm,zq,zp]
  refine wpAnyH_done (by kernel_rfl) ?_ _
  clear HC0
  by_cases hX:X=1
  ·subst hX
   have y0:=(HS2.out w1 HR1.out).1
   have y1:=(HS2.out w1 HR1.out).2
   clear HNO hHeld1
   gi_wp2_with (first
    |(refine⟨trivial,?_⟩;gi_at_call 60;refine(CallsIn.inRound l (callsIn_wide.2 (HLO.out _ HR1.out))).mono ?_;rintro e w2 ⟨rfl,hr2⟩;(have y3:=HS3.out w2 hr2);(have HR2:=zd hr2);clear hr2)
    |(refine⟨trivial,?_⟩;gi_at_call 39;refine(CallsIn.inRound l (callsIn_wide.2 (HCL.out _ HR2.out))).mono ?_;rintro e w3 ⟨rfl,hr3⟩;(have HR3:=zd hr3);clear hr3))
   have e:=HYES.out (by trivial)
   have HZ:=HEND.out _ _ (by rw[←e];exact HLF.out) HR3.out
   refine⟨HZ.1,HZ.2.1,?_⟩
   show FL _ _ _ _ _ _ _ _ (Qz c now _) _ _
   rw[HFL.out,HPL.out,e]
   exact⟨HZ.2.2.1,HZ.2.2.2.1,HZ.2.2.2.2⟩
  ·have d1x:decide (X=1)=false:=by simpa using hX
   have d2x:(X==1)=false:=by simpa using hX
   clear HLO HCL HYES HS3
   gi_wp2
   have e:=HNO.out hX
   have HZ:=HEND.out _ _ (by rw[←e];exact HLF.out) HR1.out
   refine⟨HZ.1,HZ.2.1,?_⟩
   show FL _ _ _ _ _ _ _ _ (Qz c now _) _ _
   rw[HFL.out,HPL.out,e]
   exact⟨HZ.2.2.1,HZ.2.2.2.1,HZ.2.2.2.2⟩
end
end
end Go.Proofs.YtfdfgnmgpgkknaaGreat
