import Derived.RangeFuncCalls
import Derived.OrdersIn
import Derived.TacticsIn
import Derived.Deep.RegionHeld
import Derived.Test.YtdighjgcnaajgaaGreatMS34
import Derived.RangeFuncNested
import Derived.RangeFuncBound
import Derived.RangeFuncLeaves
import Derived.Shelf.Abstract
import Derived.Shelf.RegionOpen
import Derived.OwnWalkIn
import Derived.TacticsInMore
import Derived.LoopNIn
import Derived.LoopIn
namespace Go.Proofs.YtdighjgcnaajgaaGreat
open Go.RowKit
section
variable {P:Program} {ops:Array Oper} {Q:Exit→Act→World→Prop} {md:Region.Mode} {l n:Nat}
theorem rows_in {row:String} {args:Array Value} {w:World} {R:Value→World→Prop} (h:Rows P row args w R):RowsIn (Fence.wide.inRound l) n P row args w R:=
 λ c cs _=>let⟨v,w',r,s⟩:=h c cs;⟨v,w',r,stepsIn_wide.2 s⟩
theorem upon_in {o:Oper} {a:Act} {next:Act→World→Prop} {r:Result Next} (h:o.upon P a next Q r):o.uponIn (Fence.wide.inRound l) n P a next Q r:=by
 cases r with
 |ok x w'=>
  cases x<;>simp only[Oper.upon,Oper.uponIn]at h⊢<;>
   first
    |exact h
    |exact⟨λ e=>absurd e (by simp[Fence.wide]),CallsIn.mono (CallsIn.inRound l (callsIn_wide.2 h)) (λ e w'' he=>by cases e<;>exact he)⟩
    |exact⟨λ e=>absurd e (by simp[Fence.wide]),rows_in h⟩
    |exact False.elim h
 |halt x w'=>cases x<;>simp only[Oper.upon,Oper.uponIn]at h⊢<;>exact h
theorem oper_in {o:Oper} (hd:∀c,o.op≠ .defer c) {a:Act} {w:World} {next:Act→World→Prop} (h:o.wp P a w next Q):o.wpIn (Fence.wide.inRound l) n P a w next Q:=by
 refine⟨λ _ _=>trivial,?_⟩
 show o.uponIn _ n P a next Q ((Oper.semAt (some l) a.eval o).run P w)
 rw[Oper.semAt_some l a.eval o hd]
 exact upon_in h
theorem any_in (hd:∀o∈ops,∀c,o.op≠ .defer c) (hQ:∀a w,¬Q .outgrown a w):∀(fuel:Nat) (listed:Array Bool) (a:Act) (w:World),wpAny P md ops Q fuel listed a w→wpAnyIn (Fence.wide.inRound l) n P md ops Q fuel listed a w:=by
 intro fuel
 induction fuel with
 |zero=>exactλ _ _ _ h=>h
 |succ fuel ih=>
  intro listed a w h
  refine⟨h.1,λ i hi=>?_⟩
  have h1:=h.2 i hi
  unfold wpOp at h1
  unfold wpOpIn
  cases ho:ops[i]? with
  |none=>
   rw[ho]at h1
   exact ih _ _ _ h1
  |some o=>
   rw[ho]at h1
   have hm:o∈ops:=Array.mem_of_getElem? ho
   simp only at h1⊢
   split
   ·rename_i hw
    rw[if_pos hw]at h1
    rcases h1 with h1|⟨_,a',w',h1⟩
    ·exact Oper.wpIn_mono (λ a w hh=>ih _ _ _ hh) (oper_in (hd o hm) h1)
    ·exact absurd h1 (hQ a' w')
   ·rename_i hw
    rw[if_neg hw]at h1
    exact⟨λ _ _=>trivial,ih _ _ _ h1⟩
theorem round_held {id:Nat} {a:Act} {w:World} (S:World→Prop) (hm:P.follows .mixedOrders=true) (hd:∀o∈ops,∀c,o.op≠ .defer c) (hQ:∀a w,¬Q .outgrown a w) (hS:S w.drew)
  (h:S w.drew→wpAnyH P .any ops Q S ops.size (Array.replicate ops.size false) a w.drew):(Code.region id ops true).wpIn (Fence.wide.inRound l) n P Q a w:=
 wpIn_region_any hm (any_in hd hQ _ _ _ _ (wpAny_of_held _ _ _ _ (h hS)))
end
end Go.Proofs.YtdighjgcnaajgaaGreat
namespace Go.Proofs.YtdighjgcnaajgaaGreat
open Go.RowKit
attribute [local go_sem] Oper.semAt_some
def SideAt (B g b o m cap:Nat) (pp:Nat→Nat) (W:World):Prop:=
 W.cell? ⟨B,0,none⟩=some (ptr g)∧W.cell? ⟨g,0,none⟩=some (.slice (some ⟨b,o,none⟩) (m+1) cap)∧∀k,k<m+1→W.cell? ⟨b,o+k,none⟩=some (ptr (pp k))
abbrev Side (m:Nat):={k:Nat//k<m}
theorem side_put {B g b o m cap:Nat} {pp:Nat→Nat} {W:World} (h:SideAt B g b o m cap pp W) {l:Nat} {x x':Obj} (hl:W.heap[l]?=some x) (hx:x.isCells=false):SideAt B g b o m cap pp (W.putObj l x'):=by
 have key:∀(i k:Nat) (v:Value),W.cell? ⟨i,k,none⟩=some v→(W.putObj l x').cell? ⟨i,k,none⟩=some v:=λ i k v hv=>by
  have hne:i≠l:=λ e=>by
   subst e
   simp only[World.cell?,hl]at hv
   cases x<;>first|(simp[Obj.isCells]at hx;done)|cases hv
  have:=World.putObj_heap_other (w:=W) (r:=l) (o:=x') (k:=i) (by first|exact hne|exactλ e=>hne e.symm)
  simp only[World.cell?]at hv⊢
  rw[this]
  exact hv
 exact⟨key _ _ _ h.1,key _ _ _ h.2.1,λ k hk=>key _ _ _ (h.2.2 k hk)⟩
set_option maxRecDepth 100000 in
set_option maxHeartbeats 4000000 in
theorem sides_c (g:Nat) (w:World):Calls Tryz.prog 164 #[ptr g] w λ e w'=>e=.returned (.func (.func 189) #[] #[ptr w.heap.size])∧w'=w.alloc (.cells #[ptr g] 120):=by
 go_enter Tryz.func164,Tryz.ntmps164
 go_wp2_with fail
 try rw[Exit.noGoto_ret]
 go_ret
 exact⟨rfl,rfl⟩
set_option maxRecDepth 100000 in
set_option maxHeartbeats 8000000 in
theorem sides_stop (n:Nat) (B g b o m cap:Nat) (pp:Nat→Nat) (h1:1≤m) (hm:m≤10) (hmc:m+1≤cap) (w:World) (hB:B<w.heap.size) (hg:g<w.heap.size) (hb:b<w.heap.size) (hs:SideAt B g b o m cap pp w):
  SeqStopsK Fence.wide n Tryz.prog 189 #[ptr B] (λ x:Side m=>#[ptr (pp x.1),ptr (pp (x.1+1))]) (λ W W'=>SideAt B g b o m cap pp W→SideAt B g b o m cap pp W') (λ xs=>xs.map (·.1)=List.range m) (λ _=>True) m w:=λ l J Jx W hW _ _ hY h0=>by
 have hsW:SideAt B g b o m cap pp W:=⟨(hW.cell (p:=⟨B,0,none⟩) hB).trans hs.1,(hW.cell (p:=⟨g,0,none⟩) hg).trans hs.2.1,λ k hk=>(hW.cell (p:=⟨b,o+k,none⟩) hb).trans (hs.2.2 k hk)⟩
 have x0:=hsW.1
 have x1:=hsW.2.1
 have HS:=Lib.hid hsW
 have hc1:¬cap=1:=by omega
 clear hs hsW hW hB hg hb
 refine callsIn_of_wp Tryz.func189 rfl trivial ?_ rfl
 simp only[Tryz.ntmps189,List.size_toArray,List.length_cons,List.length_nil,Nat.reduceAdd,Nat.reduceSub,Array.replicate_succ,Array.replicate_zero,List.push_toArray,List.append_toArray,List.nil_append,List.cons_append]
 gi_wp2
 gi_loopw [11] (λ i wr=>∃(k:Nat) (pre:List (Side m)),k≤m∧i=.int .i64 k∧Hid (pre.map (·.1)=List.range k)∧J pre wr∧Hid (SideAt B g b o m cap pp wr)) (λ i _=>m -(intOf i).toNat)
 case atStart=>exact⟨0,[],Nat.zero_le _,rfl,Lib.hid rfl,h0,HS⟩
 case round=>
  clear x0 x1 HS
  obtain⟨k,pre,hk,rfl,HP,hJ,HS⟩:=hrel
  by_cases hlt:k<m
  ·have hlen:pre.length=k:=by
    have:=congrArg List.length HP.out
    simpa using this
   obtain⟨fn,tmps,assign,body,hy,hR⟩:=hY pre ⟨k,hlt⟩ wr hJ (by omega)
   dsimp only at hy
   have x0:=HS.out.1
   have x1:=HS.out.2.1
   have y0:=HS.out.2.2 k (by omega)
   have y1:=HS.out.2.2 (k+1) (by omega)
   rw[show o+(k+1)=o+1+k by omega]at y1
   generalize pp k=pk at*
   generalize pp (k+1)=pk1 at*
   gi_wp2
   refine⟨λ e=>absurd e (by simp[Fence.wide]),hR.mono ?_⟩
   rintro e W3 (⟨rfl,hJ3,hk3⟩|⟨rfl,hJx3⟩)
   ·have HS3:=Lib.hid (hk3 HS.out)
    have HP3:=Lib.hid (show(pre++[(⟨k,hlt⟩:Side m)]).map (·.1)=List.range (k+1) by rw[List.map_append,HP.out,List.range_succ];rfl)
    clear hk3 HS x0 x1 y0 y1
    gi_wp2
    go_roundw
    case rel=>exact⟨k+1,pre++[⟨k,hlt⟩],by omega,by first|go_num|simp,HP3,hJ3,HS3⟩
    case measure=>simp[intOf];omega
   ·gi_wp2
    refine bodyPost_ret (results_none rfl _ _ _) rfl ?_
    exact⟨⟨_,rfl⟩,.inr ⟨_,trivial,hJx3⟩⟩
  ·obtain rfl:k=m:=by omega
   gi_wp2
   go_end0
   exact⟨⟨_,rfl⟩,.inl ⟨_,HP.out,hJ⟩⟩
end Go.Proofs.YtdighjgcnaajgaaGreat
namespace Go.Proofs.YtdighjgcnaajgaaGreat
open Go.RowKit
section
variable {w w' w0 W W':World} {g:Nat} {p:Option Addr} {cap:Nat} {q:List Nd} {c c' d:Ch} {M M':Nat}
theorem rep_cells {U:Own} {gg m:Nat} {s:St} (h:Rep w U gg s m) {i:Nat} (hi:U i):∃cs T fr,w.heap[i]?=some (.cells cs T fr):=by
 obtain⟨base,c,u,s',hr,_,_,rfl⟩:=h
 obtain⟨ms,G,hR,_⟩:=hr.car
 obtain⟨⟨c0,t0⟩,t1,t2⟩:=hR.typed
 rcases hi with rfl|rfl|e|e
 ·exact⟨_,_,_,hr.blk⟩
 ·exact⟨_,_,_,t0⟩
 ·obtain⟨_,c1,t3⟩:=t1 i e
  exact⟨_,_,_,t3⟩
 ·obtain⟨_,c1,t3⟩:=t2 i e
  exact⟨_,_,_,t3⟩
theorem CAt.cells (h:CAt w g p cap q c M) {i:Nat} (hi:blkC g p q i):∃cs T fr,w.heap[i]?=some (.cells cs T fr):=by
 rcases h.own hi with rfl|⟨a,ha,rfl⟩|⟨k,hk,e⟩
 ·exact⟨_,_,_,h.blk⟩
 ·obtain⟨cur,hc⟩:=h.row.typed a ha
  exact⟨_,_,_,hc⟩
 ·rw[h.len]at hk
  rcases e with rfl|e
  ·exact⟨_,_,_,h.prt k hk⟩
  ·exact rep_cells (h.stg k hk) e
theorem CAt.not_own (h:CAt w g p cap q c M) {i:Nat} {cs:Array Value} {T:TypeId} {fr:Nat×Nat} (hi:w.heap[i]?=some (.cells cs T fr)) (h1:T≠204) (h2:T≠225) (h3:T≠5) (h4:T≠249)
  (h5:T≠160) (h6:T≠183) (h7:T≠161):¬blkC g p q i:=λ hu=>by
 rcases h.own hu with rfl|⟨a,ha,rfl⟩|⟨k,hk,e⟩
 ·exact h5 (gc.two_types hi h.blk)
 ·obtain⟨cur,hc⟩:=h.row.typed a ha
  exact h7 (gc.two_types hi hc)
 ·rw[h.len]at hk
  rcases e with rfl|e
  ·exact h6 (gc.two_types hi (h.prt k hk))
  ·exact rep_not (h.stg k hk) hi h1 h2 h3 h4 e
theorem Mvd.kept {U U':Own} (h:Mvd w U w' U') {i:Nat} {o:Obj} (hi:w.heap[i]?=some o) (hu:¬U i):w'.heap[i]?=some o:=(h.1.2 i (gb.blk_lt hi) hu).trans hi
theorem CAt.others (h:CAt w g p cap q c M) {U':Own} (hm:Mvd w (blkC g p q) w' U') (B:Nat):KeepsFrom B w w':=
 ⟨hm.size,λ k o _ hk ho=>hm.kept hk λ hu=>by
  obtain⟨cs,T,fr,hc⟩:=h.cells hu
  rw[hc]at hk
  cases hk
  cases ho⟩
theorem cput_turn {row:Option Nat} (h:CPut w0 g p cap q c M W) (hg:W.grownBy W' row) (hr:∀r,row=some r→w0.heap.size≤r∧∃o:Obj,W.heap[r]?=some o∧o.isCells=false):CPut w0 g p cap q c M W':=by
 obtain⟨q',h1,⟨⟨hb,hk⟩,hn⟩,h3⟩:=h
 refine⟨q',h1.keep λ i hi=>hg.block i (h1.lt hi) λ e=>?_,⟨⟨⟨hg.os.trans hb.os,hg.tape.trans hb.tape,hg.output.trans hb.output,Nat.le_trans hb.size hg.size,λ i hi=>absurd hi (Nat.not_lt_zero i)⟩,λ i hi hu=>?_⟩,hn⟩,h3⟩
 ·obtain⟨_,o,ho,hc⟩:=hr i e.symm
  obtain⟨cs,T,fr,hx⟩:=h1.cells hi
  rw[hx]at ho
  cases ho
  cases hc
 ·refine(hg.block i (Nat.lt_of_lt_of_le hi hb.size) λ e=>?_).trans (hk i hi hu)
  have:=(hr i e.symm).1
  omega
theorem obj_turn {row:Option Nat} {i:Nat} {cs:Array Value} {T:TypeId} {fr:Nat×Nat} (h:W.heap[i]?=some (.cells cs T fr)) (hg:W.grownBy W' row) (hr:∀r,row=some r→w0.heap.size≤r∧∃o:Obj,W.heap[r]?=some o∧o.isCells=false):W'.heap[i]?=some (.cells cs T fr):=
 (hg.block i (gb.blk_lt h) λ e=>by
  obtain⟨_,o,ho,hc⟩:=hr i e.symm
  rw[h]at ho
  cases ho
  cases hc).trans h
def RndI (w0:World) (g:Nat) (p:Option Addr) (cap:Nat) (q:List Nd) (M:Nat) (now:Int) (nb B:Nat) (d:Ch) (W:World):Prop:=
 CPut w0 g p cap q d M W∧W.heap[nb]?=some (.cells #[.int .i64 now] 3 (0,0))∧W.heap[B]?=some (.cells #[ptr g] 120 (0,0))
theorem rndI_own {β:Type} {now:Int} {nb B:Nat} (f:β→Ch):OwnFrom w0.heap.size (λ (s:β) W=>RndI w0 g p cap q M now nb B (f s) W):=
 λ _ _ _ _ hs hg hr=>⟨cput_turn hs.1 hg hr,obj_turn (w0:=w0) hs.2.1 hg hr,obj_turn (w0:=w0) hs.2.2 hg hr⟩
theorem RndI.step {now:Int} {nb B:Nat} {d':Ch} (h:RndI w0 g p cap q M now nb B d W) (k:∀q',CAt W g p cap q' d M→Pg q' q→CPut W g p cap q' d' M W'):RndI w0 g p cap q M now nb B d' W':=by
 obtain⟨h1,h2,h3⟩:=h
 have h4:=h1.then k
 obtain⟨q',a1,a2,a3⟩:=h1
 obtain⟨q2,b1,b2,b3⟩:=k q' a1 a3
 exact⟨h4,b2.kept h2 (a1.not_own h2 (by decide) (by decide) (by decide) (by decide) (by decide) (by decide) (by decide)),b2.kept h3 (a1.not_own h3 (by decide) (by decide) (by decide) (by decide) (by decide) (by decide) (by decide))⟩
theorem RndI.side {now:Int} {nb B m b o:Nat} (h:RndI w0 g (some ⟨b,o,none⟩) cap q M now nb B d W) (hm:d.L.length=m+1):SideAt B g b o m cap (λ k=>(nd q k).p) W:=by
 obtain⟨⟨q',a1,a2,a3⟩,_,h3⟩:=h
 refine⟨cell_of_row _ _ 0 _ _ _ h3,?_,λ k hk=>?_⟩
 ·have:=a1.cell 0
  rw[hm]at this
  exact this
 ·have:=a1.rowk (k:=k) (by omega)
  rw[(a3 k).1]at this
  exact this
end
def movX (c:Ch) (now:Int) (l:List Nat):Ch:=l.foldl (λ d x=>d.flow1 now x) c
theorem movX_snoc (c:Ch) (now:Int) (l:List Nat) (x:Nat):movX c now (l++[x])=(movX c now l).flow1 now x:=by simp[movX,List.foldl_append]
theorem movX_range (c:Ch) (now:Int) (n:Nat):movX c now (List.range n)=c.flow now n:=by
 induction n with
 |zero=>rfl
 |succ n ih=>rw[List.range_succ,movX_snoc,ih];rfl
theorem len_movX (c:Ch) (now:Int) (l:List Nat):(movX c now l).L.length=c.L.length:=by
 induction l generalizing c with
 |nil=>rfl
 |cons x r ih=>exact(ih (c.flow1 now x)).trans (Ch.len_flow1 _ _ _)
def endX (c:Ch) (now:Int) (j x:Nat):Ch:=
 let d:=c.onC x (Ch.oLook now)
 if(c.ansC x (Ch.oLook now)).n=1 then(d.lose (j+1)).onC (x+1) (Ch.oClose now)else d
def endS (c:Ch) (now:Int) (l:List Nat):Ch×Nat:=l.foldl (λ s x=>(endX s.1 now s.2 x,s.2+1)) (c,0)
def endL (c:Ch) (now:Int) (l:List Nat):Ch:=(endS c now l).1
theorem endS_snoc (c:Ch) (now:Int) (l:List Nat) (x:Nat):endS c now (l++[x])=(endX (endS c now l).1 now (endS c now l).2 x,(endS c now l).2+1):=by simp[endS,List.foldl_append]
theorem endS_num (c:Ch) (now:Int) (l:List Nat):(endS c now l).2=l.length:=by
 have:∀(l:List Nat) (s:Ch×Nat),(l.foldl (λ s x=>(endX s.1 now s.2 x,s.2+1)) s).2=s.2+l.length:=by
  intro l
  induction l with
  |nil=>intro s;rfl
  |cons x r ih=>intro s;rw[List.foldl_cons,ih,List.length_cons];show s.2+1+r.length=_;omega
 have h:=this l (c,0)
 show(l.foldl _ (c,0)).2=_
 rw[h]
 omega
theorem endL_snoc (c:Ch) (now:Int) (l:List Nat) (x:Nat):endL c now (l++[x])=endX (endL c now l) now l.length x:=by
 show(endS c now (l++[x])).1=_
 rw[endS_snoc,endS_num]
 rfl
theorem endL_range (c:Ch) (now:Int) (n:Nat):endL c now (List.range n)=c.ends now n:=by
 induction n with
 |zero=>rfl
 |succ n ih=>rw[List.range_succ,endL_snoc,ih,List.length_range];rfl
theorem len_endX (c:Ch) (now:Int) (j x:Nat):(endX c now j x).L.length=c.L.length:=by
 unfold endX
 dsimp only
 split<;>simp only[Ch.len_on,Ch.len_lose]
theorem len_endL (c:Ch) (now:Int) (l:List Nat):(endL c now l).L.length=c.L.length:=by
 have:∀(l:List Nat) (s:Ch×Nat),(l.foldl (λ s x=>(endX s.1 now s.2 x,s.2+1)) s).1.L.length=s.1.L.length:=by
  intro l
  induction l with
  |nil=>intro s;rfl
  |cons x r ih=>intro s;rw[List.foldl_cons,ih];exact len_endX _ _ _ _
 exact this l (c,0)
section
variable {w w' w'':World} {g:Nat} {p:Option Addr} {cap:Nat} {q:List Nd} {c c':Ch} {M M':Nat}
theorem setN_ne (q:List Nd) (k j:Nat) (U:Own) (m:Nat) (h:k≠j):nd (setN q k U m) j=nd q j:=nd_set_ne _ _ _ _ h
def Way (w:World) (g:Nat) (p:Option Addr) (cap:Nat) (q:List Nd) (c:Ch) (M:Nat) (x:Nat) (now F:Int) (w':World):Prop:=
 ∃q',CAt w' g p cap q' (c.onC x (Ch.oTake now F)) M∧Mvd w (blkC g p q) w' (blkC g p q')∧Pg q' q∧
  (∀j,x+1≤j→j<c.L.length→(nd q' j).m+sumA (c.onC x (Ch.oTake now F)).L j+(c.ansC x (Ch.oTake now F)).s.size≤M)∧c.lost+(sumA (c.onC x (Ch.oTake now F)).L c.L.length:Nat)+(c.ansC x (Ch.oTake now F)).s.size≤M
theorem way_take (h:CAt w g p cap q c M) {x:Nat} (hx:x+1<c.L.length) {now F:Int} (hs:Stp w (nd q x).U (nd q x).g (takeS (c.at' x).s now F).1 (nd q x).m w'):Way w g p cap q c M x now F w':=by
 have hx0:x<c.L.length:=by omega
 have hq:x<q.length:=by rw[h.len];exact hx0
 have hz:(takeS (c.at' x).s now F).1.S.size+(takeS (c.at' x).s now F).2.size=(c.at' x).s.S.size:=Ch.sz_take _ now F
 obtain⟨U',h1,h2⟩:=h.stepL hx0 hs (by omega)
 have e:c.onC x (Ch.oTake now F)=setS c x (takeS (c.at' x).s now F).1:=on_set _ _ _ (by show(2:Int)≠3;decide)
 have e2:(c.ansC x (Ch.oTake now F)).s=(takeS (c.at' x).s now F).2:=rfl
 have hsum:∀j,x<j→sumA (setS c x (takeS (c.at' x).s now F).1).L j+(takeS (c.at' x).s now F).2.size=sumA c.L j:=λ j hj=>by
  have:=(sum_setS c x j (takeS (c.at' x).s now F).1 hx0).1 hj
  omega
 unfold Way
 rw[e,e2]
 refine⟨_,h1,h2,λ j=>p_setN q x j U' _ hq,λ j hj hj'=>?_,?_⟩
 ·rw[m_setN]
  have:=hsum j (by omega)
  have:=h.sum j hj'
  omega
 ·have:=hsum c.L.length hx0
  have:=h.los.2
  omega
end
end Go.Proofs.YtdighjgcnaajgaaGreat
namespace Go.Proofs.YtdighjgcnaajgaaGreat
open Go.RowKit
section
variable {w0 Ws W W':World} {g:Nat} {p:Option Addr} {cap:Nat} {q:List Nd} {d d':Ch} {M:Nat} {now:Int} {nb B:Nat}
def BoxK (Ws W:World):Prop:=∀(i:Nat) (cs:Array Value) (T:TypeId) (fr:Nat×Nat),(T=3∨T=120)→Ws.heap[i]?=some (.cells cs T fr)→W.heap[i]?=some (.cells cs T fr)
theorem BoxK.trans {W'':World} (h:BoxK W W') (k:BoxK W' W''):BoxK W W'':=λ i cs T fr hT hi=>k i cs T fr hT (h i cs T fr hT hi)
theorem box_below (hb:Below W.heap.size W W'):BoxK W W':=λ _ _ _ _ _ hi=>(hb.block _ (gb.blk_lt hi)).trans hi
theorem box_call {q':List Nd} (h:CAt W g p cap q' d M) {U':Own} (hm:Mvd W (blkC g p q') W' U'):BoxK W W':=λ i cs T fr hT hi=>by
 rcases hT with rfl|rfl
 ·exact hm.kept hi (h.not_own hi (by decide) (by decide) (by decide) (by decide) (by decide) (by decide) (by decide))
 ·exact hm.kept hi (h.not_own hi (by decide) (by decide) (by decide) (by decide) (by decide) (by decide) (by decide))
def Rnd (w0:World) (g:Nat) (p:Option Addr) (cap:Nat) (q:List Nd) (M:Nat) (now:Int) (nb B:Nat) (Ws:World) (d:Ch) (W:World):Prop:=RndI w0 g p cap q M now nb B d W∧KeepsFrom w0.heap.size Ws W∧BoxK Ws W
theorem Rnd.start (h:RndI w0 g p cap q M now nb B d W):Rnd w0 g p cap q M now nb B W d W:=⟨h,KeepsFrom.refl _ _,λ _ _ _ _ _ h=>h⟩
theorem RndI.on (h:RndI w0 g p cap q M now nb B d W) (hb:Below W.heap.size W W'):RndI w0 g p cap q M now nb B d W':=
 ⟨h.1.on hb,(hb.block _ (gb.blk_lt h.2.1)).trans h.2.1,(hb.block _ (gb.blk_lt h.2.2)).trans h.2.2⟩
theorem keeps_below (hb:Below W.heap.size W W') (b:Nat):KeepsFrom b W W':=⟨hb.size,λ k _ _ hk _=>(hb.block k (gb.blk_lt hk)).trans hk⟩
theorem Rnd.on (h:Rnd w0 g p cap q M now nb B Ws d W) (hb:Below W.heap.size W W'):Rnd w0 g p cap q M now nb B Ws d W':=⟨h.1.on hb,h.2.1.trans (keeps_below hb _),h.2.2.trans (box_below hb)⟩
theorem rnd_of {q':List Nd} (h:Rnd w0 g p cap q M now nb B Ws d W) (a1:CAt W g p cap q' d M) (a2:Mvd w0 (blkC g p q) W (blkC g p q')) (a3:Pg q' q) (hp:CPut W g p cap q' d' M W'):Rnd w0 g p cap q M now nb B Ws d' W':=by
 obtain⟨q2,b1,b2,b3⟩:=hp
 have hk:=box_call a1 b2
 exact⟨⟨⟨q2,b1,a2.trans b2,b3.trans a3⟩,hk _ _ _ _ (Or.inl rfl) h.1.2.1,hk _ _ _ _ (Or.inr rfl) h.1.2.2⟩,h.2.1.trans (a1.others b2 _),h.2.2.trans hk⟩
theorem Rnd.at (h:Rnd w0 g p cap q M now nb B Ws d W):∃q',CAt W g p cap q' d M∧Pg q' q:=by
 obtain⟨q',a1,a2,a3⟩:=h.1.1
 exact⟨q',a1,a3⟩
theorem Rnd.cells (h:Rnd w0 g p cap q M now nb B Ws d W) {x:Nat} (hx:x<d.L.length):W.cell? ⟨(nd q x).p,0,none⟩=some (ptr (nd q x).g)∧W.cell? ⟨nb,0,none⟩=some (.int .i64 now)∧W.cell? ⟨B,0,none⟩=some (ptr g):=by
 obtain⟨q',a1,a3⟩:=h.at
 have:=(a1.pcell hx).1
 rw[(a3 x).1,(a3 x).2]at this
 exact⟨this,cell_of_row _ _ 0 _ _ _ h.1.2.1,cell_of_row _ _ 0 _ _ _ h.1.2.2⟩
theorem rnd_state (h:Rnd w0 g p cap q M now nb B Ws d W) {x:Nat} (hx:x<d.L.length):Calls Tryz.prog 123 #[ptr (nd q x).g,.int .i64 now] W λ e w'=>e=.returned (.int .i64 (d.ansC x (Ch.oLook now)).n)∧Rnd w0 g p cap q M now nb B Ws (d.onC x (Ch.oLook now)) w':=by
 obtain⟨q',a1,a2,a3⟩:=h.1.1
 rw[←(a3 x).2]
 refine(state_i (a1.stg x hx) now).mono ?_
 rintro e w' ⟨rfl,hs⟩
 refine⟨rfl,rnd_of h a1 a2 a3 ?_⟩
 rw[look_set]
 exact a1.putL hx hs (Nat.le_refl _)
theorem rnd_free (h:Rnd w0 g p cap q M now nb B Ws d W) {x:Nat} (hx:x<d.L.length):Calls Tryz.prog 163 #[ptr (nd q x).g] W λ e w'=>e=.returned (.int .i64 (freeS (d.at' x).s))∧Rnd w0 g p cap q M now nb B Ws d w':=by
 obtain⟨q',a1,a3⟩:=h.at
 rw[←(a3 x).2]
 refine(free_i (a1.stg x hx)).mono ?_
 rintro e w' ⟨rfl,hb⟩
 exact⟨rfl,h.on hb⟩
def Mid (w0:World) (g:Nat) (p:Option Addr) (cap:Nat) (q:List Nd) (M:Nat) (now:Int) (nb B:Nat) (Ws:World) (d:Ch) (x:Nat) (F:Int) (T:ByteArray) (W:World):Prop:=
 Rnd w0 g p cap q M now nb B Ws (d.onC x (Ch.oTake now F)) W∧∃q',CAt W g p cap q' (d.onC x (Ch.oTake now F)) M∧Pg q' q∧
  (∀j,x+1≤j→j<d.L.length→(nd q' j).m+sumA (d.onC x (Ch.oTake now F)).L j+T.size≤M)∧d.lost+(sumA (d.onC x (Ch.oTake now F)).L d.L.length:Nat)+T.size≤M∧Mvd w0 (blkC g p q) W (blkC g p q')
theorem rnd_take (h:Rnd w0 g p cap q M now nb B Ws d W) {x:Nat} (hx:x+1<d.L.length) (F:Int) {T:ByteArray} (hT:(d.ansC x (Ch.oTake now F)).s=T):
  Calls Tryz.prog 135 #[ptr (nd q x).g,.int .i64 now,.int .i64 F] W λ e w'=>∃a dd,e=.returned (.slice a T.size dd)∧Lib.BytesIn w' a T.size (gc.nums T)∧Mid w0 g p cap q M now nb B Ws d x F T w':=by
 obtain⟨q',a1,a2,a3⟩:=h.1.1
 have hx0:x<d.L.length:=by omega
 rw[←(a3 x).2]
 refine(take_i (a1.stg x hx0) now F (T:=T) hT).mono ?_
 rintro e w' ⟨a,dd,rfl,hi,_,_,_,hs⟩
 obtain⟨q2,b1,b2,b3,b4,b5⟩:=way_take a1 hx hs.stp
 rw[hT]at b4 b5
 exact⟨a,dd,rfl,hi,rnd_of h a1 a2 a3 ⟨q2,b1,b2,b3⟩,q2,b1,b3.trans a3,b4,b5,a2.trans b2⟩
theorem rnd_push {x:Nat} {F:Int} {T:ByteArray} (h:Mid w0 g p cap q M now nb B Ws d x F T W) (hx:x+1<d.L.length) {a:Option Addr} {dd:Nat} (hi:Lib.BytesIn W a T.size (gc.nums T)):
  Calls Tryz.prog 125 #[ptr (nd q (x+1)).g,.int .i64 now,.slice a T.size dd] W λ e w'=>e=.returned (.tuple #[])∧Rnd w0 g p cap q M now nb B Ws ((d.onC x (Ch.oTake now F)).onC (x+1) (Ch.oPush now T)) w':=by
 obtain⟨hr,q',a1,a3,h4,h5,a2⟩:=h
 have hl:(d.onC x (Ch.oTake now F)).L.length=d.L.length:=Ch.len_on _ _ _
 have hx1:x+1<(d.onC x (Ch.oTake now F)).L.length:=by omega
 have ht:=a1.top
 have hm:=h4 (x+1) (Nat.le_refl _) hx
 rw[←(a3 (x+1)).2]
 refine(force_i (a1.stg (x+1) hx1) now (b:=T) rfl hi (M':=(nd q' (x+1)).m+T.size) (Nat.le_refl _) (by omega)).mono ?_
 rintro e w' ⟨rfl,hs⟩
 have hz:(pushS ((d.onC x (Ch.oTake now F)).at' (x+1)).s now T).S.size≤((d.onC x (Ch.oTake now F)).at' (x+1)).s.S.size+T.size:=by
  have e1:(pushS ((d.onC x (Ch.oTake now F)).at' (x+1)).s now T).S.size=_:=Ch.sz_push ((d.onC x (Ch.oTake now F)).at' (x+1)).s now T
  rw[e1]
  split<;>omega
 have hp:CPut W g p cap q' ((d.onC x (Ch.oTake now F)).onC (x+1) (Ch.oPush now T)) M w':=by
  rw[on_set _ _ _ (show(Ch.oPush now T).kind≠3 by show(1:Int)≠3;decide)]
  exact a1.putM hx1 hs hz (λ j hj hj'=>h4 j (by omega) (by omega)) (by rw[hl];exact h5) (Nat.le_refl _) ht
 exact⟨rfl,rnd_of hr a1 a2 a3 hp⟩
theorem rnd_lose (h:Rnd w0 g p cap q M now nb B Ws d W) (h2:2≤d.L.length) (N:Nat) (hN:N≤d.L.length):Calls Tryz.prog 124 #[ptr g,.int .i64 (N:Int)] W λ e w'=>e=.returned (.tuple #[])∧Rnd w0 g p cap q M now nb B Ws (d.lose N) w':=by
 obtain⟨q',a1,a2,a3⟩:=h.1.1
 refine(lose_c a1 h2 N hN).mono ?_
 rintro e w' ⟨rfl,hp⟩
 exact⟨rfl,rnd_of h a1 a2 a3 hp⟩
theorem rnd_close (h:Rnd w0 g p cap q M now nb B Ws d W) {x:Nat} (hx:x<d.L.length):Calls Tryz.prog 127 #[ptr (nd q x).p,.int .i64 now] W λ e w'=>e=.returned (.tuple #[])∧Rnd w0 g p cap q M now nb B Ws (d.onC x (Ch.oClose now)) w':=by
 obtain⟨q',a1,a2,a3⟩:=h.1.1
 rw[←(a3 x).1]
 refine(shut_p (a1.part hx) now).mono ?_
 intro e w' hs
 refine⟨hs.1,rnd_of h a1 a2 a3 (a1.shut hx now hs)⟩
theorem keeps_wide {b b':Nat} (h:KeepsFrom b W W') (hb:b≤b'):KeepsFrom b' W W':=⟨h.size,λ k o hk=>h.same k o (Nat.le_trans hb hk)⟩
theorem RndI.set (h:RndI w0 g p cap q M now nb B d W) {kb:Nat} {cs:Array Value} {fr:Nat×Nat} (hk:W.heap[kb]?=some (.cells cs 3 fr)) (hb:w0.heap.size≤kb) (h1:kb≠nb) (h2:kb≠B) (i:Nat) (v:Value):RndI w0 g p cap q M now nb B d (W.setCell ⟨kb,i,none⟩ v):=by
 obtain⟨⟨q',a1,⟨⟨b1,b2⟩,b3⟩,a3⟩,h3,h4⟩:=h
 have hno:=a1.not_own hk (by decide) (by decide) (by decide) (by decide) (by decide) (by decide) (by decide)
 have ho:∀j,j≠kb→(W.setCell ⟨kb,i,none⟩ v).heap[j]?=W.heap[j]?:=λ j hj=>Below.heap_setCell _ _ _ _ hj
 refine⟨⟨q',a1.keep λ j hj=>ho j λ e=>hno (by rw[←e];exact hj),⟨⟨⟨b1.os,b1.tape,b1.output,by simpa[World.setCell]using b1.size,λ j hj=>absurd hj (Nat.not_lt_zero j)⟩,λ j hj hu=>(ho j (by omega)).trans (b2 j hj hu)⟩,b3⟩,a3⟩,(ho _ λ e=>h1 e.symm).trans h3,(ho _ λ e=>h2 e.symm).trans h4⟩
theorem own_wide {β:Type} {I:β→World→Prop} {b b':Nat} (h:OwnFrom b I) (hb:b≤b'):OwnFrom b' I:=λ s W W' row hs hg hr=>h s W W' row hs hg λ r e=>⟨Nat.le_trans hb (hr r e).1,(hr r e).2⟩
end
end Go.Proofs.YtdighjgcnaajgaaGreat
