import Derived.Test.YtdighjgcnaajgaaGreatMS35
namespace Go.Proofs.YtdighjgcnaajgaaGreat
open Go.RowKit
attribute [local go_sem] Oper.semAt_some
section
variable {w w':World} {g:Nat} {p:Option Addr} {cap:Nat} {q:List Nd} {c c':Ch} {M M':Nat}
def isDefer:Go.Op→Bool
 | .defer _=>true
 |_=>false
theorem no_defer {ops:Array Oper} (h:(ops.all λ o=>!isDefer o.op)=true):∀o∈ops,∀c,o.op≠ .defer c:=λ o ho c e=>by
 have:=Array.all_eq_true_iff_forall_mem.1 h o ho
 rw[e]at this
 cases this
set_option maxRecDepth 100000 in
set_option maxHeartbeats 16000000 in
theorem move_c (h:CAt w g p cap q c M) (h2:2≤c.L.length) (now:Int):Calls Tryz.prog 132 #[ptr g,.int .i64 now] w λ e w'=>e=.returned (.tuple #[])∧CPut w g p cap q (c.flow now (c.L.length -1)) M w':=by
 have h10:=h.ten
 have hal:Below w.heap.size w ((w.alloc (.cells #[.int .i64 now] 3)).alloc (.cells #[ptr g] 120)):=((Below.refl _ _).alloc (Nat.le_refl _) _).alloc (by simp) _
 have hn1:((w.alloc (.cells #[.int .i64 now] 3)).alloc (.cells #[ptr g] 120)).heap[w.heap.size]?=some (.cells #[.int .i64 now] 3 (0,0)):=by
  have b2:Below (w.alloc (.cells #[.int .i64 now] 3)).heap.size (w.alloc (.cells #[.int .i64 now] 3)) ((w.alloc (.cells #[.int .i64 now] 3)).alloc (.cells #[ptr g] 120)):=(Below.refl _ _).alloc (Nat.le_refl _) _
  exact(b2.block _ (by simp)).trans (heap_alloc_new w _)
 have hn2:((w.alloc (.cells #[.int .i64 now] 3)).alloc (.cells #[ptr g] 120)).heap[w.heap.size+1]?=some (.cells #[ptr g] 120 (0,0)):=by
  have:=heap_alloc_new (w.alloc (.cells #[.int .i64 now] 3)) (.cells #[ptr g] 120)
  rw[World.size_alloc]at this
  exact this
 obtain⟨W0,hW0⟩:∃W0,(w.alloc (.cells #[.int .i64 now] 3)).alloc (.cells #[ptr g] 120)=W0:=⟨_,rfl⟩
 rw[hW0]at hal hn1 hn2
 obtain⟨m,hm⟩:∃m,c.L.length=m+1:=⟨c.L.length -1,by omega⟩
 obtain⟨b,o,rfl,hr,hnc,hmx⟩:=h.rows (by omega)
 have hI0:RndI W0 g (some ⟨b,o,none⟩) cap q M now w.heap.size (w.heap.size+1) c W0:=⟨CPut.refl (h.on hal),hn1,hn2⟩
 have hbl:b<W0.heap.size:=Nat.lt_of_lt_of_le (h.row.lt _ rfl).2 hal.size
 have hgl:g<W0.heap.size:=Nat.lt_of_lt_of_le (gb.blk_lt h.blk) hal.size
 have hBl:=gb.blk_lt hn2
 have HFIN:=Lib.hid (λ d W (hp:CPut W0 g (some ⟨b,o,none⟩) cap q d M W)=>(show CPut w g (some ⟨b,o,none⟩) cap q d M W from by
  obtain⟨q9,a1,a2,a3⟩:=hp
  exact⟨q9,a1,((Mvd.refl w _).on hal).trans a2,a3⟩))
 have HSD:=Lib.hid (hI0.side hm)
 have HI0:=Lib.hid hI0
 have HMM:=Lib.hid hm
 have h1m:1≤m:=by omega
 have hm10:m≤10:=by omega
 have hmc:m+1≤cap:=by omega
 rw[hm,Nat.add_sub_cancel]
 clear h hr hI0 hn1 hn2 hal hnc hm h2 h10
 refine(callsIn_wide (n:=3)).1 ?_
 refine callsIn_of_wp_marks Tryz.func132 rfl trivial ?_ rfl
 simp only[Tryz.ntmps132,List.size_toArray,List.length_cons,List.length_nil,Nat.reduceAdd,Nat.reduceSub,Array.replicate_succ,Array.replicate_zero,List.push_toArray,List.append_toArray,List.nil_append,List.cons_append]
 gi_wp2_with (refine⟨trivial,?_⟩;gi_at_call 164;refine(callsIn_wide.2 (sides_c _ _)).mono ?_;rintro e w' ⟨rfl,rfl⟩)
 try rw[hW0]
 clear hW0
 generalize w.heap.size=nb at*
 refine wpIn_rangeFunc_ownG rfl (by omega) (gf:=189) (lb:=#[ptr (nb+1)]) rfl trivial (enters_of Tryz.func189 (by kernel_rfl) rfl)
  (sides_stop _ (nb+1) g b o m cap (λ k=>(nd q k).p) h1m hm10 hmc W0 hBl hgl hbl HSD.out) (λ h k x=>k (h x)) (λ W l x x' _ hx hc _ hs=>side_put hs hx hc) (Below.refl _ _) (λ _=>rfl)
  (λ pre W=>RndI W0 g (some ⟨b,o,none⟩) cap q M now nb (nb+1) (movX c now (pre.map (·.1))) W)
  (λ _ _ _=>False)
  (rndI_own _)
  (λ _ _ _ _ _ hs _ _=>hs)
  HI0.out
  (λ x=>{tmps:=#[ptr g,.int .i64 now,undef,ptr nb,ptr (nd q x.1).p,ptr (nd q (x.1+1)).p,ptr g,.func (.func 189) #[] #[ptr (nb+1)],ptr (nd q x.1).p,ptr (nd q (x.1+1)).p,undef,undef,undef,undef,undef,undef,undef,undef,undef,undef,undef,undef,undef,undef,undef,undef,undef,undef,undef,undef,undef,undef,undef,undef],defers:=[]}) ?assign ?body ?done ?stop
 case assign=>
  intro l x W K hK
  gi_wp2
  exact hK
 case done=>
  rintro D xs W hD hxs hI hK
  rw[hxs,movX_range]at hI
  have HE:=Lib.hid (HFIN.out _ _ hI.1)
  have HT:=Lib.hid (λ (W':World) (hp:CPut W0 g (some ⟨b,o,none⟩) cap q (c.flow now m) M W')=>HFIN.out _ _ hp)
  have HC:=Lib.hid hI.1
  clear hI HE
  gi_wp2
  refine⟨by simp,.inl ⟨_,_,rfl,run_takeDeferred hK,?_⟩⟩
  exact⟨_,results_none rfl _ _ _,rfl,HT.out _ (cput_turn HC.out (grownBy_putObj' _ D (.deferred none)) (λ r e=>by cases e;exact⟨hD,_,hK,rfl⟩))⟩
 case stop=>
  rintro D c pre W _ _ h _
  exact h.elim
 case body=>
  rintro l pre x W hI _
  have hmx2:Tryz.prog.follows .mixedOrders=true:=by kernel_rfl
  have hlen:(movX c now (pre.map (·.1))).L.length=m+1:=(len_movX _ _ _).trans HMM.out
  have hx:=x.2
  have HFL:=Lib.hid (show movX c now ((pre++[x]).map (·.1))=(movX c now (pre.map (·.1))).flow1 now x.1 by rw[List.map_append];exact movX_snoc _ _ _ _)
  obtain⟨x,hxm⟩:=x
  dsimp only at hx HFL⊢
  generalize movX c now (pre.map (·.1))=d at*
  have hx1:x+1<d.L.length:=by omega
  have hr0:=(Rnd.start hI).on (Below.refl _ W).drew
  have HST:=Lib.hid (rnd_state hr0 hx1)
  have HS0:=Lib.hid (show∀(d':Ch) W1,d'.L.length=m+1→Rnd W0 g (some ⟨b,o,none⟩) cap q M now nb (nb+1) W d' W1→W1.cell? ⟨(nd q (x+1)).p,0,none⟩=some (ptr (nd q (x+1)).g)∧W1.cell? ⟨nb,0,none⟩=some (.int .i64 now)∧W1.cell? ⟨(nd q x).p,0,none⟩=some (ptr (nd q x).g)from
   λ d' W1 hl h=>⟨(h.cells (by omega)).1,(h.cells (x:=x) (by omega)).2.1,(h.cells (by omega)).1⟩)
  have hl1:(d.onC (x+1) (Ch.oLook now)).L.length=m+1:=by rw[Ch.len_on];exact hlen
  have HS1:=Lib.hid (λ W1 h=>HS0.out (d.onC (x+1) (Ch.oLook now)) W1 hl1 h)
  have hc0:=HS0.out _ _ hlen hr0
  have HKP:=Lib.hid (λ (d':Ch) W1 (hl:d'.L.length=m+1) (h:Rnd W0 g (some ⟨b,o,none⟩) cap q M now nb (nb+1) W d' W1)=>(⟨h.2.1,λ _=>h.1.side hl⟩:KeepsFrom W0.heap.size W W1∧(SideAt (nb+1) g b o m cap (λ k=>(nd q k).p) W→SideAt (nb+1) g b o m cap (λ k=>(nd q k).p) W1)))
  have HNO:=Lib.hid (show(d.ansC (x+1) (Ch.oLook now)).n≠0→d.flow1 now x=d.onC (x+1) (Ch.oLook now)fromλ hn=>by unfold Ch.flow1;dsimp only;rw[if_neg hn])
  have HYES:=Lib.hid (show(d.ansC (x+1) (Ch.oLook now)).n=0→d.flow1 now x=((d.onC (x+1) (Ch.oLook now)).onC x (Ch.oTake now (freeS ((d.onC (x+1) (Ch.oLook now)).at' (x+1)).s))).onC (x+1) (Ch.oPush now ((d.onC (x+1) (Ch.oLook now)).ansC x (Ch.oTake now (freeS ((d.onC (x+1) (Ch.oLook now)).at' (x+1)).s))).s)fromλ hn=>by unfold Ch.flow1;dsimp only;rw[if_pos hn])
  have hlf:(d.flow1 now x).L.length=m+1:=by rw[Ch.len_flow1];exact hlen
  have HLF:=Lib.hid hlf
  generalize(d.ansC (x+1) (Ch.oLook now)).n=X at*
  generalize d.onC (x+1) (Ch.oLook now)=d1 at*
  have hx11:x+1<d1.L.length:=by omega
  have HFR0:=Lib.hid (λ W1 (h:Rnd W0 g (some ⟨b,o,none⟩) cap q M now nb (nb+1) W d1 W1)=>rnd_free (h.on (Below.refl _ W1).drew) hx11)
  obtain⟨FF,hF⟩:∃F,freeS (d1.at' (x+1)).s=F:=⟨_,rfl⟩
  rw[hF]at HFR0 HYES
  obtain⟨TT,hT⟩:∃T,(d1.ansC x (Ch.oTake now FF)).s=T:=⟨_,rfl⟩
  rw[hT]at HYES
  have HTK:=Lib.hid (λ W1 (h:Rnd W0 g (some ⟨b,o,none⟩) cap q M now nb (nb+1) W d1 W1)=>rnd_take h hx11 FF hT)
  have HPU:=Lib.hid (λ W1 ta td (h:Mid W0 g (some ⟨b,o,none⟩) cap q M now nb (nb+1) W d1 x FF TT W1) (hi:Lib.BytesIn W1 ta TT.size (gc.nums TT))=>rnd_push (dd:=td) h hx11 hi)
  have HS3:=Lib.hid (λ W1 (h:Mid W0 g (some ⟨b,o,none⟩) cap q M now nb (nb+1) W d1 x FF TT W1)=>HS0.out (d1.onC x (Ch.oTake now FF)) W1 (by rw[Ch.len_on];exact hl1) h.1)
  have HS4:=Lib.hid (λ W1 h=>HS0.out ((d1.onC x (Ch.oTake now FF)).onC (x+1) (Ch.oPush now TT)) W1 (by rw[Ch.len_on,Ch.len_on];exact hl1) h)
  generalize TT.size=K at*
  generalize(nd q (x+1)).p=py at*
  generalize(nd q (x+1)).g=gy at*
  generalize hpx:(nd q x).p=px at*
  generalize(nd q x).g=gx at*
  have HC0:=Lib.hid hc0
  clear hI hr0 hlen hx hx1 hx11 hl1 hlf hF hT hc0 HS0 HSD HI0 HFIN
  gi_wp2
  refine round_held (S:=λ w'=>(w'.cell? ⟨py,0,none⟩=some (ptr gy)∧w'.cell? ⟨nb,0,none⟩=some (.int .i64 now)∧w'.cell? ⟨px,0,none⟩=some (ptr gx))∧True) hmx2 (no_defer (by kernel_rfl)) (λ a w h=>h) ⟨HC0.out,trivial⟩ (λ hHeld=>?_)
  refine wpAnyH_take (i:=0) (oi:={dst:=some 10,op:=Op.move (Operand.tmp 5),type:=161,pos:=_,after:=#[],guard:=none}) (v:=?va0) rfl (by kernel_rfl) (by kernel_rfl) (by kernel_rfl) (λ _ _ _ h=>h) (Or.inl ⟨by rfl,?hya0⟩) hHeld ?resta0
  case hya0=>
   intro w hSw
   clear hSw
   (go_simp<;>with_reducible rfl)
  simp only[Act.put,List.setIfInBounds_toArray,List.set_cons_zero,List.set_cons_succ]
  refine wpAnyH_take (i:=1) (oi:={dst:=some 11,op:=Op.nilCheck (Operand.tmp 10),type:=0,pos:=_,after:=#[{on:=0,ground:=Ground.data}],guard:=none}) (v:=?va1) rfl (by kernel_rfl) (by kernel_rfl) (by kernel_rfl) (λ _ _ _ h=>h) (Or.inl ⟨by rfl,?hya1⟩) hHeld ?resta1
  case hya1=>
   intro w hSw
   clear hSw
   (go_simp<;>with_reducible rfl)
  simp only[Act.put,List.setIfInBounds_toArray,List.set_cons_zero,List.set_cons_succ]
  refine wpAnyH_take (i:=2) (oi:={dst:=some 12,op:=Op.fieldAddr 183 (Operand.tmp 11) 0,type:=0,pos:=_,after:=#[{on:=1,ground:=Ground.data}],guard:=none}) (v:=?va2) rfl (by kernel_rfl) (by kernel_rfl) (by kernel_rfl) (λ _ _ _ h=>h) (Or.inl ⟨by rfl,?hya2⟩) hHeld ?resta2
  case hya2=>
   intro w hSw
   clear hSw
   (go_simp<;>with_reducible rfl)
  simp only[Act.put,List.setIfInBounds_toArray,List.set_cons_zero,List.set_cons_succ]
  refine wpAnyH_take (i:=3) (oi:={dst:=some 13,op:=Op.load 181 (Operand.tmp 12),type:=181,pos:=_,after:=#[{on:=2,ground:=Ground.data}],guard:=none}) (v:=?va3) rfl (by kernel_rfl) (by kernel_rfl) (by kernel_rfl) (λ _ _ _ h=>h) (Or.inl ⟨by rfl,?hya3⟩) hHeld ?resta3
  case hya3=>
   intro w hSw
   obtain⟨⟨c0,c1,c2⟩,_⟩:=hSw
   (go_simp<;>with_reducible rfl)
  simp only[Act.put,List.setIfInBounds_toArray,List.set_cons_zero,List.set_cons_succ]
  refine wpAnyH_take (i:=4) (oi:={dst:=some 14,op:=Op.load 3 (Operand.tmp 3),type:=3,pos:=_,after:=#[],guard:=none}) (v:=?va4) rfl (by kernel_rfl) (by kernel_rfl) (by kernel_rfl) (λ _ _ _ h=>h) (Or.inl ⟨by rfl,?hya4⟩) hHeld ?resta4
  case hya4=>
   intro w hSw
   obtain⟨⟨c0,c1,c2⟩,_⟩:=hSw
   (go_simp<;>with_reducible rfl)
  simp only[Act.put,List.setIfInBounds_toArray,List.set_cons_zero,List.set_cons_succ]
  refine wpAnyH_ready (rs:=[5]) (by kernel_rfl) (by simp) ?_
  refine AllReadyH.cons (o:={dst:=some 15,op:=Op.call {callee:=Callee.value (Operand.func 123),args:=#[Operand.tmp 13,Operand.tmp 14],argTypes:=#[181,3]},type:=3,pos:=_,after:=#[{on:=3,ground:=Ground.data},{on:=4,ground:=Ground.data}],guard:=none}) rfl (λ K hK=>?_) AllReadyH.nil
  go_simp
  go_at_call 123
  refine Calls.mono HST.out ?_
  rintro e w1 ⟨rfl,hr1⟩
  have HR1:=Lib.hid hr1
  clear hr1 HST
  refine hK.out _ _ ⟨HS1.out w1 HR1.out,trivial⟩ (λ hHeld1=>?_)
  clear hK K hHeld
  refine wpAnyH_take (i:=6) (oi:={dst:=some 16,op:=Op.binOp BinOp.eql 3 (Operand.tmp 15) (Operand.const (Value.int IntKind.i64 0)) 3,type:=4,pos:=_,after:=#[{on:=5,ground:=Ground.data}],guard:=none}) (v:=?va6) rfl (by kernel_rfl) (by kernel_rfl) (by kernel_rfl) (λ _ _ _ h=>h) (Or.inl ⟨by rfl,?hya6⟩) hHeld1 ?resta6
  case hya6=>
   intro w hSw
   clear hSw
   (go_simp<;>with_reducible rfl)
  simp only[Act.put,List.setIfInBounds_toArray,List.set_cons_zero,List.set_cons_succ]
  refine wpAnyH_done (by kernel_rfl) ?_ _
  clear HC0
  by_cases hX:X=0
  ·subst hX
   have HFR:=Lib.hid (HFR0.out w1 HR1.out)
   have HC1:=Lib.hid (HS1.out _ (HR1.out.on (Below.refl _ w1).drew))
   clear HNO HFR0 HR1 hHeld1
   gi_wp2
   refine round_held (S:=λ w'=>(w'.cell? ⟨py,0,none⟩=some (ptr gy)∧w'.cell? ⟨nb,0,none⟩=some (.int .i64 now)∧w'.cell? ⟨px,0,none⟩=some (ptr gx))∧True) hmx2 (no_defer (by kernel_rfl)) (λ a w h=>h) ⟨HC1.out,trivial⟩ (λ hHeld=>?_)
   refine wpAnyH_take (i:=0) (oi:={dst:=some 17,op:=Op.move (Operand.tmp 5),type:=161,pos:=_,after:=#[],guard:=none}) (v:=?vb0) rfl (by kernel_rfl) (by kernel_rfl) (by kernel_rfl) (λ _ _ _ h=>h) (Or.inl ⟨by rfl,?hyb0⟩) hHeld ?restb0
   case hyb0=>
    intro w hSw
    clear hSw
    (go_simp<;>with_reducible rfl)
   simp only[Act.put,List.setIfInBounds_toArray,List.set_cons_zero,List.set_cons_succ]
   refine wpAnyH_take (i:=1) (oi:={dst:=some 18,op:=Op.nilCheck (Operand.tmp 17),type:=0,pos:=_,after:=#[{on:=0,ground:=Ground.data}],guard:=none}) (v:=?vb1) rfl (by kernel_rfl) (by kernel_rfl) (by kernel_rfl) (λ _ _ _ h=>h) (Or.inl ⟨by rfl,?hyb1⟩) hHeld ?restb1
   case hyb1=>
    intro w hSw
    clear hSw
    (go_simp<;>with_reducible rfl)
   simp only[Act.put,List.setIfInBounds_toArray,List.set_cons_zero,List.set_cons_succ]
   refine wpAnyH_take (i:=2) (oi:={dst:=some 19,op:=Op.fieldAddr 183 (Operand.tmp 18) 0,type:=0,pos:=_,after:=#[{on:=1,ground:=Ground.data}],guard:=none}) (v:=?vb2) rfl (by kernel_rfl) (by kernel_rfl) (by kernel_rfl) (λ _ _ _ h=>h) (Or.inl ⟨by rfl,?hyb2⟩) hHeld ?restb2
   case hyb2=>
    intro w hSw
    clear hSw
    (go_simp<;>with_reducible rfl)
   simp only[Act.put,List.setIfInBounds_toArray,List.set_cons_zero,List.set_cons_succ]
   refine wpAnyH_take (i:=3) (oi:={dst:=some 20,op:=Op.load 181 (Operand.tmp 19),type:=181,pos:=_,after:=#[{on:=2,ground:=Ground.data}],guard:=none}) (v:=?vb3) rfl (by kernel_rfl) (by kernel_rfl) (by kernel_rfl) (λ _ _ _ h=>h) (Or.inl ⟨by rfl,?hyb3⟩) hHeld ?restb3
   case hyb3=>
    intro w hSw
    obtain⟨⟨c0,c1,c2⟩,_⟩:=hSw
    (go_simp<;>with_reducible rfl)
   simp only[Act.put,List.setIfInBounds_toArray,List.set_cons_zero,List.set_cons_succ]
   refine wpAnyH_take (i:=4) (oi:={dst:=some 21,op:=Op.load 3 (Operand.tmp 3),type:=3,pos:=_,after:=#[],guard:=none}) (v:=?vb4) rfl (by kernel_rfl) (by kernel_rfl) (by kernel_rfl) (λ _ _ _ h=>h) (Or.inl ⟨by rfl,?hyb4⟩) hHeld ?restb4
   case hyb4=>
    intro w hSw
    obtain⟨⟨c0,c1,c2⟩,_⟩:=hSw
    (go_simp<;>with_reducible rfl)
   simp only[Act.put,List.setIfInBounds_toArray,List.set_cons_zero,List.set_cons_succ]
   refine wpAnyH_take (i:=5) (oi:={dst:=some 22,op:=Op.move (Operand.tmp 4),type:=161,pos:=_,after:=#[],guard:=none}) (v:=?vb5) rfl (by kernel_rfl) (by kernel_rfl) (by kernel_rfl) (λ _ _ _ h=>h) (Or.inl ⟨by rfl,?hyb5⟩) hHeld ?restb5
   case hyb5=>
    intro w hSw
    clear hSw
    (go_simp<;>with_reducible rfl)
   simp only[Act.put,List.setIfInBounds_toArray,List.set_cons_zero,List.set_cons_succ]
   refine wpAnyH_take (i:=6) (oi:={dst:=some 23,op:=Op.nilCheck (Operand.tmp 22),type:=0,pos:=_,after:=#[{on:=5,ground:=Ground.data}],guard:=none}) (v:=?vb6) rfl (by kernel_rfl) (by kernel_rfl) (by kernel_rfl) (λ _ _ _ h=>h) (Or.inl ⟨by rfl,?hyb6⟩) hHeld ?restb6
   case hyb6=>
    intro w hSw
    clear hSw
    (go_simp<;>with_reducible rfl)
   simp only[Act.put,List.setIfInBounds_toArray,List.set_cons_zero,List.set_cons_succ]
   refine wpAnyH_take (i:=7) (oi:={dst:=some 24,op:=Op.fieldAddr 183 (Operand.tmp 23) 0,type:=0,pos:=_,after:=#[{on:=6,ground:=Ground.data}],guard:=none}) (v:=?vb7) rfl (by kernel_rfl) (by kernel_rfl) (by kernel_rfl) (λ _ _ _ h=>h) (Or.inl ⟨by rfl,?hyb7⟩) hHeld ?restb7
   case hyb7=>
    intro w hSw
    clear hSw
    (go_simp<;>with_reducible rfl)
   simp only[Act.put,List.setIfInBounds_toArray,List.set_cons_zero,List.set_cons_succ]
   refine wpAnyH_take (i:=8) (oi:={dst:=some 25,op:=Op.load 181 (Operand.tmp 24),type:=181,pos:=_,after:=#[{on:=7,ground:=Ground.data}],guard:=none}) (v:=?vb8) rfl (by kernel_rfl) (by kernel_rfl) (by kernel_rfl) (λ _ _ _ h=>h) (Or.inl ⟨by rfl,?hyb8⟩) hHeld ?restb8
   case hyb8=>
    intro w hSw
    obtain⟨⟨c0,c1,c2⟩,_⟩:=hSw
    (go_simp<;>with_reducible rfl)
   simp only[Act.put,List.setIfInBounds_toArray,List.set_cons_zero,List.set_cons_succ]
   refine wpAnyH_take (i:=9) (oi:={dst:=some 26,op:=Op.load 3 (Operand.tmp 3),type:=3,pos:=_,after:=#[],guard:=none}) (v:=?vb9) rfl (by kernel_rfl) (by kernel_rfl) (by kernel_rfl) (λ _ _ _ h=>h) (Or.inl ⟨by rfl,?hyb9⟩) hHeld ?restb9
   case hyb9=>
    intro w hSw
    obtain⟨⟨c0,c1,c2⟩,_⟩:=hSw
    (go_simp<;>with_reducible rfl)
   simp only[Act.put,List.setIfInBounds_toArray,List.set_cons_zero,List.set_cons_succ]
   refine wpAnyH_take (i:=10) (oi:={dst:=some 27,op:=Op.move (Operand.tmp 5),type:=161,pos:=_,after:=#[],guard:=none}) (v:=?vb10) rfl (by kernel_rfl) (by kernel_rfl) (by kernel_rfl) (λ _ _ _ h=>h) (Or.inl ⟨by rfl,?hyb10⟩) hHeld ?restb10
   case hyb10=>
    intro w hSw
    clear hSw
    (go_simp<;>with_reducible rfl)
   simp only[Act.put,List.setIfInBounds_toArray,List.set_cons_zero,List.set_cons_succ]
   refine wpAnyH_take (i:=11) (oi:={dst:=some 28,op:=Op.nilCheck (Operand.tmp 27),type:=0,pos:=_,after:=#[{on:=10,ground:=Ground.data}],guard:=none}) (v:=?vb11) rfl (by kernel_rfl) (by kernel_rfl) (by kernel_rfl) (λ _ _ _ h=>h) (Or.inl ⟨by rfl,?hyb11⟩) hHeld ?restb11
   case hyb11=>
    intro w hSw
    clear hSw
    (go_simp<;>with_reducible rfl)
   simp only[Act.put,List.setIfInBounds_toArray,List.set_cons_zero,List.set_cons_succ]
   refine wpAnyH_take (i:=12) (oi:={dst:=some 29,op:=Op.fieldAddr 183 (Operand.tmp 28) 0,type:=0,pos:=_,after:=#[{on:=11,ground:=Ground.data}],guard:=none}) (v:=?vb12) rfl (by kernel_rfl) (by kernel_rfl) (by kernel_rfl) (λ _ _ _ h=>h) (Or.inl ⟨by rfl,?hyb12⟩) hHeld ?restb12
   case hyb12=>
    intro w hSw
    clear hSw
    (go_simp<;>with_reducible rfl)
   simp only[Act.put,List.setIfInBounds_toArray,List.set_cons_zero,List.set_cons_succ]
   refine wpAnyH_take (i:=13) (oi:={dst:=some 30,op:=Op.load 181 (Operand.tmp 29),type:=181,pos:=_,after:=#[{on:=12,ground:=Ground.data}],guard:=none}) (v:=?vb13) rfl (by kernel_rfl) (by kernel_rfl) (by kernel_rfl) (λ _ _ _ h=>h) (Or.inl ⟨by rfl,?hyb13⟩) hHeld ?restb13
   case hyb13=>
    intro w hSw
    obtain⟨⟨c0,c1,c2⟩,_⟩:=hSw
    (go_simp<;>with_reducible rfl)
   simp only[Act.put,List.setIfInBounds_toArray,List.set_cons_zero,List.set_cons_succ]
   refine wpAnyH_ready (rs:=[14]) (by kernel_rfl) (by simp) ?_
   refine AllReadyH.cons (o:={dst:=some 31,op:=Op.call {callee:=Callee.value (Operand.func 163),args:=#[Operand.tmp 30],argTypes:=#[181]},type:=3,pos:=_,after:=#[{on:=13,ground:=Ground.data}],guard:=none}) rfl (λ K hK=>?_) AllReadyH.nil
   go_simp
   go_at_call 163
   refine Calls.mono HFR.out ?_
   rintro e w2 ⟨rfl,hr2⟩
   have HR2:=Lib.hid hr2
   clear hr2 HFR
   refine hK.out _ _ ⟨HS1.out w2 HR2.out,trivial⟩ (λ hHeld1=>?_)
   clear hK K hHeld
   refine wpAnyH_ready (rs:=[15]) (by kernel_rfl) (by simp) ?_
   refine AllReadyH.cons (o:={dst:=some 32,op:=Op.call {callee:=Callee.value (Operand.func 135),args:=#[Operand.tmp 25,Operand.tmp 26,Operand.tmp 31],argTypes:=#[181,3,3]},type:=87,pos:=_,after:=#[{on:=8,ground:=Ground.data},{on:=9,ground:=Ground.data},{on:=14,ground:=Ground.data},{on:=14,ground:=Ground.chain}],guard:=none}) rfl (λ K hK=>?_) AllReadyH.nil
   go_simp
   go_at_call 135
   refine Calls.mono (HTK.out w2 HR2.out) ?_
   rintro e w3 ⟨ta,td,rfl,hi3,hm3⟩
   have HM3:=Lib.hid hm3
   have HI3:=Lib.hid hi3
   clear hm3 hi3 HTK HR2
   refine hK.out _ _ ⟨HS3.out w3 HM3.out,trivial⟩ (λ hHeld2=>?_)
   clear hK K hHeld1
   refine wpAnyH_ready (rs:=[16]) (by kernel_rfl) (by simp) ?_
   refine AllReadyH.cons (o:={dst:=some 33,op:=Op.call {callee:=Callee.value (Operand.func 125),args:=#[Operand.tmp 20,Operand.tmp 21,Operand.tmp 32],argTypes:=#[181,3,87]},type:=0,pos:=_,after:=#[{on:=3,ground:=Ground.data},{on:=4,ground:=Ground.data},{on:=15,ground:=Ground.data},{on:=15,ground:=Ground.chain}],guard:=none}) rfl (λ K hK=>?_) AllReadyH.nil
   go_simp
   go_at_call 125
   refine Calls.mono (HPU.out w3 ta td HM3.out HI3.out) ?_
   rintro e w4 ⟨rfl,hr4⟩
   have HR4:=Lib.hid hr4
   clear hr4 HPU HM3 HI3
   refine hK.out _ _ ⟨HS4.out w4 HR4.out,trivial⟩ (λ hHeld3=>?_)
   clear hK K hHeld2
   refine wpAnyH_done (by kernel_rfl) ?_ _
   gi_wp2
   have e:=HYES.out (by trivial)
   refine⟨(HKP.out _ _ ?_ HR4.out).1,(HKP.out _ _ ?_ HR4.out).2,?_⟩
   ·rw[←e];exact HLF.out
   ·rw[←e];exact HLF.out
   ·show RndI _ _ _ _ _ _ _ _ _ (movX c now _) _
    rw[HFL.out,e]
    exact HR4.out.1
  ·have d1x:decide (X=0)=false:=by simpa using hX
   have d2x:(X==0)=false:=by simpa using hX
   clear HFR0 HTK HPU HS3 HS4 HYES
   gi_wp2
   have e:=HNO.out hX
   refine⟨(HKP.out _ _ ?_ HR1.out).1,(HKP.out _ _ ?_ HR1.out).2,?_⟩
   ·rw[←e];exact HLF.out
   ·rw[←e];exact HLF.out
   ·show RndI _ _ _ _ _ _ _ _ _ (movX c now _) _
    rw[HFL.out,e]
    exact HR1.out.1
end
end Go.Proofs.YtdighjgcnaajgaaGreat
namespace Go.Proofs.YtdighjgcnaajgaaGreat
open Go.RowKit
attribute [local go_sem] Oper.semAt_some
section
variable {w w':World} {g:Nat} {p:Option Addr} {cap:Nat} {q:List Nd} {c c':Ch} {M M':Nat}
theorem four_allocs (w:World) (o0 o1 o2 o3:Obj):∃W,(((w.alloc o0).alloc o1).alloc o2).alloc o3=W∧Below w.heap.size w W∧W.heap[w.heap.size]?=some o0∧W.heap[w.heap.size+1]?=some o1∧W.heap[w.heap.size+2]?=some o2∧W.heap[w.heap.size+3]?=some o3:=by
 have s1:(w.alloc o0).heap.size=w.heap.size+1:=by simp
 have s2:((w.alloc o0).alloc o1).heap.size=w.heap.size+2:=by simp
 have s3:(((w.alloc o0).alloc o1).alloc o2).heap.size=w.heap.size+3:=by simp
 have b1:Below w.heap.size w (w.alloc o0):=(Below.refl _ _).alloc (Nat.le_refl _) _
 have b2:Below (w.alloc o0).heap.size (w.alloc o0) ((w.alloc o0).alloc o1):=(Below.refl _ _).alloc (Nat.le_refl _) _
 have b3:Below ((w.alloc o0).alloc o1).heap.size ((w.alloc o0).alloc o1) (((w.alloc o0).alloc o1).alloc o2):=(Below.refl _ _).alloc (Nat.le_refl _) _
 have b4:Below (((w.alloc o0).alloc o1).alloc o2).heap.size (((w.alloc o0).alloc o1).alloc o2) ((((w.alloc o0).alloc o1).alloc o2).alloc o3):=(Below.refl _ _).alloc (Nat.le_refl _) _
 have h0:=heap_alloc_new w o0
 have h1:=heap_alloc_new (w.alloc o0) o1
 have h2:=heap_alloc_new ((w.alloc o0).alloc o1) o2
 have h3:=heap_alloc_new (((w.alloc o0).alloc o1).alloc o2) o3
 rw[s1]at h1
 rw[s2]at h2
 rw[s3]at h3
 exact⟨_,rfl,((b1.trans (b2.mono (by omega))).trans (b3.mono (by omega))).trans (b4.mono (by omega)),(b4.block _ (by omega)).trans ((b3.block _ (by omega)).trans ((b2.block _ (by omega)).trans h0)),(b4.block _ (by omega)).trans ((b3.block _ (by omega)).trans h1),(b4.block _ (by omega)).trans h2,h3⟩
def EndI (w:World) (g:Nat) (p:Option Addr) (cap:Nat) (q:List Nd) (M:Nat) (now:Int) (s:Nat) (d:Ch) (j:Nat) (W:World):Prop:=
 RndI w g p cap q M now (s+1) (s+3) d W∧W.heap[s]?=some (.cells #[ptr g] 120 (0,0))∧W.heap[s+2]?=some (.cells #[.int .i64 (j:Int)] 3 (0,0))
theorem endI_own {β:Type} {now:Int} {s:Nat} (f:β→Ch) (k:β→Nat):OwnFrom w.heap.size (λ (x:β) W=>EndI w g p cap q M now s (f x) (k x) W):=
 λ x _ _ _ hs hg hr=>⟨rndI_own f x _ _ _ hs.1 hg hr,obj_turn (w0:=w) hs.2.1 hg hr,obj_turn (w0:=w) hs.2.2 hg hr⟩
set_option maxRecDepth 100000 in
set_option maxHeartbeats 16000000 in
theorem end_c (h:CAt w g p cap q c M) (h2:2≤c.L.length) (now:Int):Calls Tryz.prog 133 #[ptr g,.int .i64 now] w λ e w'=>e=.returned (.tuple #[])∧CPut w g p cap q (c.ends now (c.L.length -1)) M w':=by
 have h10:=h.ten
 obtain⟨W0,hW0,hal,hn0,hn1,hn2,hn3⟩:=four_allocs w (.cells #[ptr g] 120) (.cells #[.int .i64 now] 3) (.cells #[.int .i64 0] 3) (.cells #[ptr g] 120)
 obtain⟨m,hm⟩:∃m,c.L.length=m+1:=⟨c.L.length -1,by omega⟩
 obtain⟨b,o,rfl,hr,hnc,hmx⟩:=h.rows (by omega)
 have hI0:EndI w g (some ⟨b,o,none⟩) cap q M now w.heap.size c 0 W0:=⟨⟨(CPut.refl h).on hal,hn1,hn3⟩,hn0,hn2⟩
 have hbl:b<W0.heap.size:=Nat.lt_of_lt_of_le (h.row.lt _ rfl).2 hal.size
 have hgl:g<W0.heap.size:=Nat.lt_of_lt_of_le (gb.blk_lt h.blk) hal.size
 have hBl:=gb.blk_lt hn3
 have hws:=hal.size
 have HSD:=Lib.hid (hI0.1.side hm)
 have HI0:=Lib.hid hI0
 have HMM:=Lib.hid hm
 have h1m:1≤m:=by omega
 have hm10:m≤10:=by omega
 have hmc:m+1≤cap:=by omega
 rw[hm,Nat.add_sub_cancel]
 clear h hr hI0 hn0 hn1 hn2 hn3 hal hnc hm h2 h10
 refine(callsIn_wide (n:=3)).1 ?_
 refine callsIn_of_wp_marks Tryz.func133 rfl trivial ?_ rfl
 simp only[Tryz.ntmps133,List.size_toArray,List.length_cons,List.length_nil,Nat.reduceAdd,Nat.reduceSub,Array.replicate_succ,Array.replicate_zero,List.push_toArray,List.append_toArray,List.nil_append,List.cons_append]
 gi_wp2_with (refine⟨trivial,?_⟩;gi_at_call 164;refine(callsIn_wide.2 (sides_c _ _)).mono ?_;rintro e w' ⟨rfl,rfl⟩)
 try rw[hW0]
 clear hW0
 obtain⟨s,hs⟩:∃s,w.heap.size=s:=⟨_,rfl⟩
 rw[hs]at hws HSD HI0 hBl
 simp only[hs]
 have HSE:=Lib.hid hs
 clear hs
 refine wpIn_rangeFunc_ownG rfl (by omega) (gf:=189) (lb:=#[ptr (s+3)]) rfl trivial (enters_of Tryz.func189 (by kernel_rfl) rfl)
  (sides_stop _ (s+3) g b o m cap (λ k=>(nd q k).p) h1m hm10 hmc W0 hBl hgl hbl HSD.out) (λ h k x=>k (h x)) (λ W l x x' _ hx hc _ hs=>side_put hs hx hc) (Below.refl _ _) (λ _=>rfl)
  (λ pre W=>EndI w g (some ⟨b,o,none⟩) cap q M now s (endL c now (pre.map (·.1))) pre.length W)
  (λ _ _ _=>False)
  (own_wide (endI_own (λ pre:List (Side m)=>endL c now (pre.map (·.1))) (λ pre=>pre.length)) (by rw[HSE.out];exact hws))
  (λ _ _ _ _ _ hs _ _=>hs)
  HI0.out
  (λ x=>{tmps:=#[ptr g,.int .i64 now,ptr s,ptr (s+1),ptr (s+2),ptr (nd q x.1).p,ptr (nd q (x.1+1)).p,ptr g,.func (.func 189) #[] #[ptr (s+3)],ptr (nd q x.1).p,ptr (nd q (x.1+1)).p,undef,undef,undef,undef,undef,undef,undef,undef,undef,undef,undef,undef,undef,undef,undef],defers:=[]}) ?assign ?body ?done ?stop
 case assign=>
  intro l x W K hK
  gi_wp2
  exact hK
 case done=>
  rintro D xs W hD hxs hI hK
  rw[hxs,endL_range]at hI
  have HC:=Lib.hid hI.1.1
  clear hI
  gi_wp2
  refine⟨by simp,.inl ⟨_,_,rfl,run_takeDeferred hK,?_⟩⟩
  exact⟨_,results_none rfl _ _ _,rfl,cput_turn HC.out (grownBy_putObj' _ D (.deferred none)) (λ r e=>by cases e;exact⟨by rw[HSE.out];exact Nat.le_trans hws hD,_,hK,rfl⟩)⟩
 case stop=>
  rintro D c pre W _ _ h _
  exact h.elim
 case body=>
  rintro l pre x W hI hlt
  have hmx2:Tryz.prog.follows .mixedOrders=true:=by kernel_rfl
  have hlen:(endL c now (pre.map (·.1))).L.length=m+1:=(len_endL _ _ _).trans HMM.out
  have hx:=x.2
  have HFL:=Lib.hid (show endL c now ((pre++[x]).map (·.1))=endX (endL c now (pre.map (·.1))) now pre.length x.1 by rw[List.map_append];have:=endL_snoc c now (pre.map (·.1)) x.1;rw[List.length_map]at this;exact this)
  have HPL:=Lib.hid (show(pre++[x]).length=pre.length+1 by simp)
  obtain⟨x,hxm⟩:=x
  dsimp only at hx HFL⊢
  generalize endL c now (pre.map (·.1))=d at*
  obtain⟨j,hj⟩:∃j,pre.length=j:=⟨_,rfl⟩
  rw[hj]at hI hlt HFL HPL
  have hx1:x+1<d.L.length:=by omega
  have hx0:x<d.L.length:=by omega
  obtain⟨hI1,hI2,hI3⟩:=hI
  have k0:W.cell? ⟨s+2,0,none⟩=some (.int .i64 (j:Int)):=cell_of_row _ _ 0 _ _ _ hI3
  have f0:W.frozen? ⟨s+2,0,none⟩=false:=gb.frozen_at hI3
  have hji:IntKind.i64.wrap ((j:Int)+1)=(j:Int)+1:=wrap_id (by omega) (by omega)
  have hset:=hI1.set hI3 (by rw[HSE.out];omega) (by omega) (by omega) 0 (.int .i64 ((j:Int)+1))
  have hW2:(W.setCell ⟨s+2,0,none⟩ (.int .i64 ((j:Int)+1))).heap[s+2]?=some (.cells #[.int .i64 ((j:Int)+1)] 3 (0,0)):=gb.set_heap hI3 _
  have hW1:(W.setCell ⟨s+2,0,none⟩ (.int .i64 ((j:Int)+1))).heap[s]?=some (.cells #[ptr g] 120 (0,0)):=(Below.heap_setCell _ _ _ _ (show s≠s+2 by omega)).trans hI2
  have HKS:=Lib.hid ((KeepsOthers.setCell W ⟨s+2,0,none⟩ (.int .i64 ((j:Int)+1))).from W0.heap.size)
  obtain⟨Ws,hWs⟩:∃Ws,W.setCell ⟨s+2,0,none⟩ (.int .i64 ((j:Int)+1))=Ws:=⟨_,rfl⟩
  rw[hWs]at hset hW1 hW2 HKS
  have hr0:=(Rnd.start hset).on (Below.refl _ Ws).drew
  have HST:=Lib.hid (rnd_state hr0 hx0)
  have HS0:=Lib.hid (show∀(d':Ch) W1,d'.L.length=m+1→Rnd w g (some ⟨b,o,none⟩) cap q M now (s+1) (s+3) Ws d' W1→(W1.cell? ⟨(nd q x).p,0,none⟩=some (ptr (nd q x).g)∧W1.cell? ⟨s+1,0,none⟩=some (.int .i64 now))∧(W1.cell? ⟨s,0,none⟩=some (ptr g)∧W1.cell? ⟨s+2,0,none⟩=some (.int .i64 ((j:Int)+1)))from
   λ d' W1 hl h=>⟨⟨(h.cells (by omega)).1,(h.cells (x:=x) (by omega)).2.1⟩,cell_of_row _ _ 0 _ _ _ (h.2.2 _ _ _ _ (Or.inr rfl) hW1),cell_of_row _ _ 0 _ _ _ (h.2.2 _ _ _ _ (Or.inl rfl) hW2)⟩)
  have hl1:(d.onC x (Ch.oLook now)).L.length=m+1:=by rw[Ch.len_on];exact hlen
  have HS1:=Lib.hid (λ W1 h=>(HS0.out (d.onC x (Ch.oLook now)) W1 hl1 h).1)
  have HS2:=Lib.hid (λ W1 h=>(HS0.out (d.onC x (Ch.oLook now)) W1 hl1 h).2)
  have hc0:=(HS0.out _ _ hlen hr0).1
  have HEND:=Lib.hid (λ (d':Ch) W1 (hl:d'.L.length=m+1) (h:Rnd w g (some ⟨b,o,none⟩) cap q M now (s+1) (s+3) Ws d' W1)=>(⟨HKS.out.trans (keeps_wide h.2.1 (by rw[HSE.out];exact hws)),λ _=>h.1.side hl,h.1,h.2.2 _ _ _ _ (Or.inr rfl) hW1,h.2.2 _ _ _ _ (Or.inl rfl) hW2⟩:
   KeepsFrom W0.heap.size W W1∧(SideAt (s+3) g b o m cap (λ k=>(nd q k).p) W→SideAt (s+3) g b o m cap (λ k=>(nd q k).p) W1)∧RndI w g (some ⟨b,o,none⟩) cap q M now (s+1) (s+3) d' W1∧W1.heap[s]?=some (.cells #[ptr g] 120 (0,0))∧W1.heap[s+2]?=some (.cells #[.int .i64 ((j:Int)+1)] 3 (0,0))))
  have HNO:=Lib.hid (show(d.ansC x (Ch.oLook now)).n≠1→endX d now j x=d.onC x (Ch.oLook now)fromλ hn=>by unfold endX;dsimp only;rw[if_neg hn])
  have HYES:=Lib.hid (show(d.ansC x (Ch.oLook now)).n=1→endX d now j x=((d.onC x (Ch.oLook now)).lose (j+1)).onC (x+1) (Ch.oClose now)fromλ hn=>by unfold endX;dsimp only;rw[if_pos hn])
  have HLF:=Lib.hid ((len_endX d now j x).trans hlen)
  generalize(d.ansC x (Ch.oLook now)).n=X at*
  generalize d.onC x (Ch.oLook now)=d1 at*
  have HLO:=Lib.hid (λ W1 (h:Rnd w g (some ⟨b,o,none⟩) cap q M now (s+1) (s+3) Ws d1 W1)=>rnd_lose h (by omega) (j+1) (by omega))
  have hl2:(d1.lose (j+1)).L.length=m+1:=by rw[Ch.len_lose];exact hl1
  have HCL:=Lib.hid (λ W1 (h:Rnd w g (some ⟨b,o,none⟩) cap q M now (s+1) (s+3) Ws (d1.lose (j+1)) W1)=>rnd_close h (x:=x+1) (by omega))
  have HS3:=Lib.hid (λ W1 h=>(HS0.out (d1.lose (j+1)) W1 hl2 h).1.2)
  have hjc:((j+1:Nat):Int)=(j:Int)+1:=by omega
  rw[hjc]at HLO
  generalize(nd q (x+1)).p=py at*
  generalize hpx:(nd q x).p=px at*
  generalize(nd q x).g=gx at*
  have HC0:=Lib.hid hc0
  clear hI1 hI2 hI3 hset hW1 hW2 hr0 hlen hx hx1 hx0 hl1 hl2 hc0 HS0 HSD HI0 hj hjc
  gi_wp2
  refine round_held (S:=λ w'=>(w'.cell? ⟨px,0,none⟩=some (ptr gx)∧w'.cell? ⟨s+1,0,none⟩=some (.int .i64 now))∧True) hmx2 (no_defer (by kernel_rfl)) (λ a w h=>h) ⟨HC0.out,trivial⟩ (λ hHeld=>?_)
  refine wpAnyH_take (i:=0) (oi:={dst:=some 13,op:=Op.move (Operand.tmp 5),type:=161,pos:=_,after:=#[],guard:=none}) (v:=?vc0) rfl (by kernel_rfl) (by kernel_rfl) (by kernel_rfl) (λ _ _ _ h=>h) (Or.inl ⟨by rfl,?hyc0⟩) hHeld ?restc0
  case hyc0=>
   intro w hSw
   clear hSw
   (go_simp<;>with_reducible rfl)
  simp only[Act.put,List.setIfInBounds_toArray,List.set_cons_zero,List.set_cons_succ]
  refine wpAnyH_take (i:=1) (oi:={dst:=some 14,op:=Op.nilCheck (Operand.tmp 13),type:=0,pos:=_,after:=#[{on:=0,ground:=Ground.data}],guard:=none}) (v:=?vc1) rfl (by kernel_rfl) (by kernel_rfl) (by kernel_rfl) (λ _ _ _ h=>h) (Or.inl ⟨by rfl,?hyc1⟩) hHeld ?restc1
  case hyc1=>
   intro w hSw
   clear hSw
   (go_simp<;>with_reducible rfl)
  simp only[Act.put,List.setIfInBounds_toArray,List.set_cons_zero,List.set_cons_succ]
  refine wpAnyH_take (i:=2) (oi:={dst:=some 15,op:=Op.fieldAddr 183 (Operand.tmp 14) 0,type:=0,pos:=_,after:=#[{on:=1,ground:=Ground.data}],guard:=none}) (v:=?vc2) rfl (by kernel_rfl) (by kernel_rfl) (by kernel_rfl) (λ _ _ _ h=>h) (Or.inl ⟨by rfl,?hyc2⟩) hHeld ?restc2
  case hyc2=>
   intro w hSw
   clear hSw
   (go_simp<;>with_reducible rfl)
  simp only[Act.put,List.setIfInBounds_toArray,List.set_cons_zero,List.set_cons_succ]
  refine wpAnyH_take (i:=3) (oi:={dst:=some 16,op:=Op.load 181 (Operand.tmp 15),type:=181,pos:=_,after:=#[{on:=2,ground:=Ground.data}],guard:=none}) (v:=?vc3) rfl (by kernel_rfl) (by kernel_rfl) (by kernel_rfl) (λ _ _ _ h=>h) (Or.inl ⟨by rfl,?hyc3⟩) hHeld ?restc3
  case hyc3=>
   intro w hSw
   obtain⟨⟨c0,c1⟩,_⟩:=hSw
   (go_simp<;>with_reducible rfl)
  simp only[Act.put,List.setIfInBounds_toArray,List.set_cons_zero,List.set_cons_succ]
  refine wpAnyH_take (i:=4) (oi:={dst:=some 17,op:=Op.load 3 (Operand.tmp 3),type:=3,pos:=_,after:=#[],guard:=none}) (v:=?vc4) rfl (by kernel_rfl) (by kernel_rfl) (by kernel_rfl) (λ _ _ _ h=>h) (Or.inl ⟨by rfl,?hyc4⟩) hHeld ?restc4
  case hyc4=>
   intro w hSw
   obtain⟨⟨c0,c1⟩,_⟩:=hSw
   (go_simp<;>with_reducible rfl)
  simp only[Act.put,List.setIfInBounds_toArray,List.set_cons_zero,List.set_cons_succ]
  refine wpAnyH_ready (rs:=[5]) (by kernel_rfl) (by simp) ?_
  refine AllReadyH.cons (o:={dst:=some 18,op:=Op.call {callee:=Callee.value (Operand.func 123),args:=#[Operand.tmp 16,Operand.tmp 17],argTypes:=#[181,3]},type:=3,pos:=_,after:=#[{on:=3,ground:=Ground.data},{on:=4,ground:=Ground.data}],guard:=none}) rfl (λ K hK=>?_) AllReadyH.nil
  go_simp
  go_at_call 123
  refine Calls.mono HST.out ?_
  rintro e w1 ⟨rfl,hr1⟩
  have HR1:=Lib.hid hr1
  clear hr1 HST
  refine hK.out _ _ ⟨HS1.out w1 HR1.out,trivial⟩ (λ hHeld1=>?_)
  clear hK K hHeld
  refine wpAnyH_take (i:=6) (oi:={dst:=some 19,op:=Op.binOp BinOp.eql 3 (Operand.tmp 18) (Operand.const (Value.int IntKind.i64 1)) 3,type:=4,pos:=_,after:=#[{on:=5,ground:=Ground.data}],guard:=none}) (v:=?vc6) rfl (by kernel_rfl) (by kernel_rfl) (by kernel_rfl) (λ _ _ _ h=>h) (Or.inl ⟨by rfl,?hyc6⟩) hHeld1 ?restc6
  case hyc6=>
   intro w hSw
   clear hSw
   (go_simp<;>with_reducible rfl)
  simp only[Act.put,List.setIfInBounds_toArray,List.set_cons_zero,List.set_cons_succ]
  refine wpAnyH_done (by kernel_rfl) ?_ _
  clear HC0
  by_cases hX:X=1
  ·subst hX
   have y0:=(HS2.out w1 HR1.out).1
   have y1:=(HS2.out w1 HR1.out).2
   clear HNO hHeld1
   gi_wp2_with (first
    |(refine⟨trivial,?_⟩;gi_at_call 124;refine(CallsIn.inRound l (callsIn_wide.2 (HLO.out _ HR1.out))).mono ?_;rintro e w2 ⟨rfl,hr2⟩;(have y3:=HS3.out w2 hr2);(have HR2:=Lib.hid hr2);clear hr2)
    |(refine⟨trivial,?_⟩;gi_at_call 127;refine(CallsIn.inRound l (callsIn_wide.2 (HCL.out _ HR2.out))).mono ?_;rintro e w3 ⟨rfl,hr3⟩;(have HR3:=Lib.hid hr3);clear hr3))
   have e:=HYES.out (by trivial)
   have HZ:=HEND.out _ _ (by rw[←e];exact HLF.out) HR3.out
   refine⟨HZ.1,HZ.2.1,?_⟩
   show EndI _ _ _ _ _ _ _ _ (endL c now _) _ _
   rw[HFL.out,HPL.out,e]
   exact⟨HZ.2.2.1,HZ.2.2.2.1,HZ.2.2.2.2⟩
  ·have d1x:decide (X=1)=false:=by simpa using hX
   have d2x:(X==1)=false:=by simpa using hX
   clear HLO HCL HYES HS3
   gi_wp2
   have e:=HNO.out hX
   have HZ:=HEND.out _ _ (by rw[←e];exact HLF.out) HR1.out
   refine⟨HZ.1,HZ.2.1,?_⟩
   show EndI _ _ _ _ _ _ _ _ (endL c now _) _ _
   rw[HFL.out,HPL.out,e]
   exact⟨HZ.2.2.1,HZ.2.2.2.1,HZ.2.2.2.2⟩
end
end Go.Proofs.YtdighjgcnaajgaaGreat
