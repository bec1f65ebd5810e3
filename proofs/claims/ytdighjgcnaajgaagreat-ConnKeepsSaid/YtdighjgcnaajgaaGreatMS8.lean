import Derived.Test.YtdighjgcnaajgaaGreatMS7
namespace Go.Proofs.YtdighjgcnaajgaaGreat.gc
open Go.RowKit
theorem set_heap {w:World} {g i:Nat} {cs:Array Value} {T:TypeId} {fr:Nat×Nat} (hg:w.heap[g]?=some (.cells cs T fr)) (u:Value):(w.setCell ⟨g,i,none⟩ u).heap[g]?=some (.cells (cs.setIfInBounds i u) T fr):=by
 simp[World.setCell,Array.getElem?_modify,hg]
def set3 (w:World) (g:Nat) (a b c:Value):World:=((w.setCell ⟨g,0,none⟩ a).setCell ⟨g,1,none⟩ b).setCell ⟨g,2,none⟩ c
theorem set3_heap {w:World} {g:Nat} {x y z:Value} {T:TypeId} (h:w.heap[g]?=some (.cells #[x,y,z] T (0,0))) (a b c:Value):(set3 w g a b c).heap[g]?=some (.cells #[a,b,c] T (0,0)):=by
 unfold set3
 rw[set_heap (set_heap (set_heap h a) b) c]
 rfl
theorem set3_far {w:World} {g k:Nat} (a b c:Value) (h:k≠g):(set3 w g a b c).heap[k]?=w.heap[k]?:=by
 unfold set3
 rw[Below.heap_setCell _ _ _ _ h,Below.heap_setCell _ _ _ _ h,Below.heap_setCell _ _ _ _ h]
theorem set3_below {B:Nat} {w0 w:World} {g:Nat} (h:Below B w0 w) (hg:B≤g) (a b c:Value):Below B w0 (set3 w g a b c):=((h.setCell (p:=⟨g,0,none⟩) hg a).setCell (p:=⟨g,1,none⟩) hg b).setCell (p:=⟨g,2,none⟩) hg c
def RowA (w:World) (p:Option Addr) (n c:Nat) (xs:List Int):Prop:=xs.length=n∧n≤c∧c≤9223372036854775807∧IntsIn w p n xs∧(p=none→c=0)∧(0<n→∃a cs fr,p=some a∧w.heap[a.block]?=some (.cells cs 3 fr))
theorem rowA_on {w w':World} {p:Option Addr} {n c:Nat} {xs:List Int} (h:RowA w p n c xs) (hb:Below w.heap.size w w'):RowA w' p n c xs:=⟨h.1,h.2.1,h.2.2.1,ints_on h.2.2.2.1 hb,h.2.2.2.2.1,λ hn=>by
 obtain⟨a,cs,fr,e,hh⟩:=h.2.2.2.2.2 hn
 exact⟨a,cs,fr,e,(hb.block _ (blk_lt hh)).trans hh⟩⟩
theorem rowA_nil (w:World):RowA w none 0 0 []:=⟨rfl,Nat.le_refl _,by omega,ints_nil _ _ _,λ _=>rfl,λ h=>absurd h (Nat.lt_irrefl 0)⟩
theorem rowA_of_own {w w':World} {B M d:Nat} {q:Option Addr} {xs:List Int} (ho:w.ownsRow B 3 1 (.slice q M d) M (xs.map (Value.int .i64))) (h:∀k,B≤k→w'.heap[k]?=w.heap[k]?):RowA w' q M d xs:=by
 obtain⟨p',c',e,hl,hi,hz,hc1,hc2⟩:=own_ints ho
 cases e
 refine⟨hl,hc1,hc2,λ hn=>?_,hz,λ hn=>?_⟩
 ·obtain⟨b,o,e,hc⟩:=hi hn
  have hbb:=(ho.lt b (by rw[e];rfl)).1
  refine⟨b,o,e,λ i hi=>?_⟩
  rw[World.cell?_of_block (w:=w) (h b hbb)]
  exact hc i hi
 ·rcases ho.2 with⟨e,h0⟩|⟨b,cap,cur,e,hb,hh,_⟩
  ·omega
  ·cases e
   exact⟨_,cur,_,rfl,(h b hb).trans hh⟩
def putT (last at':Int):Int:=if near at'<last then last else near at'
def DidC (S:ByteArray) (A:List Int) (last N:Int) (w:World) (e:Ending) (w':World):Prop:=∃p n c,e=.returned (.tuple #[.agg #[.string S,.slice p n c,.int .i64 last],.int .i64 N])∧RowA w' p n c A∧Below w.heap.size w w'
theorem two_blocks {w w1:World} {o0 o1:Obj} (hb:Below ((w.alloc o0).alloc o1).heap.size ((w.alloc o0).alloc o1) w1):
  w1.heap[w.heap.size]?=some o0∧w1.heap[w.heap.size+1]?=some o1∧w.heap.size+1<w1.heap.size:=by
 have hs:=hb.size
 have s0:(w.alloc o0).heap.size=w.heap.size+1:=by simp
 have s1:((w.alloc o0).alloc o1).heap.size=w.heap.size+1+1:=by simp
 rw[s1]at hs hb
 refine⟨?_,?_,by omega⟩
 ·rw[hb.block _ (by omega),Below.heap_alloc _ _ _ (by omega)]
  exact heap_alloc_new w o0
 ·rw[hb.block _ (by omega)]
  have:=heap_alloc_new (w.alloc o0) o1
  rw[s0]at this
  exact this
theorem below2 (w:World) (o o':Obj):Below w.heap.size w ((w.alloc o).alloc o'):=((Below.refl _ _).alloc (Nat.le_refl _) _).alloc (by simp) _
theorem putT_lt {last a:Int} (h:near a<last):putT last a=last:=by unfold putT;rw[if_pos h]
theorem putT_ge {last a:Int} (h:¬near a<last):putT last a=near a:=by unfold putT;rw[if_neg h]
set_option maxRecDepth 100000 in
set_option maxHeartbeats 4000000 in
theorem rput_none (S:ByteArray) (p:Option Addr) (n c:Nat) (A:List Int) (last a:Int) (w:World) (hr:RowA w p n c A):
  Calls Tryz.prog 211 #[.agg #[.string S,.slice p n c,.int .i64 last],.int .i64 a,.string ⟨#[]⟩] w (DidC S A last (putT last a) w):=by
 have HR:=Lib.hid hr
 clear hr
 by_cases hlt:near a<last
 ·rw[putT_lt hlt]
  go_enter Tryz.func211,Tryz.ntmps211
  go_wp2_with fail
  refine(rnear_any _ _).mono ?_
  rintro e w1 ⟨rfl,rfl⟩
  go_wp2_with fail
  exact bodyPost_ret (v:=.tuple #[.agg #[.string S,.slice p n c,.int .i64 last],.int .i64 last]) (by simp[results,Tryz.results211,go_sem]) rfl ⟨_,_,_,rfl,rowA_on HR.out (below2 _ _ _),below2 _ _ _⟩
 ·rw[putT_ge hlt]
  go_enter Tryz.func211,Tryz.ntmps211
  go_wp2_with fail
  refine(rnear_any _ _).mono ?_
  rintro e w1 ⟨rfl,rfl⟩
  go_wp2_with fail
  exact bodyPost_ret (v:=.tuple #[.agg #[.string S,.slice p n c,.int .i64 last],.int .i64 (near a)]) (by simp[results,Tryz.results211,go_sem]) rfl ⟨_,_,_,rfl,rowA_on HR.out (below2 _ _ _),below2 _ _ _⟩
theorem seqB0 {w w1 w2:World} {K:Nat} (h1:Below w.heap.size w w1) (h2:Below K w1 w2) (hk:w.heap.size≤K:=by omega):Below w.heap.size w w2:=h1.trans (h2.mono hk)
theorem text_some {s:ByteArray} (h:0<s.size):s.toList.isEmpty=false:=by
 rw[←str_nums s,Lib.strOfNums_toList]
 have:=nums_length s
 cases e:nums s with
 |nil=>rw[e]at this;simp at this;omega
 |cons x r=>rfl
theorem made_noInts (w:World):(w.alloc (.cells #[] 3)).ownsRow w.heap.size 3 1 (.slice (some ⟨w.heap.size,0,none⟩) 0 0) 0 (([]:List Int).map (Value.int .i64)):=
 World.ownsRow_made w #[] 0 (Nat.le_refl _) (Nat.zero_le _) rfl
theorem rep_next (k:Nat) (T:Int) (A:List Int):(A++List.replicate k T)++[T]=A++List.replicate (k+1) T:=by rw[List.append_assoc,←List.replicate_succ']
set_option maxRecDepth 100000 in
set_option maxHeartbeats 8000000 in
theorem rput_some (S s:ByteArray) (p:Option Addr) (n c:Nat) (A:List Int) (last a:Int) (w:World) (hr:RowA w p n c A) (hn:n≤100000) (hs:s.size≤100000) (hSS:S.size≤100000) (h0:0<s.size) {T:Int} (hT:putT last a=T):
  Calls Tryz.prog 211 #[.agg #[.string S,.slice p n c,.int .i64 last],.int .i64 a,.string s] w (DidC (S++s) (A++List.replicate s.size T) T T w):=by
 have HR:=Lib.hid hr
 have HN:=Lib.hid hn
 obtain⟨m,hm⟩:∃m,s.size=m:=⟨_,rfl⟩
 rw[hm]at hs h0⊢
 have HSS:=Lib.hid hs
 have HT:=Lib.hid hT
 have hb0:Below w.heap.size w ((w.alloc (.cells #[.string S,.slice p n c,.int .i64 last] 170)).alloc (.cells #[.string ⟨#[]⟩,.slice none 0 0,.int .i64 0] 170)):=below2 _ _ _
 have hz:((w.alloc (.cells #[.string S,.slice p n c,.int .i64 last] 170)).alloc (.cells #[.string ⟨#[]⟩,.slice none 0 0,.int .i64 0] 170)).heap.size=w.heap.size+1+1:=by simp
 have hmk:=made_noInts ((w.alloc (.cells #[.string S,.slice p n c,.int .i64 last] 170)).alloc (.cells #[.string ⟨#[]⟩,.slice none 0 0,.int .i64 0] 170))
 have hba:Below ((w.alloc (.cells #[.string S,.slice p n c,.int .i64 last] 170)).alloc (.cells #[.string ⟨#[]⟩,.slice none 0 0,.int .i64 0] 170)).heap.size ((w.alloc (.cells #[.string S,.slice p n c,.int .i64 last] 170)).alloc (.cells #[.string ⟨#[]⟩,.slice none 0 0,.int .i64 0] 170)) (((w.alloc (.cells #[.string S,.slice p n c,.int .i64 last] 170)).alloc (.cells #[.string ⟨#[]⟩,.slice none 0 0,.int .i64 0] 170)).alloc (.cells #[] 3)):=(Below.refl _ _).alloc (Nat.le_refl _) _
 obtain⟨q0,d0,w4,hr0,ho0,hb4⟩:=app_ints (p:=p) (n:=n) (c:=c) (xs:=A) hmk (by simp) hba hr.1 (λ e=>⟨hr.2.2.2.2.1 e,by have:=hr.2.2.2.2.1 e;have:=hr.2.1;omega⟩) (ints_on hr.2.2.2.1 (seqB hb0 hba)) (by omega) 168
 rw[hz]at hr0 ho0 hb4
 have HR0:=Lib.hid hr0
 have HO0:=Lib.hid ho0
 have HB4:=Lib.hid hb4
 have HB0:=Lib.hid hb0
 have hb2:=two_blocks (Below.refl _ ((w.alloc (.cells #[.string S,.slice p n c,.int .i64 last] 170)).alloc (.cells #[.string ⟨#[]⟩,.slice none 0 0,.int .i64 0] 170)))
 have HB2:=Lib.hid hb2
 have he:=text_some (s:=s) (by omega)
 have HZ:=Lib.hid hz
 clear hr0 ho0 hb4 hmk hr hn hT hb0 hb2 hz
 by_cases hlt:near a<last
 ·obtain rfl:last=T:=by rw[←HT.out,putT_lt hlt]
  go_enter Tryz.func211,Tryz.ntmps211
  go_wp2_with fail
  refine(rnear_any _ _).mono ?_
  rintro e w1 ⟨rfl,rfl⟩
  go_wp2_with (at_builtin;refine Lib.wpList_append_run _ rfl _ _ _ _ rfl (.slice (some ⟨w.heap.size+1+1,0,none⟩) 0 0) (.slice p n c) rfl rfl _ _ HR0.out ?_)
  clear he hba
  go_loopw [8,9] (λ u i wr=>∃(k:Nat) (q:Option Addr) (d:Nat),k≤m∧i=.int .i64 k∧u=.slice q (n+k) d∧Hid (wr.ownsRow (w.heap.size+1+1) 3 1 (.slice q (n+k) d) (n+k) ((A++List.replicate k last).map (Value.int .i64)))∧Hid (Below (w.heap.size+1+1) ((w.alloc (.cells #[.string S,.slice p n c,.int .i64 last] 170)).alloc (.cells #[.string ⟨#[]⟩,.slice none 0 0,.int .i64 0] 170)) wr)) (λ _ i _=>m -(intOf i).toNat)
  case atStart=>exact⟨0,q0,d0,by omega,rfl,by simp,Lib.hid (by simpa using HO0.out),HB4⟩
  case round=>
   obtain⟨k,q,d,hk,rfl,rfl,HO,HB⟩:=hrel
   by_cases hlt2:k<m
   ·have hlm:decide ((k:Int)<(s.size:Int))=true:=by simp;omega
    obtain⟨q',d',w',h1,h2,h3⟩:=app_int HO.out (by have:=HB.out.size;have:=HZ.out;omega) HB.out (by have:=HN.out;omega) last
    rw[rep_next]at h2
    have HR1:=Lib.hid h1
    have HO1:=Lib.hid h2
    have HB1:=Lib.hid h3
    clear h1 h2 h3
    go_wp2_with (at_builtin;refine Lib.wpList_append_run _ rfl _ _ _ _ rfl (.slice q (n+k) d) (.slice (some ⟨wr.heap.size,0,none⟩) 1 1) rfl rfl _ _ (HR1.out _) ?_)
    go_roundw
    case rel=>exact⟨k+1,q',d',by omega,by go_num,rfl,HO1,HB1⟩
    case measure=>simp[intOf];omega
   ·obtain rfl:k=m:=by omega
    have hlm:decide ((k:Int)<(s.size:Int))=false:=by simp;omega
    have hb2:=HB2.out
    have hg0:=(HB.out.block w.heap.size (by omega)).trans hb2.1
    have hg1:=(HB.out.block (w.heap.size+1) (by omega)).trans hb2.2.1
    have x0:wr.cell? ⟨w.heap.size,0,none⟩=some (.string S):=cell_of_row _ _ 0 _ _ _ hg0
    have y0:wr.cell? ⟨w.heap.size+1,0,none⟩=some (.string ⟨#[]⟩):=cell_of_row _ _ 0 _ _ _ hg1
    have y1:wr.cell? ⟨w.heap.size+1,1,none⟩=some (.slice none 0 0):=cell_of_row _ _ 1 _ _ _ hg1
    have y2:wr.cell? ⟨w.heap.size+1,2,none⟩=some (.int .i64 0):=cell_of_row _ _ 2 _ _ _ hg1
    have f0:wr.frozen? ⟨w.heap.size+1,0,none⟩=false:=frozen_at hg1
    have f1:wr.frozen? ⟨w.heap.size+1,1,none⟩=false:=frozen_at hg1
    have f2:wr.frozen? ⟨w.heap.size+1,2,none⟩=false:=frozen_at hg1
    have hgs:w.heap.size+1+1≤wr.heap.size:=by have:=HB.out.size;have:=HZ.out;omega
    have hz:=set3_heap hg1 (.string (S++s)) (.slice q (n+k) d) (.int .i64 last)
    have HD:=Lib.hid (set3_below (seqB0 HB0.out HB.out) (show w.heap.size≤w.heap.size+1 by omega) (.string (S++s)) (.slice q (n+k) d) (.int .i64 last))
    have HRow:=Lib.hid (rowA_of_own (w':=set3 wr (w.heap.size+1) (.string (S++s)) (.slice q (n+k) d) (.int .i64 last)) HO.out (λ j hj=>set3_far _ _ _ (by omega)))
    go_wp2_with fail
    generalize hW:set3 wr (w.heap.size+1) (.string (S++s)) (.slice q (n+k) d) (.int .i64 last)=W at*
    unfold set3 at hW
    rw[hW]
    clear hW
    have z0:W.cell? ⟨w.heap.size+1,0,none⟩=some (.string (S++s)):=cell_of_row W _ 0 _ _ _ hz
    have z1:W.cell? ⟨w.heap.size+1,1,none⟩=some (.slice q (n+k) d):=cell_of_row W _ 1 _ _ _ hz
    have z2:W.cell? ⟨w.heap.size+1,2,none⟩=some (.int .i64 last):=cell_of_row W _ 2 _ _ _ hz
    exact bodyPost_ret (v:=.tuple #[.agg #[.string (S++s),.slice q (n+k) d,.int .i64 last],.int .i64 last]) (by simp[results,Tryz.results211,go_sem,z0,z1,z2]) rfl ⟨_,_,_,rfl,HRow.out,HD.out⟩
 ·obtain rfl:near a=T:=by rw[←HT.out,putT_ge hlt]
  go_enter Tryz.func211,Tryz.ntmps211
  go_wp2_with fail
  refine(rnear_any _ _).mono ?_
  rintro e w1 ⟨rfl,rfl⟩
  go_wp2_with (at_builtin;refine Lib.wpList_append_run _ rfl _ _ _ _ rfl (.slice (some ⟨w.heap.size+1+1,0,none⟩) 0 0) (.slice p n c) rfl rfl _ _ HR0.out ?_)
  clear he hba
  go_loopw [8,9] (λ u i wr=>∃(k:Nat) (q:Option Addr) (d:Nat),k≤m∧i=.int .i64 k∧u=.slice q (n+k) d∧Hid (wr.ownsRow (w.heap.size+1+1) 3 1 (.slice q (n+k) d) (n+k) ((A++List.replicate k (near a)).map (Value.int .i64)))∧Hid (Below (w.heap.size+1+1) ((w.alloc (.cells #[.string S,.slice p n c,.int .i64 last] 170)).alloc (.cells #[.string ⟨#[]⟩,.slice none 0 0,.int .i64 0] 170)) wr)) (λ _ i _=>m -(intOf i).toNat)
  case atStart=>exact⟨0,q0,d0,by omega,rfl,by simp,Lib.hid (by simpa using HO0.out),HB4⟩
  case round=>
   obtain⟨k,q,d,hk,rfl,rfl,HO,HB⟩:=hrel
   by_cases hlt2:k<m
   ·have hlm:decide ((k:Int)<(s.size:Int))=true:=by simp;omega
    obtain⟨q',d',w',h1,h2,h3⟩:=app_int HO.out (by have:=HB.out.size;have:=HZ.out;omega) HB.out (by have:=HN.out;omega) (near a)
    rw[rep_next]at h2
    have HR1:=Lib.hid h1
    have HO1:=Lib.hid h2
    have HB1:=Lib.hid h3
    clear h1 h2 h3
    go_wp2_with (at_builtin;refine Lib.wpList_append_run _ rfl _ _ _ _ rfl (.slice q (n+k) d) (.slice (some ⟨wr.heap.size,0,none⟩) 1 1) rfl rfl _ _ (HR1.out _) ?_)
    go_roundw
    case rel=>exact⟨k+1,q',d',by omega,by go_num,rfl,HO1,HB1⟩
    case measure=>simp[intOf];omega
   ·obtain rfl:k=m:=by omega
    have hlm:decide ((k:Int)<(s.size:Int))=false:=by simp;omega
    have hb2:=HB2.out
    have hg0:=(HB.out.block w.heap.size (by omega)).trans hb2.1
    have hg1:=(HB.out.block (w.heap.size+1) (by omega)).trans hb2.2.1
    have x0:wr.cell? ⟨w.heap.size,0,none⟩=some (.string S):=cell_of_row _ _ 0 _ _ _ hg0
    have y0:wr.cell? ⟨w.heap.size+1,0,none⟩=some (.string ⟨#[]⟩):=cell_of_row _ _ 0 _ _ _ hg1
    have y1:wr.cell? ⟨w.heap.size+1,1,none⟩=some (.slice none 0 0):=cell_of_row _ _ 1 _ _ _ hg1
    have y2:wr.cell? ⟨w.heap.size+1,2,none⟩=some (.int .i64 0):=cell_of_row _ _ 2 _ _ _ hg1
    have f0:wr.frozen? ⟨w.heap.size+1,0,none⟩=false:=frozen_at hg1
    have f1:wr.frozen? ⟨w.heap.size+1,1,none⟩=false:=frozen_at hg1
    have f2:wr.frozen? ⟨w.heap.size+1,2,none⟩=false:=frozen_at hg1
    have hgs:w.heap.size+1+1≤wr.heap.size:=by have:=HB.out.size;have:=HZ.out;omega
    have hz:=set3_heap hg1 (.string (S++s)) (.slice q (n+k) d) (.int .i64 (near a))
    have HD:=Lib.hid (set3_below (seqB0 HB0.out HB.out) (show w.heap.size≤w.heap.size+1 by omega) (.string (S++s)) (.slice q (n+k) d) (.int .i64 (near a)))
    have HRow:=Lib.hid (rowA_of_own (w':=set3 wr (w.heap.size+1) (.string (S++s)) (.slice q (n+k) d) (.int .i64 (near a))) HO.out (λ j hj=>set3_far _ _ _ (by omega)))
    go_wp2_with fail
    generalize hW:set3 wr (w.heap.size+1) (.string (S++s)) (.slice q (n+k) d) (.int .i64 (near a))=W at*
    unfold set3 at hW
    rw[hW]
    clear hW
    have z0:W.cell? ⟨w.heap.size+1,0,none⟩=some (.string (S++s)):=cell_of_row W _ 0 _ _ _ hz
    have z1:W.cell? ⟨w.heap.size+1,1,none⟩=some (.slice q (n+k) d):=cell_of_row W _ 1 _ _ _ hz
    have z2:W.cell? ⟨w.heap.size+1,2,none⟩=some (.int .i64 (near a)):=cell_of_row W _ 2 _ _ _ hz
    exact bodyPost_ret (v:=.tuple #[.agg #[.string (S++s),.slice q (n+k) d,.int .i64 (near a)],.int .i64 (near a)]) (by simp[results,Tryz.results211,go_sem,z0,z1,z2]) rfl ⟨_,_,_,rfl,HRow.out,HD.out⟩
end Go.Proofs.YtdighjgcnaajgaaGreat.gc
namespace Go.Proofs.YtdighjgcnaajgaaGreat.gc
open Go.RowKit
theorem sizeInt (w:World):(sizeOf (Tryz.prog.elem 168)).run Tryz.prog w=.ok 1 w:=by kernel_rfl
theorem elemInt:Tryz.prog.underlying 168=some (.slice (Tryz.prog.elem 168)):=by kernel_rfl
theorem slice_from (p:Option Addr) (n c N:Nat) (h:N≤n) (w:World):(Instr.slice 168 (.slice p n c) (some (.int .i64 (N:Int))) none none).run Tryz.prog w=.ok (.slice (if c=N then p else p.map (·.add N)) (n -N) (c -N)) w:=by
 rw[run_slice_l (P:=Tryz.prog) w 168 p n c elemInt .i64 (N:Int) (by omega) (by omega),sizeInt]
 simp[Result.andThen,sliced]
theorem rowA_from {w:World} {p:Option Addr} {n c:Nat} {xs:List Int} (h:RowA w p n c xs) (N:Nat) (hN:N≤n):RowA w (if c=N then p else p.map (·.add N)) (n -N) (c -N) (xs.drop N):=by
 refine⟨by rw[List.length_drop,h.1],by have:=h.2.1;omega,by have:=h.2.2.1;omega,λ hn=>?_,λ e=>?_,λ hn=>?_⟩
 ·obtain⟨b,o,rfl,_⟩:=h.2.2.2.1 (by omega)
  have hne:¬c=N:=by have:=h.2.1;omega
  rw[if_neg hne]
  obtain⟨b',o',e,hc⟩:=ints_drop h.2.2.2.1 N (n -N) (by omega) hn
  cases e
  exact⟨b,o+N,by rw[Option.map_some,WideShapes.add_plain],hc⟩
 ·by_cases hc:c=N
  ·omega
  ·rw[if_neg hc]at e
   cases p with
   |none=>have:=h.2.2.2.2.1 rfl;omega
   |some a=>cases e
 ·obtain⟨b,o,rfl,_⟩:=h.2.2.2.1 (by omega)
  obtain⟨a,cs,fr,e,hh⟩:=h.2.2.2.2.2 (by omega)
  cases e
  have hne:¬c=N:=by have:=h.2.1;omega
  rw[if_neg hne]
  exact⟨⟨b,o+N,none⟩,cs,fr,by rw[Option.map_some,WideShapes.add_plain],hh⟩
def takeK (A:List Int) (x most:Int):Nat:=min (readyN A x) most.toNat
theorem takeK_le (A:List Int) (x most:Int):takeK A x most≤A.length:=by have:=ready_le A x;unfold takeK;omega
def TookC (S:ByteArray) (A:List Int) (last:Int) (T:ByteArray) (w:World) (e:Ending) (w':World):Prop:=∃p n c,e=.returned (.tuple #[.agg #[.string S,.slice p n c,.int .i64 last],.string T])∧RowA w' p n c A∧Below w.heap.size w w'
set_option maxRecDepth 100000 in
set_option maxHeartbeats 8000000 in
theorem rtake_any (S:ByteArray) (p:Option Addr) (n c:Nat) (A:List Int) (last x most:Int) (w:World) (hr:RowA w p n c A) (hS:S.size=n) (hn:n≤100000) {K:Nat} (hK:takeK A x most=K):
  Calls Tryz.prog 175 #[.agg #[.string S,.slice p n c,.int .i64 last],.int .i64 x,.int .i64 most] w (TookC (S.extract K n) (A.drop K) last (S.extract 0 K) w):=by
 have HR:=Lib.hid hr
 have HN:=Lib.hid hn
 have HKN:=Lib.hid (show K≤n by rw[←hK,←hr.1];exact takeK_le _ _ _)
 obtain⟨R,hR⟩:∃R,readyN A x=R:=⟨_,rfl⟩
 have HRN:=Lib.hid (show R≤n by rw[←hR,←hr.1];exact ready_le _ _)
 have HRD:=Lib.hid (show∀w',RowA w' p n c A→Calls Tryz.prog 173 #[.agg #[.string S,.slice p n c,.int .i64 last],.int .i64 x] w' λ e w''=>e=.returned (.int .i64 (R:Int))∧Below w'.heap.size w' w'' from
  λ w' h=>by rw[←hR];exact rready_any S p n c A last x w' h.1 hS hn h.2.2.2.1)
 have hKR:K=min R most.toNat:=by rw[←hK,←hR];rfl
 clear hr hR hK
 have hsl:=λ w'=>slice_from p n c K HKN.out w'
 have HRF:=Lib.hid (λ (w':World) (h:RowA w' p n c A)=>rowA_from h K HKN.out)
 generalize(if c=K then p else p.map (·.add K))=p2 at hsl HRF
 generalize n -K=n2 at hsl HRF
 generalize c -K=c2 at hsl HRF
 by_cases hmr:(R:Int)≤most
 ·obtain rfl:K=R:=by omega
  have hKS:K≤S.size:=by have:=HKN.out;omega
  clear hKR
  go_enter Tryz.func175,Tryz.ntmps175
  go_wp2_with fail
  refine(HRD.out _ (rowA_on HR.out (below2 _ _ _))).mono ?_
  rintro e w1 ⟨rfl,hb1⟩
  have hb2:=two_blocks hb1
  have HB1:=Lib.hid (seqB (below2 _ _ _) hb1)
  have HLT:=Lib.hid hb2.2.2
  have x0:w1.cell? ⟨w.heap.size,0,none⟩=some (.string S):=cell_of_row _ _ 0 _ _ _ hb2.1
  have x1:w1.cell? ⟨w.heap.size,1,none⟩=some (.slice p n c):=cell_of_row _ _ 1 _ _ _ hb2.1
  have x2:w1.cell? ⟨w.heap.size,2,none⟩=some (.int .i64 last):=cell_of_row _ _ 2 _ _ _ hb2.1
  have y0:w1.cell? ⟨w.heap.size+1,0,none⟩=some (.string ⟨#[]⟩):=cell_of_row _ _ 0 _ _ _ hb2.2.1
  have y1:w1.cell? ⟨w.heap.size+1,1,none⟩=some (.slice none 0 0):=cell_of_row _ _ 1 _ _ _ hb2.2.1
  have y2:w1.cell? ⟨w.heap.size+1,2,none⟩=some (.int .i64 0):=cell_of_row _ _ 2 _ _ _ hb2.2.1
  have f0:w1.frozen? ⟨w.heap.size+1,0,none⟩=false:=frozen_at hb2.2.1
  have f1:w1.frozen? ⟨w.heap.size+1,1,none⟩=false:=frozen_at hb2.2.1
  have f2:w1.frozen? ⟨w.heap.size+1,2,none⟩=false:=frozen_at hb2.2.1
  have hg1:=hb2.2.2
  have HG:=Lib.hid hb2.2.1
  clear hb1 hb2 HRD
  have hz:=set3_heap HG.out (.string (S.extract K n)) (.slice p2 n2 c2) (.int .i64 last)
  have HD:=Lib.hid ((set3_below HB1.out (show w.heap.size≤w.heap.size+1 by omega) (.string (S.extract K n)) (.slice p2 n2 c2) (.int .i64 last)).drew)
  go_wp2_with fail
  go_region
  generalize hW:set3 w1 (w.heap.size+1) (.string (S.extract K n)) (.slice p2 n2 c2) (.int .i64 last)=W at*
  unfold set3 at hW
  rw[hW]
  clear hW x0 x1 x2 y0 y1 y2 f0 f1 f2 hsl
  go_wp2_with fail
  have z0:W.drew.cell? ⟨w.heap.size+1,0,none⟩=some (.string (S.extract K n)):=cell_of_row W.drew _ 0 _ _ _ hz
  have z1:W.drew.cell? ⟨w.heap.size+1,1,none⟩=some (.slice p2 n2 c2):=cell_of_row W.drew _ 1 _ _ _ hz
  have z2:W.drew.cell? ⟨w.heap.size+1,2,none⟩=some (.int .i64 last):=cell_of_row W.drew _ 2 _ _ _ hz
  exact bodyPost_ret (v:=.tuple #[.agg #[.string (S.extract K n),.slice p2 n2 c2,.int .i64 last],.string (S.extract 0 K)]) (by simp[results,Tryz.results175,go_sem,z0,z1,z2]) rfl ⟨_,_,_,rfl,HRF.out _ (rowA_on HR.out HD.out),HD.out⟩
 ·by_cases hm0:most<0
  ·obtain rfl:K=0:=by omega
   have hKS:0≤S.size:=Nat.zero_le _
   rw[Int.natCast_zero]at hsl
   clear hKR
   go_enter Tryz.func175,Tryz.ntmps175
   go_wp2_with fail
   refine(HRD.out _ (rowA_on HR.out (below2 _ _ _))).mono ?_
   rintro e w1 ⟨rfl,hb1⟩
   have hb2:=two_blocks hb1
   have HB1:=Lib.hid (seqB (below2 _ _ _) hb1)
   have HLT:=Lib.hid hb2.2.2
   have x0:w1.cell? ⟨w.heap.size,0,none⟩=some (.string S):=cell_of_row _ _ 0 _ _ _ hb2.1
   have x1:w1.cell? ⟨w.heap.size,1,none⟩=some (.slice p n c):=cell_of_row _ _ 1 _ _ _ hb2.1
   have x2:w1.cell? ⟨w.heap.size,2,none⟩=some (.int .i64 last):=cell_of_row _ _ 2 _ _ _ hb2.1
   have y0:w1.cell? ⟨w.heap.size+1,0,none⟩=some (.string ⟨#[]⟩):=cell_of_row _ _ 0 _ _ _ hb2.2.1
   have y1:w1.cell? ⟨w.heap.size+1,1,none⟩=some (.slice none 0 0):=cell_of_row _ _ 1 _ _ _ hb2.2.1
   have y2:w1.cell? ⟨w.heap.size+1,2,none⟩=some (.int .i64 0):=cell_of_row _ _ 2 _ _ _ hb2.2.1
   have f0:w1.frozen? ⟨w.heap.size+1,0,none⟩=false:=frozen_at hb2.2.1
   have f1:w1.frozen? ⟨w.heap.size+1,1,none⟩=false:=frozen_at hb2.2.1
   have f2:w1.frozen? ⟨w.heap.size+1,2,none⟩=false:=frozen_at hb2.2.1
   have hg1:=hb2.2.2
   have HG:=Lib.hid hb2.2.1
   clear hb1 hb2 HRD
   have hz:=set3_heap HG.out (.string (S.extract 0 n)) (.slice p2 n2 c2) (.int .i64 last)
   have HD:=Lib.hid ((set3_below HB1.out (show w.heap.size≤w.heap.size+1 by omega) (.string (S.extract 0 n)) (.slice p2 n2 c2) (.int .i64 last)).drew)
   go_wp2_with fail
   go_region
   generalize hW:set3 w1 (w.heap.size+1) (.string (S.extract 0 n)) (.slice p2 n2 c2) (.int .i64 last)=W at*
   unfold set3 at hW
   rw[hW]
   clear hW x0 x1 x2 y0 y1 y2 f0 f1 f2 hsl
   go_wp2_with fail
   have z0:W.drew.cell? ⟨w.heap.size+1,0,none⟩=some (.string (S.extract 0 n)):=cell_of_row W.drew _ 0 _ _ _ hz
   have z1:W.drew.cell? ⟨w.heap.size+1,1,none⟩=some (.slice p2 n2 c2):=cell_of_row W.drew _ 1 _ _ _ hz
   have z2:W.drew.cell? ⟨w.heap.size+1,2,none⟩=some (.int .i64 last):=cell_of_row W.drew _ 2 _ _ _ hz
   exact bodyPost_ret (v:=.tuple #[.agg #[.string (S.extract 0 n),.slice p2 n2 c2,.int .i64 last],.string (S.extract 0 0)]) (by simp[results,Tryz.results175,go_sem,z0,z1,z2]) rfl ⟨_,_,_,rfl,HRF.out _ (rowA_on HR.out HD.out),HD.out⟩
  ·obtain⟨N,rfl⟩:=Int.eq_ofNat_of_zero_le (show 0≤most by omega)
   obtain rfl:K=N:=by omega
   have hKS:K≤S.size:=by have:=HKN.out;omega
   clear hKR
   go_enter Tryz.func175,Tryz.ntmps175
   go_wp2_with fail
   refine(HRD.out _ (rowA_on HR.out (below2 _ _ _))).mono ?_
   rintro e w1 ⟨rfl,hb1⟩
   have hb2:=two_blocks hb1
   have HB1:=Lib.hid (seqB (below2 _ _ _) hb1)
   have HLT:=Lib.hid hb2.2.2
   have x0:w1.cell? ⟨w.heap.size,0,none⟩=some (.string S):=cell_of_row _ _ 0 _ _ _ hb2.1
   have x1:w1.cell? ⟨w.heap.size,1,none⟩=some (.slice p n c):=cell_of_row _ _ 1 _ _ _ hb2.1
   have x2:w1.cell? ⟨w.heap.size,2,none⟩=some (.int .i64 last):=cell_of_row _ _ 2 _ _ _ hb2.1
   have y0:w1.cell? ⟨w.heap.size+1,0,none⟩=some (.string ⟨#[]⟩):=cell_of_row _ _ 0 _ _ _ hb2.2.1
   have y1:w1.cell? ⟨w.heap.size+1,1,none⟩=some (.slice none 0 0):=cell_of_row _ _ 1 _ _ _ hb2.2.1
   have y2:w1.cell? ⟨w.heap.size+1,2,none⟩=some (.int .i64 0):=cell_of_row _ _ 2 _ _ _ hb2.2.1
   have f0:w1.frozen? ⟨w.heap.size+1,0,none⟩=false:=frozen_at hb2.2.1
   have f1:w1.frozen? ⟨w.heap.size+1,1,none⟩=false:=frozen_at hb2.2.1
   have f2:w1.frozen? ⟨w.heap.size+1,2,none⟩=false:=frozen_at hb2.2.1
   have hg1:=hb2.2.2
   have HG:=Lib.hid hb2.2.1
   clear hb1 hb2 HRD
   have hz:=set3_heap HG.out (.string (S.extract K n)) (.slice p2 n2 c2) (.int .i64 last)
   have HD:=Lib.hid ((set3_below HB1.out (show w.heap.size≤w.heap.size+1 by omega) (.string (S.extract K n)) (.slice p2 n2 c2) (.int .i64 last)).drew)
   go_wp2_with fail
   go_region
   generalize hW:set3 w1 (w.heap.size+1) (.string (S.extract K n)) (.slice p2 n2 c2) (.int .i64 last)=W at*
   unfold set3 at hW
   rw[hW]
   clear hW x0 x1 x2 y0 y1 y2 f0 f1 f2 hsl
   go_wp2_with fail
   have z0:W.drew.cell? ⟨w.heap.size+1,0,none⟩=some (.string (S.extract K n)):=cell_of_row W.drew _ 0 _ _ _ hz
   have z1:W.drew.cell? ⟨w.heap.size+1,1,none⟩=some (.slice p2 n2 c2):=cell_of_row W.drew _ 1 _ _ _ hz
   have z2:W.drew.cell? ⟨w.heap.size+1,2,none⟩=some (.int .i64 last):=cell_of_row W.drew _ 2 _ _ _ hz
   exact bodyPost_ret (v:=.tuple #[.agg #[.string (S.extract K n),.slice p2 n2 c2,.int .i64 last],.string (S.extract 0 K)]) (by simp[results,Tryz.results175,go_sem,z0,z1,z2]) rfl ⟨_,_,_,rfl,HRF.out _ (rowA_on HR.out HD.out),HD.out⟩
end Go.Proofs.YtdighjgcnaajgaaGreat.gc
namespace Go.Proofs.YtdighjgcnaajgaaGreat.gc
open Go.RowKit
def low (t n:Int):Int:=if t<n then t else n
def lows (t:Int) (A:List Int):List Int:=A.map (low t)
theorem lows_length (t:Int) (A:List Int):(lows t A).length=A.length:=by simp[lows]
theorem lows_next (t:Int) (A:List Int) (k:Nat) (h:k<A.length):lows t (A.take k)++[low t (A.getD k 0)]=lows t (A.take (k+1)):=by
 rw[List.take_add_one,List.getD_eq_getElem?_getD,List.getElem?_eq_getElem h]
 unfold lows
 rw[List.map_append]
 rfl
theorem lows_all (t:Int) (A:List Int) (n:Nat) (h:A.length=n):lows t (A.take n)=lows t A:=by rw[←h,List.take_length]
def HurC (S:ByteArray) (A:List Int) (last:Int) (w:World) (e:Ending) (w':World):Prop:=∃p n c,e=.returned (.agg #[.string S,.slice p n c,.int .i64 last])∧RowA w' p n c A∧Below w.heap.size w w'
end Go.Proofs.YtdighjgcnaajgaaGreat.gc
namespace Go.Proofs.YtdighjgcnaajgaaGreat.gc
open Go.RowKit
theorem below3 (w:World) (o o' o'':Obj):Below w.heap.size w (((w.alloc o).alloc o').alloc o''):=(((Below.refl _ _).alloc (Nat.le_refl _) _).alloc (by simp) _).alloc (by simp;omega) _
theorem three_blocks {w w1:World} {o0 o1 o2:Obj} (hb:Below (((w.alloc o0).alloc o1).alloc o2).heap.size (((w.alloc o0).alloc o1).alloc o2) w1):
  w1.heap[w.heap.size]?=some o0∧w1.heap[w.heap.size+1]?=some o1∧w1.heap[w.heap.size+1+1]?=some o2∧w.heap.size+1+1<w1.heap.size:=by
 have hs:=hb.size
 have s0:(w.alloc o0).heap.size=w.heap.size+1:=by simp
 have s1:((w.alloc o0).alloc o1).heap.size=w.heap.size+1+1:=by simp
 have s2:(((w.alloc o0).alloc o1).alloc o2).heap.size=w.heap.size+1+1+1:=by simp
 rw[s2]at hs hb
 refine⟨?_,?_,?_,by omega⟩
 ·rw[hb.block _ (by omega),Below.heap_alloc _ _ _ (by omega),Below.heap_alloc _ _ _ (by omega)]
  exact heap_alloc_new w o0
 ·rw[hb.block _ (by omega),Below.heap_alloc _ _ _ (by omega)]
  have:=heap_alloc_new (w.alloc o0) o1
  rw[s0]at this
  exact this
 ·rw[hb.block _ (by omega)]
  have:=heap_alloc_new ((w.alloc o0).alloc o1) o2
  rw[s1]at this
  exact this
theorem rowA_other {w w':World} {p:Option Addr} {n c:Nat} {xs:List Int} {g:Nat} {cs:Array Value} {T:TypeId} {fr:Nat×Nat} (h:RowA w p n c xs) (hg:w.heap[g]?=some (.cells cs T fr)) (hT:T≠3) (hw:∀k,k≠g→w'.heap[k]?=w.heap[k]?):RowA w' p n c xs:=by
 have hne:∀{a:Addr} {cs' fr'},w.heap[a.block]?=some (.cells cs' 3 fr')→a.block≠g:=λ hh e=>by
  rw[e,hg]at hh
  simp at hh
  exact hT hh.2.1
 refine⟨h.1,h.2.1,h.2.2.1,λ hn=>?_,h.2.2.2.2.1,λ hn=>?_⟩
 ·obtain⟨b,o,e,hc⟩:=h.2.2.2.1 hn
  obtain⟨a,cs',fr',e',hh⟩:=h.2.2.2.2.2 hn
  rw[e]at e'
  cases e'
  refine⟨b,o,e,λ i hi=>?_⟩
  rw[World.cell?_of_block (w:=w) (w':=w') (a:=⟨b,o+i,none⟩) (hw b (hne hh))]
  exact hc i hi
 ·obtain⟨a,cs',fr',e',hh⟩:=h.2.2.2.2.2 hn
  exact⟨a,cs',fr',e',(hw _ (hne hh)).trans hh⟩
theorem rowA_set3 {w:World} {p:Option Addr} {n c:Nat} {xs:List Int} {g:Nat} {cs:Array Value} {fr:Nat×Nat} (h:RowA w p n c xs) (hg:w.heap[g]?=some (.cells cs 170 fr)) (a b d:Value):RowA (set3 w g a b d) p n c xs:=
 rowA_other h hg (by decide) (λ _ hk=>set3_far _ _ _ hk)
def Did (S:ByteArray) (A:List Int) (last N:Int) (T:ByteArray) (w:World) (e:Ending) (w':World):Prop:=∃p n c,e=.returned (.tuple #[.agg #[.string S,.slice p n c,.int .i64 last],.int .i64 N,.string T])∧RowA w' p n c A∧Below w.heap.size w w'
end Go.Proofs.YtdighjgcnaajgaaGreat.gc
namespace Go.Proofs.YtdighjgcnaajgaaGreat.gc
open Go.RowKit
structure DoC where
 S:ByteArray
 A:List Int
 last:Int
 n:Int
 t:ByteArray
def doC (S:ByteArray) (A:List Int) (last kind a N:Int) (s:ByteArray):DoC:=
 if kind=0 then(if s.size=0 then⟨S,A,last,putT last a,⟨#[]⟩⟩else⟨S++s,A++List.replicate s.size (putT last a),putT last a,putT last a,⟨#[]⟩⟩)
 else if kind=1 then⟨S.extract (takeK A a N) S.size,A.drop (takeK A a N),last,0,S.extract 0 (takeK A a N)⟩
 else if kind=2 then⟨S,lows (near a) A,low (near a) last,0,⟨#[]⟩⟩
 else if kind=3 then⟨⟨#[]⟩,[],last,0,S⟩
 else⟨S,A,last,0,⟨#[]⟩⟩
theorem text_none {s:ByteArray} (h:s.size=0):s=⟨#[]⟩:=by
 rw[←str_nums s,List.eq_nil_of_length_eq_zero (by rw[nums_length];exact h:(nums s).length=0)]
 rfl
def DidA (x:DoC) (w:World) (e:Ending) (w':World):Prop:=Did x.S x.A x.last x.n x.t w e w'
end Go.Proofs.YtdighjgcnaajgaaGreat.gc
