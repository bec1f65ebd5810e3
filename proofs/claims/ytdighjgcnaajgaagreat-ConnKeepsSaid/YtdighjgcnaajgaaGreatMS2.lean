import Derived.Test.YtdighjgcnaajgaaGreatMS1
namespace Go.Proofs.YtdighjgcnaajgaaGreat.gb
open Go.RowKit
def isR (n:Int):Bool:=near n==n
theorem isR_iff (n:Int):isR n=true↔0≤n∧n≤1099511627776:=by
 unfold isR near
 rw[beq_iff_eq]
 constructor
 ·intro h
  (repeat' split at h)<;>omega
 ·intro h
  rw[if_neg (by omega),if_neg (by omega)]
set_option maxHeartbeats 400000 in
theorem is_any (n:Int) (w:World):Calls Tryz.prog 170 #[.int .i64 n] w λ e w'=>e=.returned (.bool (isR n))∧w=w':=by
 go_enter Tryz.func170,Tryz.ntmps170
 go_wp2_with fail
 refine(rnear_any _ _).mono ?_
 rintro e w' ⟨rfl,rfl⟩
 go_wp2_with fail
 go_ret
 exact⟨rfl,rfl⟩
def rightB (r u l t:Int):Bool:=isR r&&isR u&&isR l&&isR t&&decide (u≠0)&&decide (l≤u)
theorem rightB_iff (r u l t:Int):rightB r u l t=true↔(0≤r∧r≤1099511627776)∧(0≤u∧u≤1099511627776)∧(0≤l∧l≤1099511627776)∧(0≤t∧t≤1099511627776)∧u≠0∧l≤u:=by
 unfold rightB
 simp only[Bool.and_eq_true,isR_iff,decide_eq_true_eq,and_assoc]
set_option maxRecDepth 100000 in
set_option maxHeartbeats 4000000 in
theorem rright_any (r u l t:Int) (w:World):Calls Tryz.prog 212 #[.agg #[.int .i64 r,.int .i64 u,.int .i64 l,.int .i64 t]] w λ e w'=>e=.returned (.bool (rightB r u l t))∧Below w.heap.size w w':=by
 have HI:=Lib.hid is_any
 have HB:=Lib.hid (show Below w.heap.size w (w.alloc (.cells #[.int .i64 r,.int .i64 u,.int .i64 l,.int .i64 t] 167))from(Below.refl _ _).alloc (Nat.le_refl _) _)
 have HF:=Lib.hid (show rightB r u l t=(isR r&&isR u&&isR l&&isR t&&decide (u≠0)&&decide (l≤u))from rfl)
 cases e0:isR r with
 |false=>
  go_enter Tryz.func212,Tryz.ntmps212
  go_wp2_with fail
  refine(HI.out _ _).mono ?_
  rintro e w' ⟨rfl,rfl⟩
  go_wp2_with fail
  go_ret
  exact⟨ret_bool (by rw[HF.out];simp[e0]),HB.out⟩
 |true=>
  cases e1:isR u with
  |false=>
   go_enter Tryz.func212,Tryz.ntmps212
   go_wp2_with fail
   refine(HI.out _ _).mono ?_
   rintro e w' ⟨rfl,rfl⟩
   go_wp2_with fail
   refine(HI.out _ _).mono ?_
   rintro e w' ⟨rfl,rfl⟩
   go_wp2_with fail
   go_ret
   exact⟨ret_bool (by rw[HF.out];simp[e0,e1]),HB.out⟩
  |true=>
   cases e2:isR l with
   |false=>
    go_enter Tryz.func212,Tryz.ntmps212
    go_wp2_with fail
    refine(HI.out _ _).mono ?_
    rintro e w' ⟨rfl,rfl⟩
    go_wp2_with fail
    refine(HI.out _ _).mono ?_
    rintro e w' ⟨rfl,rfl⟩
    go_wp2_with fail
    refine(HI.out _ _).mono ?_
    rintro e w' ⟨rfl,rfl⟩
    go_wp2_with fail
    go_ret
    exact⟨ret_bool (by rw[HF.out];simp[e0,e1,e2]),HB.out⟩
   |true=>
    cases e3:isR t with
    |false=>
     go_enter Tryz.func212,Tryz.ntmps212
     go_wp2_with fail
     refine(HI.out _ _).mono ?_
     rintro e w' ⟨rfl,rfl⟩
     go_wp2_with fail
     refine(HI.out _ _).mono ?_
     rintro e w' ⟨rfl,rfl⟩
     go_wp2_with fail
     refine(HI.out _ _).mono ?_
     rintro e w' ⟨rfl,rfl⟩
     go_wp2_with fail
     refine(HI.out _ _).mono ?_
     rintro e w' ⟨rfl,rfl⟩
     go_wp2_with fail
     go_ret
     exact⟨ret_bool (by rw[HF.out];simp[e0,e1,e2,e3]),HB.out⟩
    |true=>
     by_cases e4:u=0
     ·subst e4
      go_enter Tryz.func212,Tryz.ntmps212
      go_wp2_with fail
      refine(HI.out _ _).mono ?_
      rintro e w' ⟨rfl,rfl⟩
      go_wp2_with fail
      refine(HI.out _ _).mono ?_
      rintro e w' ⟨rfl,rfl⟩
      go_wp2_with fail
      refine(HI.out _ _).mono ?_
      rintro e w' ⟨rfl,rfl⟩
      go_wp2_with fail
      refine(HI.out _ _).mono ?_
      rintro e w' ⟨rfl,rfl⟩
      go_wp2_with fail
      go_ret
      exact⟨ret_bool (by rw[HF.out];simp[]),HB.out⟩
     ·by_cases e5:l≤u
      ·go_enter Tryz.func212,Tryz.ntmps212
       go_wp2_with fail
       refine(HI.out _ _).mono ?_
       rintro e w' ⟨rfl,rfl⟩
       go_wp2_with fail
       refine(HI.out _ _).mono ?_
       rintro e w' ⟨rfl,rfl⟩
       go_wp2_with fail
       refine(HI.out _ _).mono ?_
       rintro e w' ⟨rfl,rfl⟩
       go_wp2_with fail
       refine(HI.out _ _).mono ?_
       rintro e w' ⟨rfl,rfl⟩
       go_wp2_with fail
       go_ret
       exact⟨ret_bool (by rw[HF.out];simp[e0,e1,e2,e3,e4,e5]),HB.out⟩
      ·go_enter Tryz.func212,Tryz.ntmps212
       go_wp2_with fail
       refine(HI.out _ _).mono ?_
       rintro e w' ⟨rfl,rfl⟩
       go_wp2_with fail
       refine(HI.out _ _).mono ?_
       rintro e w' ⟨rfl,rfl⟩
       go_wp2_with fail
       refine(HI.out _ _).mono ?_
       rintro e w' ⟨rfl,rfl⟩
       go_wp2_with fail
       refine(HI.out _ _).mono ?_
       rintro e w' ⟨rfl,rfl⟩
       go_wp2_with fail
       go_ret
       exact⟨ret_bool (by rw[HF.out];simp[e0,e1,e2,e3,e4]),HB.out⟩
end Go.Proofs.YtdighjgcnaajgaaGreat.gb
namespace Go.Proofs.YtdighjgcnaajgaaGreat.gb
open Go.RowKit
theorem set_heap {w:World} {g i:Nat} {cs:Array Value} {T:TypeId} {fr:Nat×Nat} (hg:w.heap[g]?=some (.cells cs T fr)) (u:Value):(w.setCell ⟨g,i,none⟩ u).heap[g]?=some (.cells (cs.setIfInBounds i u) T fr):=by
 simp[World.setCell,Array.getElem?_modify,hg]
def set4 (w:World) (g:Nat) (a b c d:Value):World:=(((w.setCell ⟨g,0,none⟩ a).setCell ⟨g,1,none⟩ b).setCell ⟨g,2,none⟩ c).setCell ⟨g,3,none⟩ d
theorem set4_heap {w:World} {g:Nat} {x y z t:Value} {T:TypeId} (h:w.heap[g]?=some (.cells #[x,y,z,t] T (0,0))) (a b c d:Value):(set4 w g a b c d).heap[g]?=some (.cells #[a,b,c,d] T (0,0)):=by
 unfold set4
 rw[set_heap (set_heap (set_heap (set_heap h a) b) c)]
 rfl
theorem set4_far {w:World} {g k:Nat} (a b c d:Value) (h:k≠g):(set4 w g a b c d).heap[k]?=w.heap[k]?:=by
 unfold set4
 rw[Below.heap_setCell _ _ _ _ h,Below.heap_setCell _ _ _ _ h,Below.heap_setCell _ _ _ _ h,Below.heap_setCell _ _ _ _ h]
theorem set4_below {B:Nat} {w0 w:World} {g:Nat} (h:Below B w0 w) (hg:B≤g) (a b c d:Value):Below B w0 (set4 w g a b c d):=(((h.setCell (p:=⟨g,0,none⟩) hg a).setCell (p:=⟨g,1,none⟩) hg b).setCell (p:=⟨g,2,none⟩) hg c).setCell (p:=⟨g,3,none⟩) hg d
theorem two_blocks {w w1:World} {o0 o1:Obj} (hb:Below ((w.alloc o0).alloc o1).heap.size ((w.alloc o0).alloc o1) w1):
  w1.heap[w.heap.size]?=some o0∧w1.heap[w.heap.size+1]?=some o1∧w.heap.size+1<w1.heap.size:=by
 have hs:=hb.size
 have s0:(w.alloc o0).heap.size=w.heap.size+1:=by simp
 have s1:((w.alloc o0).alloc o1).heap.size=w.heap.size+1+1:=by simp
 rw[s1]at hs hb
 refine⟨?_,?_,by omega⟩
 ·rw[hb.block _ (by omega),Below.heap_alloc _ _ _ (by omega)]
  exact heap_alloc_new w o0
 ·rw[hb.block _ (by omega)]
  have:=heap_alloc_new (w.alloc o0) o1
  rw[s0]at this
  exact this
theorem below2 (w:World) (o o':Obj):Below w.heap.size w ((w.alloc o).alloc o'):=((Below.refl _ _).alloc (Nat.le_refl _) _).alloc (by simp) _
def lvl (r u l t x:Int):Int:=if u<l+r*(x -t)then u else l+r*(x -t)
def fillL (r u l t now:Int):Int:=if rightB r u l t=true∧t<near now then lvl r u l t (near now)else l
def fillT (r u l t now:Int):Int:=if rightB r u l t=true∧t<near now then near now else t
theorem lvl_is {r u l t x M N:Int} (h:rightB r u l t=true) (hx:t<x) (hxt:x≤1099511627776) (hM:near (near r*near (x -t))=M) (hN:near (near l+near M)=N):(if u<N then u else N)=lvl r u l t x:=by
 obtain⟨h1,h2,h3,h4,h5,h6⟩:=(rightB_iff r u l t).1 h
 rw[near_of r h1.1 h1.2,near_of (x -t) (by omega) (by omega)]at hM
 have hp:0≤r*(x -t):=Int.mul_nonneg h1.1 (by omega)
 unfold lvl
 generalize r*(x -t)=P at*
 subst hM
 have e2:near (near P)=near P:=near_of _ (near_range P).1 (near_range P).2
 rw[near_of l h3.1 h3.2,e2]at hN
 subst hN
 have hn:=near_range P
 have e3:=near_nonneg (l+near P) (by omega)
 rw[e3]
 have e1:=near_nonneg P hp
 by_cases hP:1099511627776<P
 ·rw[if_pos hP]at e1
  rw[e1]
  (repeat' split)<;>omega
 ·rw[if_neg hP]at e1
  rw[e1]
  (repeat' split)<;>omega
set_option maxRecDepth 100000 in
set_option maxHeartbeats 8000000 in
theorem rfill_any (r u l t now : Int) (w : World) : Calls Tryz.prog 213 #[.agg #[.int .i64 r, .int .i64 u, .int .i64 l, .int .i64 t], .int .i64 now] w λ e w' => e = .returned (.agg #[.int .i64 r, .int .i64 u, .int .i64 (fillL r u l t now), .int .i64 (fillT r u l t now)]) ∧ Below w.heap.size w w' := by
 obtain ⟨x, hx⟩ : ∃ x, near now = x := ⟨_, rfl⟩
 have hxr := near_range now
 rw [hx] at hxr
 have HNE := Lib.hid (λ W => show Calls Tryz.prog 139 #[.int .i64 now] W λ e w' => e = .returned (.int .i64 x) ∧ W = w' from by rw [← hx]; exact rnear_any now W)
 have HB0 := Lib.hid (below2 w (.cells #[.int .i64 r, .int .i64 u, .int .i64 l, .int .i64 t] 167) (.cells #[.int .i64 0, .int .i64 0, .int .i64 0, .int .i64 0] 167))
 obtain ⟨F, hF⟩ : ∃ F, rightB r u l t = F := ⟨_, rfl⟩
 have HRG := Lib.hid (λ W => show Calls Tryz.prog 212 #[.agg #[.int .i64 r, .int .i64 u, .int .i64 l, .int .i64 t]] W λ e w' => e = .returned (.bool F) ∧ Below W.heap.size W w' from by rw [← hF]; exact rright_any r u l t W)
 have hL : fillL r u l t now = if F = true ∧ t < x then lvl r u l t x else l := by unfold fillL; rw [hx, hF]
 have hT : fillT r u l t now = if F = true ∧ t < x then x else t := by unfold fillT; rw [hx, hF]
 have HL := Lib.hid hL
 have HT := Lib.hid hT
 have HF := Lib.hid hF
 clear hx hL hT hF
 go_enter Tryz.func213, Tryz.ntmps213
 go_wp2_with fail
 refine (HNE.out _).mono ?_
 rintro e w1 ⟨rfl, rfl⟩
 clear HNE
 go_wp2_with fail
 refine (HRG.out _).mono ?_
 rintro e w3 ⟨rfl, hb⟩
 obtain ⟨hg0, hg1, hlt⟩ := two_blocks hb
 have HB3 := Lib.hid (seqB HB0.out hb)
 have x0 : w3.cell? ⟨w.heap.size, 0, none⟩ = some (.int .i64 r) := cell_of_row _ _ 0 _ _ _ hg0
 have x1 : w3.cell? ⟨w.heap.size, 1, none⟩ = some (.int .i64 u) := cell_of_row _ _ 1 _ _ _ hg0
 have x2 : w3.cell? ⟨w.heap.size, 2, none⟩ = some (.int .i64 l) := cell_of_row _ _ 2 _ _ _ hg0
 have x3 : w3.cell? ⟨w.heap.size, 3, none⟩ = some (.int .i64 t) := cell_of_row _ _ 3 _ _ _ hg0
 have y0 : w3.cell? ⟨w.heap.size + 1, 0, none⟩ = some (.int .i64 0) := cell_of_row _ _ 0 _ _ _ hg1
 have y1 : w3.cell? ⟨w.heap.size + 1, 1, none⟩ = some (.int .i64 0) := cell_of_row _ _ 1 _ _ _ hg1
 have y2 : w3.cell? ⟨w.heap.size + 1, 2, none⟩ = some (.int .i64 0) := cell_of_row _ _ 2 _ _ _ hg1
 have y3 : w3.cell? ⟨w.heap.size + 1, 3, none⟩ = some (.int .i64 0) := cell_of_row _ _ 3 _ _ _ hg1
 have f0 : w3.frozen? ⟨w.heap.size + 1, 0, none⟩ = false := frozen_at hg1
 have f1 : w3.frozen? ⟨w.heap.size + 1, 1, none⟩ = false := frozen_at hg1
 have f2 : w3.frozen? ⟨w.heap.size + 1, 2, none⟩ = false := frozen_at hg1
 have f3 : w3.frozen? ⟨w.heap.size + 1, 3, none⟩ = false := frozen_at hg1
 clear hb HRG HB0
 cases F with
 | false =>
   have hz := set4_heap hg1 (.int .i64 r) (.int .i64 u) (.int .i64 l) (.int .i64 t)
   have HD := Lib.hid (set4_below (w := w3) (g := w.heap.size + 1) HB3.out (show w.heap.size ≤ w.heap.size + 1 by omega) (.int .i64 r) (.int .i64 u) (.int .i64 l) (.int .i64 t))
   go_wp2_with fail
   generalize hW : set4 w3 (w.heap.size + 1) (.int .i64 r) (.int .i64 u) (.int .i64 l) (.int .i64 t) = W at *
   unfold set4 at hW
   rw [hW]
   clear hW
   have z0 : W.cell? ⟨w.heap.size + 1, 0, none⟩ = some (.int .i64 r) := cell_of_row W _ 0 _ _ _ hz
   have z1 : W.cell? ⟨w.heap.size + 1, 1, none⟩ = some (.int .i64 u) := cell_of_row W _ 1 _ _ _ hz
   have z2 : W.cell? ⟨w.heap.size + 1, 2, none⟩ = some (.int .i64 l) := cell_of_row W _ 2 _ _ _ hz
   have z3 : W.cell? ⟨w.heap.size + 1, 3, none⟩ = some (.int .i64 t) := cell_of_row W _ 3 _ _ _ hz
   exact bodyPost_ret (v := .agg #[.int .i64 r, .int .i64 u, .int .i64 l, .int .i64 t]) (by simp [results, Tryz.results213, go_sem, z0, z1, z2, z3]) rfl ⟨by rw [HL.out, HT.out]; simp, HD.out⟩
 | true =>
   by_cases hlt2 : x ≤ t
   · have hz := set4_heap hg1 (.int .i64 r) (.int .i64 u) (.int .i64 l) (.int .i64 t)
     have HD := Lib.hid (set4_below (w := w3) (g := w.heap.size + 1) HB3.out (show w.heap.size ≤ w.heap.size + 1 by omega) (.int .i64 r) (.int .i64 u) (.int .i64 l) (.int .i64 t))
     go_wp2_with fail
     generalize hW : set4 w3 (w.heap.size + 1) (.int .i64 r) (.int .i64 u) (.int .i64 l) (.int .i64 t) = W at *
     unfold set4 at hW
     rw [hW]
     clear hW
     have z0 : W.cell? ⟨w.heap.size + 1, 0, none⟩ = some (.int .i64 r) := cell_of_row W _ 0 _ _ _ hz
     have z1 : W.cell? ⟨w.heap.size + 1, 1, none⟩ = some (.int .i64 u) := cell_of_row W _ 1 _ _ _ hz
     have z2 : W.cell? ⟨w.heap.size + 1, 2, none⟩ = some (.int .i64 l) := cell_of_row W _ 2 _ _ _ hz
     have z3 : W.cell? ⟨w.heap.size + 1, 3, none⟩ = some (.int .i64 t) := cell_of_row W _ 3 _ _ _ hz
     exact bodyPost_ret (v := .agg #[.int .i64 r, .int .i64 u, .int .i64 l, .int .i64 t]) (by simp [results, Tryz.results213, go_sem, z0, z1, z2, z3]) rfl ⟨by rw [HL.out, HT.out, if_neg (by omega), if_neg (by omega)], HD.out⟩
   · obtain ⟨h1, h2, h3, h4, h5, h6⟩ := (rightB_iff r u l t).1 HF.out
     obtain ⟨d, hd⟩ : ∃ d, x - t = d := ⟨_, rfl⟩
     obtain ⟨M, hM⟩ : ∃ M, near (near r * near d) = M := ⟨_, rfl⟩
     obtain ⟨N, hN⟩ : ∃ N, near (near l + near M) = N := ⟨_, rfl⟩
     have HV := Lib.hid (lvl_is HF.out (show t < x by omega) (by omega) (by rw [hd]; exact hM) hN)
     have hw : IntKind.i64.wrap (x - t) = d := by rw [IntWalk.i64_in _ (by omega), hd]
     have HMU := Lib.hid (λ W => show Calls Tryz.prog 217 #[.int .i64 r, .int .i64 d] W λ e w' => e = .returned (.int .i64 M) ∧ Below W.heap.size W w' from by rw [← hM]; exact rmul_any r d W)
     have HAD := Lib.hid (λ W => show Calls Tryz.prog 198 #[.int .i64 l, .int .i64 M] W λ e w' => e = .returned (.int .i64 N) ∧ W = w' from by rw [← hN]; exact radd_any l M W)
     have HG0 := Lib.hid hg0
     have HG1 := Lib.hid hg1
     have HXT := Lib.hid (show t < x by omega)
     have HCK := Lib.hid (show ∀ W, Below w3.heap.size w3 W → (W.cell? ⟨w.heap.size, 0, none⟩ = some (.int .i64 r) ∧ W.cell? ⟨w.heap.size, 2, none⟩ = some (.int .i64 l) ∧ W.cell? ⟨w.heap.size, 3, none⟩ = some (.int .i64 t)) ∧ Below w3.heap.size w3 W from
       λ W hb => ⟨⟨cell_of_row _ _ 0 _ _ _ ((hb.block _ (blk_lt HG0.out)).trans HG0.out), cell_of_row _ _ 2 _ _ _ ((hb.block _ (blk_lt HG0.out)).trans HG0.out), cell_of_row _ _ 3 _ _ _ ((hb.block _ (blk_lt HG0.out)).trans HG0.out)⟩, hb⟩)
     clear hd hM hN h1 h2 h3 h4 h5 h6 hg0 hg1
     go_wp2_with fail
     go_region_held (λ W => (W.cell? ⟨w.heap.size, 0, none⟩ = some (.int .i64 r) ∧ W.cell? ⟨w.heap.size, 2, none⟩ = some (.int .i64 l) ∧ W.cell? ⟨w.heap.size, 3, none⟩ = some (.int .i64 t)) ∧ Below w3.heap.size w3 W)
       ((refine HCK.out _ ?_
         go_split_ands
         first
           | with_reducible exact (Below.refl _ _).drew
           | with_reducible assumption))
       (first
         | (go_at_call 217; go_split_ands; (with_reducible refine Calls.mono (HMU.out _) ?_); rintro e w5 ⟨rfl, hb⟩; (have hb5 := seqB (by assumption) hb); clear hb)
         | (go_at_call 198; go_split_ands; (with_reducible refine Calls.mono (HAD.out _) ?_); rintro e w6 ⟨rfl, rfl⟩))
     have HB5 := Lib.hid (seqB HB3.out hb5)
     have hg0 := (hb5.block _ (blk_lt HG0.out)).trans HG0.out
     have hg1 := (hb5.block _ (blk_lt HG1.out)).trans HG1.out
     have hlt5 : w.heap.size + 1 < w5.heap.size := blk_lt hg1
     clear hb5 HCK HMU HAD
     go_split_ands
     clear hlt x0 x1 x2 x3 y0 y1 y2 y3 f0 f1 f2 f3
     have x0 : w5.cell? ⟨w.heap.size, 0, none⟩ = some (.int .i64 r) := cell_of_row _ _ 0 _ _ _ hg0
     have x1 : w5.cell? ⟨w.heap.size, 1, none⟩ = some (.int .i64 u) := cell_of_row _ _ 1 _ _ _ hg0
     have x2 : w5.cell? ⟨w.heap.size, 2, none⟩ = some (.int .i64 l) := cell_of_row _ _ 2 _ _ _ hg0
     have x3 : w5.cell? ⟨w.heap.size, 3, none⟩ = some (.int .i64 t) := cell_of_row _ _ 3 _ _ _ hg0
     have y0 : w5.cell? ⟨w.heap.size + 1, 0, none⟩ = some (.int .i64 0) := cell_of_row _ _ 0 _ _ _ hg1
     have y1 : w5.cell? ⟨w.heap.size + 1, 1, none⟩ = some (.int .i64 0) := cell_of_row _ _ 1 _ _ _ hg1
     have y2 : w5.cell? ⟨w.heap.size + 1, 2, none⟩ = some (.int .i64 0) := cell_of_row _ _ 2 _ _ _ hg1
     have y3 : w5.cell? ⟨w.heap.size + 1, 3, none⟩ = some (.int .i64 0) := cell_of_row _ _ 3 _ _ _ hg1
     have f0 : w5.frozen? ⟨w.heap.size + 1, 0, none⟩ = false := frozen_at hg1
     have f1 : w5.frozen? ⟨w.heap.size + 1, 1, none⟩ = false := frozen_at hg1
     have f2 : w5.frozen? ⟨w.heap.size + 1, 2, none⟩ = false := frozen_at hg1
     have f3 : w5.frozen? ⟨w.heap.size + 1, 3, none⟩ = false := frozen_at hg1
     by_cases hNu : u < N
     · have hV := HV.out
       rw [if_pos hNu] at hV
       have HV1 := Lib.hid hV
       clear hV
       have hz := set4_heap hg1 (.int .i64 r) (.int .i64 u) (.int .i64 u) (.int .i64 x)
       have HD := Lib.hid (set4_below (w := w5) (g := w.heap.size + 1) HB5.out (show w.heap.size ≤ w.heap.size + 1 by omega) (.int .i64 r) (.int .i64 u) (.int .i64 u) (.int .i64 x))
       go_wp2_with fail
       generalize hW : set4 w5 (w.heap.size + 1) (.int .i64 r) (.int .i64 u) (.int .i64 u) (.int .i64 x) = W at *
       unfold set4 at hW
       rw [hW]
       clear hW
       have z0 : W.cell? ⟨w.heap.size + 1, 0, none⟩ = some (.int .i64 r) := cell_of_row W _ 0 _ _ _ hz
       have z1 : W.cell? ⟨w.heap.size + 1, 1, none⟩ = some (.int .i64 u) := cell_of_row W _ 1 _ _ _ hz
       have z2 : W.cell? ⟨w.heap.size + 1, 2, none⟩ = some (.int .i64 u) := cell_of_row W _ 2 _ _ _ hz
       have z3 : W.cell? ⟨w.heap.size + 1, 3, none⟩ = some (.int .i64 x) := cell_of_row W _ 3 _ _ _ hz
       exact bodyPost_ret (v := .agg #[.int .i64 r, .int .i64 u, .int .i64 u, .int .i64 x]) (by simp [results, Tryz.results213, go_sem, z0, z1, z2, z3]) rfl ⟨by rw [HL.out, HT.out, if_pos (by simp [HXT.out]), if_pos (by simp [HXT.out]), ← HV1.out], HD.out⟩
     · have hV := HV.out
       rw [if_neg hNu] at hV
       have HV1 := Lib.hid hV
       clear hV
       have hz := set4_heap hg1 (.int .i64 r) (.int .i64 u) (.int .i64 N) (.int .i64 x)
       have HD := Lib.hid (set4_below (w := w5) (g := w.heap.size + 1) HB5.out (show w.heap.size ≤ w.heap.size + 1 by omega) (.int .i64 r) (.int .i64 u) (.int .i64 N) (.int .i64 x))
       go_wp2_with fail
       generalize hW : set4 w5 (w.heap.size + 1) (.int .i64 r) (.int .i64 u) (.int .i64 N) (.int .i64 x) = W at *
       unfold set4 at hW
       rw [hW]
       clear hW
       have z0 : W.cell? ⟨w.heap.size + 1, 0, none⟩ = some (.int .i64 r) := cell_of_row W _ 0 _ _ _ hz
       have z1 : W.cell? ⟨w.heap.size + 1, 1, none⟩ = some (.int .i64 u) := cell_of_row W _ 1 _ _ _ hz
       have z2 : W.cell? ⟨w.heap.size + 1, 2, none⟩ = some (.int .i64 N) := cell_of_row W _ 2 _ _ _ hz
       have z3 : W.cell? ⟨w.heap.size + 1, 3, none⟩ = some (.int .i64 x) := cell_of_row W _ 3 _ _ _ hz
       exact bodyPost_ret (v := .agg #[.int .i64 r, .int .i64 u, .int .i64 N, .int .i64 x]) (by simp [results, Tryz.results213, go_sem, z0, z1, z2, z3]) rfl ⟨by rw [HL.out, HT.out, if_pos (by simp [HXT.out]), if_pos (by simp [HXT.out]), ← HV1.out], HD.out⟩
end Go.Proofs.YtdighjgcnaajgaaGreat.gb
