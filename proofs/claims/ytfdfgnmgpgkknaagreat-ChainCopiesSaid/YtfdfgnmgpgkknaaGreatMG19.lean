import Derived.Test.YtfdfgnmgpgkknaaGreatMG18
import Derived.Test.YtfdfgnmgpgkknaaGreatMG2
set_option maxRecDepth 100000
set_option maxHeartbeats 8000000
open Go.Proofs.Tryz renaming prog→zf
open Go.RowKit.Below renaming refl→zh,heap_setCell→zn
open Go.Lib renaming hid→zd
open Go renaming cell_of_row→ze,bodyPost_ret→zk,heap_alloc_new→zo
open Nat renaming le_refl→zg
open Go.Exit renaming noGoto_ret→zl
open Go.Calls renaming mono→zr
open Go.Proofs.Tryz
namespace Go.Proofs.YtfdfgnmgpgkknaaGreat
namespace gb
open Go.RowKit
theorem FX (a b:Int) (w:World):Calls zf 138 #[.int .i64 a,.int .i64 b] w λ e w'=>e=.returned (.int .i64 (qe (qe a -qe b)))∧w=w':=by
 have ha:=qw a
 have hb:=qw b
 go_enter func138,ntmps138
 go_wp2_with (go_at_call 122;refine(Z9 _ _).mono ?_;rintro e w' ⟨rfl,rfl⟩)
 go_ret
 exact⟨rfl,rfl⟩
def Ju (u l:Int):Int:=if u<l then u else l
theorem QN (r u l t:Int) (w:World):Calls zf 117 #[.agg #[.int .i64 r,.int .i64 u,.int .i64 l,.int .i64 t]] w λ e w'=>e=.returned (.agg #[.int .i64 r,.int .i64 u,.int .i64 (Ju u l),.int .i64 t])∧Below w.heap.size w w':=by
 obtain⟨W0,hW0⟩:∃W0,(w.alloc (.cells #[.int .i64 r,.int .i64 u,.int .i64 l,.int .i64 t] 111)).alloc (.cells #[.int .i64 0,.int .i64 0,.int .i64 0,.int .i64 0] 111)=W0:=⟨_,rfl⟩
 have hb0:Below W0.heap.size W0 W0:=zh _ _
 have HB0:=Xw w (.cells #[.int .i64 r,.int .i64 u,.int .i64 l,.int .i64 t] 111) (.cells #[.int .i64 0,.int .i64 0,.int .i64 0,.int .i64 0] 111)
 have hg:=Zk (w:=w) (o0:=.cells #[.int .i64 r,.int .i64 u,.int .i64 l,.int .i64 t] 111) (o1:=.cells #[.int .i64 0,.int .i64 0,.int .i64 0,.int .i64 0] 111) (w1:=W0) (by rw[hW0];exact hb0)
 rw[hW0]at HB0
 obtain⟨hg0,hg1,hlt⟩:=hg
 have HB:=zd HB0
 clear HB0 hb0
 have x0:W0.cell? ⟨w.heap.size,0,none⟩=some (.int .i64 r):=ze _ _ 0 _ _ _ hg0
 have x1:W0.cell? ⟨w.heap.size,1,none⟩=some (.int .i64 u):=ze _ _ 1 _ _ _ hg0
 have x2:W0.cell? ⟨w.heap.size,2,none⟩=some (.int .i64 l):=ze _ _ 2 _ _ _ hg0
 have x3:W0.cell? ⟨w.heap.size,3,none⟩=some (.int .i64 t):=ze _ _ 3 _ _ _ hg0
 have e2:W0.frozen? ⟨w.heap.size,2,none⟩=false:=qa hg0
 have HG0:=zd hg0
 have HG1:=zd hg1
 clear hg0 hg1
 by_cases hul:u<l
 ·have HF:=zd (show Ju u l=u by unfold Ju;rw[if_pos hul])
  go_enter func117,ntmps117
  go_upto_region 2 with fail
  have hg0:=qo (i:=2) HG0.out (.int .i64 u)
  have hd:=HB.out.setCell (p:=⟨w.heap.size,2,none⟩) (zg _) (.int .i64 u)
  have hg1:=(zn W0 ⟨w.heap.size,2,none⟩ (.int .i64 u) (w.heap.size+1) (by simp)).trans HG1.out
  generalize W0.setCell ⟨w.heap.size,2,none⟩ (.int .i64 u)=W2 at*
  clear x0 x1 x2 x3 e2
  have hg0:W2.heap[w.heap.size]?=some (.cells #[.int .i64 r,.int .i64 u,.int .i64 u,.int .i64 t] 111 (0,0)):=hg0
  have x0:W2.cell? ⟨w.heap.size,0,none⟩=some (.int .i64 r):=ze _ _ 0 _ _ _ hg0
  have x1:W2.cell? ⟨w.heap.size,1,none⟩=some (.int .i64 u):=ze _ _ 1 _ _ _ hg0
  have x2:W2.cell? ⟨w.heap.size,2,none⟩=some (.int .i64 u):=ze _ _ 2 _ _ _ hg0
  have x3:W2.cell? ⟨w.heap.size,3,none⟩=some (.int .i64 t):=ze _ _ 3 _ _ _ hg0
  have y0:W2.cell? ⟨w.heap.size+1,0,none⟩=some (.int .i64 0):=ze _ _ 0 _ _ _ hg1
  have y1:W2.cell? ⟨w.heap.size+1,1,none⟩=some (.int .i64 0):=ze _ _ 1 _ _ _ hg1
  have y2:W2.cell? ⟨w.heap.size+1,2,none⟩=some (.int .i64 0):=ze _ _ 2 _ _ _ hg1
  have y3:W2.cell? ⟨w.heap.size+1,3,none⟩=some (.int .i64 0):=ze _ _ 3 _ _ _ hg1
  have f0:W2.frozen? ⟨w.heap.size+1,0,none⟩=false:=qa hg1
  have f1:W2.frozen? ⟨w.heap.size+1,1,none⟩=false:=qa hg1
  have f2:W2.frozen? ⟨w.heap.size+1,2,none⟩=false:=qa hg1
  have f3:W2.frozen? ⟨w.heap.size+1,3,none⟩=false:=qa hg1
  have hlt2:w.heap.size+1<W2.heap.size:=qd hg1
  have hz:=qF hg1 (.int .i64 r) (.int .i64 u) (.int .i64 u) (.int .i64 t)
  have HD:=zd (qu hd (show w.heap.size≤w.heap.size+1 by omega) (.int .i64 r) (.int .i64 u) (.int .i64 u) (.int .i64 t))
  clear hg0 hg1 hd hlt
  go_wp2_with fail
  generalize hW:Zs W2 (w.heap.size+1) (.int .i64 r) (.int .i64 u) (.int .i64 u) (.int .i64 t)=W at*
  unfold Zs at hW
  rw[hW]
  clear hW
  have z0:W.cell? ⟨w.heap.size+1,0,none⟩=some (.int .i64 r):=ze W _ 0 _ _ _ hz
  have z1:W.cell? ⟨w.heap.size+1,1,none⟩=some (.int .i64 u):=ze W _ 1 _ _ _ hz
  have z2:W.cell? ⟨w.heap.size+1,2,none⟩=some (.int .i64 u):=ze W _ 2 _ _ _ hz
  have z3:W.cell? ⟨w.heap.size+1,3,none⟩=some (.int .i64 t):=ze W _ 3 _ _ _ hz
  exact zk (v:=.agg #[.int .i64 r,.int .i64 u,.int .i64 u,.int .i64 t]) (by simp[results,results117,go_sem,z0,z1,z2,z3]) rfl ⟨by rw[HF.out],HD.out⟩
 ·have HF:=zd (show Ju u l=l by unfold Ju;rw[if_neg hul])
  go_enter func117,ntmps117
  go_upto_region 2 with fail
  have hg0:=qo (i:=2) HG0.out (.int .i64 l)
  have hd:=HB.out.setCell (p:=⟨w.heap.size,2,none⟩) (zg _) (.int .i64 l)
  have hg1:=(zn W0 ⟨w.heap.size,2,none⟩ (.int .i64 l) (w.heap.size+1) (by simp)).trans HG1.out
  generalize W0.setCell ⟨w.heap.size,2,none⟩ (.int .i64 l)=W2 at*
  clear x0 x1 x2 x3 e2
  have hg0:W2.heap[w.heap.size]?=some (.cells #[.int .i64 r,.int .i64 u,.int .i64 l,.int .i64 t] 111 (0,0)):=hg0
  have x0:W2.cell? ⟨w.heap.size,0,none⟩=some (.int .i64 r):=ze _ _ 0 _ _ _ hg0
  have x1:W2.cell? ⟨w.heap.size,1,none⟩=some (.int .i64 u):=ze _ _ 1 _ _ _ hg0
  have x2:W2.cell? ⟨w.heap.size,2,none⟩=some (.int .i64 l):=ze _ _ 2 _ _ _ hg0
  have x3:W2.cell? ⟨w.heap.size,3,none⟩=some (.int .i64 t):=ze _ _ 3 _ _ _ hg0
  have y0:W2.cell? ⟨w.heap.size+1,0,none⟩=some (.int .i64 0):=ze _ _ 0 _ _ _ hg1
  have y1:W2.cell? ⟨w.heap.size+1,1,none⟩=some (.int .i64 0):=ze _ _ 1 _ _ _ hg1
  have y2:W2.cell? ⟨w.heap.size+1,2,none⟩=some (.int .i64 0):=ze _ _ 2 _ _ _ hg1
  have y3:W2.cell? ⟨w.heap.size+1,3,none⟩=some (.int .i64 0):=ze _ _ 3 _ _ _ hg1
  have f0:W2.frozen? ⟨w.heap.size+1,0,none⟩=false:=qa hg1
  have f1:W2.frozen? ⟨w.heap.size+1,1,none⟩=false:=qa hg1
  have f2:W2.frozen? ⟨w.heap.size+1,2,none⟩=false:=qa hg1
  have f3:W2.frozen? ⟨w.heap.size+1,3,none⟩=false:=qa hg1
  have hlt2:w.heap.size+1<W2.heap.size:=qd hg1
  have hz:=qF hg1 (.int .i64 r) (.int .i64 u) (.int .i64 l) (.int .i64 t)
  have HD:=zd (qu hd (show w.heap.size≤w.heap.size+1 by omega) (.int .i64 r) (.int .i64 u) (.int .i64 l) (.int .i64 t))
  clear hg0 hg1 hd hlt
  go_wp2_with fail
  generalize hW:Zs W2 (w.heap.size+1) (.int .i64 r) (.int .i64 u) (.int .i64 l) (.int .i64 t)=W at*
  unfold Zs at hW
  rw[hW]
  clear hW
  have z0:W.cell? ⟨w.heap.size+1,0,none⟩=some (.int .i64 r):=ze W _ 0 _ _ _ hz
  have z1:W.cell? ⟨w.heap.size+1,1,none⟩=some (.int .i64 u):=ze W _ 1 _ _ _ hz
  have z2:W.cell? ⟨w.heap.size+1,2,none⟩=some (.int .i64 l):=ze W _ 2 _ _ _ hz
  have z3:W.cell? ⟨w.heap.size+1,3,none⟩=some (.int .i64 t):=ze W _ 3 _ _ _ hz
  exact zk (v:=.agg #[.int .i64 r,.int .i64 u,.int .i64 l,.int .i64 t]) (by simp[results,results117,go_sem,z0,z1,z2,z3]) rfl ⟨by rw[HF.out],HD.out⟩
end gb
namespace gb
open Go.RowKit
theorem OC (n:Int) (w:World):Calls zf 129 #[.int .i64 n] w λ e w'=>e=.returned (.bool (isR n))∧w=w':=by
 refine(Jn n w).mono ?_
 rintro e w' ⟨rfl,rfl⟩
 exact⟨qp (by unfold isR;rw[Bool.eq_iff_iff,beq_iff_eq,beq_iff_eq];exact eq_comm),rfl⟩
theorem QC (r u l t : Int) (w : World) : Calls zf 109 #[.agg #[.int .i64 r, .int .i64 u, .int .i64 l, .int .i64 t]] w λ e w' => e = .returned (.bool (qI r u l t)) ∧ Below w.heap.size w w' := by
 have HI := zd OC
 have HT := zd (λ W => QN r u l t W)
 have HB0 := zd (show Below w.heap.size w (w.alloc (.cells #[.int .i64 r, .int .i64 u, .int .i64 l, .int .i64 t] 111)) from (zh _ _).alloc (zg _) _)
 have HK0 := zd (zo w (.cells #[.int .i64 r, .int .i64 u, .int .i64 l, .int .i64 t] 111))
 have HF := zd (show qI r u l t = (isR r && isR u && isR l && isR t && decide (u ≠ 0) && decide (l ≤ u)) from rfl)
 have HLT := zd (qd HK0.out)
 obtain ⟨w1, hw1⟩ : ∃ w1, w.alloc (.cells #[.int .i64 r, .int .i64 u, .int .i64 l, .int .i64 t] 111) = w1 := ⟨_, rfl⟩
 rw [hw1] at HB0 HK0 HLT
 have x0 : w1.cell? ⟨w.heap.size, 0, none⟩ = some (.int .i64 r) := ze _ _ 0 _ _ _ HK0.out
 have x1 : w1.cell? ⟨w.heap.size, 1, none⟩ = some (.int .i64 u) := ze _ _ 1 _ _ _ HK0.out
 have x2 : w1.cell? ⟨w.heap.size, 2, none⟩ = some (.int .i64 l) := ze _ _ 2 _ _ _ HK0.out
 have x3 : w1.cell? ⟨w.heap.size, 3, none⟩ = some (.int .i64 t) := ze _ _ 3 _ _ _ HK0.out
 go_enter func109, ntmps109
 by_cases e4 : u = 0
 · have c0 : (u != 0) = false := by simp [e4]
   have HF2 := zd (show (decide (u ≠ 0)) = false by simp [e4])
   clear e4
   go_wp2_with fail
   go_step3
   go_wp2_with fail
   go_quiet (fail)
   have HB3 := zd (below_drewN HB0.out nq)
   go_wp2_with fail
   go_step3
   go_wp2_with fail
   go_loopw [3, 5, 24] (λ a _ i wr => ∃ k : Int, a = .bool false ∧ i = .int .i64 k ∧ (0 ≤ k ∧ k ≤ 4) ∧ Hid ((1 ≤ k → isR r = true) ∧ (2 ≤ k → isR u = true) ∧ (3 ≤ k → isR l = true) ∧ (4 ≤ k → isR t = true)) ∧ Hid (Below w.heap.size w wr)) (λ _ _ i _ => (4 - intOf i).toNat)
   case atStart => exact ⟨0, rfl, rfl, ⟨by omega, by omega⟩, zd ⟨by omega, by omega, by omega, by omega⟩, HB3⟩
   case round =>
     obtain ⟨k, rfl, rfl, hk, HK, HW⟩ := hrel
     have hk5 : k = 0 ∨ k = 1 ∨ k = 2 ∨ k = 3 ∨ k = 4 := by omega
     clear hk
     rcases hk5 with rfl | rfl | rfl | rfl | rfl
     · have hix : ∀ w, (Instr.index 166 (.agg #[.int .i64 r, .int .i64 u, .int .i64 l, .int .i64 t]) (.int .i64 0)).run zf w = .ok (.int .i64 r) w := λ _ => by kernel_rfl
       go_wp2_with fail
       refine (HI.out _ _).mono ?_
       rintro e w' ⟨rfl, rfl⟩
       cases e0 : isR r with
       | false =>
         go_wp2_with fail
         try rw [zl]
         go_ret
         exact ⟨qp (by rw [HF.out]; simp [e0]), HW.out⟩
       | true =>
         have HK2 := zd e0
         clear e0
         go_wp2_with fail
         go_roundw
         case rel =>
           have h0 := HK.out
           have h1 := HK2.out
           exact ⟨1, rfl, rfl, ⟨by omega, by omega⟩, zd ⟨λ _ => h1, by omega, by omega, by omega⟩, HW⟩
         case measure => simp [intOf]
     · have hix : ∀ w, (Instr.index 166 (.agg #[.int .i64 r, .int .i64 u, .int .i64 l, .int .i64 t]) (.int .i64 1)).run zf w = .ok (.int .i64 u) w := λ _ => by kernel_rfl
       go_wp2_with fail
       refine (HI.out _ _).mono ?_
       rintro e w' ⟨rfl, rfl⟩
       cases e1 : isR u with
       | false =>
         go_wp2_with fail
         try rw [zl]
         go_ret
         exact ⟨qp (by rw [HF.out]; simp [e1]), HW.out⟩
       | true =>
         have HK2 := zd e1
         clear e1
         go_wp2_with fail
         go_roundw
         case rel =>
           have h0 := HK.out
           have h1 := HK2.out
           exact ⟨2, rfl, rfl, ⟨by omega, by omega⟩, zd ⟨λ _ => h0.1 (by omega), λ _ => h1, by omega, by omega⟩, HW⟩
         case measure => simp [intOf]
     · have hix : ∀ w, (Instr.index 166 (.agg #[.int .i64 r, .int .i64 u, .int .i64 l, .int .i64 t]) (.int .i64 2)).run zf w = .ok (.int .i64 l) w := λ _ => by kernel_rfl
       go_wp2_with fail
       refine (HI.out _ _).mono ?_
       rintro e w' ⟨rfl, rfl⟩
       cases e2 : isR l with
       | false =>
         go_wp2_with fail
         try rw [zl]
         go_ret
         exact ⟨qp (by rw [HF.out]; simp [e2]), HW.out⟩
       | true =>
         have HK2 := zd e2
         clear e2
         go_wp2_with fail
         go_roundw
         case rel =>
           have h0 := HK.out
           have h1 := HK2.out
           exact ⟨3, rfl, rfl, ⟨by omega, by omega⟩, zd ⟨λ _ => h0.1 (by omega), λ _ => h0.2.1 (by omega), λ _ => h1, by omega⟩, HW⟩
         case measure => simp [intOf]
     · have hix : ∀ w, (Instr.index 166 (.agg #[.int .i64 r, .int .i64 u, .int .i64 l, .int .i64 t]) (.int .i64 3)).run zf w = .ok (.int .i64 t) w := λ _ => by kernel_rfl
       go_wp2_with fail
       refine (HI.out _ _).mono ?_
       rintro e w' ⟨rfl, rfl⟩
       cases e3 : isR t with
       | false =>
         go_wp2_with fail
         try rw [zl]
         go_ret
         exact ⟨qp (by rw [HF.out]; simp [e3]), HW.out⟩
       | true =>
         have HK2 := zd e3
         clear e3
         go_wp2_with fail
         go_roundw
         case rel =>
           have h0 := HK.out
           have h1 := HK2.out
           exact ⟨4, rfl, rfl, ⟨by omega, by omega⟩, zd ⟨λ _ => h0.1 (by omega), λ _ => h0.2.1 (by omega), λ _ => h0.2.2.1 (by omega), λ _ => h1⟩, HW⟩
         case measure => simp [intOf]
     · have h0 := HK.out
       have g0 := zd (h0.1 (by omega))
       have g1 := zd (h0.2.1 (by omega))
       have g2 := zd (h0.2.2.1 (by omega))
       have g3 := zd (h0.2.2.2 (by omega))
       clear h0
       go_wp2_with fail
       try rw [zl]
       go_ret
       exact ⟨qp (by rw [HF.out]; simp [g0.out, g1.out, g2.out, g3.out, HF2.out]), HW.out⟩
 · by_cases e5 : l ≤ u
   · have c0 : (u != 0) = true := by simp [e4]
     have HF2 := zd (show (decide (u ≠ 0)) = true by simp [e4])
     have HF3 := zd (show (decide (l ≤ u)) = true by simp [e5])
     have ev : Ju u l = l := by unfold Ju; rw [if_neg (by omega)]
     rw [ev] at HT
     clear e4 e5 ev
     have HCK := zd (show ∀ W, Below w1.heap.size w1 W → (W.cell? ⟨w.heap.size, 0, none⟩ = some (.int .i64 r) ∧ W.cell? ⟨w.heap.size, 1, none⟩ = some (.int .i64 u) ∧ W.cell? ⟨w.heap.size, 2, none⟩ = some (.int .i64 l) ∧ W.cell? ⟨w.heap.size, 3, none⟩ = some (.int .i64 t)) ∧ Below w1.heap.size w1 W from
       λ W hb => ⟨⟨ze _ _ 0 _ _ _ ((hb.block _ (qd HK0.out)).trans HK0.out), ze _ _ 1 _ _ _ ((hb.block _ (qd HK0.out)).trans HK0.out), ze _ _ 2 _ _ _ ((hb.block _ (qd HK0.out)).trans HK0.out), ze _ _ 3 _ _ _ ((hb.block _ (qd HK0.out)).trans HK0.out)⟩, hb⟩)
     go_wp2_with fail
     go_step3
     go_wp2_with fail
     go_region_held (λ W => (W.cell? ⟨w.heap.size, 0, none⟩ = some (.int .i64 r) ∧ W.cell? ⟨w.heap.size, 1, none⟩ = some (.int .i64 u) ∧ W.cell? ⟨w.heap.size, 2, none⟩ = some (.int .i64 l) ∧ W.cell? ⟨w.heap.size, 3, none⟩ = some (.int .i64 t)) ∧ Below w1.heap.size w1 W)
       ((refine HCK.out _ ?_
         go_split_ands
         first
           | with_reducible exact (zh _ _).drew
           | with_reducible assumption))
       (first
         | (go_at_call 117; go_split_ands; (with_reducible refine zr (HT.out _) ?_); rintro e w5 ⟨rfl, hb⟩; (have hb5 := seqB (by assumption) hb); clear hb))
     have HB3 := zd (seqB HB0.out hb5)
     have hg0 := (hb5.block _ (qd HK0.out)).trans HK0.out
     clear hb5 HCK x0 x1 x2 x3
     go_split_ands
     have x0 : w5.cell? ⟨w.heap.size, 0, none⟩ = some (.int .i64 r) := ze _ _ 0 _ _ _ hg0
     have x1 : w5.cell? ⟨w.heap.size, 1, none⟩ = some (.int .i64 u) := ze _ _ 1 _ _ _ hg0
     have x2 : w5.cell? ⟨w.heap.size, 2, none⟩ = some (.int .i64 l) := ze _ _ 2 _ _ _ hg0
     have x3 : w5.cell? ⟨w.heap.size, 3, none⟩ = some (.int .i64 t) := ze _ _ 3 _ _ _ hg0
     clear hg0
     go_wp2_with fail
     go_step3
     go_wp2_with fail
     go_loopw [3, 5, 24] (λ a _ i wr => ∃ k : Int, a = .bool true ∧ i = .int .i64 k ∧ (0 ≤ k ∧ k ≤ 4) ∧ Hid ((1 ≤ k → isR r = true) ∧ (2 ≤ k → isR u = true) ∧ (3 ≤ k → isR l = true) ∧ (4 ≤ k → isR t = true)) ∧ Hid (Below w.heap.size w wr)) (λ _ _ i _ => (4 - intOf i).toNat)
     case atStart => exact ⟨0, rfl, rfl, ⟨by omega, by omega⟩, zd ⟨by omega, by omega, by omega, by omega⟩, HB3⟩
     case round =>
       obtain ⟨k, rfl, rfl, hk, HK, HW⟩ := hrel
       have hk5 : k = 0 ∨ k = 1 ∨ k = 2 ∨ k = 3 ∨ k = 4 := by omega
       clear hk
       rcases hk5 with rfl | rfl | rfl | rfl | rfl
       · have hix : ∀ w, (Instr.index 166 (.agg #[.int .i64 r, .int .i64 u, .int .i64 l, .int .i64 t]) (.int .i64 0)).run zf w = .ok (.int .i64 r) w := λ _ => by kernel_rfl
         go_wp2_with fail
         refine (HI.out _ _).mono ?_
         rintro e w' ⟨rfl, rfl⟩
         cases e0 : isR r with
         | false =>
           go_wp2_with fail
           try rw [zl]
           go_ret
           exact ⟨qp (by rw [HF.out]; simp [e0]), HW.out⟩
         | true =>
           have HK2 := zd e0
           clear e0
           go_wp2_with fail
           go_roundw
           case rel =>
             have h0 := HK.out
             have h1 := HK2.out
             exact ⟨1, rfl, rfl, ⟨by omega, by omega⟩, zd ⟨λ _ => h1, by omega, by omega, by omega⟩, HW⟩
           case measure => simp [intOf]
       · have hix : ∀ w, (Instr.index 166 (.agg #[.int .i64 r, .int .i64 u, .int .i64 l, .int .i64 t]) (.int .i64 1)).run zf w = .ok (.int .i64 u) w := λ _ => by kernel_rfl
         go_wp2_with fail
         refine (HI.out _ _).mono ?_
         rintro e w' ⟨rfl, rfl⟩
         cases e1 : isR u with
         | false =>
           go_wp2_with fail
           try rw [zl]
           go_ret
           exact ⟨qp (by rw [HF.out]; simp [e1]), HW.out⟩
         | true =>
           have HK2 := zd e1
           clear e1
           go_wp2_with fail
           go_roundw
           case rel =>
             have h0 := HK.out
             have h1 := HK2.out
             exact ⟨2, rfl, rfl, ⟨by omega, by omega⟩, zd ⟨λ _ => h0.1 (by omega), λ _ => h1, by omega, by omega⟩, HW⟩
           case measure => simp [intOf]
       · have hix : ∀ w, (Instr.index 166 (.agg #[.int .i64 r, .int .i64 u, .int .i64 l, .int .i64 t]) (.int .i64 2)).run zf w = .ok (.int .i64 l) w := λ _ => by kernel_rfl
         go_wp2_with fail
         refine (HI.out _ _).mono ?_
         rintro e w' ⟨rfl, rfl⟩
         cases e2 : isR l with
         | false =>
           go_wp2_with fail
           try rw [zl]
           go_ret
           exact ⟨qp (by rw [HF.out]; simp [e2]), HW.out⟩
         | true =>
           have HK2 := zd e2
           clear e2
           go_wp2_with fail
           go_roundw
           case rel =>
             have h0 := HK.out
             have h1 := HK2.out
             exact ⟨3, rfl, rfl, ⟨by omega, by omega⟩, zd ⟨λ _ => h0.1 (by omega), λ _ => h0.2.1 (by omega), λ _ => h1, by omega⟩, HW⟩
           case measure => simp [intOf]
       · have hix : ∀ w, (Instr.index 166 (.agg #[.int .i64 r, .int .i64 u, .int .i64 l, .int .i64 t]) (.int .i64 3)).run zf w = .ok (.int .i64 t) w := λ _ => by kernel_rfl
         go_wp2_with fail
         refine (HI.out _ _).mono ?_
         rintro e w' ⟨rfl, rfl⟩
         cases e3 : isR t with
         | false =>
           go_wp2_with fail
           try rw [zl]
           go_ret
           exact ⟨qp (by rw [HF.out]; simp [e3]), HW.out⟩
         | true =>
           have HK2 := zd e3
           clear e3
           go_wp2_with fail
           go_roundw
           case rel =>
             have h0 := HK.out
             have h1 := HK2.out
             exact ⟨4, rfl, rfl, ⟨by omega, by omega⟩, zd ⟨λ _ => h0.1 (by omega), λ _ => h0.2.1 (by omega), λ _ => h0.2.2.1 (by omega), λ _ => h1⟩, HW⟩
           case measure => simp [intOf]
       · have h0 := HK.out
         have g0 := zd (h0.1 (by omega))
         have g1 := zd (h0.2.1 (by omega))
         have g2 := zd (h0.2.2.1 (by omega))
         have g3 := zd (h0.2.2.2 (by omega))
         clear h0
         go_wp2_with fail
         try rw [zl]
         go_ret
         exact ⟨qp (by rw [HF.out]; simp [g0.out, g1.out, g2.out, g3.out, HF2.out, HF3.out]), HW.out⟩
   · have c0 : (u != 0) = true := by simp [e4]
     have HF3 := zd (show (decide (l ≤ u)) = false by simp; omega)
     have ev : Ju u l = u := by unfold Ju; rw [if_pos (by omega)]
     have hne : (l == u) = false := by simp; omega
     rw [ev] at HT
     clear e4 e5 ev
     have HCK := zd (show ∀ W, Below w1.heap.size w1 W → (W.cell? ⟨w.heap.size, 0, none⟩ = some (.int .i64 r) ∧ W.cell? ⟨w.heap.size, 1, none⟩ = some (.int .i64 u) ∧ W.cell? ⟨w.heap.size, 2, none⟩ = some (.int .i64 l) ∧ W.cell? ⟨w.heap.size, 3, none⟩ = some (.int .i64 t)) ∧ Below w1.heap.size w1 W from
       λ W hb => ⟨⟨ze _ _ 0 _ _ _ ((hb.block _ (qd HK0.out)).trans HK0.out), ze _ _ 1 _ _ _ ((hb.block _ (qd HK0.out)).trans HK0.out), ze _ _ 2 _ _ _ ((hb.block _ (qd HK0.out)).trans HK0.out), ze _ _ 3 _ _ _ ((hb.block _ (qd HK0.out)).trans HK0.out)⟩, hb⟩)
     go_wp2_with fail
     go_step3
     go_wp2_with fail
     go_region_held (λ W => (W.cell? ⟨w.heap.size, 0, none⟩ = some (.int .i64 r) ∧ W.cell? ⟨w.heap.size, 1, none⟩ = some (.int .i64 u) ∧ W.cell? ⟨w.heap.size, 2, none⟩ = some (.int .i64 l) ∧ W.cell? ⟨w.heap.size, 3, none⟩ = some (.int .i64 t)) ∧ Below w1.heap.size w1 W)
       ((refine HCK.out _ ?_
         go_split_ands
         first
           | with_reducible exact (zh _ _).drew
           | with_reducible assumption))
       (first
         | (go_at_call 117; go_split_ands; (with_reducible refine zr (HT.out _) ?_); rintro e w5 ⟨rfl, hb⟩; (have hb5 := seqB (by assumption) hb); clear hb))
     have HB3 := zd (seqB HB0.out hb5)
     have hg0 := (hb5.block _ (qd HK0.out)).trans HK0.out
     clear hb5 HCK x0 x1 x2 x3
     go_split_ands
     have x0 : w5.cell? ⟨w.heap.size, 0, none⟩ = some (.int .i64 r) := ze _ _ 0 _ _ _ hg0
     have x1 : w5.cell? ⟨w.heap.size, 1, none⟩ = some (.int .i64 u) := ze _ _ 1 _ _ _ hg0
     have x2 : w5.cell? ⟨w.heap.size, 2, none⟩ = some (.int .i64 l) := ze _ _ 2 _ _ _ hg0
     have x3 : w5.cell? ⟨w.heap.size, 3, none⟩ = some (.int .i64 t) := ze _ _ 3 _ _ _ hg0
     clear hg0
     go_wp2_with fail
     go_step3
     go_wp2_with fail
     go_loopw [3, 5, 24] (λ a _ i wr => ∃ k : Int, a = .bool false ∧ i = .int .i64 k ∧ (0 ≤ k ∧ k ≤ 4) ∧ Hid ((1 ≤ k → isR r = true) ∧ (2 ≤ k → isR u = true) ∧ (3 ≤ k → isR l = true) ∧ (4 ≤ k → isR t = true)) ∧ Hid (Below w.heap.size w wr)) (λ _ _ i _ => (4 - intOf i).toNat)
     case atStart => exact ⟨0, rfl, rfl, ⟨by omega, by omega⟩, zd ⟨by omega, by omega, by omega, by omega⟩, HB3⟩
     case round =>
       obtain ⟨k, rfl, rfl, hk, HK, HW⟩ := hrel
       have hk5 : k = 0 ∨ k = 1 ∨ k = 2 ∨ k = 3 ∨ k = 4 := by omega
       clear hk
       rcases hk5 with rfl | rfl | rfl | rfl | rfl
       · have hix : ∀ w, (Instr.index 166 (.agg #[.int .i64 r, .int .i64 u, .int .i64 l, .int .i64 t]) (.int .i64 0)).run zf w = .ok (.int .i64 r) w := λ _ => by kernel_rfl
         go_wp2_with fail
         refine (HI.out _ _).mono ?_
         rintro e w' ⟨rfl, rfl⟩
         cases e0 : isR r with
         | false =>
           go_wp2_with fail
           try rw [zl]
           go_ret
           exact ⟨qp (by rw [HF.out]; simp [e0]), HW.out⟩
         | true =>
           have HK2 := zd e0
           clear e0
           go_wp2_with fail
           go_roundw
           case rel =>
             have h0 := HK.out
             have h1 := HK2.out
             exact ⟨1, rfl, rfl, ⟨by omega, by omega⟩, zd ⟨λ _ => h1, by omega, by omega, by omega⟩, HW⟩
           case measure => simp [intOf]
       · have hix : ∀ w, (Instr.index 166 (.agg #[.int .i64 r, .int .i64 u, .int .i64 l, .int .i64 t]) (.int .i64 1)).run zf w = .ok (.int .i64 u) w := λ _ => by kernel_rfl
         go_wp2_with fail
         refine (HI.out _ _).mono ?_
         rintro e w' ⟨rfl, rfl⟩
         cases e1 : isR u with
         | false =>
           go_wp2_with fail
           try rw [zl]
           go_ret
           exact ⟨qp (by rw [HF.out]; simp [e1]), HW.out⟩
         | true =>
           have HK2 := zd e1
           clear e1
           go_wp2_with fail
           go_roundw
           case rel =>
             have h0 := HK.out
             have h1 := HK2.out
             exact ⟨2, rfl, rfl, ⟨by omega, by omega⟩, zd ⟨λ _ => h0.1 (by omega), λ _ => h1, by omega, by omega⟩, HW⟩
           case measure => simp [intOf]
       · have hix : ∀ w, (Instr.index 166 (.agg #[.int .i64 r, .int .i64 u, .int .i64 l, .int .i64 t]) (.int .i64 2)).run zf w = .ok (.int .i64 l) w := λ _ => by kernel_rfl
         go_wp2_with fail
         refine (HI.out _ _).mono ?_
         rintro e w' ⟨rfl, rfl⟩
         cases e2 : isR l with
         | false =>
           go_wp2_with fail
           try rw [zl]
           go_ret
           exact ⟨qp (by rw [HF.out]; simp [e2]), HW.out⟩
         | true =>
           have HK2 := zd e2
           clear e2
           go_wp2_with fail
           go_roundw
           case rel =>
             have h0 := HK.out
             have h1 := HK2.out
             exact ⟨3, rfl, rfl, ⟨by omega, by omega⟩, zd ⟨λ _ => h0.1 (by omega), λ _ => h0.2.1 (by omega), λ _ => h1, by omega⟩, HW⟩
           case measure => simp [intOf]
       · have hix : ∀ w, (Instr.index 166 (.agg #[.int .i64 r, .int .i64 u, .int .i64 l, .int .i64 t]) (.int .i64 3)).run zf w = .ok (.int .i64 t) w := λ _ => by kernel_rfl
         go_wp2_with fail
         refine (HI.out _ _).mono ?_
         rintro e w' ⟨rfl, rfl⟩
         cases e3 : isR t with
         | false =>
           go_wp2_with fail
           try rw [zl]
           go_ret
           exact ⟨qp (by rw [HF.out]; simp [e3]), HW.out⟩
         | true =>
           have HK2 := zd e3
           clear e3
           go_wp2_with fail
           go_roundw
           case rel =>
             have h0 := HK.out
             have h1 := HK2.out
             exact ⟨4, rfl, rfl, ⟨by omega, by omega⟩, zd ⟨λ _ => h0.1 (by omega), λ _ => h0.2.1 (by omega), λ _ => h0.2.2.1 (by omega), λ _ => h1⟩, HW⟩
           case measure => simp [intOf]
       · have h0 := HK.out
         have g0 := zd (h0.1 (by omega))
         have g1 := zd (h0.2.1 (by omega))
         have g2 := zd (h0.2.2.1 (by omega))
         have g3 := zd (h0.2.2.2 (by omega))
         clear h0
         go_wp2_with fail
         try rw [zl]
         go_ret
         exact ⟨qp (by rw [HF.out]; simp [g0.out, g1.out, g2.out, g3.out, HF3.out]), HW.out⟩
end gb
namespace gb
open Go.RowKit
theorem Ge {r u n:Int} (h:qI r u u n=true) (w:World):Calls zf 81 #[.int .i64 r,.int .i64 u,.int .i64 n] w λ e w'=>e=.returned (.tuple #[.agg #[.int .i64 r,.int .i64 u,.int .i64 u,.int .i64 n],.int .i64 0])∧Below w.heap.size w w':=by
 have HRG:=zd (λ W=>show Calls zf 109 #[.agg #[.int .i64 r,.int .i64 u,.int .i64 u,.int .i64 n]] W λ e w'=>e=.returned (.bool true)∧Below W.heap.size W w' from by rw[←h];exact QC r u u n W)
 have HB0:=zd (Xw w (.cells #[.int .i64 0,.int .i64 0,.int .i64 0,.int .i64 0] 111) (.cells #[.int .i64 0,.int .i64 0,.int .i64 0,.int .i64 0] 111))
 obtain⟨W0,hW0⟩:∃W0,(w.alloc (.cells #[.int .i64 0,.int .i64 0,.int .i64 0,.int .i64 0] 111)).alloc (.cells #[.int .i64 0,.int .i64 0,.int .i64 0,.int .i64 0] 111)=W0:=⟨_,rfl⟩
 have hg:=Zk (w:=w) (o0:=(.cells #[.int .i64 0,.int .i64 0,.int .i64 0,.int .i64 0] 111)) (o1:=(.cells #[.int .i64 0,.int .i64 0,.int .i64 0,.int .i64 0] 111)) (w1:=W0) (by rw[hW0];exact zh _ _)
 rw[hW0]at HB0
 obtain⟨hg0,hg1,hlt⟩:=hg
 have hz:=qF hg1 (.int .i64 r) (.int .i64 u) (.int .i64 u) (.int .i64 n)
 have HD:=zd (qu (w:=W0) (g:=w.heap.size+1) HB0.out (show w.heap.size≤w.heap.size+1 by omega) (.int .i64 r) (.int .i64 u) (.int .i64 u) (.int .i64 n))
 have hf:=(Jy (w:=W0) (g:=w.heap.size+1) (k:=w.heap.size) (.int .i64 r) (.int .i64 u) (.int .i64 u) (.int .i64 n) (by omega)).trans hg0
 have y0:W0.cell? ⟨w.heap.size+1,0,none⟩=some (.int .i64 0):=ze _ _ 0 _ _ _ hg1
 have y1:W0.cell? ⟨w.heap.size+1,1,none⟩=some (.int .i64 0):=ze _ _ 1 _ _ _ hg1
 have y2:W0.cell? ⟨w.heap.size+1,2,none⟩=some (.int .i64 0):=ze _ _ 2 _ _ _ hg1
 have y3:W0.cell? ⟨w.heap.size+1,3,none⟩=some (.int .i64 0):=ze _ _ 3 _ _ _ hg1
 have f0:W0.frozen? ⟨w.heap.size+1,0,none⟩=false:=qa hg1
 have f1:W0.frozen? ⟨w.heap.size+1,1,none⟩=false:=qa hg1
 have f2:W0.frozen? ⟨w.heap.size+1,2,none⟩=false:=qa hg1
 have f3:W0.frozen? ⟨w.heap.size+1,3,none⟩=false:=qa hg1
 clear hg0 hg1 h
 go_enter func81,ntmps81
 go_upto_region 2 with fail
 generalize hW:Zs W0 (w.heap.size+1) (.int .i64 r) (.int .i64 u) (.int .i64 u) (.int .i64 n)=W at*
 unfold Zs at hW
 rw[hW]
 clear hW y0 y1 y2 y3 f0 f1 f2 f3 hW0
 have y0:W.cell? ⟨w.heap.size+1,0,none⟩=some (.int .i64 r):=ze _ _ 0 _ _ _ hz
 have y1:W.cell? ⟨w.heap.size+1,1,none⟩=some (.int .i64 u):=ze _ _ 1 _ _ _ hz
 have y2:W.cell? ⟨w.heap.size+1,2,none⟩=some (.int .i64 u):=ze _ _ 2 _ _ _ hz
 have y3:W.cell? ⟨w.heap.size+1,3,none⟩=some (.int .i64 n):=ze _ _ 3 _ _ _ hz
 go_wp2_with fail
 refine(HRG.out _).mono ?_
 rintro e w1 ⟨rfl,hb⟩
 have hg0:=(hb.block _ (qd hf)).trans hf
 have hg1:=(hb.block _ (qd hz)).trans hz
 have HB1:=zd (seqB HD.out hb)
 clear hb y0 y1 y2 y3 hz hf hlt
 have hlt:=qd hg1
 have y0:w1.cell? ⟨w.heap.size+1,0,none⟩=some (.int .i64 r):=ze _ _ 0 _ _ _ hg1
 have y1:w1.cell? ⟨w.heap.size+1,1,none⟩=some (.int .i64 u):=ze _ _ 1 _ _ _ hg1
 have y2:w1.cell? ⟨w.heap.size+1,2,none⟩=some (.int .i64 u):=ze _ _ 2 _ _ _ hg1
 have y3:w1.cell? ⟨w.heap.size+1,3,none⟩=some (.int .i64 n):=ze _ _ 3 _ _ _ hg1
 have x0:w1.cell? ⟨w.heap.size,0,none⟩=some (.int .i64 0):=ze _ _ 0 _ _ _ hg0
 have x1:w1.cell? ⟨w.heap.size,1,none⟩=some (.int .i64 0):=ze _ _ 1 _ _ _ hg0
 have x2:w1.cell? ⟨w.heap.size,2,none⟩=some (.int .i64 0):=ze _ _ 2 _ _ _ hg0
 have x3:w1.cell? ⟨w.heap.size,3,none⟩=some (.int .i64 0):=ze _ _ 3 _ _ _ hg0
 have f0:w1.frozen? ⟨w.heap.size,0,none⟩=false:=qa hg0
 have f1:w1.frozen? ⟨w.heap.size,1,none⟩=false:=qa hg0
 have f2:w1.frozen? ⟨w.heap.size,2,none⟩=false:=qa hg0
 have f3:w1.frozen? ⟨w.heap.size,3,none⟩=false:=qa hg0
 have hz:=qF hg0 (.int .i64 r) (.int .i64 u) (.int .i64 u) (.int .i64 n)
 have HE:=zd (qu (w:=w1) (g:=w.heap.size) HB1.out (zg _) (.int .i64 r) (.int .i64 u) (.int .i64 u) (.int .i64 n))
 clear hg0 hg1
 go_wp2_with fail
 generalize hW:Zs w1 w.heap.size (.int .i64 r) (.int .i64 u) (.int .i64 u) (.int .i64 n)=W2 at*
 unfold Zs at hW
 rw[hW]
 clear hW
 have z0:W2.cell? ⟨w.heap.size,0,none⟩=some (.int .i64 r):=ze _ _ 0 _ _ _ hz
 have z1:W2.cell? ⟨w.heap.size,1,none⟩=some (.int .i64 u):=ze _ _ 1 _ _ _ hz
 have z2:W2.cell? ⟨w.heap.size,2,none⟩=some (.int .i64 u):=ze _ _ 2 _ _ _ hz
 have z3:W2.cell? ⟨w.heap.size,3,none⟩=some (.int .i64 n):=ze _ _ 3 _ _ _ hz
 exact zk (v:=.tuple #[.agg #[.int .i64 r,.int .i64 u,.int .i64 u,.int .i64 n],.int .i64 0]) (by simp[results,results81,go_sem,z0,z1,z2,z3]) rfl ⟨rfl,HE.out⟩
end gb
end Go.Proofs.YtfdfgnmgpgkknaaGreat
