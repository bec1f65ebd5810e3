/-
  Contracts: what the bucket's own New and Most answer. Conditions: as each states.
-/
import Derived.Test.YtidklcjacejkaaaK3
namespace Go.Proofs.Ytidklcjacejkaaa
open Go.RowKit

set_option maxRecDepth 100000 in
set_option maxHeartbeats 4000000 in
theorem new_b1 {r u n : Int} (h : rightB r u u n = true) (w : World) : Calls Try.prog 20 #[.int .i64 r, .int .i64 u, .int .i64 n] w fun e w' => e = .returned (.tuple #[.agg #[.int .i64 r, .int .i64 u, .int .i64 u, .int .i64 n], .int .i64 0]) ∧ Below w.heap.size w w' := by
  have HRG := Lib.hid (fun W => show Calls Try.prog 14 #[.agg #[.int .i64 r, .int .i64 u, .int .i64 u, .int .i64 n]] W fun e w' => e = .returned (.bool true) ∧ Below W.heap.size W w' from by rw [← h]; exact right_b r u u n W)
  have HB0 := Lib.hid (below2 w (.cells #[.int .i64 0, .int .i64 0, .int .i64 0, .int .i64 0] 24) (.cells #[.int .i64 0, .int .i64 0, .int .i64 0, .int .i64 0] 24))
  obtain ⟨W0, hW0⟩ : ∃ W0, (w.alloc (.cells #[.int .i64 0, .int .i64 0, .int .i64 0, .int .i64 0] 24)).alloc (.cells #[.int .i64 0, .int .i64 0, .int .i64 0, .int .i64 0] 24) = W0 := ⟨_, rfl⟩
  have hg := two_blocks (w := w) (o0 := (.cells #[.int .i64 0, .int .i64 0, .int .i64 0, .int .i64 0] 24)) (o1 := (.cells #[.int .i64 0, .int .i64 0, .int .i64 0, .int .i64 0] 24)) (w1 := W0) (by rw [hW0]; exact Below.refl _ _)
  rw [hW0] at HB0
  obtain ⟨hg0, hg1, hlt⟩ := hg
  have hz := set4_heap hg1 (.int .i64 r) (.int .i64 u) (.int .i64 u) (.int .i64 n)
  have HD := Lib.hid (set4_below (w := W0) (g := w.heap.size + 1) HB0.out (show w.heap.size ≤ w.heap.size + 1 by omega) (.int .i64 r) (.int .i64 u) (.int .i64 u) (.int .i64 n))
  have hf := (set4_far (w := W0) (g := w.heap.size + 1) (k := w.heap.size) (.int .i64 r) (.int .i64 u) (.int .i64 u) (.int .i64 n) (by omega)).trans hg0
  have y0 : W0.cell? ⟨w.heap.size + 1, 0, none⟩ = some (.int .i64 0) := cell_of_row _ _ 0 _ _ _ hg1
  have y1 : W0.cell? ⟨w.heap.size + 1, 1, none⟩ = some (.int .i64 0) := cell_of_row _ _ 1 _ _ _ hg1
  have y2 : W0.cell? ⟨w.heap.size + 1, 2, none⟩ = some (.int .i64 0) := cell_of_row _ _ 2 _ _ _ hg1
  have y3 : W0.cell? ⟨w.heap.size + 1, 3, none⟩ = some (.int .i64 0) := cell_of_row _ _ 3 _ _ _ hg1
  have f0 : W0.frozen? ⟨w.heap.size + 1, 0, none⟩ = false := frozen_at hg1
  have f1 : W0.frozen? ⟨w.heap.size + 1, 1, none⟩ = false := frozen_at hg1
  have f2 : W0.frozen? ⟨w.heap.size + 1, 2, none⟩ = false := frozen_at hg1
  have f3 : W0.frozen? ⟨w.heap.size + 1, 3, none⟩ = false := frozen_at hg1
  clear hg0 hg1 h
  go_enter Try.func20, Try.ntmps20
  go_upto_region 2 with fail
  generalize hW : set4 W0 (w.heap.size + 1) (.int .i64 r) (.int .i64 u) (.int .i64 u) (.int .i64 n) = W at *
  unfold set4 at hW
  rw [hW]
  clear hW y0 y1 y2 y3 f0 f1 f2 f3 hW0
  have y0 : W.cell? ⟨w.heap.size + 1, 0, none⟩ = some (.int .i64 r) := cell_of_row _ _ 0 _ _ _ hz
  have y1 : W.cell? ⟨w.heap.size + 1, 1, none⟩ = some (.int .i64 u) := cell_of_row _ _ 1 _ _ _ hz
  have y2 : W.cell? ⟨w.heap.size + 1, 2, none⟩ = some (.int .i64 u) := cell_of_row _ _ 2 _ _ _ hz
  have y3 : W.cell? ⟨w.heap.size + 1, 3, none⟩ = some (.int .i64 n) := cell_of_row _ _ 3 _ _ _ hz
  go_wp2_with fail
  refine (HRG.out _).mono ?_
  rintro e w1 ⟨rfl, hb⟩
  have hg0 := (hb.block _ (blk_lt hf)).trans hf
  have hg1 := (hb.block _ (blk_lt hz)).trans hz
  have HB1 := Lib.hid (seqB HD.out hb)
  clear hb y0 y1 y2 y3 hz hf hlt
  have hlt := blk_lt hg1
  have y0 : w1.cell? ⟨w.heap.size + 1, 0, none⟩ = some (.int .i64 r) := cell_of_row _ _ 0 _ _ _ hg1
  have y1 : w1.cell? ⟨w.heap.size + 1, 1, none⟩ = some (.int .i64 u) := cell_of_row _ _ 1 _ _ _ hg1
  have y2 : w1.cell? ⟨w.heap.size + 1, 2, none⟩ = some (.int .i64 u) := cell_of_row _ _ 2 _ _ _ hg1
  have y3 : w1.cell? ⟨w.heap.size + 1, 3, none⟩ = some (.int .i64 n) := cell_of_row _ _ 3 _ _ _ hg1
  have x0 : w1.cell? ⟨w.heap.size, 0, none⟩ = some (.int .i64 0) := cell_of_row _ _ 0 _ _ _ hg0
  have x1 : w1.cell? ⟨w.heap.size, 1, none⟩ = some (.int .i64 0) := cell_of_row _ _ 1 _ _ _ hg0
  have x2 : w1.cell? ⟨w.heap.size, 2, none⟩ = some (.int .i64 0) := cell_of_row _ _ 2 _ _ _ hg0
  have x3 : w1.cell? ⟨w.heap.size, 3, none⟩ = some (.int .i64 0) := cell_of_row _ _ 3 _ _ _ hg0
  have f0 : w1.frozen? ⟨w.heap.size, 0, none⟩ = false := frozen_at hg0
  have f1 : w1.frozen? ⟨w.heap.size, 1, none⟩ = false := frozen_at hg0
  have f2 : w1.frozen? ⟨w.heap.size, 2, none⟩ = false := frozen_at hg0
  have f3 : w1.frozen? ⟨w.heap.size, 3, none⟩ = false := frozen_at hg0
  have hz := set4_heap hg0 (.int .i64 r) (.int .i64 u) (.int .i64 u) (.int .i64 n)
  have HE := Lib.hid (set4_below (w := w1) (g := w.heap.size) HB1.out (Nat.le_refl _) (.int .i64 r) (.int .i64 u) (.int .i64 u) (.int .i64 n))
  clear hg0 hg1
  go_wp2_with fail
  generalize hW : set4 w1 w.heap.size (.int .i64 r) (.int .i64 u) (.int .i64 u) (.int .i64 n) = W2 at *
  unfold set4 at hW
  rw [hW]
  clear hW
  have z0 : W2.cell? ⟨w.heap.size, 0, none⟩ = some (.int .i64 r) := cell_of_row _ _ 0 _ _ _ hz
  have z1 : W2.cell? ⟨w.heap.size, 1, none⟩ = some (.int .i64 u) := cell_of_row _ _ 1 _ _ _ hz
  have z2 : W2.cell? ⟨w.heap.size, 2, none⟩ = some (.int .i64 u) := cell_of_row _ _ 2 _ _ _ hz
  have z3 : W2.cell? ⟨w.heap.size, 3, none⟩ = some (.int .i64 n) := cell_of_row _ _ 3 _ _ _ hz
  exact bodyPost_ret (v := .tuple #[.agg #[.int .i64 r, .int .i64 u, .int .i64 u, .int .i64 n], .int .i64 0]) (by simp [results, Try.results20, go_sem, z0, z1, z2, z3]) rfl ⟨rfl, HE.out⟩

set_option maxRecDepth 100000 in
set_option maxHeartbeats 4000000 in
theorem new_b0 {r u n : Int} (h : rightB r u u n = false) (w : World) : Calls Try.prog 20 #[.int .i64 r, .int .i64 u, .int .i64 n] w fun e w' => e = .returned (.tuple #[.agg #[.int .i64 0, .int .i64 0, .int .i64 0, .int .i64 0], .int .i64 1]) ∧ Below w.heap.size w w' := by
  have HRG := Lib.hid (fun W => show Calls Try.prog 14 #[.agg #[.int .i64 r, .int .i64 u, .int .i64 u, .int .i64 n]] W fun e w' => e = .returned (.bool false) ∧ Below W.heap.size W w' from by rw [← h]; exact right_b r u u n W)
  have HB0 := Lib.hid (below2 w (.cells #[.int .i64 0, .int .i64 0, .int .i64 0, .int .i64 0] 24) (.cells #[.int .i64 0, .int .i64 0, .int .i64 0, .int .i64 0] 24))
  obtain ⟨W0, hW0⟩ : ∃ W0, (w.alloc (.cells #[.int .i64 0, .int .i64 0, .int .i64 0, .int .i64 0] 24)).alloc (.cells #[.int .i64 0, .int .i64 0, .int .i64 0, .int .i64 0] 24) = W0 := ⟨_, rfl⟩
  have hg := two_blocks (w := w) (o0 := (.cells #[.int .i64 0, .int .i64 0, .int .i64 0, .int .i64 0] 24)) (o1 := (.cells #[.int .i64 0, .int .i64 0, .int .i64 0, .int .i64 0] 24)) (w1 := W0) (by rw [hW0]; exact Below.refl _ _)
  rw [hW0] at HB0
  obtain ⟨hg0, hg1, hlt⟩ := hg
  have hz := set4_heap hg1 (.int .i64 r) (.int .i64 u) (.int .i64 u) (.int .i64 n)
  have HD := Lib.hid (set4_below (w := W0) (g := w.heap.size + 1) HB0.out (show w.heap.size ≤ w.heap.size + 1 by omega) (.int .i64 r) (.int .i64 u) (.int .i64 u) (.int .i64 n))
  have hf := (set4_far (w := W0) (g := w.heap.size + 1) (k := w.heap.size) (.int .i64 r) (.int .i64 u) (.int .i64 u) (.int .i64 n) (by omega)).trans hg0
  have y0 : W0.cell? ⟨w.heap.size + 1, 0, none⟩ = some (.int .i64 0) := cell_of_row _ _ 0 _ _ _ hg1
  have y1 : W0.cell? ⟨w.heap.size + 1, 1, none⟩ = some (.int .i64 0) := cell_of_row _ _ 1 _ _ _ hg1
  have y2 : W0.cell? ⟨w.heap.size + 1, 2, none⟩ = some (.int .i64 0) := cell_of_row _ _ 2 _ _ _ hg1
  have y3 : W0.cell? ⟨w.heap.size + 1, 3, none⟩ = some (.int .i64 0) := cell_of_row _ _ 3 _ _ _ hg1
  have f0 : W0.frozen? ⟨w.heap.size + 1, 0, none⟩ = false := frozen_at hg1
  have f1 : W0.frozen? ⟨w.heap.size + 1, 1, none⟩ = false := frozen_at hg1
  have f2 : W0.frozen? ⟨w.heap.size + 1, 2, none⟩ = false := frozen_at hg1
  have f3 : W0.frozen? ⟨w.heap.size + 1, 3, none⟩ = false := frozen_at hg1
  clear hg0 hg1 h
  go_enter Try.func20, Try.ntmps20
  go_upto_region 2 with fail
  generalize hW : set4 W0 (w.heap.size + 1) (.int .i64 r) (.int .i64 u) (.int .i64 u) (.int .i64 n) = W at *
  unfold set4 at hW
  rw [hW]
  clear hW y0 y1 y2 y3 f0 f1 f2 f3 hW0
  have y0 : W.cell? ⟨w.heap.size + 1, 0, none⟩ = some (.int .i64 r) := cell_of_row _ _ 0 _ _ _ hz
  have y1 : W.cell? ⟨w.heap.size + 1, 1, none⟩ = some (.int .i64 u) := cell_of_row _ _ 1 _ _ _ hz
  have y2 : W.cell? ⟨w.heap.size + 1, 2, none⟩ = some (.int .i64 u) := cell_of_row _ _ 2 _ _ _ hz
  have y3 : W.cell? ⟨w.heap.size + 1, 3, none⟩ = some (.int .i64 n) := cell_of_row _ _ 3 _ _ _ hz
  go_wp2_with fail
  refine (HRG.out _).mono ?_
  rintro e w1 ⟨rfl, hb⟩
  have hg0 := (hb.block _ (blk_lt hf)).trans hf
  have hg1 := (hb.block _ (blk_lt hz)).trans hz
  have HB1 := Lib.hid (seqB HD.out hb)
  clear hb y0 y1 y2 y3 hz hf hlt
  have hlt := blk_lt hg1
  have y0 : w1.cell? ⟨w.heap.size + 1, 0, none⟩ = some (.int .i64 r) := cell_of_row _ _ 0 _ _ _ hg1
  have y1 : w1.cell? ⟨w.heap.size + 1, 1, none⟩ = some (.int .i64 u) := cell_of_row _ _ 1 _ _ _ hg1
  have y2 : w1.cell? ⟨w.heap.size + 1, 2, none⟩ = some (.int .i64 u) := cell_of_row _ _ 2 _ _ _ hg1
  have y3 : w1.cell? ⟨w.heap.size + 1, 3, none⟩ = some (.int .i64 n) := cell_of_row _ _ 3 _ _ _ hg1
  have x0 : w1.cell? ⟨w.heap.size, 0, none⟩ = some (.int .i64 0) := cell_of_row _ _ 0 _ _ _ hg0
  have x1 : w1.cell? ⟨w.heap.size, 1, none⟩ = some (.int .i64 0) := cell_of_row _ _ 1 _ _ _ hg0
  have x2 : w1.cell? ⟨w.heap.size, 2, none⟩ = some (.int .i64 0) := cell_of_row _ _ 2 _ _ _ hg0
  have x3 : w1.cell? ⟨w.heap.size, 3, none⟩ = some (.int .i64 0) := cell_of_row _ _ 3 _ _ _ hg0
  have f0 : w1.frozen? ⟨w.heap.size, 0, none⟩ = false := frozen_at hg0
  have f1 : w1.frozen? ⟨w.heap.size, 1, none⟩ = false := frozen_at hg0
  have f2 : w1.frozen? ⟨w.heap.size, 2, none⟩ = false := frozen_at hg0
  have f3 : w1.frozen? ⟨w.heap.size, 3, none⟩ = false := frozen_at hg0
  have hz := set4_heap hg0 (.int .i64 0) (.int .i64 0) (.int .i64 0) (.int .i64 0)
  have HE := Lib.hid (set4_below (w := w1) (g := w.heap.size) HB1.out (Nat.le_refl _) (.int .i64 0) (.int .i64 0) (.int .i64 0) (.int .i64 0))
  clear hg0 hg1
  go_wp2_with fail
  generalize hW : set4 w1 w.heap.size (.int .i64 0) (.int .i64 0) (.int .i64 0) (.int .i64 0) = W2 at *
  unfold set4 at hW
  rw [hW]
  clear hW
  have z0 : W2.cell? ⟨w.heap.size, 0, none⟩ = some (.int .i64 0) := cell_of_row _ _ 0 _ _ _ hz
  have z1 : W2.cell? ⟨w.heap.size, 1, none⟩ = some (.int .i64 0) := cell_of_row _ _ 1 _ _ _ hz
  have z2 : W2.cell? ⟨w.heap.size, 2, none⟩ = some (.int .i64 0) := cell_of_row _ _ 2 _ _ _ hz
  have z3 : W2.cell? ⟨w.heap.size, 3, none⟩ = some (.int .i64 0) := cell_of_row _ _ 3 _ _ _ hz
  exact bodyPost_ret (v := .tuple #[.agg #[.int .i64 0, .int .i64 0, .int .i64 0, .int .i64 0], .int .i64 1]) (by simp [results, Try.results20, go_sem, z0, z1, z2, z3]) rfl ⟨rfl, HE.out⟩

set_option maxRecDepth 100000 in
set_option maxHeartbeats 8000000 in
theorem most_b (r u l t k : Int) (w : World) : Calls Try.prog 18 #[.agg #[.int .i64 r, .int .i64 u, .int .i64 l, .int .i64 t], .int .i64 k] w fun e w' => e = .returned (.int .i64 (mostV r u l t k)) ∧ Below w.heap.size w w' := by
  obtain ⟨F, hF⟩ : ∃ F, rightB r u l t = F := ⟨_, rfl⟩
  have HV := Lib.hid (show mostV r u l t k = if F = true then near (near u + near (near (near r * near k))) else 0 by unfold mostV; rw [hF])
  have HRG := Lib.hid (fun W => show Calls Try.prog 14 #[.agg #[.int .i64 r, .int .i64 u, .int .i64 l, .int .i64 t]] W fun e w' => e = .returned (.bool F) ∧ Below W.heap.size W w' from by rw [← hF]; exact right_b r u l t W)
  have HB0 := Lib.hid (show Below w.heap.size w (w.alloc (.cells #[.int .i64 r, .int .i64 u, .int .i64 l, .int .i64 t] 24)) from (Below.refl _ _).alloc (Nat.le_refl _) _)
  have hk0 := heap_alloc_new w (.cells #[.int .i64 r, .int .i64 u, .int .i64 l, .int .i64 t] 24)
  obtain ⟨M, hM⟩ : ∃ M, near (near r * near k) = M := ⟨_, rfl⟩
  obtain ⟨N, hN⟩ : ∃ N, near (near u + near M) = N := ⟨_, rfl⟩
  have HMU := Lib.hid (fun W => show Calls Try.prog 30 #[.int .i64 r, .int .i64 k] W fun e w' => e = .returned (.int .i64 M) ∧ Below W.heap.size W w' from by rw [← hM]; exact (mul_any r k W).mono (by rintro e w' ⟨rfl, q, rfl⟩; exact ⟨rfl, drewN_below _ _⟩))
  have HAD := Lib.hid (fun W => show Calls Try.prog 23 #[.int .i64 u, .int .i64 M] W fun e w' => e = .returned (.int .i64 N) ∧ W = w' from by rw [← hN]; exact add_any u M W)
  rw [hM, hN] at HV
  have HK0 := Lib.hid hk0
  clear hF hM hN hk0
  go_enter Try.func18, Try.ntmps18
  go_wp2_with fail
  generalize w.alloc (.cells #[.int .i64 r, .int .i64 u, .int .i64 l, .int .i64 t] 24) = w1 at *
  refine (HRG.out _).mono ?_
  rintro e w3 ⟨rfl, hb⟩
  have HB3 := Lib.hid (seqB HB0.out hb)
  have HG := Lib.hid ((hb.block _ (blk_lt HK0.out)).trans HK0.out)
  clear hb
  cases F with
  | false =>
    go_wp2_with fail
    go_ret
    exact ⟨ret_int (by rw [HV.out]; rfl), HB3.out⟩
  | true =>
    have HCK := Lib.hid (show ∀ W, Below w3.heap.size w3 W → (W.cell? ⟨w.heap.size, 0, none⟩ = some (.int .i64 r) ∧ W.cell? ⟨w.heap.size, 1, none⟩ = some (.int .i64 u)) ∧ Below w3.heap.size w3 W from
      fun W hb => ⟨⟨cell_of_row _ _ 0 _ _ _ ((hb.block _ (blk_lt HG.out)).trans HG.out), cell_of_row _ _ 1 _ _ _ ((hb.block _ (blk_lt HG.out)).trans HG.out)⟩, hb⟩)
    go_wp2_with fail
    go_region_held (fun W => (W.cell? ⟨w.heap.size, 0, none⟩ = some (.int .i64 r) ∧ W.cell? ⟨w.heap.size, 1, none⟩ = some (.int .i64 u)) ∧ Below w3.heap.size w3 W)
      ((refine HCK.out _ ?_
        go_split_ands
        first
          | with_reducible exact (Below.refl _ _).drew
          | with_reducible assumption))
      (first
        | (go_at_call 30; go_split_ands; (with_reducible refine Calls.mono (HMU.out _) ?_); rintro e w5 ⟨rfl, hb⟩; (have hb5 := seqB (by assumption) hb); clear hb)
        | (go_at_call 23; go_split_ands; (with_reducible refine Calls.mono (HAD.out _) ?_); rintro e w6 ⟨rfl, rfl⟩))
    have HE := Lib.hid (seqB HB3.out hb5)
    clear hb5
    go_wp2_with fail
    go_ret
    exact ⟨ret_int (by rw [HV.out]; rfl), HE.out⟩
end Go.Proofs.Ytidklcjacejkaaa
