/-
  Contracts: what tick's own Sub and Up, and the bucket's own trimmed answer. Conditions: none.
-/
import Derived.Test.YtidklcjacejkaaaK1
import Derived.Test.YtidklcjacejkaaaB6
namespace Go.Proofs.Ytidklcjacejkaaa
open Go.RowKit

set_option maxHeartbeats 400000 in
theorem sub_any (a b : Int) (w : World) : Calls Try.prog 25 #[.int .i64 a, .int .i64 b] w fun e w' => e = .returned (.int .i64 (near (near a - near b))) ∧ w = w' := by
  have ha := near_range a
  have hb := near_range b
  go_enter Try.func25, Try.ntmps25
  go_wp2_with (go_at_call 35; refine (nearest_any _ _).mono ?_; rintro e w' ⟨rfl, rfl⟩)
  go_ret
  exact ⟨rfl, rfl⟩

/-- What Up answers. -/
def upF (a b : Int) : Int := if near a = 0 then 0 else if near b = 0 then 1099511627776 else (near a + near b - 1) / near b
set_option maxHeartbeats 400000 in
theorem up_any (a b : Int) (w : World) : Calls Try.prog 24 #[.int .i64 a, .int .i64 b] w fun e w' => e = .returned (.int .i64 (upF a b)) ∧ w = w' := by
  have ha := near_range a
  have hb := near_range b
  by_cases h0 : near a = 0
  · have HF := Lib.hid (show upF a b = 0 by unfold upF; rw [if_pos h0])
    have c0 : (near a == 0) = true := by simp [h0]
    clear h0
    go_enter Try.func24, Try.ntmps24
    go_wp2_with (go_at_call 35; refine (nearest_any _ _).mono ?_; rintro e w' ⟨rfl, rfl⟩)
    go_ret
    exact ⟨ret_int HF.out.symm, rfl⟩
  · have c0 : (near a == 0) = false := by simp [h0]
    by_cases h1 : near b = 0
    · have HF := Lib.hid (show upF a b = 1099511627776 by unfold upF; rw [if_neg h0, if_pos h1])
      have c1 : (near b == 0) = true := by simp [h1]
      clear h0 h1
      go_enter Try.func24, Try.ntmps24
      go_wp2_with (go_at_call 35; refine (nearest_any _ _).mono ?_; rintro e w' ⟨rfl, rfl⟩)
      go_ret
      exact ⟨ret_int HF.out.symm, rfl⟩
    · have HF := Lib.hid (show upF a b = (near a + near b - 1) / near b by unfold upF; rw [if_neg h0, if_neg h1])
      have c1 : (near b == 0) = false := by simp [h1]
      have hb1 : 1 ≤ near b := by omega
      have ha1 : 1 ≤ near a := by omega
      clear h0 h1
      go_enter Try.func24, Try.ntmps24
      go_wp2_with (go_at_call 35; refine (nearest_any _ _).mono ?_; rintro e w' ⟨rfl, rfl⟩)
      go_ret
      exact ⟨ret_int HF.out.symm, rfl⟩

/-- A level that is not above the burst. -/
def trimL (u l : Int) : Int := if u < l then u else l
set_option maxRecDepth 100000 in
set_option maxHeartbeats 4000000 in
theorem trim_any (r u l t : Int) (w : World) : Calls Try.prog 27 #[.agg #[.int .i64 r, .int .i64 u, .int .i64 l, .int .i64 t]] w fun e w' => e = .returned (.agg #[.int .i64 r, .int .i64 u, .int .i64 (trimL u l), .int .i64 t]) ∧ Below w.heap.size w w' := by
  obtain ⟨W0, hW0⟩ : ∃ W0, (w.alloc (.cells #[.int .i64 r, .int .i64 u, .int .i64 l, .int .i64 t] 24)).alloc (.cells #[.int .i64 0, .int .i64 0, .int .i64 0, .int .i64 0] 24) = W0 := ⟨_, rfl⟩
  have hb0 : Below W0.heap.size W0 W0 := Below.refl _ _
  have HB0 := below2 w (.cells #[.int .i64 r, .int .i64 u, .int .i64 l, .int .i64 t] 24) (.cells #[.int .i64 0, .int .i64 0, .int .i64 0, .int .i64 0] 24)
  have hg := two_blocks (w := w) (o0 := .cells #[.int .i64 r, .int .i64 u, .int .i64 l, .int .i64 t] 24) (o1 := .cells #[.int .i64 0, .int .i64 0, .int .i64 0, .int .i64 0] 24) (w1 := W0) (by rw [hW0]; exact hb0)
  rw [hW0] at HB0
  obtain ⟨hg0, hg1, hlt⟩ := hg
  have HB := Lib.hid HB0
  clear HB0 hb0
  have x0 : W0.cell? ⟨w.heap.size, 0, none⟩ = some (.int .i64 r) := cell_of_row _ _ 0 _ _ _ hg0
  have x1 : W0.cell? ⟨w.heap.size, 1, none⟩ = some (.int .i64 u) := cell_of_row _ _ 1 _ _ _ hg0
  have x2 : W0.cell? ⟨w.heap.size, 2, none⟩ = some (.int .i64 l) := cell_of_row _ _ 2 _ _ _ hg0
  have x3 : W0.cell? ⟨w.heap.size, 3, none⟩ = some (.int .i64 t) := cell_of_row _ _ 3 _ _ _ hg0
  have e2 : W0.frozen? ⟨w.heap.size, 2, none⟩ = false := frozen_at hg0
  have HG0 := Lib.hid hg0
  have HG1 := Lib.hid hg1
  clear hg0 hg1
  by_cases hul : u < l
  · have HF := Lib.hid (show trimL u l = u by unfold trimL; rw [if_pos hul])
    go_enter Try.func27, Try.ntmps27
    go_upto_region 2 with fail
    have hg0 := set_heap (i := 2) HG0.out (.int .i64 u)
    have hd := HB.out.setCell (p := ⟨w.heap.size, 2, none⟩) (Nat.le_refl _) (.int .i64 u)
    have hg1 := (Below.heap_setCell W0 ⟨w.heap.size, 2, none⟩ (.int .i64 u) (w.heap.size + 1) (by simp)).trans HG1.out
    generalize W0.setCell ⟨w.heap.size, 2, none⟩ (.int .i64 u) = W2 at *
    clear x0 x1 x2 x3 e2
    have hg0 : W2.heap[w.heap.size]? = some (.cells #[.int .i64 r, .int .i64 u, .int .i64 u, .int .i64 t] 24 (0, 0)) := hg0
    have x0 : W2.cell? ⟨w.heap.size, 0, none⟩ = some (.int .i64 r) := cell_of_row _ _ 0 _ _ _ hg0
    have x1 : W2.cell? ⟨w.heap.size, 1, none⟩ = some (.int .i64 u) := cell_of_row _ _ 1 _ _ _ hg0
    have x2 : W2.cell? ⟨w.heap.size, 2, none⟩ = some (.int .i64 u) := cell_of_row _ _ 2 _ _ _ hg0
    have x3 : W2.cell? ⟨w.heap.size, 3, none⟩ = some (.int .i64 t) := cell_of_row _ _ 3 _ _ _ hg0
    have y0 : W2.cell? ⟨w.heap.size + 1, 0, none⟩ = some (.int .i64 0) := cell_of_row _ _ 0 _ _ _ hg1
    have y1 : W2.cell? ⟨w.heap.size + 1, 1, none⟩ = some (.int .i64 0) := cell_of_row _ _ 1 _ _ _ hg1
    have y2 : W2.cell? ⟨w.heap.size + 1, 2, none⟩ = some (.int .i64 0) := cell_of_row _ _ 2 _ _ _ hg1
    have y3 : W2.cell? ⟨w.heap.size + 1, 3, none⟩ = some (.int .i64 0) := cell_of_row _ _ 3 _ _ _ hg1
    have f0 : W2.frozen? ⟨w.heap.size + 1, 0, none⟩ = false := frozen_at hg1
    have f1 : W2.frozen? ⟨w.heap.size + 1, 1, none⟩ = false := frozen_at hg1
    have f2 : W2.frozen? ⟨w.heap.size + 1, 2, none⟩ = false := frozen_at hg1
    have f3 : W2.frozen? ⟨w.heap.size + 1, 3, none⟩ = false := frozen_at hg1
    have hlt2 : w.heap.size + 1 < W2.heap.size := blk_lt hg1
    have hz := set4_heap hg1 (.int .i64 r) (.int .i64 u) (.int .i64 u) (.int .i64 t)
    have HD := Lib.hid (set4_below hd (show w.heap.size ≤ w.heap.size + 1 by omega) (.int .i64 r) (.int .i64 u) (.int .i64 u) (.int .i64 t))
    clear hg0 hg1 hd hlt
    go_wp2_with fail
    generalize hW : set4 W2 (w.heap.size + 1) (.int .i64 r) (.int .i64 u) (.int .i64 u) (.int .i64 t) = W at *
    unfold set4 at hW
    rw [hW]
    clear hW
    have z0 : W.cell? ⟨w.heap.size + 1, 0, none⟩ = some (.int .i64 r) := cell_of_row W _ 0 _ _ _ hz
    have z1 : W.cell? ⟨w.heap.size + 1, 1, none⟩ = some (.int .i64 u) := cell_of_row W _ 1 _ _ _ hz
    have z2 : W.cell? ⟨w.heap.size + 1, 2, none⟩ = some (.int .i64 u) := cell_of_row W _ 2 _ _ _ hz
    have z3 : W.cell? ⟨w.heap.size + 1, 3, none⟩ = some (.int .i64 t) := cell_of_row W _ 3 _ _ _ hz
    exact bodyPost_ret (v := .agg #[.int .i64 r, .int .i64 u, .int .i64 u, .int .i64 t]) (by simp [results, Try.results27, go_sem, z0, z1, z2, z3]) rfl ⟨by rw [HF.out], HD.out⟩
  · have HF := Lib.hid (show trimL u l = l by unfold trimL; rw [if_neg hul])
    go_enter Try.func27, Try.ntmps27
    go_upto_region 2 with fail
    have hg0 := set_heap (i := 2) HG0.out (.int .i64 l)
    have hd := HB.out.setCell (p := ⟨w.heap.size, 2, none⟩) (Nat.le_refl _) (.int .i64 l)
    have hg1 := (Below.heap_setCell W0 ⟨w.heap.size, 2, none⟩ (.int .i64 l) (w.heap.size + 1) (by simp)).trans HG1.out
    generalize W0.setCell ⟨w.heap.size, 2, none⟩ (.int .i64 l) = W2 at *
    clear x0 x1 x2 x3 e2
    have hg0 : W2.heap[w.heap.size]? = some (.cells #[.int .i64 r, .int .i64 u, .int .i64 l, .int .i64 t] 24 (0, 0)) := hg0
    have x0 : W2.cell? ⟨w.heap.size, 0, none⟩ = some (.int .i64 r) := cell_of_row _ _ 0 _ _ _ hg0
    have x1 : W2.cell? ⟨w.heap.size, 1, none⟩ = some (.int .i64 u) := cell_of_row _ _ 1 _ _ _ hg0
    have x2 : W2.cell? ⟨w.heap.size, 2, none⟩ = some (.int .i64 l) := cell_of_row _ _ 2 _ _ _ hg0
    have x3 : W2.cell? ⟨w.heap.size, 3, none⟩ = some (.int .i64 t) := cell_of_row _ _ 3 _ _ _ hg0
    have y0 : W2.cell? ⟨w.heap.size + 1, 0, none⟩ = some (.int .i64 0) := cell_of_row _ _ 0 _ _ _ hg1
    have y1 : W2.cell? ⟨w.heap.size + 1, 1, none⟩ = some (.int .i64 0) := cell_of_row _ _ 1 _ _ _ hg1
    have y2 : W2.cell? ⟨w.heap.size + 1, 2, none⟩ = some (.int .i64 0) := cell_of_row _ _ 2 _ _ _ hg1
    have y3 : W2.cell? ⟨w.heap.size + 1, 3, none⟩ = some (.int .i64 0) := cell_of_row _ _ 3 _ _ _ hg1
    have f0 : W2.frozen? ⟨w.heap.size + 1, 0, none⟩ = false := frozen_at hg1
    have f1 : W2.frozen? ⟨w.heap.size + 1, 1, none⟩ = false := frozen_at hg1
    have f2 : W2.frozen? ⟨w.heap.size + 1, 2, none⟩ = false := frozen_at hg1
    have f3 : W2.frozen? ⟨w.heap.size + 1, 3, none⟩ = false := frozen_at hg1
    have hlt2 : w.heap.size + 1 < W2.heap.size := blk_lt hg1
    have hz := set4_heap hg1 (.int .i64 r) (.int .i64 u) (.int .i64 l) (.int .i64 t)
    have HD := Lib.hid (set4_below hd (show w.heap.size ≤ w.heap.size + 1 by omega) (.int .i64 r) (.int .i64 u) (.int .i64 l) (.int .i64 t))
    clear hg0 hg1 hd hlt
    go_wp2_with fail
    generalize hW : set4 W2 (w.heap.size + 1) (.int .i64 r) (.int .i64 u) (.int .i64 l) (.int .i64 t) = W at *
    unfold set4 at hW
    rw [hW]
    clear hW
    have z0 : W.cell? ⟨w.heap.size + 1, 0, none⟩ = some (.int .i64 r) := cell_of_row W _ 0 _ _ _ hz
    have z1 : W.cell? ⟨w.heap.size + 1, 1, none⟩ = some (.int .i64 u) := cell_of_row W _ 1 _ _ _ hz
    have z2 : W.cell? ⟨w.heap.size + 1, 2, none⟩ = some (.int .i64 l) := cell_of_row W _ 2 _ _ _ hz
    have z3 : W.cell? ⟨w.heap.size + 1, 3, none⟩ = some (.int .i64 t) := cell_of_row W _ 3 _ _ _ hz
    exact bodyPost_ret (v := .agg #[.int .i64 r, .int .i64 u, .int .i64 l, .int .i64 t]) (by simp [results, Try.results27, go_sem, z0, z1, z2, z3]) rfl ⟨by rw [HF.out], HD.out⟩
end Go.Proofs.Ytidklcjacejkaaa
