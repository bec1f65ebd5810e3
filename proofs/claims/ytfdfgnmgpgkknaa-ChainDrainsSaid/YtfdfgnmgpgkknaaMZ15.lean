/-
  Contracts: what tick's own nearest, Right, Add, Mul answer. Conditions: none.
  Contracts: what tick's own Sub and Up, and the bucket's own trimmed answer. Conditions: none.
-/
import Derived.Test.YtfdfgnmgpgkknaaMZ1
import Derived.RegionTactic
namespace Go.Proofs.Ytfdfgnmgpgkknaa.gb
open Go.RowKit

set_option maxHeartbeats 400000 in
theorem nearest_any (n : Int) (w : World) : Calls Try.prog 83 #[.int .i64 n] w fun e w' => e = .returned (.int .i64 (near n)) ∧ w = w' := by
  go_enter Try.func83, Try.ntmps83
  go_wp2
  all_goals go_ret
  all_goals exact ⟨ret_int (by unfold near; (repeat' split at *) <;> omega), rfl⟩

set_option maxHeartbeats 400000 in
theorem right_any (n : Int) (w : World) : Calls Try.prog 89 #[.int .i64 n] w fun e w' => e = .returned (.bool (n == near n)) ∧ w = w' := by
  go_enter Try.func89, Try.ntmps89
  go_wp2_with (go_at_call 83; refine (nearest_any _ _).mono ?_; rintro e w' ⟨rfl, rfl⟩)
  go_ret
  exact ⟨rfl, rfl⟩

set_option maxHeartbeats 400000 in
theorem add_any (a b : Int) (w : World) : Calls Try.prog 63 #[.int .i64 a, .int .i64 b] w fun e w' => e = .returned (.int .i64 (near (near a + near b))) ∧ w = w' := by
  have ha := near_range a
  have hb := near_range b
  go_enter Try.func63, Try.ntmps63
  go_wp2_with (go_at_call 83; refine (nearest_any _ _).mono ?_; rintro e w' ⟨rfl, rfl⟩)
  go_ret
  exact ⟨rfl, rfl⟩

theorem mul64_int (x y : Int) (hx0 : 0 ≤ x) (hx : x < 18446744073709551616) (hy0 : 0 ≤ y) (hy : y < 18446744073709551616) (w : World) :
    Calls Try.prog 95 #[.int .u64 x, .int .u64 y] w fun e w' => e = .returned (.tuple #[.int .u64 (x * y / 18446744073709551616), .int .u64 (x * y % 18446744073709551616)]) ∧ w = w' := by
  obtain ⟨a, rfl⟩ := Int.eq_ofNat_of_zero_le hx0
  obtain ⟨b, rfl⟩ := Int.eq_ofNat_of_zero_le hy0
  refine (Try.bits_Mul64 a b (by omega) (by omega) w).mono ?_
  rintro e w' ⟨rfl, rfl⟩
  exact ⟨by simp, rfl⟩

set_option maxHeartbeats 400000 in
theorem div64_low (lo y : Int) (h0 : 0 ≤ lo) (h1 : lo < 18446744073709551616) (hy0 : 1 ≤ y) (hy : y < 18446744073709551616) (w : World) :
    Calls Try.prog 100 #[.int .u64 0, .int .u64 lo, .int .u64 y] w fun e w' => e = .returned (.tuple #[.int .u64 (lo / y), .int .u64 (lo % y)]) ∧ ∃ n, w' = w.drewN n := by
  have c0 : (y == 0) = false := by simp; omega
  have c1 : decide (y ≤ 0) = false := by simp; omega
  go_enter Try.func100, Try.ntmps100
  go_wp2_with fail
  go_quiet (fail)
  go_wp2_with fail
  go_ret2
  exact ⟨rfl, _, rfl⟩

theorem mul64_low (x y : Int) (hx0 : 0 ≤ x) (hx : x < 18446744073709551616) (hy0 : 0 ≤ y) (hy : y < 18446744073709551616) (h : x * y < 18446744073709551616) (w : World) :
    Calls Try.prog 95 #[.int .u64 x, .int .u64 y] w fun e w' => e = .returned (.tuple #[.int .u64 0, .int .u64 (x * y)]) ∧ w = w' := by
  have h0 : 0 ≤ x * y := Int.mul_nonneg hx0 hy0
  refine (mul64_int x y hx0 hx hy0 hy w).mono ?_
  rintro e w' ⟨rfl, rfl⟩
  refine ⟨?_, rfl⟩
  rw [Int.ediv_eq_zero_of_lt h0 h, Int.emod_eq_of_lt h0 h]

def shareF (a b c : Int) : Int := if near a = 0 ∨ near b = 0 then 0 else if near c = 0 then 1099511627776 else if near a * near b / near c ≤ 1099511627776 then near a * near b / near c else 1099511627776

set_option maxHeartbeats 400000 in
theorem share_zero (a b c : Int) (h : near a = 0 ∨ near b = 0) (w : World) :
    Calls Try.prog 98 #[.int .i64 a, .int .i64 b, .int .i64 c] w fun e w' => e = .returned (.int .i64 (shareF a b c)) ∧ ∃ n, w' = w.drewN n := by
  have HF := Lib.hid (show shareF a b c = 0 by unfold shareF; rw [if_pos h])
  by_cases e0 : near a = 0
  · have c0 : (near a == 0) = true := by simp [e0]
    clear e0 h
    go_enter Try.func98, Try.ntmps98
    go_wp2_with (go_at_call 83; refine (nearest_any _ _).mono ?_; rintro e w' ⟨rfl, rfl⟩)
    go_ret
    exact ⟨ret_int HF.out.symm, 0, rfl⟩
  · have c0 : (near a == 0) = false := by simp [e0]
    have c1 : (near b == 0) = true := by simp; omega
    clear e0 h
    go_enter Try.func98, Try.ntmps98
    go_wp2_with (go_at_call 83; refine (nearest_any _ _).mono ?_; rintro e w' ⟨rfl, rfl⟩)
    go_ret
    exact ⟨ret_int HF.out.symm, 0, rfl⟩


set_option maxHeartbeats 400000 in
theorem share_high (a b c : Int) (ha1 : 1 ≤ near a) (hb1 : 1 ≤ near b) (h : near c ≤ near a * near b / 18446744073709551616) (w : World) :
    Calls Try.prog 98 #[.int .i64 a, .int .i64 b, .int .i64 c] w fun e w' => e = .returned (.int .i64 (shareF a b c)) ∧ ∃ n, w' = w.drewN n := by
  have ha := near_range a
  have hb := near_range b
  have hc := near_range c
  have hp := prod_range _ _ ha hb
  have c0 : (near a == 0) = false := by simp; omega
  have c1 : (near b == 0) = false := by simp; omega
  have HF := Lib.hid (show shareF a b c = 1099511627776 by
    unfold shareF
    rw [if_neg (by omega)]
    by_cases e : near c = 0
    · rw [if_pos e]
    · rw [if_neg e, if_neg]
      have h1 : near c * 18446744073709551616 ≤ near a * near b := by omega
      have h2 : 18446744073709551616 ≤ near a * near b / near c := by
        rw [Int.le_ediv_iff_mul_le (by omega), Int.mul_comm]; exact h1
      omega)
  go_enter Try.func98, Try.ntmps98
  go_wp2_with (first | (go_at_call 83; refine (nearest_any _ _).mono ?_; rintro e w' ⟨rfl, rfl⟩) | (go_at_call 95; refine (mul64_int _ _ (by omega) (by omega) (by omega) (by omega) _).mono ?_; rintro e w' ⟨rfl, rfl⟩))
  go_ret
  exact ⟨ret_int HF.out.symm, 0, rfl⟩

set_option maxHeartbeats 400000 in
theorem share_low (a b c : Int) (ha1 : 1 ≤ near a) (hb1 : 1 ≤ near b) (hc1 : 1 ≤ near c) (h : near a * near b < 18446744073709551616) (w : World) :
    Calls Try.prog 98 #[.int .i64 a, .int .i64 b, .int .i64 c] w fun e w' => e = .returned (.int .i64 (shareF a b c)) ∧ ∃ n, w' = w.drewN n := by
  have ha := near_range a
  have hb := near_range b
  have hc := near_range c
  have hp := prod_range _ _ ha hb
  have c0 : (near a == 0) = false := by simp; omega
  have c1 : (near b == 0) = false := by simp; omega
  have c2 : decide (near c ≤ 0) = false := by simp; omega
  have HF := Lib.hid (show shareF a b c = if near a * near b / near c ≤ 1099511627776 then near a * near b / near c else 1099511627776 by
    unfold shareF
    rw [if_neg (by omega), if_neg (by omega)])
  have q0 : 0 ≤ near a * near b / near c := Int.ediv_nonneg (by omega) (by omega)
  go_enter Try.func98, Try.ntmps98
  go_wp2_with (first | (go_at_call 83; refine (nearest_any _ _).mono ?_; rintro e w' ⟨rfl, rfl⟩) | (go_at_call 95; refine (mul64_low _ _ (by omega) (by omega) (by omega) (by omega) h _).mono ?_; rintro e w' ⟨rfl, rfl⟩) | (go_at_call 100; refine (div64_low _ _ (by omega) (by omega) (by omega) (by omega) _).mono ?_; rintro e w' ⟨rfl, n, rfl⟩))
  all_goals go_ret
  all_goals exact ⟨ret_int (by rw [HF.out]; first | exact Int.min_def _ _ | (split <;> omega)), _, rfl⟩


theorem shareF_one (a b : Int) : shareF a b 1 = near (near a * near b) := by
  have ha := near_range a
  have hb := near_range b
  have hp := prod_range _ _ ha hb
  have h1 : near 1 = 1 := by decide
  unfold shareF
  rw [h1, Int.ediv_one, if_neg (show ¬ ((1 : Int) = 0) by omega)]
  split
  · rename_i h
    rcases h with h | h <;> rw [h] <;> simp [near]
  · rw [near_nonneg _ hp.1]
    (repeat' split) <;> omega

theorem mul_near (a b : Int) (w : World) : Calls Try.prog 98 #[.int .i64 a, .int .i64 b, .int .i64 1] w fun e w' => e = .returned (.int .i64 (near (near a * near b))) ∧ ∃ n, w' = w.drewN n := by
  have ha := near_range a
  have hb := near_range b
  have hp := prod_range _ _ ha hb
  have h1 : near 1 = 1 := by decide
  rw [← shareF_one]
  by_cases h0 : near a = 0 ∨ near b = 0
  · exact share_zero a b 1 h0 w
  · by_cases hl : near a * near b < 18446744073709551616
    · exact share_low a b 1 (by omega) (by omega) (by omega) hl w
    · exact share_high a b 1 (by omega) (by omega) (by omega) w

set_option maxHeartbeats 400000 in
theorem mul_any (a b : Int) (w : World) : Calls Try.prog 93 #[.int .i64 a, .int .i64 b] w fun e w' => e = .returned (.int .i64 (near (near a * near b))) ∧ ∃ n, w' = w.drewN n := by
  go_enter Try.func93, Try.ntmps93
  go_wp2_with (go_at_call 98; refine (mul_near _ _ _).mono ?_; rintro e w' ⟨rfl, n, rfl⟩)
  go_ret
  exact ⟨rfl, _, rfl⟩
end Go.Proofs.Ytfdfgnmgpgkknaa.gb
namespace Go.Proofs.Ytfdfgnmgpgkknaa.gb
open Go.RowKit

set_option maxHeartbeats 400000 in
theorem sub_any (a b : Int) (w : World) : Calls Try.prog 92 #[.int .i64 a, .int .i64 b] w fun e w' => e = .returned (.int .i64 (near (near a - near b))) ∧ w = w' := by
  have ha := near_range a
  have hb := near_range b
  go_enter Try.func92, Try.ntmps92
  go_wp2_with (go_at_call 83; refine (nearest_any _ _).mono ?_; rintro e w' ⟨rfl, rfl⟩)
  go_ret
  exact ⟨rfl, rfl⟩

/-- What Up answers. -/
def upF (a b : Int) : Int := if near a = 0 then 0 else if near b = 0 then 1099511627776 else (near a + near b - 1) / near b
/-- A level that is not above the burst. -/
def trimL (u l : Int) : Int := if u < l then u else l
set_option maxRecDepth 100000 in
set_option maxHeartbeats 4000000 in
theorem trim_any (r u l t : Int) (w : World) : Calls Try.prog 78 #[.agg #[.int .i64 r, .int .i64 u, .int .i64 l, .int .i64 t]] w fun e w' => e = .returned (.agg #[.int .i64 r, .int .i64 u, .int .i64 (trimL u l), .int .i64 t]) ∧ Below w.heap.size w w' := by
  obtain ⟨W0, hW0⟩ : ∃ W0, (w.alloc (.cells #[.int .i64 r, .int .i64 u, .int .i64 l, .int .i64 t] 70)).alloc (.cells #[.int .i64 0, .int .i64 0, .int .i64 0, .int .i64 0] 70) = W0 := ⟨_, rfl⟩
  have hb0 : Below W0.heap.size W0 W0 := Below.refl _ _
  have HB0 := below2 w (.cells #[.int .i64 r, .int .i64 u, .int .i64 l, .int .i64 t] 70) (.cells #[.int .i64 0, .int .i64 0, .int .i64 0, .int .i64 0] 70)
  have hg := two_blocks (w := w) (o0 := .cells #[.int .i64 r, .int .i64 u, .int .i64 l, .int .i64 t] 70) (o1 := .cells #[.int .i64 0, .int .i64 0, .int .i64 0, .int .i64 0] 70) (w1 := W0) (by rw [hW0]; exact hb0)
  rw [hW0] at HB0
  obtain ⟨hg0, hg1, hlt⟩ := hg
  have HB := Lib.hid HB0
  clear HB0 hb0
  have x0 : W0.cell? ⟨w.heap.size, 0, none⟩ = some (.int .i64 r) := cell_of_row _ _ 0 _ _ _ hg0
  have x1 : W0.cell? ⟨w.heap.size, 1, none⟩ = some (.int .i64 u) := cell_of_row _ _ 1 _ _ _ hg0
  have x2 : W0.cell? ⟨w.heap.size, 2, none⟩ = some (.int .i64 l) := cell_of_row _ _ 2 _ _ _ hg0
  have x3 : W0.cell? ⟨w.heap.size, 3, none⟩ = some (.int .i64 t) := cell_of_row _ _ 3 _ _ _ hg0
  have e2 : W0.frozen? ⟨w.heap.size, 2, none⟩ = false := frozen_at hg0
  have HG0 := Lib.hid hg0
  have HG1 := Lib.hid hg1
  clear hg0 hg1
  by_cases hul : u < l
  · have HF := Lib.hid (show trimL u l = u by unfold trimL; rw [if_pos hul])
    go_enter Try.func78, Try.ntmps78
    go_upto_region 2 with fail
    have hg0 := set_heap (i := 2) HG0.out (.int .i64 u)
    have hd := HB.out.setCell (p := ⟨w.heap.size, 2, none⟩) (Nat.le_refl _) (.int .i64 u)
    have hg1 := (Below.heap_setCell W0 ⟨w.heap.size, 2, none⟩ (.int .i64 u) (w.heap.size + 1) (by simp)).trans HG1.out
    generalize W0.setCell ⟨w.heap.size, 2, none⟩ (.int .i64 u) = W2 at *
    clear x0 x1 x2 x3 e2
    have hg0 : W2.heap[w.heap.size]? = some (.cells #[.int .i64 r, .int .i64 u, .int .i64 u, .int .i64 t] 70 (0, 0)) := hg0
    have x0 : W2.cell? ⟨w.heap.size, 0, none⟩ = some (.int .i64 r) := cell_of_row _ _ 0 _ _ _ hg0
    have x1 : W2.cell? ⟨w.heap.size, 1, none⟩ = some (.int .i64 u) := cell_of_row _ _ 1 _ _ _ hg0
    have x2 : W2.cell? ⟨w.heap.size, 2, none⟩ = some (.int .i64 u) := cell_of_row _ _ 2 _ _ _ hg0
    have x3 : W2.cell? ⟨w.heap.size, 3, none⟩ = some (.int .i64 t) := cell_of_row _ _ 3 _ _ _ hg0
    have y0 : W2.cell? ⟨w.heap.size + 1, 0, none⟩ = some (.int .i64 0) := cell_of_row _ _ 0 _ _ _ hg1
    have y1 : W2.cell? ⟨w.heap.size + 1, 1, none⟩ = some (.int .i64 0) := cell_of_row _ _ 1 _ _ _ hg1
    have y2 : W2.cell? ⟨w.heap.size + 1, 2, none⟩ = some (.int .i64 0) := cell_of_row _ _ 2 _ _ _ hg1
    have y3 : W2.cell? ⟨w.heap.size + 1, 3, none⟩ = some (.int .i64 0) := cell_of_row _ _ 3 _ _ _ hg1
    have f0 : W2.frozen? ⟨w.heap.size + 1, 0, none⟩ = false := frozen_at hg1
    have f1 : W2.frozen? ⟨w.heap.size + 1, 1, none⟩ = false := frozen_at hg1
    have f2 : W2.frozen? ⟨w.heap.size + 1, 2, none⟩ = false := frozen_at hg1
    have f3 : W2.frozen? ⟨w.heap.size + 1, 3, none⟩ = false := frozen_at hg1
    have hlt2 : w.heap.size + 1 < W2.heap.size := blk_lt hg1
    have hz := set4_heap hg1 (.int .i64 r) (.int .i64 u) (.int .i64 u) (.int .i64 t)
    have HD := Lib.hid (set4_below hd (show w.heap.size ≤ w.heap.size + 1 by omega) (.int .i64 r) (.int .i64 u) (.int .i64 u) (.int .i64 t))
    clear hg0 hg1 hd hlt
    go_wp2_with fail
    generalize hW : set4 W2 (w.heap.size + 1) (.int .i64 r) (.int .i64 u) (.int .i64 u) (.int .i64 t) = W at *
    unfold set4 at hW
    rw [hW]
    clear hW
    have z0 : W.cell? ⟨w.heap.size + 1, 0, none⟩ = some (.int .i64 r) := cell_of_row W _ 0 _ _ _ hz
    have z1 : W.cell? ⟨w.heap.size + 1, 1, none⟩ = some (.int .i64 u) := cell_of_row W _ 1 _ _ _ hz
    have z2 : W.cell? ⟨w.heap.size + 1, 2, none⟩ = some (.int .i64 u) := cell_of_row W _ 2 _ _ _ hz
    have z3 : W.cell? ⟨w.heap.size + 1, 3, none⟩ = some (.int .i64 t) := cell_of_row W _ 3 _ _ _ hz
    exact bodyPost_ret (v := .agg #[.int .i64 r, .int .i64 u, .int .i64 u, .int .i64 t]) (by simp [results, Try.results78, go_sem, z0, z1, z2, z3]) rfl ⟨by rw [HF.out], HD.out⟩
  · have HF := Lib.hid (show trimL u l = l by unfold trimL; rw [if_neg hul])
    go_enter Try.func78, Try.ntmps78
    go_upto_region 2 with fail
    have hg0 := set_heap (i := 2) HG0.out (.int .i64 l)
    have hd := HB.out.setCell (p := ⟨w.heap.size, 2, none⟩) (Nat.le_refl _) (.int .i64 l)
    have hg1 := (Below.heap_setCell W0 ⟨w.heap.size, 2, none⟩ (.int .i64 l) (w.heap.size + 1) (by simp)).trans HG1.out
    generalize W0.setCell ⟨w.heap.size, 2, none⟩ (.int .i64 l) = W2 at *
    clear x0 x1 x2 x3 e2
    have hg0 : W2.heap[w.heap.size]? = some (.cells #[.int .i64 r, .int .i64 u, .int .i64 l, .int .i64 t] 70 (0, 0)) := hg0
    have x0 : W2.cell? ⟨w.heap.size, 0, none⟩ = some (.int .i64 r) := cell_of_row _ _ 0 _ _ _ hg0
    have x1 : W2.cell? ⟨w.heap.size, 1, none⟩ = some (.int .i64 u) := cell_of_row _ _ 1 _ _ _ hg0
    have x2 : W2.cell? ⟨w.heap.size, 2, none⟩ = some (.int .i64 l) := cell_of_row _ _ 2 _ _ _ hg0
    have x3 : W2.cell? ⟨w.heap.size, 3, none⟩ = some (.int .i64 t) := cell_of_row _ _ 3 _ _ _ hg0
    have y0 : W2.cell? ⟨w.heap.size + 1, 0, none⟩ = some (.int .i64 0) := cell_of_row _ _ 0 _ _ _ hg1
    have y1 : W2.cell? ⟨w.heap.size + 1, 1, none⟩ = some (.int .i64 0) := cell_of_row _ _ 1 _ _ _ hg1
    have y2 : W2.cell? ⟨w.heap.size + 1, 2, none⟩ = some (.int .i64 0) := cell_of_row _ _ 2 _ _ _ hg1
    have y3 : W2.cell? ⟨w.heap.size + 1, 3, none⟩ = some (.int .i64 0) := cell_of_row _ _ 3 _ _ _ hg1
    have f0 : W2.frozen? ⟨w.heap.size + 1, 0, none⟩ = false := frozen_at hg1
    have f1 : W2.frozen? ⟨w.heap.size + 1, 1, none⟩ = false := frozen_at hg1
    have f2 : W2.frozen? ⟨w.heap.size + 1, 2, none⟩ = false := frozen_at hg1
    have f3 : W2.frozen? ⟨w.heap.size + 1, 3, none⟩ = false := frozen_at hg1
    have hlt2 : w.heap.size + 1 < W2.heap.size := blk_lt hg1
    have hz := set4_heap hg1 (.int .i64 r) (.int .i64 u) (.int .i64 l) (.int .i64 t)
    have HD := Lib.hid (set4_below hd (show w.heap.size ≤ w.heap.size + 1 by omega) (.int .i64 r) (.int .i64 u) (.int .i64 l) (.int .i64 t))
    clear hg0 hg1 hd hlt
    go_wp2_with fail
    generalize hW : set4 W2 (w.heap.size + 1) (.int .i64 r) (.int .i64 u) (.int .i64 l) (.int .i64 t) = W at *
    unfold set4 at hW
    rw [hW]
    clear hW
    have z0 : W.cell? ⟨w.heap.size + 1, 0, none⟩ = some (.int .i64 r) := cell_of_row W _ 0 _ _ _ hz
    have z1 : W.cell? ⟨w.heap.size + 1, 1, none⟩ = some (.int .i64 u) := cell_of_row W _ 1 _ _ _ hz
    have z2 : W.cell? ⟨w.heap.size + 1, 2, none⟩ = some (.int .i64 l) := cell_of_row W _ 2 _ _ _ hz
    have z3 : W.cell? ⟨w.heap.size + 1, 3, none⟩ = some (.int .i64 t) := cell_of_row W _ 3 _ _ _ hz
    exact bodyPost_ret (v := .agg #[.int .i64 r, .int .i64 u, .int .i64 l, .int .i64 t]) (by simp [results, Try.results78, go_sem, z0, z1, z2, z3]) rfl ⟨by rw [HF.out], HD.out⟩
end Go.Proofs.Ytfdfgnmgpgkknaa.gb
