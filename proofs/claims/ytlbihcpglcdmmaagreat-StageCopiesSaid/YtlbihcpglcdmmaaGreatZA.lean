/-
  Contracts: what tick's own nearest, Right, Add, Mul answer. Conditions: none.
  Contracts: what tick's own Sub and Up, and the bucket's own trimmed answer. Conditions: none.
  Contracts: what the bucket's own Right and New answer. Conditions: none.
  Contracts: what the bucket's own New and Most answer. Conditions: as each states.
  Contract: what the bucket's own Fill answers. Conditions: none.
  Contract: what the bucket's own Take answers. Conditions: as each states.
-/
import Derived.Test.YtlbihcpglcdmmaaGreatZ1
import Derived.Test.YtlbihcpglcdmmaaGreatShelfB
import Derived.RegionTactic
import Derived.Deep.RegionLaw
namespace Go.Proofs.YtlbihcpglcdmmaaGreat.gb
open Go.RowKit

set_option maxHeartbeats 400000 in
theorem nearest_any (n : Int) (w : World) : Calls Tryz.prog 64 #[.int .i64 n] w fun e w' => e = .returned (.int .i64 (near n)) ∧ w = w' := by
  go_enter Tryz.func64, Tryz.ntmps64
  go_wp2
  all_goals go_ret
  all_goals exact ⟨ret_int (by unfold near; (repeat' split at *) <;> omega), rfl⟩

set_option maxHeartbeats 400000 in
theorem right_any (n : Int) (w : World) : Calls Tryz.prog 62 #[.int .i64 n] w fun e w' => e = .returned (.bool (n == near n)) ∧ w = w' := by
  go_enter Tryz.func62, Tryz.ntmps62
  go_wp2_with (go_at_call 64; refine (nearest_any _ _).mono ?_; rintro e w' ⟨rfl, rfl⟩)
  go_ret
  exact ⟨rfl, rfl⟩

set_option maxHeartbeats 400000 in
theorem add_any (a b : Int) (w : World) : Calls Tryz.prog 38 #[.int .i64 a, .int .i64 b] w fun e w' => e = .returned (.int .i64 (near (near a + near b))) ∧ w = w' := by
  have ha := near_range a
  have hb := near_range b
  go_enter Tryz.func38, Tryz.ntmps38
  go_wp2_with (go_at_call 64; refine (nearest_any _ _).mono ?_; rintro e w' ⟨rfl, rfl⟩)
  go_ret
  exact ⟨rfl, rfl⟩

theorem mul64_int (x y : Int) (hx0 : 0 ≤ x) (hx : x < 18446744073709551616) (hy0 : 0 ≤ y) (hy : y < 18446744073709551616) (w : World) :
    Calls Tryz.prog 101 #[.int .u64 x, .int .u64 y] w fun e w' => e = .returned (.tuple #[.int .u64 (x * y / 18446744073709551616), .int .u64 (x * y % 18446744073709551616)]) ∧ w = w' := by
  obtain ⟨a, rfl⟩ := Int.eq_ofNat_of_zero_le hx0
  obtain ⟨b, rfl⟩ := Int.eq_ofNat_of_zero_le hy0
  refine (Tryz.bits_Mul64 a b (by omega) (by omega) w).mono ?_
  rintro e w' ⟨rfl, rfl⟩
  exact ⟨by simp, rfl⟩

set_option maxHeartbeats 400000 in
theorem div64_low (lo y : Int) (h0 : 0 ≤ lo) (h1 : lo < 18446744073709551616) (hy0 : 1 ≤ y) (hy : y < 18446744073709551616) (w : World) :
    Calls Tryz.prog 107 #[.int .u64 0, .int .u64 lo, .int .u64 y] w fun e w' => e = .returned (.tuple #[.int .u64 (lo / y), .int .u64 (lo % y)]) ∧ ∃ n, w' = w.drewN n := by
  have c0 : (y == 0) = false := by simp; omega
  have c1 : decide (y ≤ 0) = false := by simp; omega
  go_enter Tryz.func107, Tryz.ntmps107
  go_wp2_with fail
  go_quiet (fail)
  go_wp2_with fail
  go_ret2
  exact ⟨rfl, _, rfl⟩

theorem mul64_low (x y : Int) (hx0 : 0 ≤ x) (hx : x < 18446744073709551616) (hy0 : 0 ≤ y) (hy : y < 18446744073709551616) (h : x * y < 18446744073709551616) (w : World) :
    Calls Tryz.prog 101 #[.int .u64 x, .int .u64 y] w fun e w' => e = .returned (.tuple #[.int .u64 0, .int .u64 (x * y)]) ∧ w = w' := by
  have h0 : 0 ≤ x * y := Int.mul_nonneg hx0 hy0
  refine (mul64_int x y hx0 hx hy0 hy w).mono ?_
  rintro e w' ⟨rfl, rfl⟩
  refine ⟨?_, rfl⟩
  rw [Int.ediv_eq_zero_of_lt h0 h, Int.emod_eq_of_lt h0 h]

def shareF (a b c : Int) : Int := if near a = 0 ∨ near b = 0 then 0 else if near c = 0 then 1099511627776 else if near a * near b / near c ≤ 1099511627776 then near a * near b / near c else 1099511627776

set_option maxHeartbeats 400000 in
theorem share_zero (a b c : Int) (h : near a = 0 ∨ near b = 0) (w : World) :
    Calls Tryz.prog 105 #[.int .i64 a, .int .i64 b, .int .i64 c] w fun e w' => e = .returned (.int .i64 (shareF a b c)) ∧ ∃ n, w' = w.drewN n := by
  have HF := Lib.hid (show shareF a b c = 0 by unfold shareF; rw [if_pos h])
  by_cases e0 : near a = 0
  · have c0 : (near a == 0) = true := by simp [e0]
    clear e0 h
    go_enter Tryz.func105, Tryz.ntmps105
    go_wp2_with (go_at_call 64; refine (nearest_any _ _).mono ?_; rintro e w' ⟨rfl, rfl⟩)
    go_ret
    exact ⟨ret_int HF.out.symm, 0, rfl⟩
  · have c0 : (near a == 0) = false := by simp [e0]
    have c1 : (near b == 0) = true := by simp; omega
    clear e0 h
    go_enter Tryz.func105, Tryz.ntmps105
    go_wp2_with (go_at_call 64; refine (nearest_any _ _).mono ?_; rintro e w' ⟨rfl, rfl⟩)
    go_ret
    exact ⟨ret_int HF.out.symm, 0, rfl⟩


set_option maxHeartbeats 400000 in
theorem share_high (a b c : Int) (ha1 : 1 ≤ near a) (hb1 : 1 ≤ near b) (h : near c ≤ near a * near b / 18446744073709551616) (w : World) :
    Calls Tryz.prog 105 #[.int .i64 a, .int .i64 b, .int .i64 c] w fun e w' => e = .returned (.int .i64 (shareF a b c)) ∧ ∃ n, w' = w.drewN n := by
  have ha := near_range a
  have hb := near_range b
  have hc := near_range c
  have hp := prod_range _ _ ha hb
  have c0 : (near a == 0) = false := by simp; omega
  have c1 : (near b == 0) = false := by simp; omega
  have HF := Lib.hid (show shareF a b c = 1099511627776 by
    unfold shareF
    rw [if_neg (by omega)]
    by_cases e : near c = 0
    · rw [if_pos e]
    · rw [if_neg e, if_neg]
      have h1 : near c * 18446744073709551616 ≤ near a * near b := by omega
      have h2 : 18446744073709551616 ≤ near a * near b / near c := by
        rw [Int.le_ediv_iff_mul_le (by omega), Int.mul_comm]; exact h1
      omega)
  go_enter Tryz.func105, Tryz.ntmps105
  go_wp2_with (first | (go_at_call 64; refine (nearest_any _ _).mono ?_; rintro e w' ⟨rfl, rfl⟩) | (go_at_call 101; refine (mul64_int _ _ (by omega) (by omega) (by omega) (by omega) _).mono ?_; rintro e w' ⟨rfl, rfl⟩))
  go_ret
  exact ⟨ret_int HF.out.symm, 0, rfl⟩

set_option maxHeartbeats 400000 in
theorem share_low (a b c : Int) (ha1 : 1 ≤ near a) (hb1 : 1 ≤ near b) (hc1 : 1 ≤ near c) (h : near a * near b < 18446744073709551616) (w : World) :
    Calls Tryz.prog 105 #[.int .i64 a, .int .i64 b, .int .i64 c] w fun e w' => e = .returned (.int .i64 (shareF a b c)) ∧ ∃ n, w' = w.drewN n := by
  have ha := near_range a
  have hb := near_range b
  have hc := near_range c
  have hp := prod_range _ _ ha hb
  have c0 : (near a == 0) = false := by simp; omega
  have c1 : (near b == 0) = false := by simp; omega
  have c2 : decide (near c ≤ 0) = false := by simp; omega
  have HF := Lib.hid (show shareF a b c = if near a * near b / near c ≤ 1099511627776 then near a * near b / near c else 1099511627776 by
    unfold shareF
    rw [if_neg (by omega), if_neg (by omega)])
  have q0 : 0 ≤ near a * near b / near c := Int.ediv_nonneg (by omega) (by omega)
  go_enter Tryz.func105, Tryz.ntmps105
  go_wp2_with (first | (go_at_call 64; refine (nearest_any _ _).mono ?_; rintro e w' ⟨rfl, rfl⟩) | (go_at_call 101; refine (mul64_low _ _ (by omega) (by omega) (by omega) (by omega) h _).mono ?_; rintro e w' ⟨rfl, rfl⟩) | (go_at_call 107; refine (div64_low _ _ (by omega) (by omega) (by omega) (by omega) _).mono ?_; rintro e w' ⟨rfl, n, rfl⟩))
  all_goals go_ret
  all_goals exact ⟨ret_int (by rw [HF.out]; first | exact Int.min_def _ _ | (split <;> omega)), _, rfl⟩


theorem shareF_one (a b : Int) : shareF a b 1 = near (near a * near b) := by
  have ha := near_range a
  have hb := near_range b
  have hp := prod_range _ _ ha hb
  have h1 : near 1 = 1 := by decide
  unfold shareF
  rw [h1, Int.ediv_one, if_neg (show ¬ ((1 : Int) = 0) by omega)]
  split
  · rename_i h
    rcases h with h | h <;> rw [h] <;> simp [near]
  · rw [near_nonneg _ hp.1]
    (repeat' split) <;> omega

theorem mul_near (a b : Int) (w : World) : Calls Tryz.prog 105 #[.int .i64 a, .int .i64 b, .int .i64 1] w fun e w' => e = .returned (.int .i64 (near (near a * near b))) ∧ ∃ n, w' = w.drewN n := by
  have ha := near_range a
  have hb := near_range b
  have hp := prod_range _ _ ha hb
  have h1 : near 1 = 1 := by decide
  rw [← shareF_one]
  by_cases h0 : near a = 0 ∨ near b = 0
  · exact share_zero a b 1 h0 w
  · by_cases hl : near a * near b < 18446744073709551616
    · exact share_low a b 1 (by omega) (by omega) (by omega) hl w
    · exact share_high a b 1 (by omega) (by omega) (by omega) w

set_option maxHeartbeats 400000 in
theorem mul_any (a b : Int) (w : World) : Calls Tryz.prog 99 #[.int .i64 a, .int .i64 b] w fun e w' => e = .returned (.int .i64 (near (near a * near b))) ∧ ∃ n, w' = w.drewN n := by
  go_enter Tryz.func99, Tryz.ntmps99
  go_wp2_with (go_at_call 105; refine (mul_near _ _ _).mono ?_; rintro e w' ⟨rfl, n, rfl⟩)
  go_ret
  exact ⟨rfl, _, rfl⟩
end Go.Proofs.YtlbihcpglcdmmaaGreat.gb
namespace Go.Proofs.YtlbihcpglcdmmaaGreat.gb
open Go.RowKit

set_option maxHeartbeats 400000 in
theorem sub_any (a b : Int) (w : World) : Calls Tryz.prog 98 #[.int .i64 a, .int .i64 b] w fun e w' => e = .returned (.int .i64 (near (near a - near b))) ∧ w = w' := by
  have ha := near_range a
  have hb := near_range b
  go_enter Tryz.func98, Tryz.ntmps98
  go_wp2_with (go_at_call 64; refine (nearest_any _ _).mono ?_; rintro e w' ⟨rfl, rfl⟩)
  go_ret
  exact ⟨rfl, rfl⟩

/-- What Up answers. -/
def upF (a b : Int) : Int := if near a = 0 then 0 else if near b = 0 then 1099511627776 else (near a + near b - 1) / near b
/-- A level that is not above the burst. -/
def trimL (u l : Int) : Int := if u < l then u else l
set_option maxRecDepth 100000 in
set_option maxHeartbeats 4000000 in
theorem trim_any (r u l t : Int) (w : World) : Calls Tryz.prog 65 #[.agg #[.int .i64 r, .int .i64 u, .int .i64 l, .int .i64 t]] w fun e w' => e = .returned (.agg #[.int .i64 r, .int .i64 u, .int .i64 (trimL u l), .int .i64 t]) ∧ Below w.heap.size w w' := by
  obtain ⟨W0, hW0⟩ : ∃ W0, (w.alloc (.cells #[.int .i64 r, .int .i64 u, .int .i64 l, .int .i64 t] 56)).alloc (.cells #[.int .i64 0, .int .i64 0, .int .i64 0, .int .i64 0] 56) = W0 := ⟨_, rfl⟩
  have hb0 : Below W0.heap.size W0 W0 := Below.refl _ _
  have HB0 := below2 w (.cells #[.int .i64 r, .int .i64 u, .int .i64 l, .int .i64 t] 56) (.cells #[.int .i64 0, .int .i64 0, .int .i64 0, .int .i64 0] 56)
  have hg := two_blocks (w := w) (o0 := .cells #[.int .i64 r, .int .i64 u, .int .i64 l, .int .i64 t] 56) (o1 := .cells #[.int .i64 0, .int .i64 0, .int .i64 0, .int .i64 0] 56) (w1 := W0) (by rw [hW0]; exact hb0)
  rw [hW0] at HB0
  obtain ⟨hg0, hg1, hlt⟩ := hg
  have HB := Lib.hid HB0
  clear HB0 hb0
  have x0 : W0.cell? ⟨w.heap.size, 0, none⟩ = some (.int .i64 r) := cell_of_row _ _ 0 _ _ _ hg0
  have x1 : W0.cell? ⟨w.heap.size, 1, none⟩ = some (.int .i64 u) := cell_of_row _ _ 1 _ _ _ hg0
  have x2 : W0.cell? ⟨w.heap.size, 2, none⟩ = some (.int .i64 l) := cell_of_row _ _ 2 _ _ _ hg0
  have x3 : W0.cell? ⟨w.heap.size, 3, none⟩ = some (.int .i64 t) := cell_of_row _ _ 3 _ _ _ hg0
  have e2 : W0.frozen? ⟨w.heap.size, 2, none⟩ = false := frozen_at hg0
  have HG0 := Lib.hid hg0
  have HG1 := Lib.hid hg1
  clear hg0 hg1
  by_cases hul : u < l
  · have HF := Lib.hid (show trimL u l = u by unfold trimL; rw [if_pos hul])
    go_enter Tryz.func65, Tryz.ntmps65
    go_upto_region 2 with fail
    have hg0 := set_heap (i := 2) HG0.out (.int .i64 u)
    have hd := HB.out.setCell (p := ⟨w.heap.size, 2, none⟩) (Nat.le_refl _) (.int .i64 u)
    have hg1 := (Below.heap_setCell W0 ⟨w.heap.size, 2, none⟩ (.int .i64 u) (w.heap.size + 1) (by simp)).trans HG1.out
    generalize W0.setCell ⟨w.heap.size, 2, none⟩ (.int .i64 u) = W2 at *
    clear x0 x1 x2 x3 e2
    have hg0 : W2.heap[w.heap.size]? = some (.cells #[.int .i64 r, .int .i64 u, .int .i64 u, .int .i64 t] 56 (0, 0)) := hg0
    have x0 : W2.cell? ⟨w.heap.size, 0, none⟩ = some (.int .i64 r) := cell_of_row _ _ 0 _ _ _ hg0
    have x1 : W2.cell? ⟨w.heap.size, 1, none⟩ = some (.int .i64 u) := cell_of_row _ _ 1 _ _ _ hg0
    have x2 : W2.cell? ⟨w.heap.size, 2, none⟩ = some (.int .i64 u) := cell_of_row _ _ 2 _ _ _ hg0
    have x3 : W2.cell? ⟨w.heap.size, 3, none⟩ = some (.int .i64 t) := cell_of_row _ _ 3 _ _ _ hg0
    have y0 : W2.cell? ⟨w.heap.size + 1, 0, none⟩ = some (.int .i64 0) := cell_of_row _ _ 0 _ _ _ hg1
    have y1 : W2.cell? ⟨w.heap.size + 1, 1, none⟩ = some (.int .i64 0) := cell_of_row _ _ 1 _ _ _ hg1
    have y2 : W2.cell? ⟨w.heap.size + 1, 2, none⟩ = some (.int .i64 0) := cell_of_row _ _ 2 _ _ _ hg1
    have y3 : W2.cell? ⟨w.heap.size + 1, 3, none⟩ = some (.int .i64 0) := cell_of_row _ _ 3 _ _ _ hg1
    have f0 : W2.frozen? ⟨w.heap.size + 1, 0, none⟩ = false := frozen_at hg1
    have f1 : W2.frozen? ⟨w.heap.size + 1, 1, none⟩ = false := frozen_at hg1
    have f2 : W2.frozen? ⟨w.heap.size + 1, 2, none⟩ = false := frozen_at hg1
    have f3 : W2.frozen? ⟨w.heap.size + 1, 3, none⟩ = false := frozen_at hg1
    have hlt2 : w.heap.size + 1 < W2.heap.size := blk_lt hg1
    have hz := set4_heap hg1 (.int .i64 r) (.int .i64 u) (.int .i64 u) (.int .i64 t)
    have HD := Lib.hid (set4_below hd (show w.heap.size ≤ w.heap.size + 1 by omega) (.int .i64 r) (.int .i64 u) (.int .i64 u) (.int .i64 t))
    clear hg0 hg1 hd hlt
    go_wp2_with fail
    generalize hW : set4 W2 (w.heap.size + 1) (.int .i64 r) (.int .i64 u) (.int .i64 u) (.int .i64 t) = W at *
    unfold set4 at hW
    rw [hW]
    clear hW
    have z0 : W.cell? ⟨w.heap.size + 1, 0, none⟩ = some (.int .i64 r) := cell_of_row W _ 0 _ _ _ hz
    have z1 : W.cell? ⟨w.heap.size + 1, 1, none⟩ = some (.int .i64 u) := cell_of_row W _ 1 _ _ _ hz
    have z2 : W.cell? ⟨w.heap.size + 1, 2, none⟩ = some (.int .i64 u) := cell_of_row W _ 2 _ _ _ hz
    have z3 : W.cell? ⟨w.heap.size + 1, 3, none⟩ = some (.int .i64 t) := cell_of_row W _ 3 _ _ _ hz
    exact bodyPost_ret (v := .agg #[.int .i64 r, .int .i64 u, .int .i64 u, .int .i64 t]) (by simp [results, Tryz.results65, go_sem, z0, z1, z2, z3]) rfl ⟨by rw [HF.out], HD.out⟩
  · have HF := Lib.hid (show trimL u l = l by unfold trimL; rw [if_neg hul])
    go_enter Tryz.func65, Tryz.ntmps65
    go_upto_region 2 with fail
    have hg0 := set_heap (i := 2) HG0.out (.int .i64 l)
    have hd := HB.out.setCell (p := ⟨w.heap.size, 2, none⟩) (Nat.le_refl _) (.int .i64 l)
    have hg1 := (Below.heap_setCell W0 ⟨w.heap.size, 2, none⟩ (.int .i64 l) (w.heap.size + 1) (by simp)).trans HG1.out
    generalize W0.setCell ⟨w.heap.size, 2, none⟩ (.int .i64 l) = W2 at *
    clear x0 x1 x2 x3 e2
    have hg0 : W2.heap[w.heap.size]? = some (.cells #[.int .i64 r, .int .i64 u, .int .i64 l, .int .i64 t] 56 (0, 0)) := hg0
    have x0 : W2.cell? ⟨w.heap.size, 0, none⟩ = some (.int .i64 r) := cell_of_row _ _ 0 _ _ _ hg0
    have x1 : W2.cell? ⟨w.heap.size, 1, none⟩ = some (.int .i64 u) := cell_of_row _ _ 1 _ _ _ hg0
    have x2 : W2.cell? ⟨w.heap.size, 2, none⟩ = some (.int .i64 l) := cell_of_row _ _ 2 _ _ _ hg0
    have x3 : W2.cell? ⟨w.heap.size, 3, none⟩ = some (.int .i64 t) := cell_of_row _ _ 3 _ _ _ hg0
    have y0 : W2.cell? ⟨w.heap.size + 1, 0, none⟩ = some (.int .i64 0) := cell_of_row _ _ 0 _ _ _ hg1
    have y1 : W2.cell? ⟨w.heap.size + 1, 1, none⟩ = some (.int .i64 0) := cell_of_row _ _ 1 _ _ _ hg1
    have y2 : W2.cell? ⟨w.heap.size + 1, 2, none⟩ = some (.int .i64 0) := cell_of_row _ _ 2 _ _ _ hg1
    have y3 : W2.cell? ⟨w.heap.size + 1, 3, none⟩ = some (.int .i64 0) := cell_of_row _ _ 3 _ _ _ hg1
    have f0 : W2.frozen? ⟨w.heap.size + 1, 0, none⟩ = false := frozen_at hg1
    have f1 : W2.frozen? ⟨w.heap.size + 1, 1, none⟩ = false := frozen_at hg1
    have f2 : W2.frozen? ⟨w.heap.size + 1, 2, none⟩ = false := frozen_at hg1
    have f3 : W2.frozen? ⟨w.heap.size + 1, 3, none⟩ = false := frozen_at hg1
    have hlt2 : w.heap.size + 1 < W2.heap.size := blk_lt hg1
    have hz := set4_heap hg1 (.int .i64 r) (.int .i64 u) (.int .i64 l) (.int .i64 t)
    have HD := Lib.hid (set4_below hd (show w.heap.size ≤ w.heap.size + 1 by omega) (.int .i64 r) (.int .i64 u) (.int .i64 l) (.int .i64 t))
    clear hg0 hg1 hd hlt
    go_wp2_with fail
    generalize hW : set4 W2 (w.heap.size + 1) (.int .i64 r) (.int .i64 u) (.int .i64 l) (.int .i64 t) = W at *
    unfold set4 at hW
    rw [hW]
    clear hW
    have z0 : W.cell? ⟨w.heap.size + 1, 0, none⟩ = some (.int .i64 r) := cell_of_row W _ 0 _ _ _ hz
    have z1 : W.cell? ⟨w.heap.size + 1, 1, none⟩ = some (.int .i64 u) := cell_of_row W _ 1 _ _ _ hz
    have z2 : W.cell? ⟨w.heap.size + 1, 2, none⟩ = some (.int .i64 l) := cell_of_row W _ 2 _ _ _ hz
    have z3 : W.cell? ⟨w.heap.size + 1, 3, none⟩ = some (.int .i64 t) := cell_of_row W _ 3 _ _ _ hz
    exact bodyPost_ret (v := .agg #[.int .i64 r, .int .i64 u, .int .i64 l, .int .i64 t]) (by simp [results, Tryz.results65, go_sem, z0, z1, z2, z3]) rfl ⟨by rw [HF.out], HD.out⟩
end Go.Proofs.YtlbihcpglcdmmaaGreat.gb
namespace Go.Proofs.YtlbihcpglcdmmaaGreat.gb
open Go.RowKit

theorem right_is (n : Int) (w : World) : Calls Tryz.prog 62 #[.int .i64 n] w fun e w' => e = .returned (.bool (isR n)) ∧ w = w' := by
  refine (right_any n w).mono ?_
  rintro e w' ⟨rfl, rfl⟩
  exact ⟨ret_bool (by unfold isR; rw [Bool.eq_iff_iff, beq_iff_eq, beq_iff_eq]; exact eq_comm), rfl⟩

set_option maxRecDepth 100000 in
set_option maxHeartbeats 8000000 in
theorem right_b (r u l t : Int) (w : World) : Calls Tryz.prog 39 #[.agg #[.int .i64 r, .int .i64 u, .int .i64 l, .int .i64 t]] w fun e w' => e = .returned (.bool (rightB r u l t)) ∧ Below w.heap.size w w' := by
  have HI := Lib.hid right_is
  have HT := Lib.hid (fun W => trim_any r u l t W)
  have HB0 := Lib.hid (show Below w.heap.size w (w.alloc (.cells #[.int .i64 r, .int .i64 u, .int .i64 l, .int .i64 t] 56)) from (Below.refl _ _).alloc (Nat.le_refl _) _)
  have HK0 := Lib.hid (heap_alloc_new w (.cells #[.int .i64 r, .int .i64 u, .int .i64 l, .int .i64 t] 56))
  have HF := Lib.hid (show rightB r u l t = (isR r && isR u && isR l && isR t && decide (u ≠ 0) && decide (l ≤ u)) from rfl)
  have HLT := Lib.hid (blk_lt HK0.out)
  obtain ⟨w1, hw1⟩ : ∃ w1, w.alloc (.cells #[.int .i64 r, .int .i64 u, .int .i64 l, .int .i64 t] 56) = w1 := ⟨_, rfl⟩
  rw [hw1] at HB0 HK0 HLT
  have x0 : w1.cell? ⟨w.heap.size, 0, none⟩ = some (.int .i64 r) := cell_of_row _ _ 0 _ _ _ HK0.out
  have x1 : w1.cell? ⟨w.heap.size, 1, none⟩ = some (.int .i64 u) := cell_of_row _ _ 1 _ _ _ HK0.out
  have x2 : w1.cell? ⟨w.heap.size, 2, none⟩ = some (.int .i64 l) := cell_of_row _ _ 2 _ _ _ HK0.out
  have x3 : w1.cell? ⟨w.heap.size, 3, none⟩ = some (.int .i64 t) := cell_of_row _ _ 3 _ _ _ HK0.out
  go_enter Tryz.func39, Tryz.ntmps39
  by_cases e4 : u = 0
  · have c0 : (u != 0) = false := by simp [e4]
    have HF2 := Lib.hid (show (decide (u ≠ 0)) = false by simp [e4])
    clear e4
    go_wp2_with fail
    go_step3
    go_wp2_with fail
    go_quiet (fail)
    have HB3 := Lib.hid (below_drewN HB0.out nq)
    go_wp2_with fail
    go_step3
    go_wp2_with fail
    go_loopw [3, 5, 24] (fun a _ i wr => ∃ k : Int, a = .bool false ∧ i = .int .i64 k ∧ (0 ≤ k ∧ k ≤ 4) ∧ Hid ((1 ≤ k → isR r = true) ∧ (2 ≤ k → isR u = true) ∧ (3 ≤ k → isR l = true) ∧ (4 ≤ k → isR t = true)) ∧ Hid (Below w.heap.size w wr)) (fun _ _ i _ => (4 - intOf i).toNat)
    case atStart => exact ⟨0, rfl, rfl, ⟨by omega, by omega⟩, Lib.hid ⟨by omega, by omega, by omega, by omega⟩, HB3⟩
    case round =>
      obtain ⟨k, rfl, rfl, hk, HK, HW⟩ := hrel
      have hk5 : k = 0 ∨ k = 1 ∨ k = 2 ∨ k = 3 ∨ k = 4 := by omega
      clear hk
      rcases hk5 with rfl | rfl | rfl | rfl | rfl
      · have hix : ∀ w, (Instr.index 108 (.agg #[.int .i64 r, .int .i64 u, .int .i64 l, .int .i64 t]) (.int .i64 0)).run Tryz.prog w = .ok (.int .i64 r) w := fun _ => by kernel_rfl
        go_wp2_with fail
        refine (HI.out _ _).mono ?_
        rintro e w' ⟨rfl, rfl⟩
        cases e0 : isR r with
        | false =>
          go_wp2_with fail
          try rw [Exit.noGoto_ret]
          go_ret
          exact ⟨ret_bool (by rw [HF.out]; simp [e0]), HW.out⟩
        | true =>
          have HK2 := Lib.hid e0
          clear e0
          go_wp2_with fail
          go_roundw
          case rel =>
            have h0 := HK.out
            have h1 := HK2.out
            exact ⟨1, rfl, rfl, ⟨by omega, by omega⟩, Lib.hid ⟨fun _ => h1, by omega, by omega, by omega⟩, HW⟩
          case measure => simp [intOf]
      · have hix : ∀ w, (Instr.index 108 (.agg #[.int .i64 r, .int .i64 u, .int .i64 l, .int .i64 t]) (.int .i64 1)).run Tryz.prog w = .ok (.int .i64 u) w := fun _ => by kernel_rfl
        go_wp2_with fail
        refine (HI.out _ _).mono ?_
        rintro e w' ⟨rfl, rfl⟩
        cases e1 : isR u with
        | false =>
          go_wp2_with fail
          try rw [Exit.noGoto_ret]
          go_ret
          exact ⟨ret_bool (by rw [HF.out]; simp [e1]), HW.out⟩
        | true =>
          have HK2 := Lib.hid e1
          clear e1
          go_wp2_with fail
          go_roundw
          case rel =>
            have h0 := HK.out
            have h1 := HK2.out
            exact ⟨2, rfl, rfl, ⟨by omega, by omega⟩, Lib.hid ⟨fun _ => h0.1 (by omega), fun _ => h1, by omega, by omega⟩, HW⟩
          case measure => simp [intOf]
      · have hix : ∀ w, (Instr.index 108 (.agg #[.int .i64 r, .int .i64 u, .int .i64 l, .int .i64 t]) (.int .i64 2)).run Tryz.prog w = .ok (.int .i64 l) w := fun _ => by kernel_rfl
        go_wp2_with fail
        refine (HI.out _ _).mono ?_
        rintro e w' ⟨rfl, rfl⟩
        cases e2 : isR l with
        | false =>
          go_wp2_with fail
          try rw [Exit.noGoto_ret]
          go_ret
          exact ⟨ret_bool (by rw [HF.out]; simp [e2]), HW.out⟩
        | true =>
          have HK2 := Lib.hid e2
          clear e2
          go_wp2_with fail
          go_roundw
          case rel =>
            have h0 := HK.out
            have h1 := HK2.out
            exact ⟨3, rfl, rfl, ⟨by omega, by omega⟩, Lib.hid ⟨fun _ => h0.1 (by omega), fun _ => h0.2.1 (by omega), fun _ => h1, by omega⟩, HW⟩
          case measure => simp [intOf]
      · have hix : ∀ w, (Instr.index 108 (.agg #[.int .i64 r, .int .i64 u, .int .i64 l, .int .i64 t]) (.int .i64 3)).run Tryz.prog w = .ok (.int .i64 t) w := fun _ => by kernel_rfl
        go_wp2_with fail
        refine (HI.out _ _).mono ?_
        rintro e w' ⟨rfl, rfl⟩
        cases e3 : isR t with
        | false =>
          go_wp2_with fail
          try rw [Exit.noGoto_ret]
          go_ret
          exact ⟨ret_bool (by rw [HF.out]; simp [e3]), HW.out⟩
        | true =>
          have HK2 := Lib.hid e3
          clear e3
          go_wp2_with fail
          go_roundw
          case rel =>
            have h0 := HK.out
            have h1 := HK2.out
            exact ⟨4, rfl, rfl, ⟨by omega, by omega⟩, Lib.hid ⟨fun _ => h0.1 (by omega), fun _ => h0.2.1 (by omega), fun _ => h0.2.2.1 (by omega), fun _ => h1⟩, HW⟩
          case measure => simp [intOf]
      · have h0 := HK.out
        have g0 := Lib.hid (h0.1 (by omega))
        have g1 := Lib.hid (h0.2.1 (by omega))
        have g2 := Lib.hid (h0.2.2.1 (by omega))
        have g3 := Lib.hid (h0.2.2.2 (by omega))
        clear h0
        go_wp2_with fail
        try rw [Exit.noGoto_ret]
        go_ret
        exact ⟨ret_bool (by rw [HF.out]; simp [g0.out, g1.out, g2.out, g3.out, HF2.out]), HW.out⟩
  · by_cases e5 : l ≤ u
    · have c0 : (u != 0) = true := by simp [e4]
      have HF2 := Lib.hid (show (decide (u ≠ 0)) = true by simp [e4])
      have HF3 := Lib.hid (show (decide (l ≤ u)) = true by simp [e5])
      have ev : trimL u l = l := by unfold trimL; rw [if_neg (by omega)]
      rw [ev] at HT
      clear e4 e5 ev
      have HCK := Lib.hid (show ∀ W, Below w1.heap.size w1 W → (W.cell? ⟨w.heap.size, 0, none⟩ = some (.int .i64 r) ∧ W.cell? ⟨w.heap.size, 1, none⟩ = some (.int .i64 u) ∧ W.cell? ⟨w.heap.size, 2, none⟩ = some (.int .i64 l) ∧ W.cell? ⟨w.heap.size, 3, none⟩ = some (.int .i64 t)) ∧ Below w1.heap.size w1 W from
        fun W hb => ⟨⟨cell_of_row _ _ 0 _ _ _ ((hb.block _ (blk_lt HK0.out)).trans HK0.out), cell_of_row _ _ 1 _ _ _ ((hb.block _ (blk_lt HK0.out)).trans HK0.out), cell_of_row _ _ 2 _ _ _ ((hb.block _ (blk_lt HK0.out)).trans HK0.out), cell_of_row _ _ 3 _ _ _ ((hb.block _ (blk_lt HK0.out)).trans HK0.out)⟩, hb⟩)
      go_wp2_with fail
      go_step3
      go_wp2_with fail
      go_region_held (fun W => (W.cell? ⟨w.heap.size, 0, none⟩ = some (.int .i64 r) ∧ W.cell? ⟨w.heap.size, 1, none⟩ = some (.int .i64 u) ∧ W.cell? ⟨w.heap.size, 2, none⟩ = some (.int .i64 l) ∧ W.cell? ⟨w.heap.size, 3, none⟩ = some (.int .i64 t)) ∧ Below w1.heap.size w1 W)
        ((refine HCK.out _ ?_
          go_split_ands
          first
            | with_reducible exact (Below.refl _ _).drew
            | with_reducible assumption))
        (first
          | (go_at_call 65; go_split_ands; (with_reducible refine Calls.mono (HT.out _) ?_); rintro e w5 ⟨rfl, hb⟩; (have hb5 := seqB (by assumption) hb); clear hb))
      have HB3 := Lib.hid (seqB HB0.out hb5)
      have hg0 := (hb5.block _ (blk_lt HK0.out)).trans HK0.out
      clear hb5 HCK x0 x1 x2 x3
      go_split_ands
      have x0 : w5.cell? ⟨w.heap.size, 0, none⟩ = some (.int .i64 r) := cell_of_row _ _ 0 _ _ _ hg0
      have x1 : w5.cell? ⟨w.heap.size, 1, none⟩ = some (.int .i64 u) := cell_of_row _ _ 1 _ _ _ hg0
      have x2 : w5.cell? ⟨w.heap.size, 2, none⟩ = some (.int .i64 l) := cell_of_row _ _ 2 _ _ _ hg0
      have x3 : w5.cell? ⟨w.heap.size, 3, none⟩ = some (.int .i64 t) := cell_of_row _ _ 3 _ _ _ hg0
      clear hg0
      go_wp2_with fail
      go_step3
      go_wp2_with fail
      go_loopw [3, 5, 24] (fun a _ i wr => ∃ k : Int, a = .bool true ∧ i = .int .i64 k ∧ (0 ≤ k ∧ k ≤ 4) ∧ Hid ((1 ≤ k → isR r = true) ∧ (2 ≤ k → isR u = true) ∧ (3 ≤ k → isR l = true) ∧ (4 ≤ k → isR t = true)) ∧ Hid (Below w.heap.size w wr)) (fun _ _ i _ => (4 - intOf i).toNat)
      case atStart => exact ⟨0, rfl, rfl, ⟨by omega, by omega⟩, Lib.hid ⟨by omega, by omega, by omega, by omega⟩, HB3⟩
      case round =>
        obtain ⟨k, rfl, rfl, hk, HK, HW⟩ := hrel
        have hk5 : k = 0 ∨ k = 1 ∨ k = 2 ∨ k = 3 ∨ k = 4 := by omega
        clear hk
        rcases hk5 with rfl | rfl | rfl | rfl | rfl
        · have hix : ∀ w, (Instr.index 108 (.agg #[.int .i64 r, .int .i64 u, .int .i64 l, .int .i64 t]) (.int .i64 0)).run Tryz.prog w = .ok (.int .i64 r) w := fun _ => by kernel_rfl
          go_wp2_with fail
          refine (HI.out _ _).mono ?_
          rintro e w' ⟨rfl, rfl⟩
          cases e0 : isR r with
          | false =>
            go_wp2_with fail
            try rw [Exit.noGoto_ret]
            go_ret
            exact ⟨ret_bool (by rw [HF.out]; simp [e0]), HW.out⟩
          | true =>
            have HK2 := Lib.hid e0
            clear e0
            go_wp2_with fail
            go_roundw
            case rel =>
              have h0 := HK.out
              have h1 := HK2.out
              exact ⟨1, rfl, rfl, ⟨by omega, by omega⟩, Lib.hid ⟨fun _ => h1, by omega, by omega, by omega⟩, HW⟩
            case measure => simp [intOf]
        · have hix : ∀ w, (Instr.index 108 (.agg #[.int .i64 r, .int .i64 u, .int .i64 l, .int .i64 t]) (.int .i64 1)).run Tryz.prog w = .ok (.int .i64 u) w := fun _ => by kernel_rfl
          go_wp2_with fail
          refine (HI.out _ _).mono ?_
          rintro e w' ⟨rfl, rfl⟩
          cases e1 : isR u with
          | false =>
            go_wp2_with fail
            try rw [Exit.noGoto_ret]
            go_ret
            exact ⟨ret_bool (by rw [HF.out]; simp [e1]), HW.out⟩
          | true =>
            have HK2 := Lib.hid e1
            clear e1
            go_wp2_with fail
            go_roundw
            case rel =>
              have h0 := HK.out
              have h1 := HK2.out
              exact ⟨2, rfl, rfl, ⟨by omega, by omega⟩, Lib.hid ⟨fun _ => h0.1 (by omega), fun _ => h1, by omega, by omega⟩, HW⟩
            case measure => simp [intOf]
        · have hix : ∀ w, (Instr.index 108 (.agg #[.int .i64 r, .int .i64 u, .int .i64 l, .int .i64 t]) (.int .i64 2)).run Tryz.prog w = .ok (.int .i64 l) w := fun _ => by kernel_rfl
          go_wp2_with fail
          refine (HI.out _ _).mono ?_
          rintro e w' ⟨rfl, rfl⟩
          cases e2 : isR l with
          | false =>
            go_wp2_with fail
            try rw [Exit.noGoto_ret]
            go_ret
            exact ⟨ret_bool (by rw [HF.out]; simp [e2]), HW.out⟩
          | true =>
            have HK2 := Lib.hid e2
            clear e2
            go_wp2_with fail
            go_roundw
            case rel =>
              have h0 := HK.out
              have h1 := HK2.out
              exact ⟨3, rfl, rfl, ⟨by omega, by omega⟩, Lib.hid ⟨fun _ => h0.1 (by omega), fun _ => h0.2.1 (by omega), fun _ => h1, by omega⟩, HW⟩
            case measure => simp [intOf]
        · have hix : ∀ w, (Instr.index 108 (.agg #[.int .i64 r, .int .i64 u, .int .i64 l, .int .i64 t]) (.int .i64 3)).run Tryz.prog w = .ok (.int .i64 t) w := fun _ => by kernel_rfl
          go_wp2_with fail
          refine (HI.out _ _).mono ?_
          rintro e w' ⟨rfl, rfl⟩
          cases e3 : isR t with
          | false =>
            go_wp2_with fail
            try rw [Exit.noGoto_ret]
            go_ret
            exact ⟨ret_bool (by rw [HF.out]; simp [e3]), HW.out⟩
          | true =>
            have HK2 := Lib.hid e3
            clear e3
            go_wp2_with fail
            go_roundw
            case rel =>
              have h0 := HK.out
              have h1 := HK2.out
              exact ⟨4, rfl, rfl, ⟨by omega, by omega⟩, Lib.hid ⟨fun _ => h0.1 (by omega), fun _ => h0.2.1 (by omega), fun _ => h0.2.2.1 (by omega), fun _ => h1⟩, HW⟩
            case measure => simp [intOf]
        · have h0 := HK.out
          have g0 := Lib.hid (h0.1 (by omega))
          have g1 := Lib.hid (h0.2.1 (by omega))
          have g2 := Lib.hid (h0.2.2.1 (by omega))
          have g3 := Lib.hid (h0.2.2.2 (by omega))
          clear h0
          go_wp2_with fail
          try rw [Exit.noGoto_ret]
          go_ret
          exact ⟨ret_bool (by rw [HF.out]; simp [g0.out, g1.out, g2.out, g3.out, HF2.out, HF3.out]), HW.out⟩
    · have c0 : (u != 0) = true := by simp [e4]
      have HF3 := Lib.hid (show (decide (l ≤ u)) = false by simp; omega)
      have ev : trimL u l = u := by unfold trimL; rw [if_pos (by omega)]
      have hne : (l == u) = false := by simp; omega
      rw [ev] at HT
      clear e4 e5 ev
      have HCK := Lib.hid (show ∀ W, Below w1.heap.size w1 W → (W.cell? ⟨w.heap.size, 0, none⟩ = some (.int .i64 r) ∧ W.cell? ⟨w.heap.size, 1, none⟩ = some (.int .i64 u) ∧ W.cell? ⟨w.heap.size, 2, none⟩ = some (.int .i64 l) ∧ W.cell? ⟨w.heap.size, 3, none⟩ = some (.int .i64 t)) ∧ Below w1.heap.size w1 W from
        fun W hb => ⟨⟨cell_of_row _ _ 0 _ _ _ ((hb.block _ (blk_lt HK0.out)).trans HK0.out), cell_of_row _ _ 1 _ _ _ ((hb.block _ (blk_lt HK0.out)).trans HK0.out), cell_of_row _ _ 2 _ _ _ ((hb.block _ (blk_lt HK0.out)).trans HK0.out), cell_of_row _ _ 3 _ _ _ ((hb.block _ (blk_lt HK0.out)).trans HK0.out)⟩, hb⟩)
      go_wp2_with fail
      go_step3
      go_wp2_with fail
      go_region_held (fun W => (W.cell? ⟨w.heap.size, 0, none⟩ = some (.int .i64 r) ∧ W.cell? ⟨w.heap.size, 1, none⟩ = some (.int .i64 u) ∧ W.cell? ⟨w.heap.size, 2, none⟩ = some (.int .i64 l) ∧ W.cell? ⟨w.heap.size, 3, none⟩ = some (.int .i64 t)) ∧ Below w1.heap.size w1 W)
        ((refine HCK.out _ ?_
          go_split_ands
          first
            | with_reducible exact (Below.refl _ _).drew
            | with_reducible assumption))
        (first
          | (go_at_call 65; go_split_ands; (with_reducible refine Calls.mono (HT.out _) ?_); rintro e w5 ⟨rfl, hb⟩; (have hb5 := seqB (by assumption) hb); clear hb))
      have HB3 := Lib.hid (seqB HB0.out hb5)
      have hg0 := (hb5.block _ (blk_lt HK0.out)).trans HK0.out
      clear hb5 HCK x0 x1 x2 x3
      go_split_ands
      have x0 : w5.cell? ⟨w.heap.size, 0, none⟩ = some (.int .i64 r) := cell_of_row _ _ 0 _ _ _ hg0
      have x1 : w5.cell? ⟨w.heap.size, 1, none⟩ = some (.int .i64 u) := cell_of_row _ _ 1 _ _ _ hg0
      have x2 : w5.cell? ⟨w.heap.size, 2, none⟩ = some (.int .i64 l) := cell_of_row _ _ 2 _ _ _ hg0
      have x3 : w5.cell? ⟨w.heap.size, 3, none⟩ = some (.int .i64 t) := cell_of_row _ _ 3 _ _ _ hg0
      clear hg0
      go_wp2_with fail
      go_step3
      go_wp2_with fail
      go_loopw [3, 5, 24] (fun a _ i wr => ∃ k : Int, a = .bool false ∧ i = .int .i64 k ∧ (0 ≤ k ∧ k ≤ 4) ∧ Hid ((1 ≤ k → isR r = true) ∧ (2 ≤ k → isR u = true) ∧ (3 ≤ k → isR l = true) ∧ (4 ≤ k → isR t = true)) ∧ Hid (Below w.heap.size w wr)) (fun _ _ i _ => (4 - intOf i).toNat)
      case atStart => exact ⟨0, rfl, rfl, ⟨by omega, by omega⟩, Lib.hid ⟨by omega, by omega, by omega, by omega⟩, HB3⟩
      case round =>
        obtain ⟨k, rfl, rfl, hk, HK, HW⟩ := hrel
        have hk5 : k = 0 ∨ k = 1 ∨ k = 2 ∨ k = 3 ∨ k = 4 := by omega
        clear hk
        rcases hk5 with rfl | rfl | rfl | rfl | rfl
        · have hix : ∀ w, (Instr.index 108 (.agg #[.int .i64 r, .int .i64 u, .int .i64 l, .int .i64 t]) (.int .i64 0)).run Tryz.prog w = .ok (.int .i64 r) w := fun _ => by kernel_rfl
          go_wp2_with fail
          refine (HI.out _ _).mono ?_
          rintro e w' ⟨rfl, rfl⟩
          cases e0 : isR r with
          | false =>
            go_wp2_with fail
            try rw [Exit.noGoto_ret]
            go_ret
            exact ⟨ret_bool (by rw [HF.out]; simp [e0]), HW.out⟩
          | true =>
            have HK2 := Lib.hid e0
            clear e0
            go_wp2_with fail
            go_roundw
            case rel =>
              have h0 := HK.out
              have h1 := HK2.out
              exact ⟨1, rfl, rfl, ⟨by omega, by omega⟩, Lib.hid ⟨fun _ => h1, by omega, by omega, by omega⟩, HW⟩
            case measure => simp [intOf]
        · have hix : ∀ w, (Instr.index 108 (.agg #[.int .i64 r, .int .i64 u, .int .i64 l, .int .i64 t]) (.int .i64 1)).run Tryz.prog w = .ok (.int .i64 u) w := fun _ => by kernel_rfl
          go_wp2_with fail
          refine (HI.out _ _).mono ?_
          rintro e w' ⟨rfl, rfl⟩
          cases e1 : isR u with
          | false =>
            go_wp2_with fail
            try rw [Exit.noGoto_ret]
            go_ret
            exact ⟨ret_bool (by rw [HF.out]; simp [e1]), HW.out⟩
          | true =>
            have HK2 := Lib.hid e1
            clear e1
            go_wp2_with fail
            go_roundw
            case rel =>
              have h0 := HK.out
              have h1 := HK2.out
              exact ⟨2, rfl, rfl, ⟨by omega, by omega⟩, Lib.hid ⟨fun _ => h0.1 (by omega), fun _ => h1, by omega, by omega⟩, HW⟩
            case measure => simp [intOf]
        · have hix : ∀ w, (Instr.index 108 (.agg #[.int .i64 r, .int .i64 u, .int .i64 l, .int .i64 t]) (.int .i64 2)).run Tryz.prog w = .ok (.int .i64 l) w := fun _ => by kernel_rfl
          go_wp2_with fail
          refine (HI.out _ _).mono ?_
          rintro e w' ⟨rfl, rfl⟩
          cases e2 : isR l with
          | false =>
            go_wp2_with fail
            try rw [Exit.noGoto_ret]
            go_ret
            exact ⟨ret_bool (by rw [HF.out]; simp [e2]), HW.out⟩
          | true =>
            have HK2 := Lib.hid e2
            clear e2
            go_wp2_with fail
            go_roundw
            case rel =>
              have h0 := HK.out
              have h1 := HK2.out
              exact ⟨3, rfl, rfl, ⟨by omega, by omega⟩, Lib.hid ⟨fun _ => h0.1 (by omega), fun _ => h0.2.1 (by omega), fun _ => h1, by omega⟩, HW⟩
            case measure => simp [intOf]
        · have hix : ∀ w, (Instr.index 108 (.agg #[.int .i64 r, .int .i64 u, .int .i64 l, .int .i64 t]) (.int .i64 3)).run Tryz.prog w = .ok (.int .i64 t) w := fun _ => by kernel_rfl
          go_wp2_with fail
          refine (HI.out _ _).mono ?_
          rintro e w' ⟨rfl, rfl⟩
          cases e3 : isR t with
          | false =>
            go_wp2_with fail
            try rw [Exit.noGoto_ret]
            go_ret
            exact ⟨ret_bool (by rw [HF.out]; simp [e3]), HW.out⟩
          | true =>
            have HK2 := Lib.hid e3
            clear e3
            go_wp2_with fail
            go_roundw
            case rel =>
              have h0 := HK.out
              have h1 := HK2.out
              exact ⟨4, rfl, rfl, ⟨by omega, by omega⟩, Lib.hid ⟨fun _ => h0.1 (by omega), fun _ => h0.2.1 (by omega), fun _ => h0.2.2.1 (by omega), fun _ => h1⟩, HW⟩
            case measure => simp [intOf]
        · have h0 := HK.out
          have g0 := Lib.hid (h0.1 (by omega))
          have g1 := Lib.hid (h0.2.1 (by omega))
          have g2 := Lib.hid (h0.2.2.1 (by omega))
          have g3 := Lib.hid (h0.2.2.2 (by omega))
          clear h0
          go_wp2_with fail
          try rw [Exit.noGoto_ret]
          go_ret
          exact ⟨ret_bool (by rw [HF.out]; simp [g0.out, g1.out, g2.out, g3.out, HF3.out]), HW.out⟩
end Go.Proofs.YtlbihcpglcdmmaaGreat.gb
namespace Go.Proofs.YtlbihcpglcdmmaaGreat.gb
open Go.RowKit

set_option maxRecDepth 100000 in
set_option maxHeartbeats 4000000 in
theorem new_b1 {r u n : Int} (h : rightB r u u n = true) (w : World) : Calls Tryz.prog 16 #[.int .i64 r, .int .i64 u, .int .i64 n] w fun e w' => e = .returned (.tuple #[.agg #[.int .i64 r, .int .i64 u, .int .i64 u, .int .i64 n], .int .i64 0]) ∧ Below w.heap.size w w' := by
  have HRG := Lib.hid (fun W => show Calls Tryz.prog 39 #[.agg #[.int .i64 r, .int .i64 u, .int .i64 u, .int .i64 n]] W fun e w' => e = .returned (.bool true) ∧ Below W.heap.size W w' from by rw [← h]; exact right_b r u u n W)
  have HB0 := Lib.hid (below2 w (.cells #[.int .i64 0, .int .i64 0, .int .i64 0, .int .i64 0] 56) (.cells #[.int .i64 0, .int .i64 0, .int .i64 0, .int .i64 0] 56))
  obtain ⟨W0, hW0⟩ : ∃ W0, (w.alloc (.cells #[.int .i64 0, .int .i64 0, .int .i64 0, .int .i64 0] 56)).alloc (.cells #[.int .i64 0, .int .i64 0, .int .i64 0, .int .i64 0] 56) = W0 := ⟨_, rfl⟩
  have hg := two_blocks (w := w) (o0 := (.cells #[.int .i64 0, .int .i64 0, .int .i64 0, .int .i64 0] 56)) (o1 := (.cells #[.int .i64 0, .int .i64 0, .int .i64 0, .int .i64 0] 56)) (w1 := W0) (by rw [hW0]; exact Below.refl _ _)
  rw [hW0] at HB0
  obtain ⟨hg0, hg1, hlt⟩ := hg
  have hz := set4_heap hg1 (.int .i64 r) (.int .i64 u) (.int .i64 u) (.int .i64 n)
  have HD := Lib.hid (set4_below (w := W0) (g := w.heap.size + 1) HB0.out (show w.heap.size ≤ w.heap.size + 1 by omega) (.int .i64 r) (.int .i64 u) (.int .i64 u) (.int .i64 n))
  have hf := (set4_far (w := W0) (g := w.heap.size + 1) (k := w.heap.size) (.int .i64 r) (.int .i64 u) (.int .i64 u) (.int .i64 n) (by omega)).trans hg0
  have y0 : W0.cell? ⟨w.heap.size + 1, 0, none⟩ = some (.int .i64 0) := cell_of_row _ _ 0 _ _ _ hg1
  have y1 : W0.cell? ⟨w.heap.size + 1, 1, none⟩ = some (.int .i64 0) := cell_of_row _ _ 1 _ _ _ hg1
  have y2 : W0.cell? ⟨w.heap.size + 1, 2, none⟩ = some (.int .i64 0) := cell_of_row _ _ 2 _ _ _ hg1
  have y3 : W0.cell? ⟨w.heap.size + 1, 3, none⟩ = some (.int .i64 0) := cell_of_row _ _ 3 _ _ _ hg1
  have f0 : W0.frozen? ⟨w.heap.size + 1, 0, none⟩ = false := frozen_at hg1
  have f1 : W0.frozen? ⟨w.heap.size + 1, 1, none⟩ = false := frozen_at hg1
  have f2 : W0.frozen? ⟨w.heap.size + 1, 2, none⟩ = false := frozen_at hg1
  have f3 : W0.frozen? ⟨w.heap.size + 1, 3, none⟩ = false := frozen_at hg1
  clear hg0 hg1 h
  go_enter Tryz.func16, Tryz.ntmps16
  go_upto_region 2 with fail
  generalize hW : set4 W0 (w.heap.size + 1) (.int .i64 r) (.int .i64 u) (.int .i64 u) (.int .i64 n) = W at *
  unfold set4 at hW
  rw [hW]
  clear hW y0 y1 y2 y3 f0 f1 f2 f3 hW0
  have y0 : W.cell? ⟨w.heap.size + 1, 0, none⟩ = some (.int .i64 r) := cell_of_row _ _ 0 _ _ _ hz
  have y1 : W.cell? ⟨w.heap.size + 1, 1, none⟩ = some (.int .i64 u) := cell_of_row _ _ 1 _ _ _ hz
  have y2 : W.cell? ⟨w.heap.size + 1, 2, none⟩ = some (.int .i64 u) := cell_of_row _ _ 2 _ _ _ hz
  have y3 : W.cell? ⟨w.heap.size + 1, 3, none⟩ = some (.int .i64 n) := cell_of_row _ _ 3 _ _ _ hz
  go_wp2_with fail
  refine (HRG.out _).mono ?_
  rintro e w1 ⟨rfl, hb⟩
  have hg0 := (hb.block _ (blk_lt hf)).trans hf
  have hg1 := (hb.block _ (blk_lt hz)).trans hz
  have HB1 := Lib.hid (seqB HD.out hb)
  clear hb y0 y1 y2 y3 hz hf hlt
  have hlt := blk_lt hg1
  have y0 : w1.cell? ⟨w.heap.size + 1, 0, none⟩ = some (.int .i64 r) := cell_of_row _ _ 0 _ _ _ hg1
  have y1 : w1.cell? ⟨w.heap.size + 1, 1, none⟩ = some (.int .i64 u) := cell_of_row _ _ 1 _ _ _ hg1
  have y2 : w1.cell? ⟨w.heap.size + 1, 2, none⟩ = some (.int .i64 u) := cell_of_row _ _ 2 _ _ _ hg1
  have y3 : w1.cell? ⟨w.heap.size + 1, 3, none⟩ = some (.int .i64 n) := cell_of_row _ _ 3 _ _ _ hg1
  have x0 : w1.cell? ⟨w.heap.size, 0, none⟩ = some (.int .i64 0) := cell_of_row _ _ 0 _ _ _ hg0
  have x1 : w1.cell? ⟨w.heap.size, 1, none⟩ = some (.int .i64 0) := cell_of_row _ _ 1 _ _ _ hg0
  have x2 : w1.cell? ⟨w.heap.size, 2, none⟩ = some (.int .i64 0) := cell_of_row _ _ 2 _ _ _ hg0
  have x3 : w1.cell? ⟨w.heap.size, 3, none⟩ = some (.int .i64 0) := cell_of_row _ _ 3 _ _ _ hg0
  have f0 : w1.frozen? ⟨w.heap.size, 0, none⟩ = false := frozen_at hg0
  have f1 : w1.frozen? ⟨w.heap.size, 1, none⟩ = false := frozen_at hg0
  have f2 : w1.frozen? ⟨w.heap.size, 2, none⟩ = false := frozen_at hg0
  have f3 : w1.frozen? ⟨w.heap.size, 3, none⟩ = false := frozen_at hg0
  have hz := set4_heap hg0 (.int .i64 r) (.int .i64 u) (.int .i64 u) (.int .i64 n)
  have HE := Lib.hid (set4_below (w := w1) (g := w.heap.size) HB1.out (Nat.le_refl _) (.int .i64 r) (.int .i64 u) (.int .i64 u) (.int .i64 n))
  clear hg0 hg1
  go_wp2_with fail
  generalize hW : set4 w1 w.heap.size (.int .i64 r) (.int .i64 u) (.int .i64 u) (.int .i64 n) = W2 at *
  unfold set4 at hW
  rw [hW]
  clear hW
  have z0 : W2.cell? ⟨w.heap.size, 0, none⟩ = some (.int .i64 r) := cell_of_row _ _ 0 _ _ _ hz
  have z1 : W2.cell? ⟨w.heap.size, 1, none⟩ = some (.int .i64 u) := cell_of_row _ _ 1 _ _ _ hz
  have z2 : W2.cell? ⟨w.heap.size, 2, none⟩ = some (.int .i64 u) := cell_of_row _ _ 2 _ _ _ hz
  have z3 : W2.cell? ⟨w.heap.size, 3, none⟩ = some (.int .i64 n) := cell_of_row _ _ 3 _ _ _ hz
  exact bodyPost_ret (v := .tuple #[.agg #[.int .i64 r, .int .i64 u, .int .i64 u, .int .i64 n], .int .i64 0]) (by simp [results, Tryz.results16, go_sem, z0, z1, z2, z3]) rfl ⟨rfl, HE.out⟩

set_option maxRecDepth 100000 in
set_option maxHeartbeats 4000000 in
theorem new_b0 {r u n : Int} (h : rightB r u u n = false) (w : World) : Calls Tryz.prog 16 #[.int .i64 r, .int .i64 u, .int .i64 n] w fun e w' => e = .returned (.tuple #[.agg #[.int .i64 0, .int .i64 0, .int .i64 0, .int .i64 0], .int .i64 1]) ∧ Below w.heap.size w w' := by
  have HRG := Lib.hid (fun W => show Calls Tryz.prog 39 #[.agg #[.int .i64 r, .int .i64 u, .int .i64 u, .int .i64 n]] W fun e w' => e = .returned (.bool false) ∧ Below W.heap.size W w' from by rw [← h]; exact right_b r u u n W)
  have HB0 := Lib.hid (below2 w (.cells #[.int .i64 0, .int .i64 0, .int .i64 0, .int .i64 0] 56) (.cells #[.int .i64 0, .int .i64 0, .int .i64 0, .int .i64 0] 56))
  obtain ⟨W0, hW0⟩ : ∃ W0, (w.alloc (.cells #[.int .i64 0, .int .i64 0, .int .i64 0, .int .i64 0] 56)).alloc (.cells #[.int .i64 0, .int .i64 0, .int .i64 0, .int .i64 0] 56) = W0 := ⟨_, rfl⟩
  have hg := two_blocks (w := w) (o0 := (.cells #[.int .i64 0, .int .i64 0, .int .i64 0, .int .i64 0] 56)) (o1 := (.cells #[.int .i64 0, .int .i64 0, .int .i64 0, .int .i64 0] 56)) (w1 := W0) (by rw [hW0]; exact Below.refl _ _)
  rw [hW0] at HB0
  obtain ⟨hg0, hg1, hlt⟩ := hg
  have hz := set4_heap hg1 (.int .i64 r) (.int .i64 u) (.int .i64 u) (.int .i64 n)
  have HD := Lib.hid (set4_below (w := W0) (g := w.heap.size + 1) HB0.out (show w.heap.size ≤ w.heap.size + 1 by omega) (.int .i64 r) (.int .i64 u) (.int .i64 u) (.int .i64 n))
  have hf := (set4_far (w := W0) (g := w.heap.size + 1) (k := w.heap.size) (.int .i64 r) (.int .i64 u) (.int .i64 u) (.int .i64 n) (by omega)).trans hg0
  have y0 : W0.cell? ⟨w.heap.size + 1, 0, none⟩ = some (.int .i64 0) := cell_of_row _ _ 0 _ _ _ hg1
  have y1 : W0.cell? ⟨w.heap.size + 1, 1, none⟩ = some (.int .i64 0) := cell_of_row _ _ 1 _ _ _ hg1
  have y2 : W0.cell? ⟨w.heap.size + 1, 2, none⟩ = some (.int .i64 0) := cell_of_row _ _ 2 _ _ _ hg1
  have y3 : W0.cell? ⟨w.heap.size + 1, 3, none⟩ = some (.int .i64 0) := cell_of_row _ _ 3 _ _ _ hg1
  have f0 : W0.frozen? ⟨w.heap.size + 1, 0, none⟩ = false := frozen_at hg1
  have f1 : W0.frozen? ⟨w.heap.size + 1, 1, none⟩ = false := frozen_at hg1
  have f2 : W0.frozen? ⟨w.heap.size + 1, 2, none⟩ = false := frozen_at hg1
  have f3 : W0.frozen? ⟨w.heap.size + 1, 3, none⟩ = false := frozen_at hg1
  clear hg0 hg1 h
  go_enter Tryz.func16, Tryz.ntmps16
  go_upto_region 2 with fail
  generalize hW : set4 W0 (w.heap.size + 1) (.int .i64 r) (.int .i64 u) (.int .i64 u) (.int .i64 n) = W at *
  unfold set4 at hW
  rw [hW]
  clear hW y0 y1 y2 y3 f0 f1 f2 f3 hW0
  have y0 : W.cell? ⟨w.heap.size + 1, 0, none⟩ = some (.int .i64 r) := cell_of_row _ _ 0 _ _ _ hz
  have y1 : W.cell? ⟨w.heap.size + 1, 1, none⟩ = some (.int .i64 u) := cell_of_row _ _ 1 _ _ _ hz
  have y2 : W.cell? ⟨w.heap.size + 1, 2, none⟩ = some (.int .i64 u) := cell_of_row _ _ 2 _ _ _ hz
  have y3 : W.cell? ⟨w.heap.size + 1, 3, none⟩ = some (.int .i64 n) := cell_of_row _ _ 3 _ _ _ hz
  go_wp2_with fail
  refine (HRG.out _).mono ?_
  rintro e w1 ⟨rfl, hb⟩
  have hg0 := (hb.block _ (blk_lt hf)).trans hf
  have hg1 := (hb.block _ (blk_lt hz)).trans hz
  have HB1 := Lib.hid (seqB HD.out hb)
  clear hb y0 y1 y2 y3 hz hf hlt
  have hlt := blk_lt hg1
  have y0 : w1.cell? ⟨w.heap.size + 1, 0, none⟩ = some (.int .i64 r) := cell_of_row _ _ 0 _ _ _ hg1
  have y1 : w1.cell? ⟨w.heap.size + 1, 1, none⟩ = some (.int .i64 u) := cell_of_row _ _ 1 _ _ _ hg1
  have y2 : w1.cell? ⟨w.heap.size + 1, 2, none⟩ = some (.int .i64 u) := cell_of_row _ _ 2 _ _ _ hg1
  have y3 : w1.cell? ⟨w.heap.size + 1, 3, none⟩ = some (.int .i64 n) := cell_of_row _ _ 3 _ _ _ hg1
  have x0 : w1.cell? ⟨w.heap.size, 0, none⟩ = some (.int .i64 0) := cell_of_row _ _ 0 _ _ _ hg0
  have x1 : w1.cell? ⟨w.heap.size, 1, none⟩ = some (.int .i64 0) := cell_of_row _ _ 1 _ _ _ hg0
  have x2 : w1.cell? ⟨w.heap.size, 2, none⟩ = some (.int .i64 0) := cell_of_row _ _ 2 _ _ _ hg0
  have x3 : w1.cell? ⟨w.heap.size, 3, none⟩ = some (.int .i64 0) := cell_of_row _ _ 3 _ _ _ hg0
  have f0 : w1.frozen? ⟨w.heap.size, 0, none⟩ = false := frozen_at hg0
  have f1 : w1.frozen? ⟨w.heap.size, 1, none⟩ = false := frozen_at hg0
  have f2 : w1.frozen? ⟨w.heap.size, 2, none⟩ = false := frozen_at hg0
  have f3 : w1.frozen? ⟨w.heap.size, 3, none⟩ = false := frozen_at hg0
  have hz := set4_heap hg0 (.int .i64 0) (.int .i64 0) (.int .i64 0) (.int .i64 0)
  have HE := Lib.hid (set4_below (w := w1) (g := w.heap.size) HB1.out (Nat.le_refl _) (.int .i64 0) (.int .i64 0) (.int .i64 0) (.int .i64 0))
  clear hg0 hg1
  go_wp2_with fail
  generalize hW : set4 w1 w.heap.size (.int .i64 0) (.int .i64 0) (.int .i64 0) (.int .i64 0) = W2 at *
  unfold set4 at hW
  rw [hW]
  clear hW
  have z0 : W2.cell? ⟨w.heap.size, 0, none⟩ = some (.int .i64 0) := cell_of_row _ _ 0 _ _ _ hz
  have z1 : W2.cell? ⟨w.heap.size, 1, none⟩ = some (.int .i64 0) := cell_of_row _ _ 1 _ _ _ hz
  have z2 : W2.cell? ⟨w.heap.size, 2, none⟩ = some (.int .i64 0) := cell_of_row _ _ 2 _ _ _ hz
  have z3 : W2.cell? ⟨w.heap.size, 3, none⟩ = some (.int .i64 0) := cell_of_row _ _ 3 _ _ _ hz
  exact bodyPost_ret (v := .tuple #[.agg #[.int .i64 0, .int .i64 0, .int .i64 0, .int .i64 0], .int .i64 1]) (by simp [results, Tryz.results16, go_sem, z0, z1, z2, z3]) rfl ⟨rfl, HE.out⟩

end Go.Proofs.YtlbihcpglcdmmaaGreat.gb
namespace Go.Proofs.YtlbihcpglcdmmaaGreat.gb
open Go.RowKit

/-- What Fill computes is the level, and the tick, that the document names. -/
theorem fill_is {r u l t now d M N T : Int} (h : rightB r u l t = true) (hd : near (near now - near t) = d) (hM : near (near r * near d) = M) (hN : near (near l + near M) = N) (hT : near (near t + near d) = T) : trimL u N = fillL r u l t now ∧ T = fillT r u l t now := by
  obtain ⟨h1, h2, h3, h4, h5, h6⟩ := (rightB_iff r u l t).1 h
  have hx := near_range now
  obtain ⟨x, hxx⟩ : ∃ x, near now = x := ⟨_, rfl⟩
  unfold fillL fillT
  rw [hxx] at hx hd ⊢
  rw [near_of t h4.1 h4.2] at hd hT
  by_cases hlt : t < x
  · rw [near_of (x - t) (by omega) (by omega)] at hd
    subst hd
    rw [if_pos ⟨h, hlt⟩, if_pos ⟨h, hlt⟩]
    refine ⟨by unfold trimL; exact lvl_is h hlt hx.2 hM hN, ?_⟩
    rw [← hT, near_of (x - t) (by omega) (by omega), near_of _ (by omega) (by omega)]
    omega
  · rw [if_neg (fun q => hlt q.2), if_neg (fun q => hlt q.2)]
    have e0 : d = 0 := by rw [← hd]; unfold near; (repeat' split) <;> omega
    subst e0
    have n0 : near 0 = 0 := by decide
    rw [n0, Int.mul_zero, n0] at hM
    subst hM
    rw [n0, Int.add_zero, near_of l h3.1 h3.2, near_of l h3.1 h3.2] at hN
    subst hN
    rw [n0, Int.add_zero, near_of t h4.1 h4.2] at hT
    exact ⟨by unfold trimL; exact if_neg (by omega), hT.symm⟩
set_option maxRecDepth 100000 in
set_option maxHeartbeats 8000000 in
theorem fill_b (r u l t now : Int) (w : World) : Calls Tryz.prog 83 #[.agg #[.int .i64 r, .int .i64 u, .int .i64 l, .int .i64 t], .int .i64 now] w fun e w' => e = .returned (.agg #[.int .i64 r, .int .i64 u, .int .i64 (fillL r u l t now), .int .i64 (fillT r u l t now)]) ∧ Below w.heap.size w w' := by
  obtain ⟨F, hF⟩ : ∃ F, rightB r u l t = F := ⟨_, rfl⟩
  have HRG := Lib.hid (fun W => show Calls Tryz.prog 39 #[.agg #[.int .i64 r, .int .i64 u, .int .i64 l, .int .i64 t]] W fun e w' => e = .returned (.bool F) ∧ Below W.heap.size W w' from by rw [← hF]; exact right_b r u l t W)
  obtain ⟨W0, hW0⟩ : ∃ W0, (w.alloc (.cells #[.int .i64 r, .int .i64 u, .int .i64 l, .int .i64 t] 56)).alloc (.cells #[.int .i64 0, .int .i64 0, .int .i64 0, .int .i64 0] 56) = W0 := ⟨_, rfl⟩
  have HB0 := Lib.hid (below2 w (.cells #[.int .i64 r, .int .i64 u, .int .i64 l, .int .i64 t] 56) (.cells #[.int .i64 0, .int .i64 0, .int .i64 0, .int .i64 0] 56))
  have hg := two_blocks (w := w) (o0 := (.cells #[.int .i64 r, .int .i64 u, .int .i64 l, .int .i64 t] 56)) (o1 := (.cells #[.int .i64 0, .int .i64 0, .int .i64 0, .int .i64 0] 56)) (w1 := W0) (by rw [hW0]; exact Below.refl _ _)
  rw [hW0] at HB0
  obtain ⟨hg0, hg1, hlt⟩ := hg
  have HG0 := Lib.hid hg0
  have HG1 := Lib.hid hg1
  have HF := Lib.hid hF
  have x0 : W0.cell? ⟨w.heap.size, 0, none⟩ = some (.int .i64 r) := cell_of_row _ _ 0 _ _ _ hg0
  have x1 : W0.cell? ⟨w.heap.size, 1, none⟩ = some (.int .i64 u) := cell_of_row _ _ 1 _ _ _ hg0
  have x2 : W0.cell? ⟨w.heap.size, 2, none⟩ = some (.int .i64 l) := cell_of_row _ _ 2 _ _ _ hg0
  have x3 : W0.cell? ⟨w.heap.size, 3, none⟩ = some (.int .i64 t) := cell_of_row _ _ 3 _ _ _ hg0
  clear hg0 hg1 hF
  go_enter Tryz.func83, Tryz.ntmps83
  go_wp2_with fail
  refine (HRG.out _).mono ?_
  rintro e w1 ⟨rfl, hb⟩
  have hg0 := (hb.block _ (blk_lt HG0.out)).trans HG0.out
  have hg1 := (hb.block _ (blk_lt HG1.out)).trans HG1.out
  have HB1 := Lib.hid (seqB HB0.out hb)
  clear hb x0 x1 x2 x3 HG0 HG1 HRG hW0 hlt
  have hlt := blk_lt hg1
  have x0 : w1.cell? ⟨w.heap.size, 0, none⟩ = some (.int .i64 r) := cell_of_row _ _ 0 _ _ _ hg0
  have x1 : w1.cell? ⟨w.heap.size, 1, none⟩ = some (.int .i64 u) := cell_of_row _ _ 1 _ _ _ hg0
  have x2 : w1.cell? ⟨w.heap.size, 2, none⟩ = some (.int .i64 l) := cell_of_row _ _ 2 _ _ _ hg0
  have x3 : w1.cell? ⟨w.heap.size, 3, none⟩ = some (.int .i64 t) := cell_of_row _ _ 3 _ _ _ hg0
  have e2 : w1.frozen? ⟨w.heap.size, 2, none⟩ = false := frozen_at hg0
  have e3 : w1.frozen? ⟨w.heap.size, 3, none⟩ = false := frozen_at hg0
  have y0 : w1.cell? ⟨w.heap.size + 1, 0, none⟩ = some (.int .i64 0) := cell_of_row _ _ 0 _ _ _ hg1
  have y1 : w1.cell? ⟨w.heap.size + 1, 1, none⟩ = some (.int .i64 0) := cell_of_row _ _ 1 _ _ _ hg1
  have y2 : w1.cell? ⟨w.heap.size + 1, 2, none⟩ = some (.int .i64 0) := cell_of_row _ _ 2 _ _ _ hg1
  have y3 : w1.cell? ⟨w.heap.size + 1, 3, none⟩ = some (.int .i64 0) := cell_of_row _ _ 3 _ _ _ hg1
  have f0 : w1.frozen? ⟨w.heap.size + 1, 0, none⟩ = false := frozen_at hg1
  have f1 : w1.frozen? ⟨w.heap.size + 1, 1, none⟩ = false := frozen_at hg1
  have f2 : w1.frozen? ⟨w.heap.size + 1, 2, none⟩ = false := frozen_at hg1
  have f3 : w1.frozen? ⟨w.heap.size + 1, 3, none⟩ = false := frozen_at hg1
  cases F with
  | false =>
    have hz := set4_heap hg1 (.int .i64 r) (.int .i64 u) (.int .i64 l) (.int .i64 t)
    have HD := Lib.hid (set4_below (w := w1) (g := w.heap.size + 1) HB1.out (show w.heap.size ≤ w.heap.size + 1 by omega) (.int .i64 r) (.int .i64 u) (.int .i64 l) (.int .i64 t))
    go_wp2_with fail
    generalize hW : set4 w1 (w.heap.size + 1) (.int .i64 r) (.int .i64 u) (.int .i64 l) (.int .i64 t) = W9 at *
    unfold set4 at hW
    rw [hW]
    clear hW
    have z0 : W9.cell? ⟨w.heap.size + 1, 0, none⟩ = some (.int .i64 r) := cell_of_row _ _ 0 _ _ _ hz
    have z1 : W9.cell? ⟨w.heap.size + 1, 1, none⟩ = some (.int .i64 u) := cell_of_row _ _ 1 _ _ _ hz
    have z2 : W9.cell? ⟨w.heap.size + 1, 2, none⟩ = some (.int .i64 l) := cell_of_row _ _ 2 _ _ _ hz
    have z3 : W9.cell? ⟨w.heap.size + 1, 3, none⟩ = some (.int .i64 t) := cell_of_row _ _ 3 _ _ _ hz
    exact bodyPost_ret (v := .agg #[.int .i64 r, .int .i64 u, .int .i64 l, .int .i64 t]) (by simp [results, Tryz.results83, go_sem, z0, z1, z2, z3]) rfl ⟨by unfold fillL fillT; simp [HF.out], HD.out⟩
  | true =>
    obtain ⟨d, hd⟩ : ∃ d, near (near now - near t) = d := ⟨_, rfl⟩
    obtain ⟨M, hM⟩ : ∃ M, near (near r * near d) = M := ⟨_, rfl⟩
    obtain ⟨N, hN⟩ : ∃ N, near (near l + near M) = N := ⟨_, rfl⟩
    obtain ⟨T, hT⟩ : ∃ T, near (near t + near d) = T := ⟨_, rfl⟩
    obtain ⟨V, hV⟩ : ∃ V, trimL u N = V := ⟨_, rfl⟩
    have hfi := fill_is HF.out hd hM hN hT
    rw [hV] at hfi
    have HV := Lib.hid hfi
    have HSU := Lib.hid (fun W => show Calls Tryz.prog 98 #[.int .i64 now, .int .i64 t] W fun e w' => e = .returned (.int .i64 d) ∧ W = w' from by rw [← hd]; exact sub_any now t W)
    have HMU := Lib.hid (fun W => show Calls Tryz.prog 99 #[.int .i64 r, .int .i64 d] W fun e w' => e = .returned (.int .i64 M) ∧ ∃ n, w' = W.drewN n from by rw [← hM]; exact mul_any r d W)
    have HA1 := Lib.hid (fun W => show Calls Tryz.prog 38 #[.int .i64 l, .int .i64 M] W fun e w' => e = .returned (.int .i64 N) ∧ W = w' from by rw [← hN]; exact add_any l M W)
    have HA2 := Lib.hid (fun W => show Calls Tryz.prog 38 #[.int .i64 t, .int .i64 d] W fun e w' => e = .returned (.int .i64 T) ∧ W = w' from by rw [← hT]; exact add_any t d W)
    have HTR := Lib.hid (fun W => show Calls Tryz.prog 65 #[.agg #[.int .i64 r, .int .i64 u, .int .i64 N, .int .i64 T]] W fun e w' => e = .returned (.agg #[.int .i64 r, .int .i64 u, .int .i64 V, .int .i64 T]) ∧ Below W.heap.size W w' from by rw [← hV]; exact trim_any r u N T W)
    have HG0 := Lib.hid hg0
    have HG1 := Lib.hid hg1
    clear hd hM hN hT hV hfi hg0 hg1
    go_wp2_with fail
    refine (HSU.out _).mono ?_
    rintro e w2 ⟨rfl, rfl⟩
    go_wp2_with fail
    go_region_law
      (first
        | (go_simp; go_at_call 99; (with_reducible refine Calls.mono (HMU.out _) ?_); rintro e w3 ⟨rfl, n, rfl⟩)
        | (go_simp; go_at_call 38; (with_reducible refine Calls.mono (HA1.out _) ?_); rintro e w4 ⟨rfl, rfl⟩))
    all_goals (
      have hb := drewN_below w1 (1 + n)
      have hg0 := set_heap (i := 2) ((hb.block _ (blk_lt HG0.out)).trans HG0.out) (.int .i64 N)
      have hg1 := (Below.heap_setCell (w1.drewN (1 + n)) ⟨w.heap.size, 2, none⟩ (.int .i64 N) (w.heap.size + 1) (by simp)).trans ((hb.block _ (blk_lt HG1.out)).trans HG1.out)
      have hd2 := (seqB HB1.out hb).setCell (p := ⟨w.heap.size, 2, none⟩) (Nat.le_refl _) (.int .i64 N)
      generalize (w1.drewN (1 + n)).setCell ⟨w.heap.size, 2, none⟩ (.int .i64 N) = W2 at *
      clear hb x0 x1 x2 x3 y0 y1 y2 y3 f0 f1 f2 f3 e2 e3 hlt HG0 HG1
      have hg0 : W2.heap[w.heap.size]? = some (.cells #[.int .i64 r, .int .i64 u, .int .i64 N, .int .i64 t] 56 (0, 0)) := hg0
      have hlt := blk_lt hg1
      have x0 : W2.cell? ⟨w.heap.size, 0, none⟩ = some (.int .i64 r) := cell_of_row _ _ 0 _ _ _ hg0
      have x1 : W2.cell? ⟨w.heap.size, 1, none⟩ = some (.int .i64 u) := cell_of_row _ _ 1 _ _ _ hg0
      have x2 : W2.cell? ⟨w.heap.size, 2, none⟩ = some (.int .i64 N) := cell_of_row _ _ 2 _ _ _ hg0
      have x3 : W2.cell? ⟨w.heap.size, 3, none⟩ = some (.int .i64 t) := cell_of_row _ _ 3 _ _ _ hg0
      have e3 : W2.frozen? ⟨w.heap.size, 3, none⟩ = false := frozen_at hg0
      have HG0 := Lib.hid hg0
      have HG1 := Lib.hid hg1
      have HD2 := Lib.hid hd2
      clear hg0 hg1 hd2
      go_wp2_with fail
      refine (HA2.out _).mono ?_
      rintro e w4 ⟨rfl, rfl⟩
      go_upto_region 6 with fail
      have hg0 := set_heap (i := 3) HG0.out (.int .i64 T)
      have hg1 := (Below.heap_setCell W2 ⟨w.heap.size, 3, none⟩ (.int .i64 T) (w.heap.size + 1) (by simp)).trans HG1.out
      have hd3 := HD2.out.setCell (p := ⟨w.heap.size, 3, none⟩) (Nat.le_refl _) (.int .i64 T)
      generalize W2.setCell ⟨w.heap.size, 3, none⟩ (.int .i64 T) = W3 at *
      clear x0 x1 x2 x3 e3 hlt HG0 HG1 HD2
      have hg0 : W3.heap[w.heap.size]? = some (.cells #[.int .i64 r, .int .i64 u, .int .i64 N, .int .i64 T] 56 (0, 0)) := hg0
      have x0 : W3.cell? ⟨w.heap.size, 0, none⟩ = some (.int .i64 r) := cell_of_row _ _ 0 _ _ _ hg0
      have x1 : W3.cell? ⟨w.heap.size, 1, none⟩ = some (.int .i64 u) := cell_of_row _ _ 1 _ _ _ hg0
      have x2 : W3.cell? ⟨w.heap.size, 2, none⟩ = some (.int .i64 N) := cell_of_row _ _ 2 _ _ _ hg0
      have x3 : W3.cell? ⟨w.heap.size, 3, none⟩ = some (.int .i64 T) := cell_of_row _ _ 3 _ _ _ hg0
      have HG1 := Lib.hid hg1
      have HD3 := Lib.hid hd3
      clear hg0 hg1 hd3
      go_wp2_with fail
      refine (HTR.out _).mono ?_
      rintro e w5 ⟨rfl, hb⟩
      have hg1 := (hb.block _ (blk_lt HG1.out)).trans HG1.out
      have HB5 := Lib.hid (seqB HD3.out hb)
      clear hb x0 x1 x2 x3 HG1 HD3
      have hlt := blk_lt hg1
      have y0 : w5.cell? ⟨w.heap.size + 1, 0, none⟩ = some (.int .i64 0) := cell_of_row _ _ 0 _ _ _ hg1
      have y1 : w5.cell? ⟨w.heap.size + 1, 1, none⟩ = some (.int .i64 0) := cell_of_row _ _ 1 _ _ _ hg1
      have y2 : w5.cell? ⟨w.heap.size + 1, 2, none⟩ = some (.int .i64 0) := cell_of_row _ _ 2 _ _ _ hg1
      have y3 : w5.cell? ⟨w.heap.size + 1, 3, none⟩ = some (.int .i64 0) := cell_of_row _ _ 3 _ _ _ hg1
      have f0 : w5.frozen? ⟨w.heap.size + 1, 0, none⟩ = false := frozen_at hg1
      have f1 : w5.frozen? ⟨w.heap.size + 1, 1, none⟩ = false := frozen_at hg1
      have f2 : w5.frozen? ⟨w.heap.size + 1, 2, none⟩ = false := frozen_at hg1
      have f3 : w5.frozen? ⟨w.heap.size + 1, 3, none⟩ = false := frozen_at hg1
      have hz := set4_heap hg1 (.int .i64 r) (.int .i64 u) (.int .i64 V) (.int .i64 T)
      have HD := Lib.hid (set4_below (w := w5) (g := w.heap.size + 1) HB5.out (show w.heap.size ≤ w.heap.size + 1 by omega) (.int .i64 r) (.int .i64 u) (.int .i64 V) (.int .i64 T))
      go_wp2_with fail
      generalize hW : set4 w5 (w.heap.size + 1) (.int .i64 r) (.int .i64 u) (.int .i64 V) (.int .i64 T) = W9 at *
      unfold set4 at hW
      rw [hW]
      clear hW
      have z0 : W9.cell? ⟨w.heap.size + 1, 0, none⟩ = some (.int .i64 r) := cell_of_row _ _ 0 _ _ _ hz
      have z1 : W9.cell? ⟨w.heap.size + 1, 1, none⟩ = some (.int .i64 u) := cell_of_row _ _ 1 _ _ _ hz
      have z2 : W9.cell? ⟨w.heap.size + 1, 2, none⟩ = some (.int .i64 V) := cell_of_row _ _ 2 _ _ _ hz
      have z3 : W9.cell? ⟨w.heap.size + 1, 3, none⟩ = some (.int .i64 T) := cell_of_row _ _ 3 _ _ _ hz
      exact bodyPost_ret (v := .agg #[.int .i64 r, .int .i64 u, .int .i64 V, .int .i64 T]) (by simp [results, Tryz.results83, go_sem, z0, z1, z2, z3]) rfl ⟨by rw [HV.out.1, HV.out.2], HD.out⟩)
end Go.Proofs.YtlbihcpglcdmmaaGreat.gb
namespace Go.Proofs.YtlbihcpglcdmmaaGreat.gb
open Go.RowKit

set_option maxRecDepth 100000 in
set_option maxHeartbeats 8000000 in
theorem take_b0 {r u l t : Int} (h : rightB r u l t = false) (now n : Int) (w : World) : Calls Tryz.prog 92 #[.agg #[.int .i64 r, .int .i64 u, .int .i64 l, .int .i64 t], .int .i64 now, .int .i64 n] w fun e w' => e = .returned (.tuple #[.agg #[.int .i64 r, .int .i64 u, .int .i64 l, .int .i64 t], .int .i64 0]) ∧ Below w.heap.size w w' := by
  have HRG := Lib.hid (fun W => show Calls Tryz.prog 39 #[.agg #[.int .i64 r, .int .i64 u, .int .i64 l, .int .i64 t]] W fun e w' => e = .returned (.bool false) ∧ Below W.heap.size W w' from by rw [← h]; exact right_b r u l t W)
  obtain ⟨W0, hW0⟩ : ∃ W0, (w.alloc (.cells #[.int .i64 r, .int .i64 u, .int .i64 l, .int .i64 t] 56)).alloc (.cells #[.int .i64 0, .int .i64 0, .int .i64 0, .int .i64 0] 56) = W0 := ⟨_, rfl⟩
  have HB0 := Lib.hid (below2 w (.cells #[.int .i64 r, .int .i64 u, .int .i64 l, .int .i64 t] 56) (.cells #[.int .i64 0, .int .i64 0, .int .i64 0, .int .i64 0] 56))
  have hg := two_blocks (w := w) (o0 := (.cells #[.int .i64 r, .int .i64 u, .int .i64 l, .int .i64 t] 56)) (o1 := (.cells #[.int .i64 0, .int .i64 0, .int .i64 0, .int .i64 0] 56)) (w1 := W0) (by rw [hW0]; exact Below.refl _ _)
  rw [hW0] at HB0
  obtain ⟨hg0, hg1, hlt⟩ := hg
  have HG0 := Lib.hid hg0
  have HG1 := Lib.hid hg1
  have x0 : W0.cell? ⟨w.heap.size, 0, none⟩ = some (.int .i64 r) := cell_of_row _ _ 0 _ _ _ hg0
  have x1 : W0.cell? ⟨w.heap.size, 1, none⟩ = some (.int .i64 u) := cell_of_row _ _ 1 _ _ _ hg0
  have x2 : W0.cell? ⟨w.heap.size, 2, none⟩ = some (.int .i64 l) := cell_of_row _ _ 2 _ _ _ hg0
  have x3 : W0.cell? ⟨w.heap.size, 3, none⟩ = some (.int .i64 t) := cell_of_row _ _ 3 _ _ _ hg0
  clear hg0 hg1 h
  go_enter Tryz.func92, Tryz.ntmps92
  go_wp2_with fail
  refine (HRG.out _).mono ?_
  rintro e w1 ⟨rfl, hb⟩
  have hg0 := (hb.block _ (blk_lt HG0.out)).trans HG0.out
  have hg1 := (hb.block _ (blk_lt HG1.out)).trans HG1.out
  have HB1 := Lib.hid (seqB HB0.out hb)
  clear hb x0 x1 x2 x3 HG0 HG1 HRG hW0 hlt
  have hlt := blk_lt hg1
  have x0 : w1.cell? ⟨w.heap.size, 0, none⟩ = some (.int .i64 r) := cell_of_row _ _ 0 _ _ _ hg0
  have x1 : w1.cell? ⟨w.heap.size, 1, none⟩ = some (.int .i64 u) := cell_of_row _ _ 1 _ _ _ hg0
  have x2 : w1.cell? ⟨w.heap.size, 2, none⟩ = some (.int .i64 l) := cell_of_row _ _ 2 _ _ _ hg0
  have x3 : w1.cell? ⟨w.heap.size, 3, none⟩ = some (.int .i64 t) := cell_of_row _ _ 3 _ _ _ hg0
  have y0 : w1.cell? ⟨w.heap.size + 1, 0, none⟩ = some (.int .i64 0) := cell_of_row _ _ 0 _ _ _ hg1
  have y1 : w1.cell? ⟨w.heap.size + 1, 1, none⟩ = some (.int .i64 0) := cell_of_row _ _ 1 _ _ _ hg1
  have y2 : w1.cell? ⟨w.heap.size + 1, 2, none⟩ = some (.int .i64 0) := cell_of_row _ _ 2 _ _ _ hg1
  have y3 : w1.cell? ⟨w.heap.size + 1, 3, none⟩ = some (.int .i64 0) := cell_of_row _ _ 3 _ _ _ hg1
  have f0 : w1.frozen? ⟨w.heap.size + 1, 0, none⟩ = false := frozen_at hg1
  have f1 : w1.frozen? ⟨w.heap.size + 1, 1, none⟩ = false := frozen_at hg1
  have f2 : w1.frozen? ⟨w.heap.size + 1, 2, none⟩ = false := frozen_at hg1
  have f3 : w1.frozen? ⟨w.heap.size + 1, 3, none⟩ = false := frozen_at hg1
  have hz := set4_heap hg1 (.int .i64 r) (.int .i64 u) (.int .i64 l) (.int .i64 t)
  have HD := Lib.hid (set4_below (w := w1) (g := w.heap.size + 1) HB1.out (show w.heap.size ≤ w.heap.size + 1 by omega) (.int .i64 r) (.int .i64 u) (.int .i64 l) (.int .i64 t))
  go_wp2_with fail
  generalize hW : set4 w1 (w.heap.size + 1) (.int .i64 r) (.int .i64 u) (.int .i64 l) (.int .i64 t) = W9 at *
  unfold set4 at hW
  rw [hW]
  clear hW
  have z0 : W9.cell? ⟨w.heap.size + 1, 0, none⟩ = some (.int .i64 r) := cell_of_row _ _ 0 _ _ _ hz
  have z1 : W9.cell? ⟨w.heap.size + 1, 1, none⟩ = some (.int .i64 u) := cell_of_row _ _ 1 _ _ _ hz
  have z2 : W9.cell? ⟨w.heap.size + 1, 2, none⟩ = some (.int .i64 l) := cell_of_row _ _ 2 _ _ _ hz
  have z3 : W9.cell? ⟨w.heap.size + 1, 3, none⟩ = some (.int .i64 t) := cell_of_row _ _ 3 _ _ _ hz
  exact bodyPost_ret (v := .tuple #[.agg #[.int .i64 r, .int .i64 u, .int .i64 l, .int .i64 t], .int .i64 0]) (by simp [results, Tryz.results92, go_sem, z0, z1, z2, z3]) rfl ⟨rfl, HD.out⟩

set_option maxRecDepth 100000 in
set_option maxHeartbeats 8000000 in
theorem take_bk {r u l t : Int} (h : rightB r u l t = true) (now n : Int) {L T K D M : Int} (hL : fillL r u l t now = L) (hT : fillT r u l t now = T) (hm1 : (if L < n then L else n) = M) (hm2 : (if 0 < M then M else 0) = K) (hw : IntKind.i64.wrap (L - K) = D) (w : World) : Calls Tryz.prog 92 #[.agg #[.int .i64 r, .int .i64 u, .int .i64 l, .int .i64 t], .int .i64 now, .int .i64 n] w fun e w' => e = .returned (.tuple #[.agg #[.int .i64 r, .int .i64 u, .int .i64 D, .int .i64 T], .int .i64 K]) ∧ Below w.heap.size w w' := by
  have HRG := Lib.hid (fun W => show Calls Tryz.prog 39 #[.agg #[.int .i64 r, .int .i64 u, .int .i64 l, .int .i64 t]] W fun e w' => e = .returned (.bool true) ∧ Below W.heap.size W w' from by rw [← h]; exact right_b r u l t W)
  obtain ⟨W0, hW0⟩ : ∃ W0, (w.alloc (.cells #[.int .i64 r, .int .i64 u, .int .i64 l, .int .i64 t] 56)).alloc (.cells #[.int .i64 0, .int .i64 0, .int .i64 0, .int .i64 0] 56) = W0 := ⟨_, rfl⟩
  have HB0 := Lib.hid (below2 w (.cells #[.int .i64 r, .int .i64 u, .int .i64 l, .int .i64 t] 56) (.cells #[.int .i64 0, .int .i64 0, .int .i64 0, .int .i64 0] 56))
  have hg := two_blocks (w := w) (o0 := (.cells #[.int .i64 r, .int .i64 u, .int .i64 l, .int .i64 t] 56)) (o1 := (.cells #[.int .i64 0, .int .i64 0, .int .i64 0, .int .i64 0] 56)) (w1 := W0) (by rw [hW0]; exact Below.refl _ _)
  rw [hW0] at HB0
  obtain ⟨hg0, hg1, hlt⟩ := hg
  have HG0 := Lib.hid hg0
  have HG1 := Lib.hid hg1
  have x0 : W0.cell? ⟨w.heap.size, 0, none⟩ = some (.int .i64 r) := cell_of_row _ _ 0 _ _ _ hg0
  have x1 : W0.cell? ⟨w.heap.size, 1, none⟩ = some (.int .i64 u) := cell_of_row _ _ 1 _ _ _ hg0
  have x2 : W0.cell? ⟨w.heap.size, 2, none⟩ = some (.int .i64 l) := cell_of_row _ _ 2 _ _ _ hg0
  have x3 : W0.cell? ⟨w.heap.size, 3, none⟩ = some (.int .i64 t) := cell_of_row _ _ 3 _ _ _ hg0
  clear hg0 hg1
  have HFI := Lib.hid (fun W => show Calls Tryz.prog 83 #[.agg #[.int .i64 r, .int .i64 u, .int .i64 l, .int .i64 t], .int .i64 now] W fun e w' => e = .returned (.agg #[.int .i64 r, .int .i64 u, .int .i64 L, .int .i64 T]) ∧ Below W.heap.size W w' from by rw [← hL, ← hT]; exact fill_b r u l t now W)
  clear h hL hT
  go_enter Tryz.func92, Tryz.ntmps92
  go_wp2_with fail
  refine (HRG.out _).mono ?_
  rintro e w1 ⟨rfl, hb⟩
  have hg0 := (hb.block _ (blk_lt HG0.out)).trans HG0.out
  have hg1 := (hb.block _ (blk_lt HG1.out)).trans HG1.out
  have HB1 := Lib.hid (seqB HB0.out hb)
  clear hb x0 x1 x2 x3 HG0 HG1 HRG hW0 hlt
  have hlt := blk_lt hg1
  have x0 : w1.cell? ⟨w.heap.size, 0, none⟩ = some (.int .i64 r) := cell_of_row _ _ 0 _ _ _ hg0
  have x1 : w1.cell? ⟨w.heap.size, 1, none⟩ = some (.int .i64 u) := cell_of_row _ _ 1 _ _ _ hg0
  have x2 : w1.cell? ⟨w.heap.size, 2, none⟩ = some (.int .i64 l) := cell_of_row _ _ 2 _ _ _ hg0
  have x3 : w1.cell? ⟨w.heap.size, 3, none⟩ = some (.int .i64 t) := cell_of_row _ _ 3 _ _ _ hg0
  have HG0 := Lib.hid hg0
  have HG1 := Lib.hid hg1
  clear hg0 hg1
  go_wp2_with fail
  refine (HFI.out _).mono ?_
  rintro e w2 ⟨rfl, hb⟩
  have hg0 := (hb.block _ (blk_lt HG0.out)).trans HG0.out
  have hg1 := (hb.block _ (blk_lt HG1.out)).trans HG1.out
  have HB2 := Lib.hid (seqB HB1.out hb)
  clear hb x0 x1 x2 x3 HG0 HG1 HFI hlt
  have x0 : w2.cell? ⟨w.heap.size, 0, none⟩ = some (.int .i64 r) := cell_of_row _ _ 0 _ _ _ hg0
  have x1 : w2.cell? ⟨w.heap.size, 1, none⟩ = some (.int .i64 u) := cell_of_row _ _ 1 _ _ _ hg0
  have x2 : w2.cell? ⟨w.heap.size, 2, none⟩ = some (.int .i64 l) := cell_of_row _ _ 2 _ _ _ hg0
  have x3 : w2.cell? ⟨w.heap.size, 3, none⟩ = some (.int .i64 t) := cell_of_row _ _ 3 _ _ _ hg0
  have e0 : w2.frozen? ⟨w.heap.size, 0, none⟩ = false := frozen_at hg0
  have e1 : w2.frozen? ⟨w.heap.size, 1, none⟩ = false := frozen_at hg0
  have e2 : w2.frozen? ⟨w.heap.size, 2, none⟩ = false := frozen_at hg0
  have e3 : w2.frozen? ⟨w.heap.size, 3, none⟩ = false := frozen_at hg0
  have hlt := blk_lt hg1
  go_upto_region 4 with fail
  have hs := set4_heap hg0 (.int .i64 r) (.int .i64 u) (.int .i64 L) (.int .i64 T)
  have hd := set4_below (w := w2) HB2.out (Nat.le_refl _) (.int .i64 r) (.int .i64 u) (.int .i64 L) (.int .i64 T)
  have hf := (set4_far (.int .i64 r) (.int .i64 u) (.int .i64 L) (.int .i64 T) (show w.heap.size + 1 ≠ w.heap.size by omega)).trans hg1
  generalize hW1 : set4 w2 w.heap.size (.int .i64 r) (.int .i64 u) (.int .i64 L) (.int .i64 T) = W1 at *
  unfold set4 at hW1
  rw [hW1]
  clear hW1 x0 x1 x2 x3 e0 e1 e2 e3 hg0 hg1 hlt
  have x0 : W1.cell? ⟨w.heap.size, 0, none⟩ = some (.int .i64 r) := cell_of_row _ _ 0 _ _ _ hs
  have x1 : W1.cell? ⟨w.heap.size, 1, none⟩ = some (.int .i64 u) := cell_of_row _ _ 1 _ _ _ hs
  have x2 : W1.cell? ⟨w.heap.size, 2, none⟩ = some (.int .i64 L) := cell_of_row _ _ 2 _ _ _ hs
  have x3 : W1.cell? ⟨w.heap.size, 3, none⟩ = some (.int .i64 T) := cell_of_row _ _ 3 _ _ _ hs
  have e2 : W1.frozen? ⟨w.heap.size, 2, none⟩ = false := frozen_at hs
  have HS := Lib.hid hs
  have HF := Lib.hid hf
  have HD1 := Lib.hid hd
  clear hs hf hd
  go_upto_region 6 with fail
  have hg0 := set_heap (i := 2) HS.out (.int .i64 D)
  have hg1 := (Below.heap_setCell W1 ⟨w.heap.size, 2, none⟩ (.int .i64 D) (w.heap.size + 1) (by simp)).trans HF.out
  have hd2 := HD1.out.setCell (p := ⟨w.heap.size, 2, none⟩) (Nat.le_refl _) (.int .i64 D)
  generalize W1.setCell ⟨w.heap.size, 2, none⟩ (.int .i64 D) = W2 at *
  clear x0 x1 x2 x3 e2 HS HF HD1
  have hg0 : W2.heap[w.heap.size]? = some (.cells #[.int .i64 r, .int .i64 u, .int .i64 D, .int .i64 T] 56 (0, 0)) := hg0
  have hlt := blk_lt hg1
  have x0 : W2.cell? ⟨w.heap.size, 0, none⟩ = some (.int .i64 r) := cell_of_row _ _ 0 _ _ _ hg0
  have x1 : W2.cell? ⟨w.heap.size, 1, none⟩ = some (.int .i64 u) := cell_of_row _ _ 1 _ _ _ hg0
  have x2 : W2.cell? ⟨w.heap.size, 2, none⟩ = some (.int .i64 D) := cell_of_row _ _ 2 _ _ _ hg0
  have x3 : W2.cell? ⟨w.heap.size, 3, none⟩ = some (.int .i64 T) := cell_of_row _ _ 3 _ _ _ hg0
  have y0 : W2.cell? ⟨w.heap.size + 1, 0, none⟩ = some (.int .i64 0) := cell_of_row _ _ 0 _ _ _ hg1
  have y1 : W2.cell? ⟨w.heap.size + 1, 1, none⟩ = some (.int .i64 0) := cell_of_row _ _ 1 _ _ _ hg1
  have y2 : W2.cell? ⟨w.heap.size + 1, 2, none⟩ = some (.int .i64 0) := cell_of_row _ _ 2 _ _ _ hg1
  have y3 : W2.cell? ⟨w.heap.size + 1, 3, none⟩ = some (.int .i64 0) := cell_of_row _ _ 3 _ _ _ hg1
  have f0 : W2.frozen? ⟨w.heap.size + 1, 0, none⟩ = false := frozen_at hg1
  have f1 : W2.frozen? ⟨w.heap.size + 1, 1, none⟩ = false := frozen_at hg1
  have f2 : W2.frozen? ⟨w.heap.size + 1, 2, none⟩ = false := frozen_at hg1
  have f3 : W2.frozen? ⟨w.heap.size + 1, 3, none⟩ = false := frozen_at hg1
  have hz := set4_heap hg1 (.int .i64 r) (.int .i64 u) (.int .i64 D) (.int .i64 T)
  have HD := Lib.hid (set4_below (w := W2) (g := w.heap.size + 1) hd2 (show w.heap.size ≤ w.heap.size + 1 by omega) (.int .i64 r) (.int .i64 u) (.int .i64 D) (.int .i64 T))
  go_wp2_with fail
  generalize hW : set4 W2 (w.heap.size + 1) (.int .i64 r) (.int .i64 u) (.int .i64 D) (.int .i64 T) = W9 at *
  unfold set4 at hW
  rw [hW]
  clear hW
  have z0 : W9.cell? ⟨w.heap.size + 1, 0, none⟩ = some (.int .i64 r) := cell_of_row _ _ 0 _ _ _ hz
  have z1 : W9.cell? ⟨w.heap.size + 1, 1, none⟩ = some (.int .i64 u) := cell_of_row _ _ 1 _ _ _ hz
  have z2 : W9.cell? ⟨w.heap.size + 1, 2, none⟩ = some (.int .i64 D) := cell_of_row _ _ 2 _ _ _ hz
  have z3 : W9.cell? ⟨w.heap.size + 1, 3, none⟩ = some (.int .i64 T) := cell_of_row _ _ 3 _ _ _ hz
  exact bodyPost_ret (v := .tuple #[.agg #[.int .i64 r, .int .i64 u, .int .i64 D, .int .i64 T], .int .i64 K]) (by simp [results, Tryz.results92, go_sem, z0, z1, z2, z3]) rfl ⟨rfl, HD.out⟩
theorem take_b1 {r u l t : Int} (h : rightB r u l t = true) (now n : Int) {L T K D : Int} (hL : fillL r u l t now = L) (hT : fillT r u l t now = T) (hK : takeB L n = K) (hD : L - K = D) (w : World) : Calls Tryz.prog 92 #[.agg #[.int .i64 r, .int .i64 u, .int .i64 l, .int .i64 t], .int .i64 now, .int .i64 n] w fun e w' => e = .returned (.tuple #[.agg #[.int .i64 r, .int .i64 u, .int .i64 D, .int .i64 T], .int .i64 K]) ∧ Below w.heap.size w w' := by
  have hr := (rightB_iff _ _ _ _).1 (fill_right h now)
  rw [hL, hT] at hr
  have h3 := hr.2.2.1
  refine take_bk h now n hL hT rfl ?_ ?_ w
  · rw [← hK]
    unfold takeB
    (repeat' split) <;> omega
  · rw [IntWalk.i64_in _ ?_, hD]
    rw [← hK]
    unfold takeB
    (repeat' split) <;> omega
end Go.Proofs.YtlbihcpglcdmmaaGreat.gb
