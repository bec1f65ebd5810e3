/-
  Contract: what the bucket's own When answers. Conditions: as each states.
-/
import Derived.Test.YtidklcjacejkaaaK6
namespace Go.Proofs.Ytidklcjacejkaaa
open Go.RowKit

theorem quiet_left {P : Program} {f : FuncId} {args : Array Value} {w : World} {n : Nat} {v : Value} (h : Calls P f args (w.drewN n) fun e w' => e = .returned v ∧ w.drewN n = w') :
    Calls P f args (w.drewN n) fun e w'' => e = .returned v ∧ ∃ m, w'' = w.drewN m := h.mono fun _ _ ⟨he, hm⟩ => ⟨he, n, hm.symm⟩
/-- The tick that When reckons. -/
def whenT (r l t n : Int) : Int := near (near t + near (upF (near (near n - near l)) r))
theorem fill_at {r u l t y : Int} (h : rightB r u l t = true) (h0 : t ≤ y) (h1 : y ≤ 1099511627776) : fillL r u l t y = lvl r u l t y := by
  obtain ⟨h2, h3, h4, h5, h6, h7⟩ := (rightB_iff r u l t).1 h
  unfold fillL
  rw [near_of y (by omega) h1]
  by_cases e : t < y
  · rw [if_pos ⟨h, e⟩]
  · obtain rfl : t = y := by omega
    rw [if_neg (fun q => e q.2)]
    unfold lvl
    rw [Int.sub_self, Int.mul_zero, Int.add_zero, if_neg (by omega)]
theorem whenT_range {r u l t : Int} (h : rightB r u l t = true) (n : Int) : t ≤ whenT r l t n ∧ whenT r l t n ≤ 1099511627776 := by
  obtain ⟨h2, h3, h4, h5, h6, h7⟩ := (rightB_iff r u l t).1 h
  unfold whenT
  refine ⟨?_, (near_range _).2⟩
  rw [near_of t h5.1 h5.2]
  have := near_range (upF (near (near n - near l)) r)
  generalize near (upF (near (near n - near l)) r) = q at *
  unfold near
  (repeat' split) <;> omega
theorem when_at {r u l t n x : Int} (h : rightB r u l t = true) (hx : IsW r u l t n x) : whenT r l t n = x := by
  obtain ⟨h2, h3, h4, h5, h6, h7⟩ := (rightB_iff r u l t).1 h
  have hlo := hx.low
  have hto := hx.top
  have hy := hx.yes
  rw [fill_at h hlo hto] at hy
  have hno := hx.no
  have hxu : n ≤ u := by unfold lvl at hy; split at hy <;> omega
  have hxl : n ≤ l + r * (x - t) := by unfold lvl at hy; split at hy <;> omega
  unfold whenT
  by_cases hn : n ≤ l
  · have e0 : near (near n - near l) = 0 := by
      rw [near_of l h4.1 h4.2]
      unfold near
      (repeat' split) <;> omega
    have e1 : upF 0 r = 0 := by unfold upF; rw [if_pos (by decide)]
    have n0 : near 0 = 0 := by decide
    rw [e0, e1, n0, Int.add_zero, near_of t h5.1 h5.2, near_of t h5.1 h5.2]
    by_cases e : t = x
    · exact e
    · have := hno t (Int.le_refl _) (by omega)
      rw [fill_at h (Int.le_refl _) h5.2] at this
      unfold lvl at this
      rw [Int.sub_self, Int.mul_zero, Int.add_zero, if_neg (by omega)] at this
      omega
  · have e0 : near (near n - near l) = n - l := by
      rw [near_of l h4.1 h4.2, near_of n (by omega) (by omega), near_of (n - l) (by omega) (by omega)]
    rw [e0]
    obtain ⟨d, hd⟩ : ∃ d, n - l = d := ⟨_, rfl⟩
    rw [hd]
    have hr0 : r ≠ 0 := by
      intro e
      rw [e, Int.zero_mul] at hxl
      omega
    have e1 : upF d r = (d + r - 1) / r := by
      unfold upF
      rw [near_of d (by omega) (by omega), near_of r h2.1 h2.2, if_neg (by omega), if_neg hr0]
    obtain ⟨k, hk⟩ : ∃ k, (d + r - 1) / r = k := ⟨_, rfl⟩
    have hk1 : d ≤ r * k := by
      have a := Int.emod_add_mul_ediv (d + r - 1) r
      have b := Int.emod_lt_of_pos (d + r - 1) (show 0 < r by omega)
      rw [hk] at a
      omega
    have hk2 : r * (k - 1) < d := by
      have a := Int.emod_add_mul_ediv (d + r - 1) r
      have b := Int.emod_nonneg (d + r - 1) hr0
      rw [hk] at a
      rw [Int.mul_sub, Int.mul_one]
      omega
    have hk0 : 0 ≤ k := by rw [← hk]; exact Int.ediv_nonneg (by omega) (by omega)
    have hle : k ≤ x - t := by
      refine Int.not_lt.1 (fun q => ?_)
      have a : r * (x - t) ≤ r * (k - 1) := Int.mul_le_mul_of_nonneg_left (by omega) h2.1
      omega
    have hge : x ≤ t + k := by
      refine Int.not_lt.1 (fun q => ?_)
      have a := hno (t + k) (by omega) q
      rw [fill_at h (by omega) (by omega)] at a
      unfold lvl at a
      rw [show t + k - t = k by omega] at a
      split at a <;> omega
    rw [e1, hk, near_of k hk0 (by omega), near_of t h5.1 h5.2, near_of (t + k) (by omega) (by omega)]
    omega
theorem fieldB2 (a b c d : Int) (w : World) : (Instr.field 24 (.agg #[.int .i64 a, .int .i64 b, .int .i64 c, .int .i64 d]) 2).run Try.prog w = .ok (.int .i64 c) w := by
  first
    | kernel_rfl
    | rfl
    | simp [Instr.field, go_sem]
set_option maxRecDepth 100000 in
set_option maxHeartbeats 8000000 in
theorem when_b1 {r u l t n x : Int} (h : rightB r u l t = true) (hx : IsW r u l t n x) (w : World) : Calls Try.prog 11 #[.agg #[.int .i64 r, .int .i64 u, .int .i64 l, .int .i64 t], .int .i64 n] w fun e w' => e = .returned (.tuple #[.int .i64 x, .bool true]) ∧ Below w.heap.size w w' := by
  have HRG := Lib.hid (fun W => show Calls Try.prog 14 #[.agg #[.int .i64 r, .int .i64 u, .int .i64 l, .int .i64 t]] W fun e w' => e = .returned (.bool true) ∧ Below W.heap.size W w' from by rw [← h]; exact right_b r u l t W)
  obtain ⟨d, hd⟩ : ∃ d, near (near n - near l) = d := ⟨_, rfl⟩
  obtain ⟨q, hq⟩ : ∃ q, upF d r = q := ⟨_, rfl⟩
  obtain ⟨T, hT⟩ : ∃ T, near (near t + near q) = T := ⟨_, rfl⟩
  have hwt : whenT r l t n = T := by unfold whenT; rw [hd, hq, hT]
  have HSU := Lib.hid (fun W => show Calls Try.prog 25 #[.int .i64 n, .int .i64 l] W fun e w' => e = .returned (.int .i64 d) ∧ W = w' from by rw [← hd]; exact sub_any n l W)
  have HUP := Lib.hid (fun W => show Calls Try.prog 24 #[.int .i64 d, .int .i64 r] W fun e w' => e = .returned (.int .i64 q) ∧ W = w' from by rw [← hq]; exact up_any d r W)
  have HAD := Lib.hid (fun W => show Calls Try.prog 23 #[.int .i64 t, .int .i64 q] W fun e w' => e = .returned (.int .i64 T) ∧ W = w' from by rw [← hT]; exact add_any t q W)
  have hTx := (hwt.symm.trans (when_at h hx))
  subst hTx
  have hfd := fieldB2
  obtain ⟨L, hL⟩ : ∃ L, fillL r u l t T = L := ⟨_, rfl⟩
  obtain ⟨T1, hT1⟩ : ∃ T1, fillT r u l t T = T1 := ⟨_, rfl⟩
  have HFI := Lib.hid (fun W => show Calls Try.prog 16 #[.agg #[.int .i64 r, .int .i64 u, .int .i64 l, .int .i64 t], .int .i64 T] W fun e w' => e = .returned (.agg #[.int .i64 r, .int .i64 u, .int .i64 L, .int .i64 T1]) ∧ Below W.heap.size W w' from by rw [← hL, ← hT1]; exact fill_b r u l t T W)
  have hlt : decide (L < n) = false := by
    have := hx.yes
    rw [hL] at this
    simp
    omega
  clear hx hL hT1
  have HB0 := Lib.hid (show Below w.heap.size w (w.alloc (.cells #[.int .i64 r, .int .i64 u, .int .i64 l, .int .i64 t] 24)) from (Below.refl _ _).alloc (Nat.le_refl _) _)
  have hg0 := heap_alloc_new w (.cells #[.int .i64 r, .int .i64 u, .int .i64 l, .int .i64 t] 24)
  obtain ⟨W0, hW0⟩ : ∃ W0, w.alloc (.cells #[.int .i64 r, .int .i64 u, .int .i64 l, .int .i64 t] 24) = W0 := ⟨_, rfl⟩
  rw [hW0] at HB0 hg0
  have x0 : W0.cell? ⟨w.heap.size, 0, none⟩ = some (.int .i64 r) := cell_of_row _ _ 0 _ _ _ hg0
  have x1 : W0.cell? ⟨w.heap.size, 1, none⟩ = some (.int .i64 u) := cell_of_row _ _ 1 _ _ _ hg0
  have x2 : W0.cell? ⟨w.heap.size, 2, none⟩ = some (.int .i64 l) := cell_of_row _ _ 2 _ _ _ hg0
  have x3 : W0.cell? ⟨w.heap.size, 3, none⟩ = some (.int .i64 t) := cell_of_row _ _ 3 _ _ _ hg0
  have HG0 := Lib.hid hg0
  clear hd hq hT h hg0 hwt
  go_enter Try.func11, Try.ntmps11
  go_wp2_with fail
  go_quiet (first
    | (go_at_call 25; exact quiet_left (HSU.out _))
    | (go_at_call 24; exact quiet_left (HUP.out _))
    | (go_at_call 23; exact quiet_left (HAD.out _)))
  have hbq := drewN_below W0 nq
  have hg0 := (hbq.block _ (blk_lt HG0.out)).trans HG0.out
  have HB1 := Lib.hid (seqB HB0.out hbq)
  generalize W0.drewN nq = W1 at *
  clear hbq HG0 x0 x1 x2 x3 hW0
  have x0 : W1.cell? ⟨w.heap.size, 0, none⟩ = some (.int .i64 r) := cell_of_row _ _ 0 _ _ _ hg0
  have x1 : W1.cell? ⟨w.heap.size, 1, none⟩ = some (.int .i64 u) := cell_of_row _ _ 1 _ _ _ hg0
  have x2 : W1.cell? ⟨w.heap.size, 2, none⟩ = some (.int .i64 l) := cell_of_row _ _ 2 _ _ _ hg0
  have x3 : W1.cell? ⟨w.heap.size, 3, none⟩ = some (.int .i64 t) := cell_of_row _ _ 3 _ _ _ hg0
  have HG0 := Lib.hid hg0
  clear hg0
  go_wp2_with fail
  refine (HRG.out _).mono ?_
  rintro e w1 ⟨rfl, hb⟩
  have hg0 := (hb.block _ (blk_lt HG0.out)).trans HG0.out
  have HB2 := Lib.hid (seqB HB1.out hb)
  clear hb HG0 x0 x1 x2 x3
  have x0 : w1.cell? ⟨w.heap.size, 0, none⟩ = some (.int .i64 r) := cell_of_row _ _ 0 _ _ _ hg0
  have x1 : w1.cell? ⟨w.heap.size, 1, none⟩ = some (.int .i64 u) := cell_of_row _ _ 1 _ _ _ hg0
  have x2 : w1.cell? ⟨w.heap.size, 2, none⟩ = some (.int .i64 l) := cell_of_row _ _ 2 _ _ _ hg0
  have x3 : w1.cell? ⟨w.heap.size, 3, none⟩ = some (.int .i64 t) := cell_of_row _ _ 3 _ _ _ hg0
  clear hg0
  go_wp2_with fail
  refine (HFI.out _).mono ?_
  rintro e w2 ⟨rfl, hb⟩
  have HB3 := Lib.hid (seqB HB2.out hb)
  clear hb
  go_wp2_with fail
  go_ret2
  exact ⟨rfl, HB3.out⟩
set_option maxRecDepth 100000 in
set_option maxHeartbeats 8000000 in
theorem when_b0 {r u l t n : Int} (h : rightB r u l t = true) (hx : fillL r u l t 1099511627776 < n) (w : World) : Calls Try.prog 11 #[.agg #[.int .i64 r, .int .i64 u, .int .i64 l, .int .i64 t], .int .i64 n] w fun e w' => e = .returned (.tuple #[.int .i64 0, .bool false]) ∧ Below w.heap.size w w' := by
  have HRG := Lib.hid (fun W => show Calls Try.prog 14 #[.agg #[.int .i64 r, .int .i64 u, .int .i64 l, .int .i64 t]] W fun e w' => e = .returned (.bool true) ∧ Below W.heap.size W w' from by rw [← h]; exact right_b r u l t W)
  obtain ⟨d, hd⟩ : ∃ d, near (near n - near l) = d := ⟨_, rfl⟩
  obtain ⟨q, hq⟩ : ∃ q, upF d r = q := ⟨_, rfl⟩
  obtain ⟨T, hT⟩ : ∃ T, near (near t + near q) = T := ⟨_, rfl⟩
  have hwt : whenT r l t n = T := by unfold whenT; rw [hd, hq, hT]
  have HSU := Lib.hid (fun W => show Calls Try.prog 25 #[.int .i64 n, .int .i64 l] W fun e w' => e = .returned (.int .i64 d) ∧ W = w' from by rw [← hd]; exact sub_any n l W)
  have HUP := Lib.hid (fun W => show Calls Try.prog 24 #[.int .i64 d, .int .i64 r] W fun e w' => e = .returned (.int .i64 q) ∧ W = w' from by rw [← hq]; exact up_any d r W)
  have HAD := Lib.hid (fun W => show Calls Try.prog 23 #[.int .i64 t, .int .i64 q] W fun e w' => e = .returned (.int .i64 T) ∧ W = w' from by rw [← hT]; exact add_any t q W)
  have hxr := whenT_range h n
  rw [hwt] at hxr
  have hfd := fieldB2
  obtain ⟨L, hL⟩ : ∃ L, fillL r u l t T = L := ⟨_, rfl⟩
  obtain ⟨T1, hT1⟩ : ∃ T1, fillT r u l t T = T1 := ⟨_, rfl⟩
  have HFI := Lib.hid (fun W => show Calls Try.prog 16 #[.agg #[.int .i64 r, .int .i64 u, .int .i64 l, .int .i64 t], .int .i64 T] W fun e w' => e = .returned (.agg #[.int .i64 r, .int .i64 u, .int .i64 L, .int .i64 T1]) ∧ Below W.heap.size W w' from by rw [← hL, ← hT1]; exact fill_b r u l t T W)
  have hlt : decide (L < n) = true := by
    have := fill_mono h hxr.1 hxr.2 (Int.le_refl _)
    rw [hL] at this
    simp
    omega
  clear hx hL hT1
  have HB0 := Lib.hid (show Below w.heap.size w (w.alloc (.cells #[.int .i64 r, .int .i64 u, .int .i64 l, .int .i64 t] 24)) from (Below.refl _ _).alloc (Nat.le_refl _) _)
  have hg0 := heap_alloc_new w (.cells #[.int .i64 r, .int .i64 u, .int .i64 l, .int .i64 t] 24)
  obtain ⟨W0, hW0⟩ : ∃ W0, w.alloc (.cells #[.int .i64 r, .int .i64 u, .int .i64 l, .int .i64 t] 24) = W0 := ⟨_, rfl⟩
  rw [hW0] at HB0 hg0
  have x0 : W0.cell? ⟨w.heap.size, 0, none⟩ = some (.int .i64 r) := cell_of_row _ _ 0 _ _ _ hg0
  have x1 : W0.cell? ⟨w.heap.size, 1, none⟩ = some (.int .i64 u) := cell_of_row _ _ 1 _ _ _ hg0
  have x2 : W0.cell? ⟨w.heap.size, 2, none⟩ = some (.int .i64 l) := cell_of_row _ _ 2 _ _ _ hg0
  have x3 : W0.cell? ⟨w.heap.size, 3, none⟩ = some (.int .i64 t) := cell_of_row _ _ 3 _ _ _ hg0
  have HG0 := Lib.hid hg0
  clear hd hq hT h hg0 hwt
  go_enter Try.func11, Try.ntmps11
  go_wp2_with fail
  go_quiet (first
    | (go_at_call 25; exact quiet_left (HSU.out _))
    | (go_at_call 24; exact quiet_left (HUP.out _))
    | (go_at_call 23; exact quiet_left (HAD.out _)))
  have hbq := drewN_below W0 nq
  have hg0 := (hbq.block _ (blk_lt HG0.out)).trans HG0.out
  have HB1 := Lib.hid (seqB HB0.out hbq)
  generalize W0.drewN nq = W1 at *
  clear hbq HG0 x0 x1 x2 x3 hW0
  have x0 : W1.cell? ⟨w.heap.size, 0, none⟩ = some (.int .i64 r) := cell_of_row _ _ 0 _ _ _ hg0
  have x1 : W1.cell? ⟨w.heap.size, 1, none⟩ = some (.int .i64 u) := cell_of_row _ _ 1 _ _ _ hg0
  have x2 : W1.cell? ⟨w.heap.size, 2, none⟩ = some (.int .i64 l) := cell_of_row _ _ 2 _ _ _ hg0
  have x3 : W1.cell? ⟨w.heap.size, 3, none⟩ = some (.int .i64 t) := cell_of_row _ _ 3 _ _ _ hg0
  have HG0 := Lib.hid hg0
  clear hg0
  go_wp2_with fail
  refine (HRG.out _).mono ?_
  rintro e w1 ⟨rfl, hb⟩
  have hg0 := (hb.block _ (blk_lt HG0.out)).trans HG0.out
  have HB2 := Lib.hid (seqB HB1.out hb)
  clear hb HG0 x0 x1 x2 x3
  have x0 : w1.cell? ⟨w.heap.size, 0, none⟩ = some (.int .i64 r) := cell_of_row _ _ 0 _ _ _ hg0
  have x1 : w1.cell? ⟨w.heap.size, 1, none⟩ = some (.int .i64 u) := cell_of_row _ _ 1 _ _ _ hg0
  have x2 : w1.cell? ⟨w.heap.size, 2, none⟩ = some (.int .i64 l) := cell_of_row _ _ 2 _ _ _ hg0
  have x3 : w1.cell? ⟨w.heap.size, 3, none⟩ = some (.int .i64 t) := cell_of_row _ _ 3 _ _ _ hg0
  clear hg0
  go_wp2_with fail
  refine (HFI.out _).mono ?_
  rintro e w2 ⟨rfl, hb⟩
  have HB3 := Lib.hid (seqB HB2.out hb)
  clear hb
  go_wp2_with fail
  go_ret2
  exact ⟨rfl, HB3.out⟩
set_option maxRecDepth 100000 in
set_option maxHeartbeats 8000000 in
theorem when_bb {r u l t : Int} (h : rightB r u l t = false) (n : Int) (w : World) : Calls Try.prog 11 #[.agg #[.int .i64 r, .int .i64 u, .int .i64 l, .int .i64 t], .int .i64 n] w fun e w' => e = .returned (.tuple #[.int .i64 0, .bool false]) ∧ Below w.heap.size w w' := by
  have HRG := Lib.hid (fun W => show Calls Try.prog 14 #[.agg #[.int .i64 r, .int .i64 u, .int .i64 l, .int .i64 t]] W fun e w' => e = .returned (.bool false) ∧ Below W.heap.size W w' from by rw [← h]; exact right_b r u l t W)
  obtain ⟨d, hd⟩ : ∃ d, near (near n - near l) = d := ⟨_, rfl⟩
  obtain ⟨q, hq⟩ : ∃ q, upF d r = q := ⟨_, rfl⟩
  obtain ⟨T, hT⟩ : ∃ T, near (near t + near q) = T := ⟨_, rfl⟩
  have hwt : whenT r l t n = T := by unfold whenT; rw [hd, hq, hT]
  have HSU := Lib.hid (fun W => show Calls Try.prog 25 #[.int .i64 n, .int .i64 l] W fun e w' => e = .returned (.int .i64 d) ∧ W = w' from by rw [← hd]; exact sub_any n l W)
  have HUP := Lib.hid (fun W => show Calls Try.prog 24 #[.int .i64 d, .int .i64 r] W fun e w' => e = .returned (.int .i64 q) ∧ W = w' from by rw [← hq]; exact up_any d r W)
  have HAD := Lib.hid (fun W => show Calls Try.prog 23 #[.int .i64 t, .int .i64 q] W fun e w' => e = .returned (.int .i64 T) ∧ W = w' from by rw [← hT]; exact add_any t q W)
  have HB0 := Lib.hid (show Below w.heap.size w (w.alloc (.cells #[.int .i64 r, .int .i64 u, .int .i64 l, .int .i64 t] 24)) from (Below.refl _ _).alloc (Nat.le_refl _) _)
  have hg0 := heap_alloc_new w (.cells #[.int .i64 r, .int .i64 u, .int .i64 l, .int .i64 t] 24)
  obtain ⟨W0, hW0⟩ : ∃ W0, w.alloc (.cells #[.int .i64 r, .int .i64 u, .int .i64 l, .int .i64 t] 24) = W0 := ⟨_, rfl⟩
  rw [hW0] at HB0 hg0
  have x0 : W0.cell? ⟨w.heap.size, 0, none⟩ = some (.int .i64 r) := cell_of_row _ _ 0 _ _ _ hg0
  have x1 : W0.cell? ⟨w.heap.size, 1, none⟩ = some (.int .i64 u) := cell_of_row _ _ 1 _ _ _ hg0
  have x2 : W0.cell? ⟨w.heap.size, 2, none⟩ = some (.int .i64 l) := cell_of_row _ _ 2 _ _ _ hg0
  have x3 : W0.cell? ⟨w.heap.size, 3, none⟩ = some (.int .i64 t) := cell_of_row _ _ 3 _ _ _ hg0
  have HG0 := Lib.hid hg0
  clear hd hq hT h hg0 hwt
  go_enter Try.func11, Try.ntmps11
  go_wp2_with fail
  go_quiet (first
    | (go_at_call 25; exact quiet_left (HSU.out _))
    | (go_at_call 24; exact quiet_left (HUP.out _))
    | (go_at_call 23; exact quiet_left (HAD.out _)))
  have hbq := drewN_below W0 nq
  have hg0 := (hbq.block _ (blk_lt HG0.out)).trans HG0.out
  have HB1 := Lib.hid (seqB HB0.out hbq)
  generalize W0.drewN nq = W1 at *
  clear hbq HG0 x0 x1 x2 x3 hW0
  have x0 : W1.cell? ⟨w.heap.size, 0, none⟩ = some (.int .i64 r) := cell_of_row _ _ 0 _ _ _ hg0
  have x1 : W1.cell? ⟨w.heap.size, 1, none⟩ = some (.int .i64 u) := cell_of_row _ _ 1 _ _ _ hg0
  have x2 : W1.cell? ⟨w.heap.size, 2, none⟩ = some (.int .i64 l) := cell_of_row _ _ 2 _ _ _ hg0
  have x3 : W1.cell? ⟨w.heap.size, 3, none⟩ = some (.int .i64 t) := cell_of_row _ _ 3 _ _ _ hg0
  have HG0 := Lib.hid hg0
  clear hg0
  go_wp2_with fail
  refine (HRG.out _).mono ?_
  rintro e w1 ⟨rfl, hb⟩
  have hg0 := (hb.block _ (blk_lt HG0.out)).trans HG0.out
  have HB2 := Lib.hid (seqB HB1.out hb)
  clear hb HG0 x0 x1 x2 x3
  have x0 : w1.cell? ⟨w.heap.size, 0, none⟩ = some (.int .i64 r) := cell_of_row _ _ 0 _ _ _ hg0
  have x1 : w1.cell? ⟨w.heap.size, 1, none⟩ = some (.int .i64 u) := cell_of_row _ _ 1 _ _ _ hg0
  have x2 : w1.cell? ⟨w.heap.size, 2, none⟩ = some (.int .i64 l) := cell_of_row _ _ 2 _ _ _ hg0
  have x3 : w1.cell? ⟨w.heap.size, 3, none⟩ = some (.int .i64 t) := cell_of_row _ _ 3 _ _ _ hg0
  clear hg0
  go_wp2_with fail
  go_ret2
  exact ⟨rfl, HB2.out⟩
end Go.Proofs.Ytidklcjacejkaaa
