/-
  Contracts: what the bucket's own Right and New answer. Conditions: none.
-/
import Derived.Test.YtfdfgnmgpgkknaaMZ15
namespace Go.Proofs.Ytfdfgnmgpgkknaa.gb
open Go.RowKit

theorem right_is (n : Int) (w : World) : Calls Try.prog 89 #[.int .i64 n] w fun e w' => e = .returned (.bool (isR n)) ∧ w = w' := by
  refine (right_any n w).mono ?_
  rintro e w' ⟨rfl, rfl⟩
  exact ⟨ret_bool (by unfold isR; rw [Bool.eq_iff_iff, beq_iff_eq, beq_iff_eq]; exact eq_comm), rfl⟩

set_option maxRecDepth 100000 in
set_option maxHeartbeats 8000000 in
theorem right_b (r u l t : Int) (w : World) : Calls Try.prog 75 #[.agg #[.int .i64 r, .int .i64 u, .int .i64 l, .int .i64 t]] w fun e w' => e = .returned (.bool (rightB r u l t)) ∧ Below w.heap.size w w' := by
  have HI := Lib.hid right_is
  have HT := Lib.hid (fun W => trim_any r u l t W)
  have HB0 := Lib.hid (show Below w.heap.size w (w.alloc (.cells #[.int .i64 r, .int .i64 u, .int .i64 l, .int .i64 t] 70)) from (Below.refl _ _).alloc (Nat.le_refl _) _)
  have HK0 := Lib.hid (heap_alloc_new w (.cells #[.int .i64 r, .int .i64 u, .int .i64 l, .int .i64 t] 70))
  have HF := Lib.hid (show rightB r u l t = (isR r && isR u && isR l && isR t && decide (u ≠ 0) && decide (l ≤ u)) from rfl)
  have HLT := Lib.hid (blk_lt HK0.out)
  obtain ⟨w1, hw1⟩ : ∃ w1, w.alloc (.cells #[.int .i64 r, .int .i64 u, .int .i64 l, .int .i64 t] 70) = w1 := ⟨_, rfl⟩
  rw [hw1] at HB0 HK0 HLT
  have x0 : w1.cell? ⟨w.heap.size, 0, none⟩ = some (.int .i64 r) := cell_of_row _ _ 0 _ _ _ HK0.out
  have x1 : w1.cell? ⟨w.heap.size, 1, none⟩ = some (.int .i64 u) := cell_of_row _ _ 1 _ _ _ HK0.out
  have x2 : w1.cell? ⟨w.heap.size, 2, none⟩ = some (.int .i64 l) := cell_of_row _ _ 2 _ _ _ HK0.out
  have x3 : w1.cell? ⟨w.heap.size, 3, none⟩ = some (.int .i64 t) := cell_of_row _ _ 3 _ _ _ HK0.out
  go_enter Try.func75, Try.ntmps75
  by_cases e4 : u = 0
  · have c0 : (u != 0) = false := by simp [e4]
    have HF2 := Lib.hid (show (decide (u ≠ 0)) = false by simp [e4])
    clear e4
    go_wp2_with fail
    go_step3
    go_wp2_with fail
    go_quiet (fail)
    have HB3 := Lib.hid (below_drewN HB0.out nq)
    go_wp2_with fail
    go_step3
    go_wp2_with fail
    go_loopw [3, 5, 24] (fun a _ i wr => ∃ k : Int, a = .bool false ∧ i = .int .i64 k ∧ (0 ≤ k ∧ k ≤ 4) ∧ Hid ((1 ≤ k → isR r = true) ∧ (2 ≤ k → isR u = true) ∧ (3 ≤ k → isR l = true) ∧ (4 ≤ k → isR t = true)) ∧ Hid (Below w.heap.size w wr)) (fun _ _ i _ => (4 - intOf i).toNat)
    case atStart => exact ⟨0, rfl, rfl, ⟨by omega, by omega⟩, Lib.hid ⟨by omega, by omega, by omega, by omega⟩, HB3⟩
    case round =>
      obtain ⟨k, rfl, rfl, hk, HK, HW⟩ := hrel
      have hk5 : k = 0 ∨ k = 1 ∨ k = 2 ∨ k = 3 ∨ k = 4 := by omega
      clear hk
      rcases hk5 with rfl | rfl | rfl | rfl | rfl
      · have hix : ∀ w, (Instr.index 114 (.agg #[.int .i64 r, .int .i64 u, .int .i64 l, .int .i64 t]) (.int .i64 0)).run Try.prog w = .ok (.int .i64 r) w := fun _ => by kernel_rfl
        go_wp2_with fail
        refine (HI.out _ _).mono ?_
        rintro e w' ⟨rfl, rfl⟩
        cases e0 : isR r with
        | false =>
          go_wp2_with fail
          try rw [Exit.noGoto_ret]
          go_ret
          exact ⟨ret_bool (by rw [HF.out]; simp [e0]), HW.out⟩
        | true =>
          have HK2 := Lib.hid e0
          clear e0
          go_wp2_with fail
          go_roundw
          case rel =>
            have h0 := HK.out
            have h1 := HK2.out
            exact ⟨1, rfl, rfl, ⟨by omega, by omega⟩, Lib.hid ⟨fun _ => h1, by omega, by omega, by omega⟩, HW⟩
          case measure => simp [intOf]
      · have hix : ∀ w, (Instr.index 114 (.agg #[.int .i64 r, .int .i64 u, .int .i64 l, .int .i64 t]) (.int .i64 1)).run Try.prog w = .ok (.int .i64 u) w := fun _ => by kernel_rfl
        go_wp2_with fail
        refine (HI.out _ _).mono ?_
        rintro e w' ⟨rfl, rfl⟩
        cases e1 : isR u with
        | false =>
          go_wp2_with fail
          try rw [Exit.noGoto_ret]
          go_ret
          exact ⟨ret_bool (by rw [HF.out]; simp [e1]), HW.out⟩
        | true =>
          have HK2 := Lib.hid e1
          clear e1
          go_wp2_with fail
          go_roundw
          case rel =>
            have h0 := HK.out
            have h1 := HK2.out
            exact ⟨2, rfl, rfl, ⟨by omega, by omega⟩, Lib.hid ⟨fun _ => h0.1 (by omega), fun _ => h1, by omega, by omega⟩, HW⟩
          case measure => simp [intOf]
      · have hix : ∀ w, (Instr.index 114 (.agg #[.int .i64 r, .int .i64 u, .int .i64 l, .int .i64 t]) (.int .i64 2)).run Try.prog w = .ok (.int .i64 l) w := fun _ => by kernel_rfl
        go_wp2_with fail
        refine (HI.out _ _).mono ?_
        rintro e w' ⟨rfl, rfl⟩
        cases e2 : isR l with
        | false =>
          go_wp2_with fail
          try rw [Exit.noGoto_ret]
          go_ret
          exact ⟨ret_bool (by rw [HF.out]; simp [e2]), HW.out⟩
        | true =>
          have HK2 := Lib.hid e2
          clear e2
          go_wp2_with fail
          go_roundw
          case rel =>
            have h0 := HK.out
            have h1 := HK2.out
            exact ⟨3, rfl, rfl, ⟨by omega, by omega⟩, Lib.hid ⟨fun _ => h0.1 (by omega), fun _ => h0.2.1 (by omega), fun _ => h1, by omega⟩, HW⟩
          case measure => simp [intOf]
      · have hix : ∀ w, (Instr.index 114 (.agg #[.int .i64 r, .int .i64 u, .int .i64 l, .int .i64 t]) (.int .i64 3)).run Try.prog w = .ok (.int .i64 t) w := fun _ => by kernel_rfl
        go_wp2_with fail
        refine (HI.out _ _).mono ?_
        rintro e w' ⟨rfl, rfl⟩
        cases e3 : isR t with
        | false =>
          go_wp2_with fail
          try rw [Exit.noGoto_ret]
          go_ret
          exact ⟨ret_bool (by rw [HF.out]; simp [e3]), HW.out⟩
        | true =>
          have HK2 := Lib.hid e3
          clear e3
          go_wp2_with fail
          go_roundw
          case rel =>
            have h0 := HK.out
            have h1 := HK2.out
            exact ⟨4, rfl, rfl, ⟨by omega, by omega⟩, Lib.hid ⟨fun _ => h0.1 (by omega), fun _ => h0.2.1 (by omega), fun _ => h0.2.2.1 (by omega), fun _ => h1⟩, HW⟩
          case measure => simp [intOf]
      · have h0 := HK.out
        have g0 := Lib.hid (h0.1 (by omega))
        have g1 := Lib.hid (h0.2.1 (by omega))
        have g2 := Lib.hid (h0.2.2.1 (by omega))
        have g3 := Lib.hid (h0.2.2.2 (by omega))
        clear h0
        go_wp2_with fail
        try rw [Exit.noGoto_ret]
        go_ret
        exact ⟨ret_bool (by rw [HF.out]; simp [g0.out, g1.out, g2.out, g3.out, HF2.out]), HW.out⟩
  · by_cases e5 : l ≤ u
    · have c0 : (u != 0) = true := by simp [e4]
      have HF2 := Lib.hid (show (decide (u ≠ 0)) = true by simp [e4])
      have HF3 := Lib.hid (show (decide (l ≤ u)) = true by simp [e5])
      have ev : trimL u l = l := by unfold trimL; rw [if_neg (by omega)]
      rw [ev] at HT
      clear e4 e5 ev
      have HCK := Lib.hid (show ∀ W, Below w1.heap.size w1 W → (W.cell? ⟨w.heap.size, 0, none⟩ = some (.int .i64 r) ∧ W.cell? ⟨w.heap.size, 1, none⟩ = some (.int .i64 u) ∧ W.cell? ⟨w.heap.size, 2, none⟩ = some (.int .i64 l) ∧ W.cell? ⟨w.heap.size, 3, none⟩ = some (.int .i64 t)) ∧ Below w1.heap.size w1 W from
        fun W hb => ⟨⟨cell_of_row _ _ 0 _ _ _ ((hb.block _ (blk_lt HK0.out)).trans HK0.out), cell_of_row _ _ 1 _ _ _ ((hb.block _ (blk_lt HK0.out)).trans HK0.out), cell_of_row _ _ 2 _ _ _ ((hb.block _ (blk_lt HK0.out)).trans HK0.out), cell_of_row _ _ 3 _ _ _ ((hb.block _ (blk_lt HK0.out)).trans HK0.out)⟩, hb⟩)
      go_wp2_with fail
      go_step3
      go_wp2_with fail
      go_region_held (fun W => (W.cell? ⟨w.heap.size, 0, none⟩ = some (.int .i64 r) ∧ W.cell? ⟨w.heap.size, 1, none⟩ = some (.int .i64 u) ∧ W.cell? ⟨w.heap.size, 2, none⟩ = some (.int .i64 l) ∧ W.cell? ⟨w.heap.size, 3, none⟩ = some (.int .i64 t)) ∧ Below w1.heap.size w1 W)
        ((refine HCK.out _ ?_
          go_split_ands
          first
            | with_reducible exact (Below.refl _ _).drew
            | with_reducible assumption))
        (first
          | (go_at_call 78; go_split_ands; (with_reducible refine Calls.mono (HT.out _) ?_); rintro e w5 ⟨rfl, hb⟩; (have hb5 := seqB (by assumption) hb); clear hb))
      have HB3 := Lib.hid (seqB HB0.out hb5)
      have hg0 := (hb5.block _ (blk_lt HK0.out)).trans HK0.out
      clear hb5 HCK x0 x1 x2 x3
      go_split_ands
      have x0 : w5.cell? ⟨w.heap.size, 0, none⟩ = some (.int .i64 r) := cell_of_row _ _ 0 _ _ _ hg0
      have x1 : w5.cell? ⟨w.heap.size, 1, none⟩ = some (.int .i64 u) := cell_of_row _ _ 1 _ _ _ hg0
      have x2 : w5.cell? ⟨w.heap.size, 2, none⟩ = some (.int .i64 l) := cell_of_row _ _ 2 _ _ _ hg0
      have x3 : w5.cell? ⟨w.heap.size, 3, none⟩ = some (.int .i64 t) := cell_of_row _ _ 3 _ _ _ hg0
      clear hg0
      go_wp2_with fail
      go_step3
      go_wp2_with fail
      go_loopw [3, 5, 24] (fun a _ i wr => ∃ k : Int, a = .bool true ∧ i = .int .i64 k ∧ (0 ≤ k ∧ k ≤ 4) ∧ Hid ((1 ≤ k → isR r = true) ∧ (2 ≤ k → isR u = true) ∧ (3 ≤ k → isR l = true) ∧ (4 ≤ k → isR t = true)) ∧ Hid (Below w.heap.size w wr)) (fun _ _ i _ => (4 - intOf i).toNat)
      case atStart => exact ⟨0, rfl, rfl, ⟨by omega, by omega⟩, Lib.hid ⟨by omega, by omega, by omega, by omega⟩, HB3⟩
      case round =>
        obtain ⟨k, rfl, rfl, hk, HK, HW⟩ := hrel
        have hk5 : k = 0 ∨ k = 1 ∨ k = 2 ∨ k = 3 ∨ k = 4 := by omega
        clear hk
        rcases hk5 with rfl | rfl | rfl | rfl | rfl
        · have hix : ∀ w, (Instr.index 114 (.agg #[.int .i64 r, .int .i64 u, .int .i64 l, .int .i64 t]) (.int .i64 0)).run Try.prog w = .ok (.int .i64 r) w := fun _ => by kernel_rfl
          go_wp2_with fail
          refine (HI.out _ _).mono ?_
          rintro e w' ⟨rfl, rfl⟩
          cases e0 : isR r with
          | false =>
            go_wp2_with fail
            try rw [Exit.noGoto_ret]
            go_ret
            exact ⟨ret_bool (by rw [HF.out]; simp [e0]), HW.out⟩
          | true =>
            have HK2 := Lib.hid e0
            clear e0
            go_wp2_with fail
            go_roundw
            case rel =>
              have h0 := HK.out
              have h1 := HK2.out
              exact ⟨1, rfl, rfl, ⟨by omega, by omega⟩, Lib.hid ⟨fun _ => h1, by omega, by omega, by omega⟩, HW⟩
            case measure => simp [intOf]
        · have hix : ∀ w, (Instr.index 114 (.agg #[.int .i64 r, .int .i64 u, .int .i64 l, .int .i64 t]) (.int .i64 1)).run Try.prog w = .ok (.int .i64 u) w := fun _ => by kernel_rfl
          go_wp2_with fail
          refine (HI.out _ _).mono ?_
          rintro e w' ⟨rfl, rfl⟩
          cases e1 : isR u with
          | false =>
            go_wp2_with fail
            try rw [Exit.noGoto_ret]
            go_ret
            exact ⟨ret_bool (by rw [HF.out]; simp [e1]), HW.out⟩
          | true =>
            have HK2 := Lib.hid e1
            clear e1
            go_wp2_with fail
            go_roundw
            case rel =>
              have h0 := HK.out
              have h1 := HK2.out
              exact ⟨2, rfl, rfl, ⟨by omega, by omega⟩, Lib.hid ⟨fun _ => h0.1 (by omega), fun _ => h1, by omega, by omega⟩, HW⟩
            case measure => simp [intOf]
        · have hix : ∀ w, (Instr.index 114 (.agg #[.int .i64 r, .int .i64 u, .int .i64 l, .int .i64 t]) (.int .i64 2)).run Try.prog w = .ok (.int .i64 l) w := fun _ => by kernel_rfl
          go_wp2_with fail
          refine (HI.out _ _).mono ?_
          rintro e w' ⟨rfl, rfl⟩
          cases e2 : isR l with
          | false =>
            go_wp2_with fail
            try rw [Exit.noGoto_ret]
            go_ret
            exact ⟨ret_bool (by rw [HF.out]; simp [e2]), HW.out⟩
          | true =>
            have HK2 := Lib.hid e2
            clear e2
            go_wp2_with fail
            go_roundw
            case rel =>
              have h0 := HK.out
              have h1 := HK2.out
              exact ⟨3, rfl, rfl, ⟨by omega, by omega⟩, Lib.hid ⟨fun _ => h0.1 (by omega), fun _ => h0.2.1 (by omega), fun _ => h1, by omega⟩, HW⟩
            case measure => simp [intOf]
        · have hix : ∀ w, (Instr.index 114 (.agg #[.int .i64 r, .int .i64 u, .int .i64 l, .int .i64 t]) (.int .i64 3)).run Try.prog w = .ok (.int .i64 t) w := fun _ => by kernel_rfl
          go_wp2_with fail
          refine (HI.out _ _).mono ?_
          rintro e w' ⟨rfl, rfl⟩
          cases e3 : isR t with
          | false =>
            go_wp2_with fail
            try rw [Exit.noGoto_ret]
            go_ret
            exact ⟨ret_bool (by rw [HF.out]; simp [e3]), HW.out⟩
          | true =>
            have HK2 := Lib.hid e3
            clear e3
            go_wp2_with fail
            go_roundw
            case rel =>
              have h0 := HK.out
              have h1 := HK2.out
              exact ⟨4, rfl, rfl, ⟨by omega, by omega⟩, Lib.hid ⟨fun _ => h0.1 (by omega), fun _ => h0.2.1 (by omega), fun _ => h0.2.2.1 (by omega), fun _ => h1⟩, HW⟩
            case measure => simp [intOf]
        · have h0 := HK.out
          have g0 := Lib.hid (h0.1 (by omega))
          have g1 := Lib.hid (h0.2.1 (by omega))
          have g2 := Lib.hid (h0.2.2.1 (by omega))
          have g3 := Lib.hid (h0.2.2.2 (by omega))
          clear h0
          go_wp2_with fail
          try rw [Exit.noGoto_ret]
          go_ret
          exact ⟨ret_bool (by rw [HF.out]; simp [g0.out, g1.out, g2.out, g3.out, HF2.out, HF3.out]), HW.out⟩
    · have c0 : (u != 0) = true := by simp [e4]
      have HF3 := Lib.hid (show (decide (l ≤ u)) = false by simp; omega)
      have ev : trimL u l = u := by unfold trimL; rw [if_pos (by omega)]
      have hne : (l == u) = false := by simp; omega
      rw [ev] at HT
      clear e4 e5 ev
      have HCK := Lib.hid (show ∀ W, Below w1.heap.size w1 W → (W.cell? ⟨w.heap.size, 0, none⟩ = some (.int .i64 r) ∧ W.cell? ⟨w.heap.size, 1, none⟩ = some (.int .i64 u) ∧ W.cell? ⟨w.heap.size, 2, none⟩ = some (.int .i64 l) ∧ W.cell? ⟨w.heap.size, 3, none⟩ = some (.int .i64 t)) ∧ Below w1.heap.size w1 W from
        fun W hb => ⟨⟨cell_of_row _ _ 0 _ _ _ ((hb.block _ (blk_lt HK0.out)).trans HK0.out), cell_of_row _ _ 1 _ _ _ ((hb.block _ (blk_lt HK0.out)).trans HK0.out), cell_of_row _ _ 2 _ _ _ ((hb.block _ (blk_lt HK0.out)).trans HK0.out), cell_of_row _ _ 3 _ _ _ ((hb.block _ (blk_lt HK0.out)).trans HK0.out)⟩, hb⟩)
      go_wp2_with fail
      go_step3
      go_wp2_with fail
      go_region_held (fun W => (W.cell? ⟨w.heap.size, 0, none⟩ = some (.int .i64 r) ∧ W.cell? ⟨w.heap.size, 1, none⟩ = some (.int .i64 u) ∧ W.cell? ⟨w.heap.size, 2, none⟩ = some (.int .i64 l) ∧ W.cell? ⟨w.heap.size, 3, none⟩ = some (.int .i64 t)) ∧ Below w1.heap.size w1 W)
        ((refine HCK.out _ ?_
          go_split_ands
          first
            | with_reducible exact (Below.refl _ _).drew
            | with_reducible assumption))
        (first
          | (go_at_call 78; go_split_ands; (with_reducible refine Calls.mono (HT.out _) ?_); rintro e w5 ⟨rfl, hb⟩; (have hb5 := seqB (by assumption) hb); clear hb))
      have HB3 := Lib.hid (seqB HB0.out hb5)
      have hg0 := (hb5.block _ (blk_lt HK0.out)).trans HK0.out
      clear hb5 HCK x0 x1 x2 x3
      go_split_ands
      have x0 : w5.cell? ⟨w.heap.size, 0, none⟩ = some (.int .i64 r) := cell_of_row _ _ 0 _ _ _ hg0
      have x1 : w5.cell? ⟨w.heap.size, 1, none⟩ = some (.int .i64 u) := cell_of_row _ _ 1 _ _ _ hg0
      have x2 : w5.cell? ⟨w.heap.size, 2, none⟩ = some (.int .i64 l) := cell_of_row _ _ 2 _ _ _ hg0
      have x3 : w5.cell? ⟨w.heap.size, 3, none⟩ = some (.int .i64 t) := cell_of_row _ _ 3 _ _ _ hg0
      clear hg0
      go_wp2_with fail
      go_step3
      go_wp2_with fail
      go_loopw [3, 5, 24] (fun a _ i wr => ∃ k : Int, a = .bool false ∧ i = .int .i64 k ∧ (0 ≤ k ∧ k ≤ 4) ∧ Hid ((1 ≤ k → isR r = true) ∧ (2 ≤ k → isR u = true) ∧ (3 ≤ k → isR l = true) ∧ (4 ≤ k → isR t = true)) ∧ Hid (Below w.heap.size w wr)) (fun _ _ i _ => (4 - intOf i).toNat)
      case atStart => exact ⟨0, rfl, rfl, ⟨by omega, by omega⟩, Lib.hid ⟨by omega, by omega, by omega, by omega⟩, HB3⟩
      case round =>
        obtain ⟨k, rfl, rfl, hk, HK, HW⟩ := hrel
        have hk5 : k = 0 ∨ k = 1 ∨ k = 2 ∨ k = 3 ∨ k = 4 := by omega
        clear hk
        rcases hk5 with rfl | rfl | rfl | rfl | rfl
        · have hix : ∀ w, (Instr.index 114 (.agg #[.int .i64 r, .int .i64 u, .int .i64 l, .int .i64 t]) (.int .i64 0)).run Try.prog w = .ok (.int .i64 r) w := fun _ => by kernel_rfl
          go_wp2_with fail
          refine (HI.out _ _).mono ?_
          rintro e w' ⟨rfl, rfl⟩
          cases e0 : isR r with
          | false =>
            go_wp2_with fail
            try rw [Exit.noGoto_ret]
            go_ret
            exact ⟨ret_bool (by rw [HF.out]; simp [e0]), HW.out⟩
          | true =>
            have HK2 := Lib.hid e0
            clear e0
            go_wp2_with fail
            go_roundw
            case rel =>
              have h0 := HK.out
              have h1 := HK2.out
              exact ⟨1, rfl, rfl, ⟨by omega, by omega⟩, Lib.hid ⟨fun _ => h1, by omega, by omega, by omega⟩, HW⟩
            case measure => simp [intOf]
        · have hix : ∀ w, (Instr.index 114 (.agg #[.int .i64 r, .int .i64 u, .int .i64 l, .int .i64 t]) (.int .i64 1)).run Try.prog w = .ok (.int .i64 u) w := fun _ => by kernel_rfl
          go_wp2_with fail
          refine (HI.out _ _).mono ?_
          rintro e w' ⟨rfl, rfl⟩
          cases e1 : isR u with
          | false =>
            go_wp2_with fail
            try rw [Exit.noGoto_ret]
            go_ret
            exact ⟨ret_bool (by rw [HF.out]; simp [e1]), HW.out⟩
          | true =>
            have HK2 := Lib.hid e1
            clear e1
            go_wp2_with fail
            go_roundw
            case rel =>
              have h0 := HK.out
              have h1 := HK2.out
              exact ⟨2, rfl, rfl, ⟨by omega, by omega⟩, Lib.hid ⟨fun _ => h0.1 (by omega), fun _ => h1, by omega, by omega⟩, HW⟩
            case measure => simp [intOf]
        · have hix : ∀ w, (Instr.index 114 (.agg #[.int .i64 r, .int .i64 u, .int .i64 l, .int .i64 t]) (.int .i64 2)).run Try.prog w = .ok (.int .i64 l) w := fun _ => by kernel_rfl
          go_wp2_with fail
          refine (HI.out _ _).mono ?_
          rintro e w' ⟨rfl, rfl⟩
          cases e2 : isR l with
          | false =>
            go_wp2_with fail
            try rw [Exit.noGoto_ret]
            go_ret
            exact ⟨ret_bool (by rw [HF.out]; simp [e2]), HW.out⟩
          | true =>
            have HK2 := Lib.hid e2
            clear e2
            go_wp2_with fail
            go_roundw
            case rel =>
              have h0 := HK.out
              have h1 := HK2.out
              exact ⟨3, rfl, rfl, ⟨by omega, by omega⟩, Lib.hid ⟨fun _ => h0.1 (by omega), fun _ => h0.2.1 (by omega), fun _ => h1, by omega⟩, HW⟩
            case measure => simp [intOf]
        · have hix : ∀ w, (Instr.index 114 (.agg #[.int .i64 r, .int .i64 u, .int .i64 l, .int .i64 t]) (.int .i64 3)).run Try.prog w = .ok (.int .i64 t) w := fun _ => by kernel_rfl
          go_wp2_with fail
          refine (HI.out _ _).mono ?_
          rintro e w' ⟨rfl, rfl⟩
          cases e3 : isR t with
          | false =>
            go_wp2_with fail
            try rw [Exit.noGoto_ret]
            go_ret
            exact ⟨ret_bool (by rw [HF.out]; simp [e3]), HW.out⟩
          | true =>
            have HK2 := Lib.hid e3
            clear e3
            go_wp2_with fail
            go_roundw
            case rel =>
              have h0 := HK.out
              have h1 := HK2.out
              exact ⟨4, rfl, rfl, ⟨by omega, by omega⟩, Lib.hid ⟨fun _ => h0.1 (by omega), fun _ => h0.2.1 (by omega), fun _ => h0.2.2.1 (by omega), fun _ => h1⟩, HW⟩
            case measure => simp [intOf]
        · have h0 := HK.out
          have g0 := Lib.hid (h0.1 (by omega))
          have g1 := Lib.hid (h0.2.1 (by omega))
          have g2 := Lib.hid (h0.2.2.1 (by omega))
          have g3 := Lib.hid (h0.2.2.2 (by omega))
          clear h0
          go_wp2_with fail
          try rw [Exit.noGoto_ret]
          go_ret
          exact ⟨ret_bool (by rw [HF.out]; simp [g0.out, g1.out, g2.out, g3.out, HF3.out]), HW.out⟩
end Go.Proofs.Ytfdfgnmgpgkknaa.gb
