/-
  Contracts: what compare and ahead answer: they make blocks, and turn nothing. Conditions: as each states.
-/
import Derived.Test.YtpohfcjmjfhdoaaC
import Derived.Shelf.SlSortCmp.QuietGrown
namespace Go.Proofs.Ytpohfcjmjfhdoaa
open Go.RowKit Go.Sort

theorem grown_box (w : World) (o1 o2 : Obj) (q : Nat) (os' : Array Obj) : ∃ q' os'', grow (((w.alloc o1).alloc o2).drewN q) os' = grow (w.drewN q') os'' := ⟨q, #[o1] ++ #[o2] ++ os', by
  rw [alloc_eq_grow, alloc_eq_grow, grow_grow]
  show grow (grow (w.drewN q) _) os' = _
  rw [grow_grow]⟩
theorem grown_three (w : World) (o1 o2 o3 : Obj) : ∃ q' os'', (((w.alloc o1).alloc o2).alloc o3).drew = grow (w.drewN q') os'' := ⟨1, #[o1] ++ #[o2] ++ #[o3], by
  rw [alloc_eq_grow, alloc_eq_grow, alloc_eq_grow, grow_grow, grow_grow]
  rfl⟩
def cmpD (d e : Due) : Int := orI (cmpI d.1 e.1) (cmpI d.2 e.2)
theorem cmp_ahead (d e : Due) : decide (cmpD d e < 0) = aheadB d e := by
  unfold cmpD orI cmpI aheadB
  rw [Bool.eq_iff_iff]
  simp only [decide_eq_true_eq]
  split <;> split <;> (try split) <;> (try split) <;> (try split) <;> omega
set_option maxHeartbeats 4000000 in
theorem compare_any (d e : Due) (w : World) : Calls Try.prog 32 #[.agg #[.int .i64 d.1, .int .i64 d.2], .agg #[.int .i64 e.1, .int .i64 e.2]] w fun e' w' => e' = .returned (.int .i64 (cmpD d e)) ∧ ∃ q os', w' = grow (w.drewN q) os' := by
  obtain ⟨d0, d1⟩ := d
  obtain ⟨e0, e1⟩ := e
  show Calls _ _ #[.agg #[.int .i64 d0, .int .i64 d1], .agg #[.int .i64 e0, .int .i64 e1]] w _
  have HC := Lib.hid (show orI (cmpI d0 e0) (cmpI d1 e1) = cmpD (d0, d1) (e0, e1) from rfl)
  generalize cmpD (d0, d1) (e0, e1) = F at HC ⊢
  have HP := Lib.hid (cmp_any d0 e0)
  have HQ := Lib.hid (cmp_any d1 e1)
  generalize cmpI d0 e0 = A at HC HP
  generalize cmpI d1 e1 = B at HC HQ
  go_enter Try.func32, Try.ntmps32
  go_wp2_with fail
  obtain ⟨W, hW⟩ : ∃ W, ((w.alloc (.cells #[.int .i64 d0, .int .i64 d1] 38)).alloc (.cells #[.int .i64 e0, .int .i64 e1] 38)) = W := ⟨_, rfl⟩
  have hs : (w.alloc (.cells #[.int .i64 d0, .int .i64 d1] 38)).heap.size = w.heap.size + 1 := by simp
  have k0 : W.heap[w.heap.size]? = some (.cells #[.int .i64 d0, .int .i64 d1] 38 (0, 0)) := by rw [← hW, Below.heap_alloc _ _ _ (by simp)]; exact heap_alloc_new _ _
  have k1 : W.heap[w.heap.size + 1]? = some (.cells #[.int .i64 e0, .int .i64 e1] 38 (0, 0)) := by rw [← hW, ← hs]; exact heap_alloc_new _ _
  have HW := Lib.hid hW
  try rw [hW]
  clear hW hs
  have HS := Lib.hid (show ∀ w', Below W.heap.size W w' → w'.cell? ⟨w.heap.size, 0, none⟩ = some (.int .i64 d0) ∧ w'.cell? ⟨w.heap.size, 1, none⟩ = some (.int .i64 d1) ∧ w'.cell? ⟨w.heap.size + 1, 0, none⟩ = some (.int .i64 e0) ∧ w'.cell? ⟨w.heap.size + 1, 1, none⟩ = some (.int .i64 e1) from fun w' hb => by
    have k0' := (hb.block _ (blk_lt k0)).trans k0
    have k1' := (hb.block _ (blk_lt k1)).trans k1
    exact ⟨cell_of_row _ _ 0 _ _ _ k0', cell_of_row _ _ 1 _ _ _ k0', cell_of_row _ _ 0 _ _ _ k1', cell_of_row _ _ 1 _ _ _ k1'⟩)
  clear k0 k1
  go_region_held (fun w' => w'.cell? ⟨w.heap.size, 0, none⟩ = some (.int .i64 d0) ∧ w'.cell? ⟨w.heap.size, 1, none⟩ = some (.int .i64 d1) ∧ w'.cell? ⟨w.heap.size + 1, 0, none⟩ = some (.int .i64 e0) ∧ w'.cell? ⟨w.heap.size + 1, 1, none⟩ = some (.int .i64 e1))
    (first | exact HS.out _ (Below.refl _ _).drew | exact HS.out _ ((Below.refl _ _).alloc (Nat.le_refl _) _).drew | exact HS.out _ ((Below.refl _ _).alloc (Nat.le_refl _) _))
    (first
      | (go_at_call 43; with_reducible refine Calls.mono (HP.out _) ?_; rintro e w' ⟨rfl, rfl⟩)
      | (go_at_call 43; with_reducible refine Calls.mono (HQ.out _) ?_; rintro e w' ⟨rfl, rfl⟩)
      | (go_at_call 42; refine Calls.mono (or_any _ 0 _ _ _ (cell_of_row _ _ 0 _ _ _ (heap_alloc_new _ _)) (cell_of_row _ _ 1 _ _ _ (heap_alloc_new _ _))) ?_; rintro e w' ⟨rfl, rfl⟩))
  go_wp2_with fail
  go_ret
  refine ⟨ret_int HC.out, ?_⟩
  rw [← HW.out]
  exact grown_three _ _ _ _
set_option maxHeartbeats 4000000 in
theorem ahead_any (d e : Due) (w : World) : Calls Try.prog 33 #[.agg #[.int .i64 d.1, .int .i64 d.2], .agg #[.int .i64 e.1, .int .i64 e.2]] w fun e' w' => e' = .returned (.bool (aheadB d e)) ∧ ∃ q os', w' = grow (w.drewN q) os' := by
  have HF := Lib.hid (cmp_ahead d e)
  have HP := Lib.hid (fun w => compare_any d e w)
  generalize aheadB d e = F at HF ⊢
  generalize cmpD d e = C at HF HP
  obtain ⟨d0, d1⟩ := d
  obtain ⟨e0, e1⟩ := e
  show Calls _ _ #[.agg #[.int .i64 d0, .int .i64 d1], .agg #[.int .i64 e0, .int .i64 e1]] w _
  have hp : ∀ w', Calls Try.prog 32 #[.agg #[.int .i64 d0, .int .i64 d1], .agg #[.int .i64 e0, .int .i64 e1]] w' _ := HP.out
  clear HP
  have HP := Lib.hid hp
  clear hp
  go_enter Try.func33, Try.ntmps33
  go_wp2_with fail
  refine (HP.out _).mono ?_
  rintro e w1 ⟨rfl, q, os', hw⟩
  have HW := Lib.hid (show ∃ q os', w1 = grow (w.drewN q) os' from by
    rw [hw]
    exact grown_box _ _ _ _ _)
  clear hw
  go_wp2_with fail
  go_ret
  exact ⟨ret_bool HF.out, HW.out⟩
end Go.Proofs.Ytpohfcjmjfhdoaa
