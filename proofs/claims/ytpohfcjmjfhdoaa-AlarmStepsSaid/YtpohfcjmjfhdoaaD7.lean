/-
  Contract: what the document's own Do answers, where one is cancelled. Conditions: as each states.
-/
import Derived.Test.YtpohfcjmjfhdoaaD6
namespace Go.Proofs.Ytpohfcjmjfhdoaa
open Go.RowKit

set_option maxRecDepth 100000 in
set_option maxHeartbeats 8000000 in
theorem do_cancel (p : Option Addr) (n c k : Nat) (ds : List Due) (last a id : Int) (w : World) (hr : RowIn w p n c ds) (hn : n ≤ 4000) (hf : findI ds id = (k : Int)) (hk : k < n) :
    Calls Try.prog 12 #[.agg #[.slice p n c, .int .i64 last], .agg #[.int .i64 1, .int .i64 a, .int .i64 id]] w (Did (ds.eraseIdx k) last 0 true 0 [] w) := by
  have HR := Lib.hid hr
  have HN := Lib.hid hn
  have hfa := fun w h => find_any p n c ds id w hr.1 hr.2.1 hr.2.2.1 h
  rw [hf] at hfa
  have HFA := Lib.hid hfa
  have d1 : decide (0 ≤ (k : Int)) = true := by simp
  clear hr hf hfa hn
  go_enter Try.func12, Try.ntmps12
  go_wp2_with fail
  refine (HFA.out _ (row_on HR.out (below4 _ _ _ _ _)).2.2.2.1).mono ?_
  rintro e w1 ⟨rfl, rfl⟩
  go_wp2_with fail
  refine (without_any p n c k ds _ HR.out.1 (by have := HN.out; omega) hk HR.out.2.1 HR.out.2.2.1 (row_on HR.out (below4 _ _ _ _ _)).2.2.2.1).mono ?_
  rintro e w1 ⟨q, d, rfl, ho, hb1⟩
  obtain ⟨b0, b1, b2, b3, hlt⟩ := four_blocks hb1
  have HB1 := Lib.hid (seqB (below4 _ _ _ _ _) hb1)
  have HO := Lib.hid ho
  have x00 : w1.cell? ⟨w.heap.size, 0, none⟩ = some (.slice p n c) := cell_of_row _ _ 0 _ _ _ b0
  have x01 : w1.cell? ⟨w.heap.size, 1, none⟩ = some (.int .i64 last) := cell_of_row _ _ 1 _ _ _ b0
  have x20 : w1.cell? ⟨w.heap.size + 1 + 1, 0, none⟩ = some (.slice none 0 0) := cell_of_row _ _ 0 _ _ _ b2
  have x21 : w1.cell? ⟨w.heap.size + 1 + 1, 1, none⟩ = some (.int .i64 0) := cell_of_row _ _ 1 _ _ _ b2
  have x30 : w1.cell? ⟨w.heap.size + 1 + 1 + 1, 0, none⟩ = some (.int .i64 0) := cell_of_row _ _ 0 _ _ _ b3
  have x31 : w1.cell? ⟨w.heap.size + 1 + 1 + 1, 1, none⟩ = some (.bool false) := cell_of_row _ _ 1 _ _ _ b3
  have x32 : w1.cell? ⟨w.heap.size + 1 + 1 + 1, 2, none⟩ = some (.int .i64 0) := cell_of_row _ _ 2 _ _ _ b3
  have x33 : w1.cell? ⟨w.heap.size + 1 + 1 + 1, 3, none⟩ = some (.slice none 0 0) := cell_of_row _ _ 3 _ _ _ b3
  have y00 : w1.frozen? ⟨w.heap.size, 0, none⟩ = false := frozen_at b0
  have y20 : w1.frozen? ⟨w.heap.size + 1 + 1, 0, none⟩ = false := frozen_at b2
  have y21 : w1.frozen? ⟨w.heap.size + 1 + 1, 1, none⟩ = false := frozen_at b2
  have y30 : w1.frozen? ⟨w.heap.size + 1 + 1 + 1, 0, none⟩ = false := frozen_at b3
  have y31 : w1.frozen? ⟨w.heap.size + 1 + 1 + 1, 1, none⟩ = false := frozen_at b3
  have y32 : w1.frozen? ⟨w.heap.size + 1 + 1 + 1, 2, none⟩ = false := frozen_at b3
  have y33 : w1.frozen? ⟨w.heap.size + 1 + 1 + 1, 3, none⟩ = false := frozen_at b3
  obtain ⟨M, HM⟩ : ∃ M, Hid ((ds.eraseIdx k).length = M) := ⟨_, Lib.hid rfl⟩
  rw [HM.out] at HO ⊢
  have hb0 : Below w.heap.size w (w1.setCell ⟨w.heap.size, 0, none⟩ (.slice q M d)) := HB1.out.setCell (p := ⟨w.heap.size, 0, none⟩) (Nat.le_refl _) _
  have c2 := (Below.heap_setCell w1 ⟨w.heap.size, 0, none⟩ (.slice q M d) (w.heap.size + 1 + 1) (by simp; omega)).trans b2
  have c3 := (Below.heap_setCell w1 ⟨w.heap.size, 0, none⟩ (.slice q M d) (w.heap.size + 1 + 1 + 1) (by simp; omega)).trans b3
  have hz2 := set2_heap c2 (.slice q M d) (.int .i64 last)
  have hz3 := set4_heap ((set2_far (g := w.heap.size + 1 + 1) (.slice q M d) (.int .i64 last) (by omega)).trans c3) (.int .i64 0) (.bool true) (.int .i64 0) (.slice none 0 0)
  have hz4 := (set4_far (w := set2 (w1.setCell ⟨w.heap.size, 0, none⟩ (.slice q M d)) (w.heap.size + 1 + 1) (.slice q M d) (.int .i64 last)) (g := w.heap.size + 1 + 1 + 1) (.int .i64 0) (.bool true) (.int .i64 0) (.slice none 0 0) (by omega)).trans hz2
  have hbw := set4_below (set2_below hb0 (g := w.heap.size + 1 + 1) (by omega) (.slice q M d) (.int .i64 last)) (g := w.heap.size + 1 + 1 + 1) (by omega) (.int .i64 0) (.bool true) (.int .i64 0) (.slice none 0 0)
  have hrow : RowIn (set4 (set2 (w1.setCell ⟨w.heap.size, 0, none⟩ (.slice q M d)) (w.heap.size + 1 + 1) (.slice q M d) (.int .i64 last)) (w.heap.size + 1 + 1 + 1) (.int .i64 0) (.bool true) (.int .i64 0) (.slice none 0 0)) q M d (ds.eraseIdx k) :=
    row_of_own (own_low HO.out (base' := w.heap.size + 4) (by simp)) fun j hj => ((set4_far _ _ _ _ (by omega)).trans (set2_far _ _ (by omega))).trans (Below.heap_setCell w1 ⟨w.heap.size, 0, none⟩ (.slice q M d) j (by simp; omega))
  have HD := Lib.hid (And.intro hrow hbw)
  have HZ := Lib.hid (And.intro hz4 hz3)
  clear ho hb1 b0 b1 b2 b3 hb0 c2 c3 hz2 hz3 hz4 hbw hrow
  go_wp2_with fail
  generalize hW : set4 (set2 (w1.setCell ⟨w.heap.size, 0, none⟩ (.slice q M d)) (w.heap.size + 1 + 1) (.slice q M d) (.int .i64 last)) (w.heap.size + 1 + 1 + 1) (.int .i64 0) (.bool true) (.int .i64 0) (.slice none 0 0) = W at *
  unfold set4 set2 at hW
  rw [hW]
  clear hW
  have z20 : W.cell? ⟨w.heap.size + 1 + 1, 0, none⟩ = some (.slice q M d) := cell_of_row W _ 0 _ _ _ HZ.out.1
  have z21 : W.cell? ⟨w.heap.size + 1 + 1, 1, none⟩ = some (.int .i64 last) := cell_of_row W _ 1 _ _ _ HZ.out.1
  have z30 : W.cell? ⟨w.heap.size + 1 + 1 + 1, 0, none⟩ = some (.int .i64 0) := cell_of_row W _ 0 _ _ _ HZ.out.2
  have z31 : W.cell? ⟨w.heap.size + 1 + 1 + 1, 1, none⟩ = some (.bool true) := cell_of_row W _ 1 _ _ _ HZ.out.2
  have z32 : W.cell? ⟨w.heap.size + 1 + 1 + 1, 2, none⟩ = some (.int .i64 0) := cell_of_row W _ 2 _ _ _ HZ.out.2
  have z33 : W.cell? ⟨w.heap.size + 1 + 1 + 1, 3, none⟩ = some (.slice none 0 0) := cell_of_row W _ 3 _ _ _ HZ.out.2
  exact bodyPost_ret (v := .tuple #[.agg #[.slice q M d, .int .i64 last], .agg #[.int .i64 0, .bool true, .int .i64 0, .slice none 0 0]]) (by simp [results, Try.results12, go_sem, z20, z21, z30, z31, z32, z33]) rfl ⟨_, _, _, _, _, _, rfl, HD.out.1, row_nil _ _, HD.out.2⟩
end Go.Proofs.Ytpohfcjmjfhdoaa
