/-
  Contract: what the document's own Do answers, where some are taken. Conditions: as each states.
-/
import Derived.Test.YtpohfcjmjfhdoaaD6
namespace Go.Proofs.Ytpohfcjmjfhdoaa
open Go.RowKit

/-- How many are due. -/
def dueN (ds : List Due) (x : Int) : Nat := (ds.takeWhile fun d => decide (d.1 ≤ x)).length
theorem due_le (ds : List Due) (x : Int) : dueN ds x ≤ ds.length := by
  have h := congrArg List.length (List.takeWhile_append_dropWhile (p := fun d => decide (d.1 ≤ x)) (l := ds))
  rw [List.length_append] at h
  unfold dueN
  omega
theorem due_yes {ds : List Due} {x : Int} {k : Nat} (h : k < dueN ds x) : (ds.getD k (0, 0)).1 ≤ x := by
  induction ds generalizing k with
  | nil => simp [dueN] at h
  | cons d r ih =>
    simp only [dueN, List.takeWhile_cons] at h
    split at h
    · rename_i hd
      cases k with
      | zero => simpa using hd
      | succ k => exact ih (k := k) (by unfold dueN; simpa using h)
    · simp at h
theorem due_no {ds : List Due} {x : Int} (h : dueN ds x < ds.length) : x < (ds.getD (dueN ds x) (0, 0)).1 := by
  induction ds with
  | nil => simp at h
  | cons d r ih =>
    by_cases hd : d.1 ≤ x
    · have e : dueN (d :: r) x = dueN r x + 1 := by simp [dueN, hd]
      rw [e] at h ⊢
      exact ih (by simpa using h)
    · have e : dueN (d :: r) x = 0 := by simp [dueN, hd]
      rw [e]
      show x < d.1
      omega

set_option maxRecDepth 100000 in
set_option maxHeartbeats 8000000 in
theorem do_take (p : Option Addr) (n c N : Nat) (ds : List Due) (last x id : Int) (w : World) (hr : RowIn w p n c ds) (hn : n ≤ 4000) (hN : dueN ds x = N) (p2 : Option Addr) (n2 c2 : Nat)
    (hs1 : ∀ w : World, (Instr.slice 26 (.slice p n c) none (some (.int .i64 (N : Int))) none).run Try.prog w = .ok (.slice p N c) w) (hs2 : ∀ w : World, (Instr.slice 26 (.slice p n c) (some (.int .i64 (N : Int))) none none).run Try.prog w = .ok (.slice p2 n2 c2) w)
    (hr2 : RowIn w p2 n2 c2 (ds.drop N)) :
    Calls Try.prog 12 #[.agg #[.slice p n c, .int .i64 last], .agg #[.int .i64 4, .int .i64 x, .int .i64 id]] w (Did (ds.drop N) last 0 false 0 (ds.take N) w) := by
  have HR := Lib.hid hr
  have HR2 := Lib.hid hr2
  have HNN := Lib.hid hN
  have HNL := Lib.hid (show N ≤ n by rw [← hN, ← hr.1]; exact due_le _ _)
  have HR1 := Lib.hid (show RowIn w p N c (ds.take N) from ⟨by rw [List.length_take, hr.1]; have := HNL.out; omega, by have := HNL.out; have := hr.2.1; omega, hr.2.2.1, dues_take hr.2.2.2.1 N HNL.out, fun h => hr.2.2.2.2 (by have := HNL.out; omega)⟩)
  have HFA := Lib.hid (fun w h => find_any p n c ds id w hr.1 hr.2.1 hr.2.2.1 h)
  have HS1 := Lib.hid hs1
  have HS2 := Lib.hid hs2
  clear hr hr2 hN hs1 hs2
  obtain ⟨F, HF⟩ : ∃ F, Hid (findI ds id = F) := ⟨_, Lib.hid rfl⟩
  rw [HF.out] at HFA
  go_enter Try.func12, Try.ntmps12
  go_wp2_with fail
  refine (HFA.out _ (row_on HR.out (below4 _ _ _ _ _)).2.2.2.1).mono ?_
  rintro e w1 ⟨rfl, rfl⟩
  clear HFA
  go_wp2_with fail
  have hfb := four_blocks (Below.refl _ ((((w.alloc (.cells #[.slice p n c, .int .i64 last] 28)).alloc (.cells #[.int .i64 4, .int .i64 x, .int .i64 id] 30)).alloc (.cells #[.slice none 0 0, .int .i64 0] 28)).alloc (.cells #[.int .i64 0, .bool false, .int .i64 0, .slice none 0 0] 33)))
  have HBL := Lib.hid hfb
  have HB4 := Lib.hid (below4 w (.cells #[.slice p n c, .int .i64 last] 28) (.cells #[.int .i64 4, .int .i64 x, .int .i64 id] 30) (.cells #[.slice none 0 0, .int .i64 0] 28) (.cells #[.int .i64 0, .bool false, .int .i64 0, .slice none 0 0] 33))
  clear hfb
  generalize ((((w.alloc (.cells #[.slice p n c, .int .i64 last] 28)).alloc (.cells #[.int .i64 4, .int .i64 x, .int .i64 id] 30)).alloc (.cells #[.slice none 0 0, .int .i64 0] 28)).alloc (.cells #[.int .i64 0, .bool false, .int .i64 0, .slice none 0 0] 33)) = w4 at *
  go_loopw [7] (fun i wr => ∃ (k : Nat), k ≤ N ∧ i = .int .i64 k ∧ Hid (Below w4.heap.size w4 wr)) (fun i _ => n - (intOf i).toNat)
  case atStart => exact ⟨0, by omega, rfl, Lib.hid (Below.refl _ _)⟩
  case round =>
    obtain ⟨k, hk, rfl, HB⟩ := hrel
    have hBL := And.intro ((HB.out.block _ (blk_lt HBL.out.1)).trans HBL.out.1) (And.intro ((HB.out.block _ (blk_lt HBL.out.2.1)).trans HBL.out.2.1) (And.intro ((HB.out.block _ (blk_lt HBL.out.2.2.1)).trans HBL.out.2.2.1) ((HB.out.block _ (blk_lt HBL.out.2.2.2.1)).trans HBL.out.2.2.2.1)))
    have HBR := Lib.hid hBL
    have x00 : wr.cell? ⟨w.heap.size, 0, none⟩ = some (.slice p n c) := cell_of_row _ _ 0 _ _ _ HBR.out.1
    have x01 : wr.cell? ⟨w.heap.size, 1, none⟩ = some (.int .i64 last) := cell_of_row _ _ 1 _ _ _ HBR.out.1
    have x11 : wr.cell? ⟨w.heap.size + 1, 1, none⟩ = some (.int .i64 x) := cell_of_row _ _ 1 _ _ _ HBR.out.2.1
    clear hBL
    by_cases hkN : k < N
    · have HKN := Lib.hid hkN
      have hkn : k < n := by have := HNL.out; omega
      have HKn := Lib.hid hkn
      obtain ⟨b, o, rfl, hcell⟩ := row_on HR.out (seqB HB4.out HB.out) |>.2.2.2.1 (by omega)
      have g0 := (hcell k hkn).1
      have hle := due_yes (ds := ds) (x := x) (k := k) (by rw [HNN.out]; exact hkN)
      generalize (ds.getD k (0, 0)).1 = v at g0 hle
      have dv : decide (v ≤ x) = true := by simpa using hle
      have dk : decide ((k : Int) < (n : Int)) = true := by simp; omega
      clear hcell
      go_wp2_with fail
      go_quiet (fail)
      rename_i nq
      go_wp2_with fail
      go_roundw
      case rel => exact ⟨k + 1, HKN.out, by go_num, Lib.hid (seqB HB.out (below_drewN wr nq))⟩
      case measure => have := HKn.out; simp [intOf]; omega
    · obtain rfl : k = N := by omega
      by_cases hkn : k < n
      · obtain ⟨b, o, rfl, hcell⟩ := row_on HR.out (seqB HB4.out HB.out) |>.2.2.2.1 (by omega)
        have g0 := (hcell k hkn).1
        have hgt := due_no (ds := ds) (x := x) (by rw [HNN.out, HR.out.1]; exact hkn)
        rw [HNN.out] at hgt
        generalize (ds.getD k (0, 0)).1 = v at g0 hgt
        have dv : decide (v ≤ x) = false := by simp; omega
        have dk : decide ((k : Int) < (n : Int)) = true := by simp; omega
        have hbl : b < wr.heap.size := World.block_lt_of_cell? wr _ g0
        clear hcell
        go_wp2_with fail
        go_quiet (fail)
        rename_i nq
        clear g0 hbl
        have HB2 := Lib.hid (seqB HB.out (below_drewN wr nq))
        have HLB := Lib.hid ((below_drewN wr nq).size)
        generalize wr.drewN nq = w5 at *
        have hBL := And.intro ((HB2.out.block _ (blk_lt HBL.out.1)).trans HBL.out.1) (And.intro ((HB2.out.block _ (blk_lt HBL.out.2.1)).trans HBL.out.2.1) (And.intro ((HB2.out.block _ (blk_lt HBL.out.2.2.1)).trans HBL.out.2.2.1) ((HB2.out.block _ (blk_lt HBL.out.2.2.2.1)).trans HBL.out.2.2.2.1)))
        have HB5 := Lib.hid hBL
        have hs1 := HS1.out
        have hs2 := HS2.out
        clear x00 x01 x11 hBL HBR HB
        have x00 : w5.cell? ⟨w.heap.size, 0, none⟩ = some (.slice (some ⟨b, o, none⟩) n c) := cell_of_row _ _ 0 _ _ _ HB5.out.1
        have x01 : w5.cell? ⟨w.heap.size, 1, none⟩ = some (.int .i64 last) := cell_of_row _ _ 1 _ _ _ HB5.out.1
        have x20 : w5.cell? ⟨w.heap.size + 1 + 1, 0, none⟩ = some (.slice none 0 0) := cell_of_row _ _ 0 _ _ _ HB5.out.2.2.1
        have x21 : w5.cell? ⟨w.heap.size + 1 + 1, 1, none⟩ = some (.int .i64 0) := cell_of_row _ _ 1 _ _ _ HB5.out.2.2.1
        have x30 : w5.cell? ⟨w.heap.size + 1 + 1 + 1, 0, none⟩ = some (.int .i64 0) := cell_of_row _ _ 0 _ _ _ HB5.out.2.2.2
        have x31 : w5.cell? ⟨w.heap.size + 1 + 1 + 1, 1, none⟩ = some (.bool false) := cell_of_row _ _ 1 _ _ _ HB5.out.2.2.2
        have x32 : w5.cell? ⟨w.heap.size + 1 + 1 + 1, 2, none⟩ = some (.int .i64 0) := cell_of_row _ _ 2 _ _ _ HB5.out.2.2.2
        have x33 : w5.cell? ⟨w.heap.size + 1 + 1 + 1, 3, none⟩ = some (.slice none 0 0) := cell_of_row _ _ 3 _ _ _ HB5.out.2.2.2
        have y00 : w5.frozen? ⟨w.heap.size, 0, none⟩ = false := frozen_at HB5.out.1
        have y20 : ∀ i, w5.frozen? ⟨w.heap.size + 1 + 1, i, none⟩ = false := fun i => frozen_at HB5.out.2.2.1
        have y30 : ∀ i, w5.frozen? ⟨w.heap.size + 1 + 1 + 1, i, none⟩ = false := fun i => frozen_at HB5.out.2.2.2
        have hb0 : Below w.heap.size w (w5.setCell ⟨w.heap.size, 0, none⟩ (.slice p2 n2 c2)) := (seqB HB4.out HB2.out).setCell (p := ⟨w.heap.size, 0, none⟩) (Nat.le_refl _) _
        have c2' := (Below.heap_setCell w5 ⟨w.heap.size, 0, none⟩ (.slice p2 n2 c2) (w.heap.size + 1 + 1) (by simp; omega)).trans HB5.out.2.2.1
        have c3' := (Below.heap_setCell w5 ⟨w.heap.size, 0, none⟩ (.slice p2 n2 c2) (w.heap.size + 1 + 1 + 1) (by simp; omega)).trans HB5.out.2.2.2
        have hz2 := set2_heap c2' (.slice p2 n2 c2) (.int .i64 last)
        have hz3 := set4_heap ((set2_far (g := w.heap.size + 1 + 1) (.slice p2 n2 c2) (.int .i64 last) (by omega)).trans c3') (.int .i64 0) (.bool false) (.int .i64 0) (.slice (some ⟨b, o, none⟩) k c)
        have hz4 := (set4_far (w := set2 (w5.setCell ⟨w.heap.size, 0, none⟩ (.slice p2 n2 c2)) (w.heap.size + 1 + 1) (.slice p2 n2 c2) (.int .i64 last)) (g := w.heap.size + 1 + 1 + 1) (.int .i64 0) (.bool false) (.int .i64 0) (.slice (some ⟨b, o, none⟩) k c) (by omega)).trans hz2
        have hbw := set4_below (set2_below hb0 (g := w.heap.size + 1 + 1) (by omega) (.slice p2 n2 c2) (.int .i64 last)) (g := w.heap.size + 1 + 1 + 1) (by omega) (.int .i64 0) (.bool false) (.int .i64 0) (.slice (some ⟨b, o, none⟩) k c)
        have HD := Lib.hid hbw
        have HZ := Lib.hid (And.intro hz4 hz3)
        clear hb0 c2' c3' hz2 hz3 hz4 hbw
        go_wp2_with fail
        generalize hW : set4 (set2 (w5.setCell ⟨w.heap.size, 0, none⟩ (.slice p2 n2 c2)) (w.heap.size + 1 + 1) (.slice p2 n2 c2) (.int .i64 last)) (w.heap.size + 1 + 1 + 1) (.int .i64 0) (.bool false) (.int .i64 0) (.slice (some ⟨b, o, none⟩) k c) = W at *
        unfold set4 set2 at hW
        rw [hW]
        clear hW
        have z20 : W.cell? ⟨w.heap.size + 1 + 1, 0, none⟩ = some (.slice p2 n2 c2) := cell_of_row W _ 0 _ _ _ HZ.out.1
        have z21 : W.cell? ⟨w.heap.size + 1 + 1, 1, none⟩ = some (.int .i64 last) := cell_of_row W _ 1 _ _ _ HZ.out.1
        have z30 : W.cell? ⟨w.heap.size + 1 + 1 + 1, 0, none⟩ = some (.int .i64 0) := cell_of_row W _ 0 _ _ _ HZ.out.2
        have z31 : W.cell? ⟨w.heap.size + 1 + 1 + 1, 1, none⟩ = some (.bool false) := cell_of_row W _ 1 _ _ _ HZ.out.2
        have z32 : W.cell? ⟨w.heap.size + 1 + 1 + 1, 2, none⟩ = some (.int .i64 0) := cell_of_row W _ 2 _ _ _ HZ.out.2
        have z33 : W.cell? ⟨w.heap.size + 1 + 1 + 1, 3, none⟩ = some (.slice (some ⟨b, o, none⟩) k c) := cell_of_row W _ 3 _ _ _ HZ.out.2
        exact bodyPost_ret (v := .tuple #[.agg #[.slice p2 n2 c2, .int .i64 last], .agg #[.int .i64 0, .bool false, .int .i64 0, .slice (some ⟨b, o, none⟩) k c]]) (by simp [results, Try.results12, go_sem, z20, z21, z30, z31, z32, z33]) rfl ⟨_, _, _, _, _, _, rfl, row_on HR2.out HD.out, row_on HR1.out HD.out, HD.out⟩
      · have dk : decide ((k : Int) < (n : Int)) = false := by simp; omega
        go_wp2_with fail
        go_quiet (fail)
        rename_i nq
        have HB2 := Lib.hid (seqB HB.out (below_drewN wr nq))
        have HLB := Lib.hid ((below_drewN wr nq).size)
        generalize wr.drewN nq = w5 at *
        have hBL := And.intro ((HB2.out.block _ (blk_lt HBL.out.1)).trans HBL.out.1) (And.intro ((HB2.out.block _ (blk_lt HBL.out.2.1)).trans HBL.out.2.1) (And.intro ((HB2.out.block _ (blk_lt HBL.out.2.2.1)).trans HBL.out.2.2.1) ((HB2.out.block _ (blk_lt HBL.out.2.2.2.1)).trans HBL.out.2.2.2.1)))
        have HB5 := Lib.hid hBL
        have hs1 := HS1.out
        have hs2 := HS2.out
        clear x00 x01 x11 hBL HBR HB
        have x00 : w5.cell? ⟨w.heap.size, 0, none⟩ = some (.slice p n c) := cell_of_row _ _ 0 _ _ _ HB5.out.1
        have x01 : w5.cell? ⟨w.heap.size, 1, none⟩ = some (.int .i64 last) := cell_of_row _ _ 1 _ _ _ HB5.out.1
        have x20 : w5.cell? ⟨w.heap.size + 1 + 1, 0, none⟩ = some (.slice none 0 0) := cell_of_row _ _ 0 _ _ _ HB5.out.2.2.1
        have x21 : w5.cell? ⟨w.heap.size + 1 + 1, 1, none⟩ = some (.int .i64 0) := cell_of_row _ _ 1 _ _ _ HB5.out.2.2.1
        have x30 : w5.cell? ⟨w.heap.size + 1 + 1 + 1, 0, none⟩ = some (.int .i64 0) := cell_of_row _ _ 0 _ _ _ HB5.out.2.2.2
        have x31 : w5.cell? ⟨w.heap.size + 1 + 1 + 1, 1, none⟩ = some (.bool false) := cell_of_row _ _ 1 _ _ _ HB5.out.2.2.2
        have x32 : w5.cell? ⟨w.heap.size + 1 + 1 + 1, 2, none⟩ = some (.int .i64 0) := cell_of_row _ _ 2 _ _ _ HB5.out.2.2.2
        have x33 : w5.cell? ⟨w.heap.size + 1 + 1 + 1, 3, none⟩ = some (.slice none 0 0) := cell_of_row _ _ 3 _ _ _ HB5.out.2.2.2
        have y00 : w5.frozen? ⟨w.heap.size, 0, none⟩ = false := frozen_at HB5.out.1
        have y20 : ∀ i, w5.frozen? ⟨w.heap.size + 1 + 1, i, none⟩ = false := fun i => frozen_at HB5.out.2.2.1
        have y30 : ∀ i, w5.frozen? ⟨w.heap.size + 1 + 1 + 1, i, none⟩ = false := fun i => frozen_at HB5.out.2.2.2
        have hb0 : Below w.heap.size w (w5.setCell ⟨w.heap.size, 0, none⟩ (.slice p2 n2 c2)) := (seqB HB4.out HB2.out).setCell (p := ⟨w.heap.size, 0, none⟩) (Nat.le_refl _) _
        have c2' := (Below.heap_setCell w5 ⟨w.heap.size, 0, none⟩ (.slice p2 n2 c2) (w.heap.size + 1 + 1) (by simp; omega)).trans HB5.out.2.2.1
        have c3' := (Below.heap_setCell w5 ⟨w.heap.size, 0, none⟩ (.slice p2 n2 c2) (w.heap.size + 1 + 1 + 1) (by simp; omega)).trans HB5.out.2.2.2
        have hz2 := set2_heap c2' (.slice p2 n2 c2) (.int .i64 last)
        have hz3 := set4_heap ((set2_far (g := w.heap.size + 1 + 1) (.slice p2 n2 c2) (.int .i64 last) (by omega)).trans c3') (.int .i64 0) (.bool false) (.int .i64 0) (.slice p k c)
        have hz4 := (set4_far (w := set2 (w5.setCell ⟨w.heap.size, 0, none⟩ (.slice p2 n2 c2)) (w.heap.size + 1 + 1) (.slice p2 n2 c2) (.int .i64 last)) (g := w.heap.size + 1 + 1 + 1) (.int .i64 0) (.bool false) (.int .i64 0) (.slice p k c) (by omega)).trans hz2
        have hbw := set4_below (set2_below hb0 (g := w.heap.size + 1 + 1) (by omega) (.slice p2 n2 c2) (.int .i64 last)) (g := w.heap.size + 1 + 1 + 1) (by omega) (.int .i64 0) (.bool false) (.int .i64 0) (.slice p k c)
        have HD := Lib.hid hbw
        have HZ := Lib.hid (And.intro hz4 hz3)
        clear hb0 c2' c3' hz2 hz3 hz4 hbw
        go_wp2_with fail
        generalize hW : set4 (set2 (w5.setCell ⟨w.heap.size, 0, none⟩ (.slice p2 n2 c2)) (w.heap.size + 1 + 1) (.slice p2 n2 c2) (.int .i64 last)) (w.heap.size + 1 + 1 + 1) (.int .i64 0) (.bool false) (.int .i64 0) (.slice p k c) = W at *
        unfold set4 set2 at hW
        rw [hW]
        clear hW
        have z20 : W.cell? ⟨w.heap.size + 1 + 1, 0, none⟩ = some (.slice p2 n2 c2) := cell_of_row W _ 0 _ _ _ HZ.out.1
        have z21 : W.cell? ⟨w.heap.size + 1 + 1, 1, none⟩ = some (.int .i64 last) := cell_of_row W _ 1 _ _ _ HZ.out.1
        have z30 : W.cell? ⟨w.heap.size + 1 + 1 + 1, 0, none⟩ = some (.int .i64 0) := cell_of_row W _ 0 _ _ _ HZ.out.2
        have z31 : W.cell? ⟨w.heap.size + 1 + 1 + 1, 1, none⟩ = some (.bool false) := cell_of_row W _ 1 _ _ _ HZ.out.2
        have z32 : W.cell? ⟨w.heap.size + 1 + 1 + 1, 2, none⟩ = some (.int .i64 0) := cell_of_row W _ 2 _ _ _ HZ.out.2
        have z33 : W.cell? ⟨w.heap.size + 1 + 1 + 1, 3, none⟩ = some (.slice p k c) := cell_of_row W _ 3 _ _ _ HZ.out.2
        exact bodyPost_ret (v := .tuple #[.agg #[.slice p2 n2 c2, .int .i64 last], .agg #[.int .i64 0, .bool false, .int .i64 0, .slice p k c]]) (by simp [results, Try.results12, go_sem, z20, z21, z30, z31, z32, z33]) rfl ⟨_, _, _, _, _, _, rfl, row_on HR2.out HD.out, row_on HR1.out HD.out, HD.out⟩
end Go.Proofs.Ytpohfcjmjfhdoaa
