/-
  Contract: what the document's own Do answers, where nothing is turned. Conditions: as each states.
-/
import Derived.Test.YtpohfcjmjfhdoaaD5
namespace Go.Proofs.Ytpohfcjmjfhdoaa
open Go.RowKit

set_option maxRecDepth 100000 in
set_option maxHeartbeats 4000000 in
theorem do_set_bad (p : Option Addr) (n c : Nat) (ds : List Due) (last a id : Int) (w : World) (hr : RowIn w p n c ds) (ha : rightB a = false) :
    Calls Try.prog 12 #[.agg #[.slice p n c, .int .i64 last], .agg #[.int .i64 0, .int .i64 a, .int .i64 id]] w (Did ds last 0 false 1 [] w) := by
  have HR := Lib.hid hr
  have HRI := Lib.hid (show ∀ w, Calls Try.prog 27 #[.int .i64 a] w fun e w' => e = .returned (.bool false) ∧ w = w' from fun w => by rw [← ha]; exact right_any a w)
  clear hr ha
  go_enter Try.func12, Try.ntmps12
  go_wp2_with fail
  refine (find_any p n c ds id _ HR.out.1 HR.out.2.1 HR.out.2.2.1 (row_on HR.out (below4 _ _ _ _ _)).2.2.2.1).mono ?_
  rintro e w1 ⟨rfl, rfl⟩
  go_wp2_with fail
  refine (HRI.out _).mono ?_
  rintro e w1 ⟨rfl, rfl⟩
  go_wp2_with fail
  exact bodyPost_ret (v := .tuple #[.agg #[.slice p n c, .int .i64 last], .agg #[.int .i64 0, .bool false, .int .i64 1, .slice none 0 0]]) (by simp [results, Try.results12, go_sem]) rfl ⟨_, _, _, _, _, _, rfl, row_on HR.out (below4 _ _ _ _ _), row_nil _ _, below4 _ _ _ _ _⟩
set_option maxRecDepth 100000 in
set_option maxHeartbeats 4000000 in
theorem do_cancel_none (p : Option Addr) (n c : Nat) (ds : List Due) (last a id : Int) (w : World) (hr : RowIn w p n c ds) (hf : findI ds id = -1) :
    Calls Try.prog 12 #[.agg #[.slice p n c, .int .i64 last], .agg #[.int .i64 1, .int .i64 a, .int .i64 id]] w (Did ds last 0 false 0 [] w) := by
  have HR := Lib.hid hr
  have hfa := fun w h => find_any p n c ds id w hr.1 hr.2.1 hr.2.2.1 h
  rw [hf] at hfa
  have HFA := Lib.hid hfa
  clear hr hf hfa
  go_enter Try.func12, Try.ntmps12
  go_wp2_with fail
  refine (HFA.out _ (row_on HR.out (below4 _ _ _ _ _)).2.2.2.1).mono ?_
  rintro e w1 ⟨rfl, rfl⟩
  go_wp2_with fail
  exact bodyPost_ret (v := .tuple #[.agg #[.slice p n c, .int .i64 last], .agg #[.int .i64 0, .bool false, .int .i64 0, .slice none 0 0]]) (by simp [results, Try.results12, go_sem]) rfl ⟨_, _, _, _, _, _, rfl, row_on HR.out (below4 _ _ _ _ _), row_nil _ _, below4 _ _ _ _ _⟩
set_option maxRecDepth 100000 in
set_option maxHeartbeats 4000000 in
theorem do_move_none (p : Option Addr) (n c : Nat) (ds : List Due) (last a id : Int) (w : World) (hr : RowIn w p n c ds) (hf : findI ds id = -1) :
    Calls Try.prog 12 #[.agg #[.slice p n c, .int .i64 last], .agg #[.int .i64 2, .int .i64 a, .int .i64 id]] w (Did ds last 0 false 0 [] w) := by
  have HR := Lib.hid hr
  have hfa := fun w h => find_any p n c ds id w hr.1 hr.2.1 hr.2.2.1 h
  rw [hf] at hfa
  have HFA := Lib.hid hfa
  clear hr hf hfa
  go_enter Try.func12, Try.ntmps12
  go_wp2_with fail
  refine (HFA.out _ (row_on HR.out (below4 _ _ _ _ _)).2.2.2.1).mono ?_
  rintro e w1 ⟨rfl, rfl⟩
  go_wp2_with fail
  exact bodyPost_ret (v := .tuple #[.agg #[.slice p n c, .int .i64 last], .agg #[.int .i64 0, .bool false, .int .i64 0, .slice none 0 0]]) (by simp [results, Try.results12, go_sem]) rfl ⟨_, _, _, _, _, _, rfl, row_on HR.out (below4 _ _ _ _ _), row_nil _ _, below4 _ _ _ _ _⟩
set_option maxRecDepth 100000 in
set_option maxHeartbeats 4000000 in
theorem do_move_bad (p : Option Addr) (n c k : Nat) (ds : List Due) (last a id : Int) (w : World) (hr : RowIn w p n c ds) (hf : findI ds id = (k : Int)) (ha : rightB a = false) :
    Calls Try.prog 12 #[.agg #[.slice p n c, .int .i64 last], .agg #[.int .i64 2, .int .i64 a, .int .i64 id]] w (Did ds last 0 false 0 [] w) := by
  have HR := Lib.hid hr
  have hfa := fun w h => find_any p n c ds id w hr.1 hr.2.1 hr.2.2.1 h
  rw [hf] at hfa
  have HFA := Lib.hid hfa
  have HRI := Lib.hid (show ∀ w, Calls Try.prog 27 #[.int .i64 a] w fun e w' => e = .returned (.bool false) ∧ w = w' from fun w => by rw [← ha]; exact right_any a w)
  clear hr hf hfa ha
  go_enter Try.func12, Try.ntmps12
  go_wp2_with fail
  refine (HFA.out _ (row_on HR.out (below4 _ _ _ _ _)).2.2.2.1).mono ?_
  rintro e w1 ⟨rfl, rfl⟩
  go_wp2_with fail
  refine (HRI.out _).mono ?_
  rintro e w1 ⟨rfl, rfl⟩
  go_wp2_with fail
  exact bodyPost_ret (v := .tuple #[.agg #[.slice p n c, .int .i64 last], .agg #[.int .i64 0, .bool false, .int .i64 0, .slice none 0 0]]) (by simp [results, Try.results12, go_sem]) rfl ⟨_, _, _, _, _, _, rfl, row_on HR.out (below4 _ _ _ _ _), row_nil _ _, below4 _ _ _ _ _⟩
set_option maxRecDepth 100000 in
set_option maxHeartbeats 4000000 in
theorem do_when_none (p : Option Addr) (n c : Nat) (ds : List Due) (last a id : Int) (w : World) (hr : RowIn w p n c ds) (hf : findI ds id = -1) :
    Calls Try.prog 12 #[.agg #[.slice p n c, .int .i64 last], .agg #[.int .i64 3, .int .i64 a, .int .i64 id]] w (Did ds last 0 false 0 [] w) := by
  have HR := Lib.hid hr
  have hfa := fun w h => find_any p n c ds id w hr.1 hr.2.1 hr.2.2.1 h
  rw [hf] at hfa
  have HFA := Lib.hid hfa
  clear hr hf hfa
  go_enter Try.func12, Try.ntmps12
  go_wp2_with fail
  refine (HFA.out _ (row_on HR.out (below4 _ _ _ _ _)).2.2.2.1).mono ?_
  rintro e w1 ⟨rfl, rfl⟩
  go_wp2_with fail
  exact bodyPost_ret (v := .tuple #[.agg #[.slice p n c, .int .i64 last], .agg #[.int .i64 0, .bool false, .int .i64 0, .slice none 0 0]]) (by simp [results, Try.results12, go_sem]) rfl ⟨_, _, _, _, _, _, rfl, row_on HR.out (below4 _ _ _ _ _), row_nil _ _, below4 _ _ _ _ _⟩
set_option maxRecDepth 100000 in
set_option maxHeartbeats 4000000 in
theorem do_when (p : Option Addr) (n c k : Nat) (ds : List Due) (last a id x y : Int) (w : World) (hr : RowIn w p n c ds) (hf : findI ds id = (k : Int)) (hk : k < n) (hx : ds.getD k (0, 0) = (x, y)) :
    Calls Try.prog 12 #[.agg #[.slice p n c, .int .i64 last], .agg #[.int .i64 3, .int .i64 a, .int .i64 id]] w (Did ds last x true 0 [] w) := by
  have HR := Lib.hid hr
  have hfa := fun w h => find_any p n c ds id w hr.1 hr.2.1 hr.2.2.1 h
  rw [hf] at hfa
  have HFA := Lib.hid hfa
  obtain ⟨b, o, rfl, hcell⟩ := hr.2.2.2.1 (by omega)
  have g0 := (hcell k hk).1
  rw [hx] at g0
  have hbl : b < w.heap.size := World.block_lt_of_cell? w _ g0
  clear hr hf hfa hx hcell
  go_enter Try.func12, Try.ntmps12
  go_wp2_with fail
  refine (HFA.out _ (row_on HR.out (below4 _ _ _ _ _)).2.2.2.1).mono ?_
  rintro e w1 ⟨rfl, rfl⟩
  go_wp2_with fail
  have HBL := Lib.hid (four_blocks (Below.refl _ ((((w.alloc (.cells #[.slice (some ⟨b, o, none⟩) n c, .int .i64 last] 28)).alloc (.cells #[.int .i64 3, .int .i64 a, .int .i64 id] 30)).alloc (.cells #[.slice none 0 0, .int .i64 0] 28)).alloc (.cells #[.int .i64 0, .bool false, .int .i64 0, .slice none 0 0] 33))))
  have HB4 := Lib.hid (below4 w (.cells #[.slice (some ⟨b, o, none⟩) n c, .int .i64 last] 28) (.cells #[.int .i64 3, .int .i64 a, .int .i64 id] 30) (.cells #[.slice none 0 0, .int .i64 0] 28) (.cells #[.int .i64 0, .bool false, .int .i64 0, .slice none 0 0] 33))
  generalize ((((w.alloc (.cells #[.slice (some ⟨b, o, none⟩) n c, .int .i64 last] 28)).alloc (.cells #[.int .i64 3, .int .i64 a, .int .i64 id] 30)).alloc (.cells #[.slice none 0 0, .int .i64 0] 28)).alloc (.cells #[.int .i64 0, .bool false, .int .i64 0, .slice none 0 0] 33)) = w2 at *
  have g2 : w2.cell? ⟨b, o + k * 2, none⟩ = some (.int .i64 x) := (HB4.out.cell hbl).trans g0
  have hne : ¬ w.heap.size + 1 + 1 = b := by omega
  have hne' : ¬ b = w.heap.size + 1 + 1 := by omega
  clear g0 hbl
  have x00 : w2.cell? ⟨w.heap.size, 0, none⟩ = some (.slice (some ⟨b, o, none⟩) n c) := cell_of_row _ _ 0 _ _ _ HBL.out.1
  have x01 : w2.cell? ⟨w.heap.size, 1, none⟩ = some (.int .i64 last) := cell_of_row _ _ 1 _ _ _ HBL.out.1
  have x20 : w2.cell? ⟨w.heap.size + 1 + 1, 0, none⟩ = some (.slice none 0 0) := cell_of_row _ _ 0 _ _ _ HBL.out.2.2.1
  have x21 : w2.cell? ⟨w.heap.size + 1 + 1, 1, none⟩ = some (.int .i64 0) := cell_of_row _ _ 1 _ _ _ HBL.out.2.2.1
  have x30 : w2.cell? ⟨w.heap.size + 1 + 1 + 1, 0, none⟩ = some (.int .i64 0) := cell_of_row _ _ 0 _ _ _ HBL.out.2.2.2.1
  have x31 : w2.cell? ⟨w.heap.size + 1 + 1 + 1, 1, none⟩ = some (.bool false) := cell_of_row _ _ 1 _ _ _ HBL.out.2.2.2.1
  have x32 : w2.cell? ⟨w.heap.size + 1 + 1 + 1, 2, none⟩ = some (.int .i64 0) := cell_of_row _ _ 2 _ _ _ HBL.out.2.2.2.1
  have x33 : w2.cell? ⟨w.heap.size + 1 + 1 + 1, 3, none⟩ = some (.slice none 0 0) := cell_of_row _ _ 3 _ _ _ HBL.out.2.2.2.1
  have y20 : ∀ i, w2.frozen? ⟨w.heap.size + 1 + 1, i, none⟩ = false := fun i => frozen_at HBL.out.2.2.1
  have y30 : ∀ i, w2.frozen? ⟨w.heap.size + 1 + 1 + 1, i, none⟩ = false := fun i => frozen_at HBL.out.2.2.2.1
  go_region
  have hz2 := set2_heap HBL.out.2.2.1 (.slice (some ⟨b, o, none⟩) n c) (.int .i64 last)
  have hz3 := set4_heap ((set2_far (g := w.heap.size + 1 + 1) (.slice (some ⟨b, o, none⟩) n c) (.int .i64 last) (by omega)).trans HBL.out.2.2.2.1) (.int .i64 x) (.bool true) (.int .i64 0) (.slice none 0 0)
  have hz4 := (set4_far (w := set2 w2 (w.heap.size + 1 + 1) (.slice (some ⟨b, o, none⟩) n c) (.int .i64 last)) (g := w.heap.size + 1 + 1 + 1) (.int .i64 x) (.bool true) (.int .i64 0) (.slice none 0 0) (by omega)).trans hz2
  have hbw := set4_below (set2_below HB4.out (g := w.heap.size + 1 + 1) (by omega) (.slice (some ⟨b, o, none⟩) n c) (.int .i64 last)) (g := w.heap.size + 1 + 1 + 1) (by omega) (.int .i64 x) (.bool true) (.int .i64 0) (.slice none 0 0)
  have HF := Lib.hid (And.intro (row_on HR.out hbw) hbw)
  have HZ := Lib.hid (And.intro hz4 hz3)
  clear hz2 hz3 hz4 hbw
  generalize hW : set4 (set2 w2 (w.heap.size + 1 + 1) (.slice (some ⟨b, o, none⟩) n c) (.int .i64 last)) (w.heap.size + 1 + 1 + 1) (.int .i64 x) (.bool true) (.int .i64 0) (.slice none 0 0) = W at *
  unfold set4 set2 at hW
  rw [hW]
  clear hW
  have z20 : W.drew.cell? ⟨w.heap.size + 1 + 1, 0, none⟩ = some (.slice (some ⟨b, o, none⟩) n c) := cell_of_row W _ 0 _ _ _ HZ.out.1
  have z21 : W.drew.cell? ⟨w.heap.size + 1 + 1, 1, none⟩ = some (.int .i64 last) := cell_of_row W _ 1 _ _ _ HZ.out.1
  have z30 : W.drew.cell? ⟨w.heap.size + 1 + 1 + 1, 0, none⟩ = some (.int .i64 x) := cell_of_row W _ 0 _ _ _ HZ.out.2
  have z31 : W.drew.cell? ⟨w.heap.size + 1 + 1 + 1, 1, none⟩ = some (.bool true) := cell_of_row W _ 1 _ _ _ HZ.out.2
  have z32 : W.drew.cell? ⟨w.heap.size + 1 + 1 + 1, 2, none⟩ = some (.int .i64 0) := cell_of_row W _ 2 _ _ _ HZ.out.2
  have z33 : W.drew.cell? ⟨w.heap.size + 1 + 1 + 1, 3, none⟩ = some (.slice none 0 0) := cell_of_row W _ 3 _ _ _ HZ.out.2
  have HD := Lib.hid (show RowIn W.drew (some ⟨b, o, none⟩) n c ds ∧ Below w.heap.size w W.drew from ⟨row_on HF.out.1 (Below.refl _ _).drew, HF.out.2.drew⟩)
  generalize W.drew = V at *
  go_wp2_with fail
  exact bodyPost_ret (v := .tuple #[.agg #[.slice (some ⟨b, o, none⟩) n c, .int .i64 last], .agg #[.int .i64 x, .bool true, .int .i64 0, .slice none 0 0]]) (by simp [results, Try.results12, go_sem, z20, z21, z30, z31, z32, z33]) rfl ⟨_, _, _, _, _, _, rfl, HD.out.1, row_nil _ _, HD.out.2⟩
end Go.Proofs.Ytpohfcjmjfhdoaa
