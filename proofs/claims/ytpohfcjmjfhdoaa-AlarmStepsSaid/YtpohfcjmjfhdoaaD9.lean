/-
  Contract: what the document's own Do answers, where one is moved. Conditions: as each states.
-/
import Derived.Test.YtpohfcjmjfhdoaaD6
namespace Go.Proofs.Ytpohfcjmjfhdoaa
open Go.RowKit

theorem own_dues2 {w : World} {base T n c : Nat} {p : Option Addr} {ds : List Due} (h : w.ownsRow base T 2 (.slice p n c) n (flat ds)) : n ≤ c ∧ c ≤ 9223372036854775807 ∧ DuesIn w p n ds := by
  obtain ⟨p', c', e, _, hi, _, h1, h2⟩ := own_dues h
  cases e
  exact ⟨h1, h2, hi⟩
theorem out_m {T M : Nat} {ds : List Due} {w : World} {e : Ending} {w' : World} (h : OutD T ds w e w') (hM : ds.length = M) : ∃ p c, e = .returned (.slice p M c) ∧ w'.ownsRow w.heap.size T 2 (.slice p M c) M (flat ds) ∧ Below w.heap.size w w' := by
  subst hM
  exact h
set_option maxRecDepth 100000 in
set_option maxHeartbeats 16000000 in
theorem do_move (p : Option Addr) (n c k : Nat) (ds : List Due) (last a id : Int) (w : World) (hr : RowIn w p n c ds) (hn : n ≤ 4000) (hf : findI ds id = (k : Int)) (hk : k < n) (ha : rightB a = true) :
    Calls Try.prog 12 #[.agg #[.slice p n c, .int .i64 last], .agg #[.int .i64 2, .int .i64 a, .int .i64 id]] w (Did (putD (ds.eraseIdx k) (a, id)) last 0 true 0 [] w) := by
  have HR := Lib.hid hr
  have HN := Lib.hid hn
  have hfa := fun w h => find_any p n c ds id w hr.1 hr.2.1 hr.2.2.1 h
  rw [hf] at hfa
  have HFA := Lib.hid hfa
  have HRI := Lib.hid (show ∀ w, Calls Try.prog 27 #[.int .i64 a] w fun e w' => e = .returned (.bool true) ∧ w = w' from fun w => by rw [← ha]; exact right_any a w)
  have HEL := Lib.hid (show (ds.eraseIdx k).length ≤ 4000 by rw [List.length_eraseIdx, hr.1]; split <;> omega)
  have HK := Lib.hid hk
  obtain ⟨M5, HM5⟩ : ∃ M, Hid ((ds.eraseIdx k).length = M) := ⟨_, Lib.hid rfl⟩
  obtain ⟨M, HM⟩ : ∃ M, Hid ((putD (ds.eraseIdx k) (a, id)).length = M) := ⟨_, Lib.hid rfl⟩
  rw [HM5.out] at HEL
  clear hr hf hfa hn ha hk
  go_enter Try.func12, Try.ntmps12
  go_wp2_with fail
  refine (HFA.out _ (row_on HR.out (below4 _ _ _ _ _)).2.2.2.1).mono ?_
  rintro e w1 ⟨rfl, rfl⟩
  go_wp2_with fail
  refine (HRI.out _).mono ?_
  rintro e w1 ⟨rfl, rfl⟩
  go_wp2_with fail
  have hfb := four_blocks (Below.refl _ ((((w.alloc (.cells #[.slice p n c, .int .i64 last] 28)).alloc (.cells #[.int .i64 2, .int .i64 a, .int .i64 id] 30)).alloc (.cells #[.slice none 0 0, .int .i64 0] 28)).alloc (.cells #[.int .i64 0, .bool false, .int .i64 0, .slice none 0 0] 33)))
  have HBL := Lib.hid hfb
  have HB4 := Lib.hid (below4 w (.cells #[.slice p n c, .int .i64 last] 28) (.cells #[.int .i64 2, .int .i64 a, .int .i64 id] 30) (.cells #[.slice none 0 0, .int .i64 0] 28) (.cells #[.int .i64 0, .bool false, .int .i64 0, .slice none 0 0] 33))
  clear hfb
  have hsz : ((((w.alloc (.cells #[.slice p n c, .int .i64 last] 28)).alloc (.cells #[.int .i64 2, .int .i64 a, .int .i64 id] 30)).alloc (.cells #[.slice none 0 0, .int .i64 0] 28)).alloc (.cells #[.int .i64 0, .bool false, .int .i64 0, .slice none 0 0] 33)).heap.size = w.heap.size + 4 := by simp
  generalize ((((w.alloc (.cells #[.slice p n c, .int .i64 last] 28)).alloc (.cells #[.int .i64 2, .int .i64 a, .int .i64 id] 30)).alloc (.cells #[.slice none 0 0, .int .i64 0] 28)).alloc (.cells #[.int .i64 0, .bool false, .int .i64 0, .slice none 0 0] 33)) = w4 at *
  have HSZ := Lib.hid hsz
  clear hsz
  have HBW := Lib.hid (show ∀ w' : World, Below w4.heap.size w4 w' → w'.heap[w.heap.size]? = some (.cells #[.slice p n c, .int .i64 last] 28 (0, 0)) ∧ w'.heap[w.heap.size + 1]? = some (.cells #[.int .i64 2, .int .i64 a, .int .i64 id] 30 (0, 0)) ∧ w'.heap[w.heap.size + 1 + 1]? = some (.cells #[.slice none 0 0, .int .i64 0] 28 (0, 0)) ∧ w'.heap[w.heap.size + 1 + 1 + 1]? = some (.cells #[.int .i64 0, .bool false, .int .i64 0, .slice none 0 0] 33 (0, 0)) from fun w' hb =>
    ⟨(hb.block _ (blk_lt HBL.out.1)).trans HBL.out.1, (hb.block _ (blk_lt HBL.out.2.1)).trans HBL.out.2.1, (hb.block _ (blk_lt HBL.out.2.2.1)).trans HBL.out.2.2.1, (hb.block _ (blk_lt HBL.out.2.2.2.1)).trans HBL.out.2.2.2.1⟩)
  have HS := Lib.hid (show ∀ w' : World, Below w4.heap.size w4 w' → w'.cell? ⟨w.heap.size + 1, 1, none⟩ = some (.int .i64 a) ∧ w'.cell? ⟨w.heap.size + 1, 2, none⟩ = some (.int .i64 id) from fun w' hb => ⟨cell_of_row _ _ 1 _ _ _ (HBW.out w' hb).2.1, cell_of_row _ _ 2 _ _ _ (HBW.out w' hb).2.1⟩)
  have HSS := Lib.hid (show ∀ (w' : World) (v : Value), Below w4.heap.size w4 w' → (w'.setCell ⟨w.heap.size, 0, none⟩ v).cell? ⟨w.heap.size + 1, 1, none⟩ = some (.int .i64 a) ∧ (w'.setCell ⟨w.heap.size, 0, none⟩ v).cell? ⟨w.heap.size + 1, 2, none⟩ = some (.int .i64 id) from fun w' v hb => by
    have h := (Below.heap_setCell w' ⟨w.heap.size, 0, none⟩ v (w.heap.size + 1) (by simp)).trans (HBW.out w' hb).2.1
    exact ⟨cell_of_row _ _ 1 _ _ _ h, cell_of_row _ _ 2 _ _ _ h⟩)
  have x00 : w4.drew.cell? ⟨w.heap.size, 0, none⟩ = some (.slice p n c) := cell_of_row w4 _ 0 _ _ _ HBL.out.1
  have HWO := Lib.hid (without_any p n c k ds w4.drew HR.out.1 (by have := HN.out; omega) HK.out HR.out.2.1 HR.out.2.2.1 (row_on HR.out HB4.out.drew).2.2.2.1)
  obtain ⟨x11, x12⟩ := HS.out _ (Below.refl _ w4).drew
  go_region_with
    (first
      | (go_at_call 29; refine HWO.out.mono ?_; intro e w5 hout; obtain ⟨q5, d5, rfl, ho5, hb5⟩ := out_m hout HM5.out; clear hout; (have HO5 := Lib.hid ho5); (have HB5 := Lib.hid (seqB (Below.refl _ _).drew hb5)); (obtain ⟨x51, x52⟩ := HS.out _ HB5.out); clear ho5 hb5)
      | (go_at_call 28; refine (put_any q5 M5 d5 (ds.eraseIdx k) a id _ HM5.out (Nat.le_trans HEL.out (by omega)) (own_dues2 HO5.out).1 (own_dues2 HO5.out).2.1 (own_dues2 HO5.out).2.2).mono ?_; intro e w6 hout; obtain ⟨q6, d6, rfl, ho6, hb6⟩ := out_m hout HM.out; clear hout; (have HO6 := Lib.hid ho6); (have HB6 := Lib.hid (seqB HB5.out hb6)); (have x06 := cell_of_row w6 (w.heap.size) 0 _ _ _ (HBW.out _ HB6.out).1); (have y06 : w6.frozen? ⟨w.heap.size, 0, none⟩ = false := frozen_at (HBW.out _ HB6.out).1); clear ho6 hb6))
  all_goals
    have f := HBW.out _ HB6.out
    have k0 := (set_heap (i := 0) f.1 (.slice q6 M d6))
    have k2 := (Below.heap_setCell w6 ⟨w.heap.size, 0, none⟩ (.slice q6 M d6) (w.heap.size + 1 + 1) (by simp; omega)).trans f.2.2.1
    have k3 := (Below.heap_setCell w6 ⟨w.heap.size, 0, none⟩ (.slice q6 M d6) (w.heap.size + 1 + 1 + 1) (by simp; omega)).trans f.2.2.2
    have HKK := Lib.hid (And.intro k0 (And.intro k2 k3))
    clear f k0 k2 k3
    have hb0 : Below w.heap.size w (w6.setCell ⟨w.heap.size, 0, none⟩ (.slice q6 M d6)) := (seqB HB4.out HB6.out).setCell (p := ⟨w.heap.size, 0, none⟩) (Nat.le_refl _) _
    have c2 := (Below.heap_setCell w6 ⟨w.heap.size, 0, none⟩ (.slice q6 M d6) (w.heap.size + 1 + 1) (by simp; omega)).trans (HBW.out _ HB6.out).2.2.1
    have c3 := (Below.heap_setCell w6 ⟨w.heap.size, 0, none⟩ (.slice q6 M d6) (w.heap.size + 1 + 1 + 1) (by simp; omega)).trans (HBW.out _ HB6.out).2.2.2
    have hz2 := set2_heap c2 (.slice q6 M d6) (.int .i64 last)
    have hz3 := set4_heap ((set2_far (g := w.heap.size + 1 + 1) (.slice q6 M d6) (.int .i64 last) (by omega)).trans c3) (.int .i64 0) (.bool true) (.int .i64 0) (.slice none 0 0)
    have hz4 := (set4_far (w := set2 (w6.setCell ⟨w.heap.size, 0, none⟩ (.slice q6 M d6)) (w.heap.size + 1 + 1) (.slice q6 M d6) (.int .i64 last)) (g := w.heap.size + 1 + 1 + 1) (.int .i64 0) (.bool true) (.int .i64 0) (.slice none 0 0) (by omega)).trans hz2
    have hbw := set4_below (set2_below hb0 (g := w.heap.size + 1 + 1) (by omega) (.slice q6 M d6) (.int .i64 last)) (g := w.heap.size + 1 + 1 + 1) (by omega) (.int .i64 0) (.bool true) (.int .i64 0) (.slice none 0 0)
    have hrow : RowIn (set4 (set2 (w6.setCell ⟨w.heap.size, 0, none⟩ (.slice q6 M d6)) (w.heap.size + 1 + 1) (.slice q6 M d6) (.int .i64 last)) (w.heap.size + 1 + 1 + 1) (.int .i64 0) (.bool true) (.int .i64 0) (.slice none 0 0)) q6 M d6 (putD (ds.eraseIdx k) (a, id)) :=
      row_of_own (own_low HO6.out (base' := w.heap.size + 4) (by have h1 := HB5.out.size; have h2 := HSZ.out; omega)) fun j hj => ((set4_far _ _ _ _ (by omega)).trans (set2_far _ _ (by omega))).trans (Below.heap_setCell w6 ⟨w.heap.size, 0, none⟩ (.slice q6 M d6) j (by simp; omega))
    have HD := Lib.hid (And.intro hrow hbw)
    have HZ := Lib.hid (And.intro hz4 hz3)
    clear hb0 c2 c3 hz2 hz3 hz4 hbw hrow
    generalize hV : w6.setCell ⟨w.heap.size, 0, none⟩ (.slice q6 M d6) = V at *
    have v00 : V.cell? ⟨w.heap.size, 0, none⟩ = some (.slice q6 M d6) := cell_of_row _ _ 0 _ _ _ HKK.out.1
    have v01 : V.cell? ⟨w.heap.size, 1, none⟩ = some (.int .i64 last) := cell_of_row _ _ 1 _ _ _ HKK.out.1
    have v20 : V.cell? ⟨w.heap.size + 1 + 1, 0, none⟩ = some (.slice none 0 0) := cell_of_row _ _ 0 _ _ _ HKK.out.2.1
    have v21 : V.cell? ⟨w.heap.size + 1 + 1, 1, none⟩ = some (.int .i64 0) := cell_of_row _ _ 1 _ _ _ HKK.out.2.1
    have v30 : V.cell? ⟨w.heap.size + 1 + 1 + 1, 0, none⟩ = some (.int .i64 0) := cell_of_row _ _ 0 _ _ _ HKK.out.2.2
    have v31 : V.cell? ⟨w.heap.size + 1 + 1 + 1, 1, none⟩ = some (.bool false) := cell_of_row _ _ 1 _ _ _ HKK.out.2.2
    have v32 : V.cell? ⟨w.heap.size + 1 + 1 + 1, 2, none⟩ = some (.int .i64 0) := cell_of_row _ _ 2 _ _ _ HKK.out.2.2
    have v33 : V.cell? ⟨w.heap.size + 1 + 1 + 1, 3, none⟩ = some (.slice none 0 0) := cell_of_row _ _ 3 _ _ _ HKK.out.2.2
    have u20 : ∀ i, V.frozen? ⟨w.heap.size + 1 + 1, i, none⟩ = false := fun i => frozen_at HKK.out.2.1
    have u30 : ∀ i, V.frozen? ⟨w.heap.size + 1 + 1 + 1, i, none⟩ = false := fun i => frozen_at HKK.out.2.2
    clear hV
    go_wp2_with fail
    generalize hW : set4 (set2 (V) (w.heap.size + 1 + 1) (.slice q6 M d6) (.int .i64 last)) (w.heap.size + 1 + 1 + 1) (.int .i64 0) (.bool true) (.int .i64 0) (.slice none 0 0) = W at *
    unfold set4 set2 at hW
    rw [hW]
    clear hW
    have z20 : W.cell? ⟨w.heap.size + 1 + 1, 0, none⟩ = some (.slice q6 M d6) := cell_of_row W _ 0 _ _ _ HZ.out.1
    have z21 : W.cell? ⟨w.heap.size + 1 + 1, 1, none⟩ = some (.int .i64 last) := cell_of_row W _ 1 _ _ _ HZ.out.1
    have z30 : W.cell? ⟨w.heap.size + 1 + 1 + 1, 0, none⟩ = some (.int .i64 0) := cell_of_row W _ 0 _ _ _ HZ.out.2
    have z31 : W.cell? ⟨w.heap.size + 1 + 1 + 1, 1, none⟩ = some (.bool true) := cell_of_row W _ 1 _ _ _ HZ.out.2
    have z32 : W.cell? ⟨w.heap.size + 1 + 1 + 1, 2, none⟩ = some (.int .i64 0) := cell_of_row W _ 2 _ _ _ HZ.out.2
    have z33 : W.cell? ⟨w.heap.size + 1 + 1 + 1, 3, none⟩ = some (.slice none 0 0) := cell_of_row W _ 3 _ _ _ HZ.out.2
    exact bodyPost_ret (v := .tuple #[.agg #[.slice q6 M d6, .int .i64 last], .agg #[.int .i64 0, .bool true, .int .i64 0, .slice none 0 0]]) (by simp [results, Try.results12, go_sem, z20, z21, z30, z31, z32, z33]) rfl ⟨_, _, _, _, _, _, rfl, HD.out.1, row_nil _ _, HD.out.2⟩
end Go.Proofs.Ytpohfcjmjfhdoaa
