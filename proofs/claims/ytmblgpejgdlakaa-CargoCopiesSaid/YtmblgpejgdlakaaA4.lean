/-
  Contract: what the document's own Hurry answers. Conditions: as each states.
-/
import Derived.Test.YtmblgpejgdlakaaA3
namespace Go.Proofs.Ytmblgpejgdlakaa
open Go.RowKit

/-- The lesser one, as Hurry takes it. -/
def low (t n : Int) : Int := if t < n then t else n
def lows (t : Int) (A : List Int) : List Int := A.map (low t)
theorem lows_length (t : Int) (A : List Int) : (lows t A).length = A.length := by simp [lows]
theorem lows_next (t : Int) (A : List Int) (k : Nat) (h : k < A.length) : lows t (A.take k) ++ [low t (A.getD k 0)] = lows t (A.take (k + 1)) := by
  rw [List.take_add_one, List.getD_eq_getElem?_getD, List.getElem?_eq_getElem h]
  unfold lows
  rw [List.map_append]
  rfl
theorem lows_all (t : Int) (A : List Int) (n : Nat) (h : A.length = n) : lows t (A.take n) = lows t A := by rw [← h, List.take_length]
/-- What Hurry hands back. -/
def HurC (S : ByteArray) (A : List Int) (last : Int) (w : World) (e : Ending) (w' : World) : Prop := ∃ p n c, e = .returned (.agg #[.string S, .slice p n c, .int .i64 last]) ∧ RowA w' p n c A ∧ Below w.heap.size w w'
set_option maxRecDepth 100000 in
set_option maxHeartbeats 8000000 in
theorem rhurry_any (S : ByteArray) (p : Option Addr) (n c : Nat) (A : List Int) (last a : Int) (w : World) (hr : RowA w p n c A) (hn : n ≤ 100000) {T : Int} (hT : near a = T) :
    Calls Try.prog 29 #[.agg #[.string S, .slice p n c, .int .i64 last], .int .i64 a] w (HurC S (lows T A) (low T last) w) := by
  have HR := Lib.hid hr
  have HX := Lib.hid hr.1
  have HB0 := Lib.hid (below2 w (.cells #[.string S, .slice p n c, .int .i64 last] 29) (.cells #[.string ⟨#[]⟩, .slice none 0 0, .int .i64 0] 29))
  have HZ := Lib.hid (show ((w.alloc (.cells #[.string S, .slice p n c, .int .i64 last] 29)).alloc (.cells #[.string ⟨#[]⟩, .slice none 0 0, .int .i64 0] 29)).heap.size = w.heap.size + 1 + 1 by simp)
  have hb2 := two_blocks (Below.refl _ ((w.alloc (.cells #[.string S, .slice p n c, .int .i64 last] 29)).alloc (.cells #[.string ⟨#[]⟩, .slice none 0 0, .int .i64 0] 29)))
  have HB2 := Lib.hid hb2
  have HNE := Lib.hid (fun w => show Calls Try.prog 39 #[.int .i64 a] w fun e w' => e = .returned (.int .i64 T) ∧ w = w' from by rw [← hT]; exact rnear_any a w)
  clear hr hb2 hT
  go_enter Try.func29, Try.ntmps29
  go_wp2_with fail
  refine (HNE.out _).mono ?_
  rintro e w1 ⟨rfl, rfl⟩
  clear HNE
  go_wp2_with fail
  go_loopw [5, 6] (fun u i wr => ∃ (k : Nat) (q : Option Addr) (d : Nat), k ≤ n ∧ i = .int .i64 k ∧ u = .slice q k d ∧ Hid (wr.ownsRow (w.heap.size + 1 + 1) 3 1 (.slice q k d) k ((lows T (A.take k)).map (Value.int .i64))) ∧ Hid (Below (w.heap.size + 1 + 1) ((w.alloc (.cells #[.string S, .slice p n c, .int .i64 last] 29)).alloc (.cells #[.string ⟨#[]⟩, .slice none 0 0, .int .i64 0] 29)) wr)) (fun _ i _ => n - (intOf i).toNat)
  case atStart => exact ⟨0, none, 0, by omega, rfl, rfl, Lib.hid (World.ownsRow_nil _ _ _ _), Lib.hid (Below.refl _ _)⟩
  case round =>
    obtain ⟨k, q, d, hk, rfl, rfl, HO, HB⟩ := hrel
    have hb2 := HB2.out
    have hg0 := (HB.out.block w.heap.size (by omega)).trans hb2.1
    have hg1 := (HB.out.block (w.heap.size + 1) (by omega)).trans hb2.2.1
    have HG0 := Lib.hid hg0
    have HG1 := Lib.hid hg1
    have x0 : wr.cell? ⟨w.heap.size, 0, none⟩ = some (.string S) := cell_of_row _ _ 0 _ _ _ hg0
    have x1 : wr.cell? ⟨w.heap.size, 1, none⟩ = some (.slice p n c) := cell_of_row _ _ 1 _ _ _ hg0
    have x2 : wr.cell? ⟨w.heap.size, 2, none⟩ = some (.int .i64 last) := cell_of_row _ _ 2 _ _ _ hg0
    have y0 : wr.cell? ⟨w.heap.size + 1, 0, none⟩ = some (.string ⟨#[]⟩) := cell_of_row _ _ 0 _ _ _ hg1
    have y1 : wr.cell? ⟨w.heap.size + 1, 1, none⟩ = some (.slice none 0 0) := cell_of_row _ _ 1 _ _ _ hg1
    have y2 : wr.cell? ⟨w.heap.size + 1, 2, none⟩ = some (.int .i64 0) := cell_of_row _ _ 2 _ _ _ hg1
    have hgs : w.heap.size + 1 + 1 ≤ wr.heap.size := by have := HB.out.size; have := HZ.out; omega
    clear hb2 hg0 hg1
    by_cases hlt : k < n
    · obtain ⟨b, o, rfl, hcell⟩ := ints_on HR.out.2.2.2.1 (seqB0 HB0.out HB.out) (by omega)
      have g0 := hcell k hlt
      have hnx := lows_next T A k (by rw [HX.out]; exact hlt)
      generalize A.getD k 0 = v at g0 hnx
      have hbl : b < wr.heap.size := World.block_lt_of_cell? wr _ g0
      clear hcell
      obtain ⟨q', d', w', h1, h2, h3⟩ := app_int HO.out hgs HB.out (by omega) (low T v)
      rw [hnx] at h2
      have HO1 := Lib.hid h2
      have HB1 := Lib.hid h3
      clear hnx h2 h3
      by_cases hv : T < v
      · rw [show low T v = T by unfold low; rw [if_pos hv]] at h1
        have HR1 := Lib.hid h1
        clear h1
        go_wp2_with (at_builtin; refine Lib.wpList_append_run _ rfl _ _ _ _ rfl (.slice q k d) (.slice (some ⟨wr.heap.size, 0, none⟩) 1 1) rfl rfl _ _ (HR1.out _) ?_)
        go_roundw
        case rel => exact ⟨k + 1, q', d', by omega, by go_num, rfl, HO1, HB1⟩
        case measure => simp [intOf]; omega
      · rw [show low T v = v by unfold low; rw [if_neg hv]] at h1
        have HR1 := Lib.hid h1
        clear h1
        go_wp2_with (at_builtin; refine Lib.wpList_append_run _ rfl _ _ _ _ rfl (.slice q k d) (.slice (some ⟨wr.heap.size, 0, none⟩) 1 1) rfl rfl _ _ (HR1.out _) ?_)
        go_roundw
        case rel => exact ⟨k + 1, q', d', by omega, by go_num, rfl, HO1, HB1⟩
        case measure => simp [intOf]; omega
    · obtain rfl : k = n := by omega
      rw [lows_all T A _ HX.out] at HO
      have f0 : wr.frozen? ⟨w.heap.size, 1, none⟩ = false := frozen_at HG0.out
      have f0' : wr.frozen? ⟨w.heap.size, 2, none⟩ = false := frozen_at HG0.out
      have e0 : wr.frozen? ⟨w.heap.size + 1, 0, none⟩ = false := frozen_at HG1.out
      have e1 : wr.frozen? ⟨w.heap.size + 1, 1, none⟩ = false := frozen_at HG1.out
      have e2 : wr.frozen? ⟨w.heap.size + 1, 2, none⟩ = false := frozen_at HG1.out
      by_cases hv : T < last
      · have hWa : ((wr.setCell ⟨w.heap.size, 1, none⟩ (.slice q k d)).setCell ⟨w.heap.size, 2, none⟩ (.int .i64 T)).heap[w.heap.size]? = some (.cells #[.string S, .slice q k d, .int .i64 T] 29 (0, 0)) := by
          rw [set_heap (set_heap HG0.out _)]
          rfl
        have hWf : ∀ j, j ≠ w.heap.size → ((wr.setCell ⟨w.heap.size, 1, none⟩ (.slice q k d)).setCell ⟨w.heap.size, 2, none⟩ (.int .i64 T)).heap[j]? = wr.heap[j]? := fun j hj => by rw [Below.heap_setCell _ _ _ _ hj, Below.heap_setCell _ _ _ _ hj]
        have HWB := Lib.hid (((seqB0 HB0.out HB.out).setCell (p := ⟨w.heap.size, 1, none⟩) (Nat.le_refl _) (.slice q k d)).setCell (p := ⟨w.heap.size, 2, none⟩) (Nat.le_refl _) (.int .i64 T))
        have hg1' := (hWf (w.heap.size + 1) (by omega)).trans HG1.out
        clear hWa
        have hz := set3_heap (hg1') (.string S) (.slice q k d) (.int .i64 T)
        have HD := Lib.hid (set3_below HWB.out (show w.heap.size ≤ w.heap.size + 1 by omega) (.string S) (.slice q k d) (.int .i64 T))
        have HRow := Lib.hid (rowA_of_own (w' := set3 ((wr.setCell ⟨w.heap.size, 1, none⟩ (.slice q k d)).setCell ⟨w.heap.size, 2, none⟩ (.int .i64 T)) (w.heap.size + 1) (.string S) (.slice q k d) (.int .i64 T)) HO.out (fun j hj => by rw [set3_far _ _ _ (by omega)]; exact hWf j (by omega)))
        go_wp2_with fail
        generalize hW : set3 ((wr.setCell ⟨w.heap.size, 1, none⟩ (.slice q k d)).setCell ⟨w.heap.size, 2, none⟩ (.int .i64 T)) (w.heap.size + 1) (.string S) (.slice q k d) (.int .i64 T) = W at *
        unfold set3 at hW
        rw [hW]
        clear hW
        have z0 : W.cell? ⟨w.heap.size + 1, 0, none⟩ = some (.string S) := cell_of_row W _ 0 _ _ _ hz
        have z1 : W.cell? ⟨w.heap.size + 1, 1, none⟩ = some (.slice q k d) := cell_of_row W _ 1 _ _ _ hz
        have z2 : W.cell? ⟨w.heap.size + 1, 2, none⟩ = some (.int .i64 T) := cell_of_row W _ 2 _ _ _ hz
        exact bodyPost_ret (v := .agg #[.string S, .slice q k d, .int .i64 T]) (by simp [results, Try.results29, go_sem, z0, z1, z2]) rfl ⟨_, _, _, by unfold low; rw [if_pos (by omega)], HRow.out, HD.out⟩
      · have hWf : ∀ j, j ≠ w.heap.size → (wr.setCell ⟨w.heap.size, 1, none⟩ (.slice q k d)).heap[j]? = wr.heap[j]? := fun j hj => Below.heap_setCell _ _ _ _ hj
        have HWB := Lib.hid ((seqB0 HB0.out HB.out).setCell (p := ⟨w.heap.size, 1, none⟩) (Nat.le_refl _) (.slice q k d))
        have hg1' := (hWf (w.heap.size + 1) (by omega)).trans HG1.out
        have hz := set3_heap (hg1') (.string S) (.slice q k d) (.int .i64 last)
        have HD := Lib.hid (set3_below HWB.out (show w.heap.size ≤ w.heap.size + 1 by omega) (.string S) (.slice q k d) (.int .i64 last))
        have HRow := Lib.hid (rowA_of_own (w' := set3 (wr.setCell ⟨w.heap.size, 1, none⟩ (.slice q k d)) (w.heap.size + 1) (.string S) (.slice q k d) (.int .i64 last)) HO.out (fun j hj => by rw [set3_far _ _ _ (by omega)]; exact hWf j (by omega)))
        go_wp2_with fail
        generalize hW : set3 (wr.setCell ⟨w.heap.size, 1, none⟩ (.slice q k d)) (w.heap.size + 1) (.string S) (.slice q k d) (.int .i64 last) = W at *
        unfold set3 at hW
        rw [hW]
        clear hW
        have z0 : W.cell? ⟨w.heap.size + 1, 0, none⟩ = some (.string S) := cell_of_row W _ 0 _ _ _ hz
        have z1 : W.cell? ⟨w.heap.size + 1, 1, none⟩ = some (.slice q k d) := cell_of_row W _ 1 _ _ _ hz
        have z2 : W.cell? ⟨w.heap.size + 1, 2, none⟩ = some (.int .i64 last) := cell_of_row W _ 2 _ _ _ hz
        exact bodyPost_ret (v := .agg #[.string S, .slice q k d, .int .i64 last]) (by simp [results, Try.results29, go_sem, z0, z1, z2]) rfl ⟨_, _, _, by unfold low; rw [if_neg (by omega)], HRow.out, HD.out⟩
end Go.Proofs.Ytmblgpejgdlakaa
