/-
  Contracts: what the document's own Take and Most answer. Conditions: as each states.
-/
import Derived.Test.YtidklcjacejkaaaB2
import Derived.Deep.Cut
namespace Go.Proofs.Ytidklcjacejkaaa
open Go.RowKit

/-- How many are taken of so many. -/
def takeB (L n : Int) : Int := if n < 0 then 0 else if L < n then L else n
def mostV (r u l t k : Int) : Int := if rightB r u l t = true then near (near u + near (near (near r * near k))) else 0
theorem fill_right {r u l t : Int} (h : rightB r u l t = true) (now : Int) : rightB r u (fillL r u l t now) (fillT r u l t now) = true := by
  have h0 := (rightB_iff r u l t).1 h
  obtain ⟨h1, h2, h3, h4, h5, h6⟩ := h0
  rw [rightB_iff]
  have hn := near_range now
  unfold fillL fillT
  by_cases hc : rightB r u l t = true ∧ t < near now
  · rw [if_pos hc, if_pos hc]
    have hp : 0 ≤ r * (near now - t) := Int.mul_nonneg h1.1 (by omega)
    unfold lvl
    refine ⟨h1, h2, ?_, hn, h5, ?_⟩ <;> (split <;> omega)
  · rw [if_neg hc, if_neg hc]
    exact ⟨h1, h2, h3, h4, h5, h6⟩
set_option maxRecDepth 100000 in
set_option maxHeartbeats 8000000 in
theorem rtake_no {r u l t : Int} (h : rightB r u l t = false) (now n : Int) (w : World) : Calls Try.prog 10 #[.agg #[.int .i64 r, .int .i64 u, .int .i64 l, .int .i64 t], .int .i64 now, .int .i64 n] w fun e w' => e = .returned (.tuple #[.agg #[.int .i64 r, .int .i64 u, .int .i64 l, .int .i64 t], .int .i64 0]) ∧ Below w.heap.size w w' := by
  have HRG := Lib.hid (fun W => show Calls Try.prog 15 #[.agg #[.int .i64 r, .int .i64 u, .int .i64 l, .int .i64 t]] W fun e w' => e = .returned (.bool false) ∧ Below W.heap.size W w' from by rw [← h]; exact rright_any r u l t W)
  have HB0 := Lib.hid (below2 w (.cells #[.int .i64 r, .int .i64 u, .int .i64 l, .int .i64 t] 23) (.cells #[.int .i64 0, .int .i64 0, .int .i64 0, .int .i64 0] 23))
  go_enter Try.func10, Try.ntmps10
  go_wp2_with fail
  refine (HRG.out _).mono ?_
  rintro e w3 ⟨rfl, hb⟩
  obtain ⟨hg0, hg1, hlt⟩ := two_blocks hb
  have HB3 := Lib.hid (seqB HB0.out hb)
  have x0 : w3.cell? ⟨w.heap.size, 0, none⟩ = some (.int .i64 r) := cell_of_row _ _ 0 _ _ _ hg0
  have x1 : w3.cell? ⟨w.heap.size, 1, none⟩ = some (.int .i64 u) := cell_of_row _ _ 1 _ _ _ hg0
  have x2 : w3.cell? ⟨w.heap.size, 2, none⟩ = some (.int .i64 l) := cell_of_row _ _ 2 _ _ _ hg0
  have x3 : w3.cell? ⟨w.heap.size, 3, none⟩ = some (.int .i64 t) := cell_of_row _ _ 3 _ _ _ hg0
  have y0 : w3.cell? ⟨w.heap.size + 1, 0, none⟩ = some (.int .i64 0) := cell_of_row _ _ 0 _ _ _ hg1
  have y1 : w3.cell? ⟨w.heap.size + 1, 1, none⟩ = some (.int .i64 0) := cell_of_row _ _ 1 _ _ _ hg1
  have y2 : w3.cell? ⟨w.heap.size + 1, 2, none⟩ = some (.int .i64 0) := cell_of_row _ _ 2 _ _ _ hg1
  have y3 : w3.cell? ⟨w.heap.size + 1, 3, none⟩ = some (.int .i64 0) := cell_of_row _ _ 3 _ _ _ hg1
  have f0 : w3.frozen? ⟨w.heap.size + 1, 0, none⟩ = false := frozen_at hg1
  have f1 : w3.frozen? ⟨w.heap.size + 1, 1, none⟩ = false := frozen_at hg1
  have f2 : w3.frozen? ⟨w.heap.size + 1, 2, none⟩ = false := frozen_at hg1
  have f3 : w3.frozen? ⟨w.heap.size + 1, 3, none⟩ = false := frozen_at hg1
  clear hb HRG HB0
  have hz := set4_heap hg1 (.int .i64 r) (.int .i64 u) (.int .i64 l) (.int .i64 t)
  have HD := Lib.hid (set4_below (w := w3) (g := w.heap.size + 1) HB3.out (show w.heap.size ≤ w.heap.size + 1 by omega) (.int .i64 r) (.int .i64 u) (.int .i64 l) (.int .i64 t))
  go_wp2_with fail
  generalize hW : set4 w3 (w.heap.size + 1) (.int .i64 r) (.int .i64 u) (.int .i64 l) (.int .i64 t) = W at *
  unfold set4 at hW
  rw [hW]
  clear hW
  have z0 : W.cell? ⟨w.heap.size + 1, 0, none⟩ = some (.int .i64 r) := cell_of_row W _ 0 _ _ _ hz
  have z1 : W.cell? ⟨w.heap.size + 1, 1, none⟩ = some (.int .i64 u) := cell_of_row W _ 1 _ _ _ hz
  have z2 : W.cell? ⟨w.heap.size + 1, 2, none⟩ = some (.int .i64 l) := cell_of_row W _ 2 _ _ _ hz
  have z3 : W.cell? ⟨w.heap.size + 1, 3, none⟩ = some (.int .i64 t) := cell_of_row W _ 3 _ _ _ hz
  exact bodyPost_ret (v := .tuple #[.agg #[.int .i64 r, .int .i64 u, .int .i64 l, .int .i64 t], .int .i64 0]) (by simp [results, Try.results10, go_sem, z0, z1, z2, z3]) rfl ⟨rfl, HD.out⟩
set_option maxRecDepth 100000 in
set_option maxHeartbeats 8000000 in
theorem rtake_yes {r u l t : Int} (h : rightB r u l t = true) (now n : Int) {L T K D : Int} (hL : fillL r u l t now = L) (hT : fillT r u l t now = T) (hK : takeB L n = K) (hD : L - K = D) (w : World) : Calls Try.prog 10 #[.agg #[.int .i64 r, .int .i64 u, .int .i64 l, .int .i64 t], .int .i64 now, .int .i64 n] w fun e w' => e = .returned (.tuple #[.agg #[.int .i64 r, .int .i64 u, .int .i64 D, .int .i64 T], .int .i64 K]) ∧ Below w.heap.size w w' := by
  have hfr := (rightB_iff _ _ _ _).1 (fill_right h now)
  rw [hL] at hfr
  have hLr := hfr.2.2.1
  have HRG := Lib.hid (fun W => show Calls Try.prog 15 #[.agg #[.int .i64 r, .int .i64 u, .int .i64 l, .int .i64 t]] W fun e w' => e = .returned (.bool true) ∧ Below W.heap.size W w' from by rw [← h]; exact rright_any r u l t W)
  have HFI := Lib.hid (fun W => show Calls Try.prog 17 #[.agg #[.int .i64 r, .int .i64 u, .int .i64 l, .int .i64 t], .int .i64 now] W fun e w' => e = .returned (.agg #[.int .i64 r, .int .i64 u, .int .i64 L, .int .i64 T]) ∧ Below W.heap.size W w' from by rw [← hL, ← hT]; exact rfill_any r u l t now W)
  have HB0 := Lib.hid (below2 w (.cells #[.int .i64 r, .int .i64 u, .int .i64 l, .int .i64 t] 23) (.cells #[.int .i64 0, .int .i64 0, .int .i64 0, .int .i64 0] 23))
  clear hfr hL hT h
  unfold takeB at hK
  by_cases hn0 : n < 0
  · rw [if_pos hn0] at hK
    subst hK
    have hDe : D = L := by omega
    have hw : IntKind.i64.wrap L = L := IntWalk.i64_in _ (by omega)
    subst hDe
    clear hD
    have HDV := Lib.hid (show D = D from rfl)
    have HKV := Lib.hid (show (0 : Int) = 0 from rfl)
    go_enter Try.func10, Try.ntmps10
    go_wp2_with fail
    refine (HRG.out _).mono ?_
    rintro e w1 ⟨rfl, hb1⟩
    obtain ⟨hg0, hg1, hlt⟩ := two_blocks hb1
    have HB1 := Lib.hid (seqB HB0.out hb1)
    have HG0 := Lib.hid hg0
    have HG1 := Lib.hid hg1
    have x0 : w1.cell? ⟨w.heap.size, 0, none⟩ = some (.int .i64 r) := cell_of_row _ _ 0 _ _ _ hg0
    have x1 : w1.cell? ⟨w.heap.size, 1, none⟩ = some (.int .i64 u) := cell_of_row _ _ 1 _ _ _ hg0
    have x2 : w1.cell? ⟨w.heap.size, 2, none⟩ = some (.int .i64 l) := cell_of_row _ _ 2 _ _ _ hg0
    have x3 : w1.cell? ⟨w.heap.size, 3, none⟩ = some (.int .i64 t) := cell_of_row _ _ 3 _ _ _ hg0
    clear hb1 hg0 hg1 hlt
    go_wp2_with fail
    refine (HFI.out _).mono ?_
    rintro e w2 ⟨rfl, hb2⟩
    have hg0 := (hb2.block _ (blk_lt HG0.out)).trans HG0.out
    have hg1 := (hb2.block _ (blk_lt HG1.out)).trans HG1.out
    have HB2 := Lib.hid (seqB HB1.out hb2)
    have hlt2 : w.heap.size + 1 < w2.heap.size := blk_lt hg1
    clear hb2 x0 x1 x2 x3
    have x0 : w2.cell? ⟨w.heap.size, 0, none⟩ = some (.int .i64 r) := cell_of_row _ _ 0 _ _ _ hg0
    have x1 : w2.cell? ⟨w.heap.size, 1, none⟩ = some (.int .i64 u) := cell_of_row _ _ 1 _ _ _ hg0
    have x2 : w2.cell? ⟨w.heap.size, 2, none⟩ = some (.int .i64 l) := cell_of_row _ _ 2 _ _ _ hg0
    have x3 : w2.cell? ⟨w.heap.size, 3, none⟩ = some (.int .i64 t) := cell_of_row _ _ 3 _ _ _ hg0
    have y0 : w2.cell? ⟨w.heap.size + 1, 0, none⟩ = some (.int .i64 0) := cell_of_row _ _ 0 _ _ _ hg1
    have y1 : w2.cell? ⟨w.heap.size + 1, 1, none⟩ = some (.int .i64 0) := cell_of_row _ _ 1 _ _ _ hg1
    have y2 : w2.cell? ⟨w.heap.size + 1, 2, none⟩ = some (.int .i64 0) := cell_of_row _ _ 2 _ _ _ hg1
    have y3 : w2.cell? ⟨w.heap.size + 1, 3, none⟩ = some (.int .i64 0) := cell_of_row _ _ 3 _ _ _ hg1
    have f0 : w2.frozen? ⟨w.heap.size + 1, 0, none⟩ = false := frozen_at hg1
    have f1 : w2.frozen? ⟨w.heap.size + 1, 1, none⟩ = false := frozen_at hg1
    have f2 : w2.frozen? ⟨w.heap.size + 1, 2, none⟩ = false := frozen_at hg1
    have f3 : w2.frozen? ⟨w.heap.size + 1, 3, none⟩ = false := frozen_at hg1
    have e0 : w2.frozen? ⟨w.heap.size, 0, none⟩ = false := frozen_at hg0
    have e1 : w2.frozen? ⟨w.heap.size, 1, none⟩ = false := frozen_at hg0
    have e2 : w2.frozen? ⟨w.heap.size, 2, none⟩ = false := frozen_at hg0
    have e3 : w2.frozen? ⟨w.heap.size, 3, none⟩ = false := frozen_at hg0
    go_upto_region 4 with fail
    have hs1 := set4_heap hg0 (.int .i64 r) (.int .i64 u) (.int .i64 D) (.int .i64 T)
    have hd1 := set4_below (w := w2) HB2.out (show w.heap.size ≤ w.heap.size by omega) (.int .i64 r) (.int .i64 u) (.int .i64 D) (.int .i64 T)
    have hf1 := (set4_far (.int .i64 r) (.int .i64 u) (.int .i64 D) (.int .i64 T) (show w.heap.size + 1 ≠ w.heap.size by omega)).trans hg1
    generalize hW1 : set4 w2 w.heap.size (.int .i64 r) (.int .i64 u) (.int .i64 D) (.int .i64 T) = W1 at *
    unfold set4 at hW1
    rw [hW1]
    clear hW1 x0 x1 x2 x3 y0 y1 y2 y3 f0 f1 f2 f3 e0 e1 e2 e3 hg0 hg1
    have hltW : w.heap.size + 1 < W1.heap.size := blk_lt hf1
    have x0 : W1.cell? ⟨w.heap.size, 0, none⟩ = some (.int .i64 r) := cell_of_row _ _ 0 _ _ _ hs1
    have x1 : W1.cell? ⟨w.heap.size, 1, none⟩ = some (.int .i64 u) := cell_of_row _ _ 1 _ _ _ hs1
    have x2 : W1.cell? ⟨w.heap.size, 2, none⟩ = some (.int .i64 D) := cell_of_row _ _ 2 _ _ _ hs1
    have x3 : W1.cell? ⟨w.heap.size, 3, none⟩ = some (.int .i64 T) := cell_of_row _ _ 3 _ _ _ hs1
    have e2 : W1.frozen? ⟨w.heap.size, 2, none⟩ = false := frozen_at hs1
    go_upto_region 9 with fail
    have hs2 := set_heap (i := 2) hs1 (.int .i64 D)
    have hd2 := hd1.setCell (p := ⟨w.heap.size, 2, none⟩) (Nat.le_refl _) (.int .i64 D)
    have hf2 := (Below.heap_setCell W1 ⟨w.heap.size, 2, none⟩ (.int .i64 D) (w.heap.size + 1) (by simp)).trans hf1
    generalize W1.setCell ⟨w.heap.size, 2, none⟩ (.int .i64 D) = W2 at *
    have hs2 : W2.heap[w.heap.size]? = some (.cells #[.int .i64 r, .int .i64 u, .int .i64 D, .int .i64 T] 23 (0, 0)) := hs2
    have hltV : w.heap.size + 1 < W2.heap.size := blk_lt hf2
    have hz := set4_heap hf2 (.int .i64 r) (.int .i64 u) (.int .i64 D) (.int .i64 T)
    have HD := Lib.hid (set4_below hd2 (show w.heap.size ≤ w.heap.size + 1 by omega) (.int .i64 r) (.int .i64 u) (.int .i64 D) (.int .i64 T))
    have v0 : W2.cell? ⟨w.heap.size, 0, none⟩ = some (.int .i64 r) := cell_of_row _ _ 0 _ _ _ hs2
    have v1 : W2.cell? ⟨w.heap.size, 1, none⟩ = some (.int .i64 u) := cell_of_row _ _ 1 _ _ _ hs2
    have v2 : W2.cell? ⟨w.heap.size, 2, none⟩ = some (.int .i64 D) := cell_of_row _ _ 2 _ _ _ hs2
    have v3 : W2.cell? ⟨w.heap.size, 3, none⟩ = some (.int .i64 T) := cell_of_row _ _ 3 _ _ _ hs2
    have y0 : W2.cell? ⟨w.heap.size + 1, 0, none⟩ = some (.int .i64 0) := cell_of_row _ _ 0 _ _ _ hf2
    have y1 : W2.cell? ⟨w.heap.size + 1, 1, none⟩ = some (.int .i64 0) := cell_of_row _ _ 1 _ _ _ hf2
    have y2 : W2.cell? ⟨w.heap.size + 1, 2, none⟩ = some (.int .i64 0) := cell_of_row _ _ 2 _ _ _ hf2
    have y3 : W2.cell? ⟨w.heap.size + 1, 3, none⟩ = some (.int .i64 0) := cell_of_row _ _ 3 _ _ _ hf2
    have f0 : W2.frozen? ⟨w.heap.size + 1, 0, none⟩ = false := frozen_at hf2
    have f1 : W2.frozen? ⟨w.heap.size + 1, 1, none⟩ = false := frozen_at hf2
    have f2 : W2.frozen? ⟨w.heap.size + 1, 2, none⟩ = false := frozen_at hf2
    have f3 : W2.frozen? ⟨w.heap.size + 1, 3, none⟩ = false := frozen_at hf2
    clear hs1 hd1 hf1 hs2 hd2 hf2 x0 x1 x2 x3 e2 hltW
    go_wp2_with fail
    generalize hW : set4 W2 (w.heap.size + 1) (.int .i64 r) (.int .i64 u) (.int .i64 D) (.int .i64 T) = W at *
    unfold set4 at hW
    rw [hW]
    clear hW
    have z0 : W.cell? ⟨w.heap.size + 1, 0, none⟩ = some (.int .i64 r) := cell_of_row W _ 0 _ _ _ hz
    have z1 : W.cell? ⟨w.heap.size + 1, 1, none⟩ = some (.int .i64 u) := cell_of_row W _ 1 _ _ _ hz
    have z2 : W.cell? ⟨w.heap.size + 1, 2, none⟩ = some (.int .i64 D) := cell_of_row W _ 2 _ _ _ hz
    have z3 : W.cell? ⟨w.heap.size + 1, 3, none⟩ = some (.int .i64 T) := cell_of_row W _ 3 _ _ _ hz
    exact bodyPost_ret (v := .tuple #[.agg #[.int .i64 r, .int .i64 u, .int .i64 D, .int .i64 T], .int .i64 0]) (by simp [results, Try.results10, go_sem, z0, z1, z2, z3]) rfl ⟨by rfl, HD.out⟩
  · rw [if_neg hn0] at hK
    by_cases hn1 : L < n
    · rw [if_pos hn1] at hK
      subst hK
      obtain rfl : D = 0 := by omega
      have hw : IntKind.i64.wrap (L - L) = 0 := by rw [IntWalk.i64_in _ (by omega)]; omega
      clear hD
      go_enter Try.func10, Try.ntmps10
      go_wp2_with fail
      refine (HRG.out _).mono ?_
      rintro e w1 ⟨rfl, hb1⟩
      obtain ⟨hg0, hg1, hlt⟩ := two_blocks hb1
      have HB1 := Lib.hid (seqB HB0.out hb1)
      have HG0 := Lib.hid hg0
      have HG1 := Lib.hid hg1
      have x0 : w1.cell? ⟨w.heap.size, 0, none⟩ = some (.int .i64 r) := cell_of_row _ _ 0 _ _ _ hg0
      have x1 : w1.cell? ⟨w.heap.size, 1, none⟩ = some (.int .i64 u) := cell_of_row _ _ 1 _ _ _ hg0
      have x2 : w1.cell? ⟨w.heap.size, 2, none⟩ = some (.int .i64 l) := cell_of_row _ _ 2 _ _ _ hg0
      have x3 : w1.cell? ⟨w.heap.size, 3, none⟩ = some (.int .i64 t) := cell_of_row _ _ 3 _ _ _ hg0
      clear hb1 hg0 hg1 hlt
      go_wp2_with fail
      refine (HFI.out _).mono ?_
      rintro e w2 ⟨rfl, hb2⟩
      have hg0 := (hb2.block _ (blk_lt HG0.out)).trans HG0.out
      have hg1 := (hb2.block _ (blk_lt HG1.out)).trans HG1.out
      have HB2 := Lib.hid (seqB HB1.out hb2)
      have hlt2 : w.heap.size + 1 < w2.heap.size := blk_lt hg1
      clear hb2 x0 x1 x2 x3
      have x0 : w2.cell? ⟨w.heap.size, 0, none⟩ = some (.int .i64 r) := cell_of_row _ _ 0 _ _ _ hg0
      have x1 : w2.cell? ⟨w.heap.size, 1, none⟩ = some (.int .i64 u) := cell_of_row _ _ 1 _ _ _ hg0
      have x2 : w2.cell? ⟨w.heap.size, 2, none⟩ = some (.int .i64 l) := cell_of_row _ _ 2 _ _ _ hg0
      have x3 : w2.cell? ⟨w.heap.size, 3, none⟩ = some (.int .i64 t) := cell_of_row _ _ 3 _ _ _ hg0
      have y0 : w2.cell? ⟨w.heap.size + 1, 0, none⟩ = some (.int .i64 0) := cell_of_row _ _ 0 _ _ _ hg1
      have y1 : w2.cell? ⟨w.heap.size + 1, 1, none⟩ = some (.int .i64 0) := cell_of_row _ _ 1 _ _ _ hg1
      have y2 : w2.cell? ⟨w.heap.size + 1, 2, none⟩ = some (.int .i64 0) := cell_of_row _ _ 2 _ _ _ hg1
      have y3 : w2.cell? ⟨w.heap.size + 1, 3, none⟩ = some (.int .i64 0) := cell_of_row _ _ 3 _ _ _ hg1
      have f0 : w2.frozen? ⟨w.heap.size + 1, 0, none⟩ = false := frozen_at hg1
      have f1 : w2.frozen? ⟨w.heap.size + 1, 1, none⟩ = false := frozen_at hg1
      have f2 : w2.frozen? ⟨w.heap.size + 1, 2, none⟩ = false := frozen_at hg1
      have f3 : w2.frozen? ⟨w.heap.size + 1, 3, none⟩ = false := frozen_at hg1
      have e0 : w2.frozen? ⟨w.heap.size, 0, none⟩ = false := frozen_at hg0
      have e1 : w2.frozen? ⟨w.heap.size, 1, none⟩ = false := frozen_at hg0
      have e2 : w2.frozen? ⟨w.heap.size, 2, none⟩ = false := frozen_at hg0
      have e3 : w2.frozen? ⟨w.heap.size, 3, none⟩ = false := frozen_at hg0
      go_upto_region 4 with fail
      have hs1 := set4_heap hg0 (.int .i64 r) (.int .i64 u) (.int .i64 L) (.int .i64 T)
      have hd1 := set4_below (w := w2) HB2.out (show w.heap.size ≤ w.heap.size by omega) (.int .i64 r) (.int .i64 u) (.int .i64 L) (.int .i64 T)
      have hf1 := (set4_far (.int .i64 r) (.int .i64 u) (.int .i64 L) (.int .i64 T) (show w.heap.size + 1 ≠ w.heap.size by omega)).trans hg1
      generalize hW1 : set4 w2 w.heap.size (.int .i64 r) (.int .i64 u) (.int .i64 L) (.int .i64 T) = W1 at *
      unfold set4 at hW1
      rw [hW1]
      clear hW1 x0 x1 x2 x3 y0 y1 y2 y3 f0 f1 f2 f3 e0 e1 e2 e3 hg0 hg1
      have hltW : w.heap.size + 1 < W1.heap.size := blk_lt hf1
      have x0 : W1.cell? ⟨w.heap.size, 0, none⟩ = some (.int .i64 r) := cell_of_row _ _ 0 _ _ _ hs1
      have x1 : W1.cell? ⟨w.heap.size, 1, none⟩ = some (.int .i64 u) := cell_of_row _ _ 1 _ _ _ hs1
      have x2 : W1.cell? ⟨w.heap.size, 2, none⟩ = some (.int .i64 L) := cell_of_row _ _ 2 _ _ _ hs1
      have x3 : W1.cell? ⟨w.heap.size, 3, none⟩ = some (.int .i64 T) := cell_of_row _ _ 3 _ _ _ hs1
      have e2 : W1.frozen? ⟨w.heap.size, 2, none⟩ = false := frozen_at hs1
      go_upto_region 9 with fail
      have hs2 := set_heap (i := 2) hs1 (.int .i64 0)
      have hd2 := hd1.setCell (p := ⟨w.heap.size, 2, none⟩) (Nat.le_refl _) (.int .i64 0)
      have hf2 := (Below.heap_setCell W1 ⟨w.heap.size, 2, none⟩ (.int .i64 0) (w.heap.size + 1) (by simp)).trans hf1
      generalize W1.setCell ⟨w.heap.size, 2, none⟩ (.int .i64 0) = W2 at *
      have hs2 : W2.heap[w.heap.size]? = some (.cells #[.int .i64 r, .int .i64 u, .int .i64 0, .int .i64 T] 23 (0, 0)) := hs2
      have hltV : w.heap.size + 1 < W2.heap.size := blk_lt hf2
      have hz := set4_heap hf2 (.int .i64 r) (.int .i64 u) (.int .i64 0) (.int .i64 T)
      have HD := Lib.hid (set4_below hd2 (show w.heap.size ≤ w.heap.size + 1 by omega) (.int .i64 r) (.int .i64 u) (.int .i64 0) (.int .i64 T))
      have v0 : W2.cell? ⟨w.heap.size, 0, none⟩ = some (.int .i64 r) := cell_of_row _ _ 0 _ _ _ hs2
      have v1 : W2.cell? ⟨w.heap.size, 1, none⟩ = some (.int .i64 u) := cell_of_row _ _ 1 _ _ _ hs2
      have v2 : W2.cell? ⟨w.heap.size, 2, none⟩ = some (.int .i64 0) := cell_of_row _ _ 2 _ _ _ hs2
      have v3 : W2.cell? ⟨w.heap.size, 3, none⟩ = some (.int .i64 T) := cell_of_row _ _ 3 _ _ _ hs2
      have y0 : W2.cell? ⟨w.heap.size + 1, 0, none⟩ = some (.int .i64 0) := cell_of_row _ _ 0 _ _ _ hf2
      have y1 : W2.cell? ⟨w.heap.size + 1, 1, none⟩ = some (.int .i64 0) := cell_of_row _ _ 1 _ _ _ hf2
      have y2 : W2.cell? ⟨w.heap.size + 1, 2, none⟩ = some (.int .i64 0) := cell_of_row _ _ 2 _ _ _ hf2
      have y3 : W2.cell? ⟨w.heap.size + 1, 3, none⟩ = some (.int .i64 0) := cell_of_row _ _ 3 _ _ _ hf2
      have f0 : W2.frozen? ⟨w.heap.size + 1, 0, none⟩ = false := frozen_at hf2
      have f1 : W2.frozen? ⟨w.heap.size + 1, 1, none⟩ = false := frozen_at hf2
      have f2 : W2.frozen? ⟨w.heap.size + 1, 2, none⟩ = false := frozen_at hf2
      have f3 : W2.frozen? ⟨w.heap.size + 1, 3, none⟩ = false := frozen_at hf2
      clear hs1 hd1 hf1 hs2 hd2 hf2 x0 x1 x2 x3 e2 hltW
      go_wp2_with fail
      generalize hW : set4 W2 (w.heap.size + 1) (.int .i64 r) (.int .i64 u) (.int .i64 0) (.int .i64 T) = W at *
      unfold set4 at hW
      rw [hW]
      clear hW
      have z0 : W.cell? ⟨w.heap.size + 1, 0, none⟩ = some (.int .i64 r) := cell_of_row W _ 0 _ _ _ hz
      have z1 : W.cell? ⟨w.heap.size + 1, 1, none⟩ = some (.int .i64 u) := cell_of_row W _ 1 _ _ _ hz
      have z2 : W.cell? ⟨w.heap.size + 1, 2, none⟩ = some (.int .i64 0) := cell_of_row W _ 2 _ _ _ hz
      have z3 : W.cell? ⟨w.heap.size + 1, 3, none⟩ = some (.int .i64 T) := cell_of_row W _ 3 _ _ _ hz
      exact bodyPost_ret (v := .tuple #[.agg #[.int .i64 r, .int .i64 u, .int .i64 0, .int .i64 T], .int .i64 L]) (by simp [results, Try.results10, go_sem, z0, z1, z2, z3]) rfl ⟨rfl, HD.out⟩
    · rw [if_neg hn1] at hK
      subst hK
      have hw : IntKind.i64.wrap (L - n) = D := by rw [IntWalk.i64_in _ (by omega), hD]
      clear hD
      go_enter Try.func10, Try.ntmps10
      go_wp2_with fail
      refine (HRG.out _).mono ?_
      rintro e w1 ⟨rfl, hb1⟩
      obtain ⟨hg0, hg1, hlt⟩ := two_blocks hb1
      have HB1 := Lib.hid (seqB HB0.out hb1)
      have HG0 := Lib.hid hg0
      have HG1 := Lib.hid hg1
      have x0 : w1.cell? ⟨w.heap.size, 0, none⟩ = some (.int .i64 r) := cell_of_row _ _ 0 _ _ _ hg0
      have x1 : w1.cell? ⟨w.heap.size, 1, none⟩ = some (.int .i64 u) := cell_of_row _ _ 1 _ _ _ hg0
      have x2 : w1.cell? ⟨w.heap.size, 2, none⟩ = some (.int .i64 l) := cell_of_row _ _ 2 _ _ _ hg0
      have x3 : w1.cell? ⟨w.heap.size, 3, none⟩ = some (.int .i64 t) := cell_of_row _ _ 3 _ _ _ hg0
      clear hb1 hg0 hg1 hlt
      go_wp2_with fail
      refine (HFI.out _).mono ?_
      rintro e w2 ⟨rfl, hb2⟩
      have hg0 := (hb2.block _ (blk_lt HG0.out)).trans HG0.out
      have hg1 := (hb2.block _ (blk_lt HG1.out)).trans HG1.out
      have HB2 := Lib.hid (seqB HB1.out hb2)
      have hlt2 : w.heap.size + 1 < w2.heap.size := blk_lt hg1
      clear hb2 x0 x1 x2 x3
      have x0 : w2.cell? ⟨w.heap.size, 0, none⟩ = some (.int .i64 r) := cell_of_row _ _ 0 _ _ _ hg0
      have x1 : w2.cell? ⟨w.heap.size, 1, none⟩ = some (.int .i64 u) := cell_of_row _ _ 1 _ _ _ hg0
      have x2 : w2.cell? ⟨w.heap.size, 2, none⟩ = some (.int .i64 l) := cell_of_row _ _ 2 _ _ _ hg0
      have x3 : w2.cell? ⟨w.heap.size, 3, none⟩ = some (.int .i64 t) := cell_of_row _ _ 3 _ _ _ hg0
      have y0 : w2.cell? ⟨w.heap.size + 1, 0, none⟩ = some (.int .i64 0) := cell_of_row _ _ 0 _ _ _ hg1
      have y1 : w2.cell? ⟨w.heap.size + 1, 1, none⟩ = some (.int .i64 0) := cell_of_row _ _ 1 _ _ _ hg1
      have y2 : w2.cell? ⟨w.heap.size + 1, 2, none⟩ = some (.int .i64 0) := cell_of_row _ _ 2 _ _ _ hg1
      have y3 : w2.cell? ⟨w.heap.size + 1, 3, none⟩ = some (.int .i64 0) := cell_of_row _ _ 3 _ _ _ hg1
      have f0 : w2.frozen? ⟨w.heap.size + 1, 0, none⟩ = false := frozen_at hg1
      have f1 : w2.frozen? ⟨w.heap.size + 1, 1, none⟩ = false := frozen_at hg1
      have f2 : w2.frozen? ⟨w.heap.size + 1, 2, none⟩ = false := frozen_at hg1
      have f3 : w2.frozen? ⟨w.heap.size + 1, 3, none⟩ = false := frozen_at hg1
      have e0 : w2.frozen? ⟨w.heap.size, 0, none⟩ = false := frozen_at hg0
      have e1 : w2.frozen? ⟨w.heap.size, 1, none⟩ = false := frozen_at hg0
      have e2 : w2.frozen? ⟨w.heap.size, 2, none⟩ = false := frozen_at hg0
      have e3 : w2.frozen? ⟨w.heap.size, 3, none⟩ = false := frozen_at hg0
      go_upto_region 4 with fail
      have hs1 := set4_heap hg0 (.int .i64 r) (.int .i64 u) (.int .i64 L) (.int .i64 T)
      have hd1 := set4_below (w := w2) HB2.out (show w.heap.size ≤ w.heap.size by omega) (.int .i64 r) (.int .i64 u) (.int .i64 L) (.int .i64 T)
      have hf1 := (set4_far (.int .i64 r) (.int .i64 u) (.int .i64 L) (.int .i64 T) (show w.heap.size + 1 ≠ w.heap.size by omega)).trans hg1
      generalize hW1 : set4 w2 w.heap.size (.int .i64 r) (.int .i64 u) (.int .i64 L) (.int .i64 T) = W1 at *
      unfold set4 at hW1
      rw [hW1]
      clear hW1 x0 x1 x2 x3 y0 y1 y2 y3 f0 f1 f2 f3 e0 e1 e2 e3 hg0 hg1
      have hltW : w.heap.size + 1 < W1.heap.size := blk_lt hf1
      have x0 : W1.cell? ⟨w.heap.size, 0, none⟩ = some (.int .i64 r) := cell_of_row _ _ 0 _ _ _ hs1
      have x1 : W1.cell? ⟨w.heap.size, 1, none⟩ = some (.int .i64 u) := cell_of_row _ _ 1 _ _ _ hs1
      have x2 : W1.cell? ⟨w.heap.size, 2, none⟩ = some (.int .i64 L) := cell_of_row _ _ 2 _ _ _ hs1
      have x3 : W1.cell? ⟨w.heap.size, 3, none⟩ = some (.int .i64 T) := cell_of_row _ _ 3 _ _ _ hs1
      have e2 : W1.frozen? ⟨w.heap.size, 2, none⟩ = false := frozen_at hs1
      go_upto_region 9 with fail
      have hs2 := set_heap (i := 2) hs1 (.int .i64 D)
      have hd2 := hd1.setCell (p := ⟨w.heap.size, 2, none⟩) (Nat.le_refl _) (.int .i64 D)
      have hf2 := (Below.heap_setCell W1 ⟨w.heap.size, 2, none⟩ (.int .i64 D) (w.heap.size + 1) (by simp)).trans hf1
      generalize W1.setCell ⟨w.heap.size, 2, none⟩ (.int .i64 D) = W2 at *
      have hs2 : W2.heap[w.heap.size]? = some (.cells #[.int .i64 r, .int .i64 u, .int .i64 D, .int .i64 T] 23 (0, 0)) := hs2
      have hltV : w.heap.size + 1 < W2.heap.size := blk_lt hf2
      have hz := set4_heap hf2 (.int .i64 r) (.int .i64 u) (.int .i64 D) (.int .i64 T)
      have HD := Lib.hid (set4_below hd2 (show w.heap.size ≤ w.heap.size + 1 by omega) (.int .i64 r) (.int .i64 u) (.int .i64 D) (.int .i64 T))
      have v0 : W2.cell? ⟨w.heap.size, 0, none⟩ = some (.int .i64 r) := cell_of_row _ _ 0 _ _ _ hs2
      have v1 : W2.cell? ⟨w.heap.size, 1, none⟩ = some (.int .i64 u) := cell_of_row _ _ 1 _ _ _ hs2
      have v2 : W2.cell? ⟨w.heap.size, 2, none⟩ = some (.int .i64 D) := cell_of_row _ _ 2 _ _ _ hs2
      have v3 : W2.cell? ⟨w.heap.size, 3, none⟩ = some (.int .i64 T) := cell_of_row _ _ 3 _ _ _ hs2
      have y0 : W2.cell? ⟨w.heap.size + 1, 0, none⟩ = some (.int .i64 0) := cell_of_row _ _ 0 _ _ _ hf2
      have y1 : W2.cell? ⟨w.heap.size + 1, 1, none⟩ = some (.int .i64 0) := cell_of_row _ _ 1 _ _ _ hf2
      have y2 : W2.cell? ⟨w.heap.size + 1, 2, none⟩ = some (.int .i64 0) := cell_of_row _ _ 2 _ _ _ hf2
      have y3 : W2.cell? ⟨w.heap.size + 1, 3, none⟩ = some (.int .i64 0) := cell_of_row _ _ 3 _ _ _ hf2
      have f0 : W2.frozen? ⟨w.heap.size + 1, 0, none⟩ = false := frozen_at hf2
      have f1 : W2.frozen? ⟨w.heap.size + 1, 1, none⟩ = false := frozen_at hf2
      have f2 : W2.frozen? ⟨w.heap.size + 1, 2, none⟩ = false := frozen_at hf2
      have f3 : W2.frozen? ⟨w.heap.size + 1, 3, none⟩ = false := frozen_at hf2
      clear hs1 hd1 hf1 hs2 hd2 hf2 x0 x1 x2 x3 e2 hltW
      go_wp2_with fail
      generalize hW : set4 W2 (w.heap.size + 1) (.int .i64 r) (.int .i64 u) (.int .i64 D) (.int .i64 T) = W at *
      unfold set4 at hW
      rw [hW]
      clear hW
      have z0 : W.cell? ⟨w.heap.size + 1, 0, none⟩ = some (.int .i64 r) := cell_of_row W _ 0 _ _ _ hz
      have z1 : W.cell? ⟨w.heap.size + 1, 1, none⟩ = some (.int .i64 u) := cell_of_row W _ 1 _ _ _ hz
      have z2 : W.cell? ⟨w.heap.size + 1, 2, none⟩ = some (.int .i64 D) := cell_of_row W _ 2 _ _ _ hz
      have z3 : W.cell? ⟨w.heap.size + 1, 3, none⟩ = some (.int .i64 T) := cell_of_row W _ 3 _ _ _ hz
      exact bodyPost_ret (v := .tuple #[.agg #[.int .i64 r, .int .i64 u, .int .i64 D, .int .i64 T], .int .i64 n]) (by simp [results, Try.results10, go_sem, z0, z1, z2, z3]) rfl ⟨rfl, HD.out⟩
end Go.Proofs.Ytidklcjacejkaaa
