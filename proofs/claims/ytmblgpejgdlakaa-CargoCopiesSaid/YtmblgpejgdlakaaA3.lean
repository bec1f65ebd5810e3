/-
  Contract: what the document's own Take answers. Conditions: as each states.
-/
import Derived.Test.YtmblgpejgdlakaaA2
namespace Go.Proofs.Ytmblgpejgdlakaa
open Go.RowKit

theorem sizeInt (w : World) : (sizeOf (Try.prog.elem 27)).run Try.prog w = .ok 1 w := by kernel_rfl
theorem elemInt : Try.prog.underlying 27 = some (.slice (Try.prog.elem 27)) := by kernel_rfl
theorem slice_from (p : Option Addr) (n c N : Nat) (h : N ≤ n) (w : World) : (Instr.slice 27 (.slice p n c) (some (.int .i64 (N : Int))) none none).run Try.prog w = .ok (.slice (if c = N then p else p.map (·.add N)) (n - N) (c - N)) w := by
  rw [run_slice_l (P := Try.prog) w 27 p n c elemInt .i64 (N : Int) (by omega) (by omega), sizeInt]
  simp [Result.andThen, sliced]
theorem rowA_from {w : World} {p : Option Addr} {n c : Nat} {xs : List Int} (h : RowA w p n c xs) (N : Nat) (hN : N ≤ n) : RowA w (if c = N then p else p.map (·.add N)) (n - N) (c - N) (xs.drop N) := by
  refine ⟨by rw [List.length_drop, h.1], by have := h.2.1; omega, by have := h.2.2.1; omega, fun hn => ?_, fun e => ?_, fun hn => ?_⟩
  · obtain ⟨b, o, rfl, _⟩ := h.2.2.2.1 (by omega)
    have hne : ¬ c = N := by have := h.2.1; omega
    rw [if_neg hne]
    obtain ⟨b', o', e, hc⟩ := ints_drop h.2.2.2.1 N (n - N) (by omega) hn
    cases e
    exact ⟨b, o + N, by rw [Option.map_some, WideShapes.add_plain], hc⟩
  · by_cases hc : c = N
    · omega
    · rw [if_neg hc] at e
      cases p with
      | none => have := h.2.2.2.2.1 rfl; omega
      | some a => cases e
  · obtain ⟨b, o, rfl, _⟩ := h.2.2.2.1 (by omega)
    obtain ⟨a, cs, fr, e, hh⟩ := h.2.2.2.2.2 (by omega)
    cases e
    have hne : ¬ c = N := by have := h.2.1; omega
    rw [if_neg hne]
    exact ⟨⟨b, o + N, none⟩, cs, fr, by rw [Option.map_some, WideShapes.add_plain], hh⟩
/-- How many are taken. -/
def takeK (A : List Int) (x most : Int) : Nat := min (readyN A x) most.toNat
theorem takeK_le (A : List Int) (x most : Int) : takeK A x most ≤ A.length := by have := ready_le A x; unfold takeK; omega
/-- What Take hands back. -/
def TookC (S : ByteArray) (A : List Int) (last : Int) (T : ByteArray) (w : World) (e : Ending) (w' : World) : Prop := ∃ p n c, e = .returned (.tuple #[.agg #[.string S, .slice p n c, .int .i64 last], .string T]) ∧ RowA w' p n c A ∧ Below w.heap.size w w'
set_option maxRecDepth 100000 in
set_option maxHeartbeats 8000000 in
theorem rtake_any (S : ByteArray) (p : Option Addr) (n c : Nat) (A : List Int) (last x most : Int) (w : World) (hr : RowA w p n c A) (hS : S.size = n) (hn : n ≤ 100000) {K : Nat} (hK : takeK A x most = K) :
    Calls Try.prog 28 #[.agg #[.string S, .slice p n c, .int .i64 last], .int .i64 x, .int .i64 most] w (TookC (S.extract K n) (A.drop K) last (S.extract 0 K) w) := by
  have HR := Lib.hid hr
  have HN := Lib.hid hn
  have HKN := Lib.hid (show K ≤ n by rw [← hK, ← hr.1]; exact takeK_le _ _ _)
  obtain ⟨R, hR⟩ : ∃ R, readyN A x = R := ⟨_, rfl⟩
  have HRN := Lib.hid (show R ≤ n by rw [← hR, ← hr.1]; exact ready_le _ _)
  have HRD := Lib.hid (show ∀ w', RowA w' p n c A → Calls Try.prog 17 #[.agg #[.string S, .slice p n c, .int .i64 last], .int .i64 x] w' fun e w'' => e = .returned (.int .i64 (R : Int)) ∧ Below w'.heap.size w' w'' from
    fun w' h => by rw [← hR]; exact rready_any S p n c A last x w' h.1 hS hn h.2.2.2.1)
  have hKR : K = min R most.toNat := by rw [← hK, ← hR]; rfl
  clear hr hR hK
  have hsl := fun w' => slice_from p n c K HKN.out w'
  have HRF := Lib.hid (fun (w' : World) (h : RowA w' p n c A) => rowA_from h K HKN.out)
  generalize (if c = K then p else p.map (·.add K)) = p2 at hsl HRF
  generalize n - K = n2 at hsl HRF
  generalize c - K = c2 at hsl HRF
  by_cases hmr : (R : Int) ≤ most
  · obtain rfl : K = R := by omega
    have hKS : K ≤ S.size := by have := HKN.out; omega
    clear hKR
    go_enter Try.func28, Try.ntmps28
    go_wp2_with fail
    refine (HRD.out _ (rowA_on HR.out (below2 _ _ _))).mono ?_
    rintro e w1 ⟨rfl, hb1⟩
    have hb2 := two_blocks hb1
    have HB1 := Lib.hid (seqB (below2 _ _ _) hb1)
    have HLT := Lib.hid hb2.2.2
    have x0 : w1.cell? ⟨w.heap.size, 0, none⟩ = some (.string S) := cell_of_row _ _ 0 _ _ _ hb2.1
    have x1 : w1.cell? ⟨w.heap.size, 1, none⟩ = some (.slice p n c) := cell_of_row _ _ 1 _ _ _ hb2.1
    have x2 : w1.cell? ⟨w.heap.size, 2, none⟩ = some (.int .i64 last) := cell_of_row _ _ 2 _ _ _ hb2.1
    have y0 : w1.cell? ⟨w.heap.size + 1, 0, none⟩ = some (.string ⟨#[]⟩) := cell_of_row _ _ 0 _ _ _ hb2.2.1
    have y1 : w1.cell? ⟨w.heap.size + 1, 1, none⟩ = some (.slice none 0 0) := cell_of_row _ _ 1 _ _ _ hb2.2.1
    have y2 : w1.cell? ⟨w.heap.size + 1, 2, none⟩ = some (.int .i64 0) := cell_of_row _ _ 2 _ _ _ hb2.2.1
    have f0 : w1.frozen? ⟨w.heap.size + 1, 0, none⟩ = false := frozen_at hb2.2.1
    have f1 : w1.frozen? ⟨w.heap.size + 1, 1, none⟩ = false := frozen_at hb2.2.1
    have f2 : w1.frozen? ⟨w.heap.size + 1, 2, none⟩ = false := frozen_at hb2.2.1
    have hg1 := hb2.2.2
    have HG := Lib.hid hb2.2.1
    clear hb1 hb2 HRD
    have hz := set3_heap HG.out (.string (S.extract K n)) (.slice p2 n2 c2) (.int .i64 last)
    have HD := Lib.hid ((set3_below HB1.out (show w.heap.size ≤ w.heap.size + 1 by omega) (.string (S.extract K n)) (.slice p2 n2 c2) (.int .i64 last)).drew)
    go_wp2_with fail
    go_region
    generalize hW : set3 w1 (w.heap.size + 1) (.string (S.extract K n)) (.slice p2 n2 c2) (.int .i64 last) = W at *
    unfold set3 at hW
    rw [hW]
    clear hW x0 x1 x2 y0 y1 y2 f0 f1 f2 hsl
    go_wp2_with fail
    have z0 : W.drew.cell? ⟨w.heap.size + 1, 0, none⟩ = some (.string (S.extract K n)) := cell_of_row W.drew _ 0 _ _ _ hz
    have z1 : W.drew.cell? ⟨w.heap.size + 1, 1, none⟩ = some (.slice p2 n2 c2) := cell_of_row W.drew _ 1 _ _ _ hz
    have z2 : W.drew.cell? ⟨w.heap.size + 1, 2, none⟩ = some (.int .i64 last) := cell_of_row W.drew _ 2 _ _ _ hz
    exact bodyPost_ret (v := .tuple #[.agg #[.string (S.extract K n), .slice p2 n2 c2, .int .i64 last], .string (S.extract 0 K)]) (by simp [results, Try.results28, go_sem, z0, z1, z2]) rfl ⟨_, _, _, rfl, HRF.out _ (rowA_on HR.out HD.out), HD.out⟩
  · by_cases hm0 : most < 0
    · obtain rfl : K = 0 := by omega
      have hKS : 0 ≤ S.size := Nat.zero_le _
      rw [Int.natCast_zero] at hsl
      clear hKR
      go_enter Try.func28, Try.ntmps28
      go_wp2_with fail
      refine (HRD.out _ (rowA_on HR.out (below2 _ _ _))).mono ?_
      rintro e w1 ⟨rfl, hb1⟩
      have hb2 := two_blocks hb1
      have HB1 := Lib.hid (seqB (below2 _ _ _) hb1)
      have HLT := Lib.hid hb2.2.2
      have x0 : w1.cell? ⟨w.heap.size, 0, none⟩ = some (.string S) := cell_of_row _ _ 0 _ _ _ hb2.1
      have x1 : w1.cell? ⟨w.heap.size, 1, none⟩ = some (.slice p n c) := cell_of_row _ _ 1 _ _ _ hb2.1
      have x2 : w1.cell? ⟨w.heap.size, 2, none⟩ = some (.int .i64 last) := cell_of_row _ _ 2 _ _ _ hb2.1
      have y0 : w1.cell? ⟨w.heap.size + 1, 0, none⟩ = some (.string ⟨#[]⟩) := cell_of_row _ _ 0 _ _ _ hb2.2.1
      have y1 : w1.cell? ⟨w.heap.size + 1, 1, none⟩ = some (.slice none 0 0) := cell_of_row _ _ 1 _ _ _ hb2.2.1
      have y2 : w1.cell? ⟨w.heap.size + 1, 2, none⟩ = some (.int .i64 0) := cell_of_row _ _ 2 _ _ _ hb2.2.1
      have f0 : w1.frozen? ⟨w.heap.size + 1, 0, none⟩ = false := frozen_at hb2.2.1
      have f1 : w1.frozen? ⟨w.heap.size + 1, 1, none⟩ = false := frozen_at hb2.2.1
      have f2 : w1.frozen? ⟨w.heap.size + 1, 2, none⟩ = false := frozen_at hb2.2.1
      have hg1 := hb2.2.2
      have HG := Lib.hid hb2.2.1
      clear hb1 hb2 HRD
      have hz := set3_heap HG.out (.string (S.extract 0 n)) (.slice p2 n2 c2) (.int .i64 last)
      have HD := Lib.hid ((set3_below HB1.out (show w.heap.size ≤ w.heap.size + 1 by omega) (.string (S.extract 0 n)) (.slice p2 n2 c2) (.int .i64 last)).drew)
      go_wp2_with fail
      go_region
      generalize hW : set3 w1 (w.heap.size + 1) (.string (S.extract 0 n)) (.slice p2 n2 c2) (.int .i64 last) = W at *
      unfold set3 at hW
      rw [hW]
      clear hW x0 x1 x2 y0 y1 y2 f0 f1 f2 hsl
      go_wp2_with fail
      have z0 : W.drew.cell? ⟨w.heap.size + 1, 0, none⟩ = some (.string (S.extract 0 n)) := cell_of_row W.drew _ 0 _ _ _ hz
      have z1 : W.drew.cell? ⟨w.heap.size + 1, 1, none⟩ = some (.slice p2 n2 c2) := cell_of_row W.drew _ 1 _ _ _ hz
      have z2 : W.drew.cell? ⟨w.heap.size + 1, 2, none⟩ = some (.int .i64 last) := cell_of_row W.drew _ 2 _ _ _ hz
      exact bodyPost_ret (v := .tuple #[.agg #[.string (S.extract 0 n), .slice p2 n2 c2, .int .i64 last], .string (S.extract 0 0)]) (by simp [results, Try.results28, go_sem, z0, z1, z2]) rfl ⟨_, _, _, rfl, HRF.out _ (rowA_on HR.out HD.out), HD.out⟩
    · obtain ⟨N, rfl⟩ := Int.eq_ofNat_of_zero_le (show 0 ≤ most by omega)
      obtain rfl : K = N := by omega
      have hKS : K ≤ S.size := by have := HKN.out; omega
      clear hKR
      go_enter Try.func28, Try.ntmps28
      go_wp2_with fail
      refine (HRD.out _ (rowA_on HR.out (below2 _ _ _))).mono ?_
      rintro e w1 ⟨rfl, hb1⟩
      have hb2 := two_blocks hb1
      have HB1 := Lib.hid (seqB (below2 _ _ _) hb1)
      have HLT := Lib.hid hb2.2.2
      have x0 : w1.cell? ⟨w.heap.size, 0, none⟩ = some (.string S) := cell_of_row _ _ 0 _ _ _ hb2.1
      have x1 : w1.cell? ⟨w.heap.size, 1, none⟩ = some (.slice p n c) := cell_of_row _ _ 1 _ _ _ hb2.1
      have x2 : w1.cell? ⟨w.heap.size, 2, none⟩ = some (.int .i64 last) := cell_of_row _ _ 2 _ _ _ hb2.1
      have y0 : w1.cell? ⟨w.heap.size + 1, 0, none⟩ = some (.string ⟨#[]⟩) := cell_of_row _ _ 0 _ _ _ hb2.2.1
      have y1 : w1.cell? ⟨w.heap.size + 1, 1, none⟩ = some (.slice none 0 0) := cell_of_row _ _ 1 _ _ _ hb2.2.1
      have y2 : w1.cell? ⟨w.heap.size + 1, 2, none⟩ = some (.int .i64 0) := cell_of_row _ _ 2 _ _ _ hb2.2.1
      have f0 : w1.frozen? ⟨w.heap.size + 1, 0, none⟩ = false := frozen_at hb2.2.1
      have f1 : w1.frozen? ⟨w.heap.size + 1, 1, none⟩ = false := frozen_at hb2.2.1
      have f2 : w1.frozen? ⟨w.heap.size + 1, 2, none⟩ = false := frozen_at hb2.2.1
      have hg1 := hb2.2.2
      have HG := Lib.hid hb2.2.1
      clear hb1 hb2 HRD
      have hz := set3_heap HG.out (.string (S.extract K n)) (.slice p2 n2 c2) (.int .i64 last)
      have HD := Lib.hid ((set3_below HB1.out (show w.heap.size ≤ w.heap.size + 1 by omega) (.string (S.extract K n)) (.slice p2 n2 c2) (.int .i64 last)).drew)
      go_wp2_with fail
      go_region
      generalize hW : set3 w1 (w.heap.size + 1) (.string (S.extract K n)) (.slice p2 n2 c2) (.int .i64 last) = W at *
      unfold set3 at hW
      rw [hW]
      clear hW x0 x1 x2 y0 y1 y2 f0 f1 f2 hsl
      go_wp2_with fail
      have z0 : W.drew.cell? ⟨w.heap.size + 1, 0, none⟩ = some (.string (S.extract K n)) := cell_of_row W.drew _ 0 _ _ _ hz
      have z1 : W.drew.cell? ⟨w.heap.size + 1, 1, none⟩ = some (.slice p2 n2 c2) := cell_of_row W.drew _ 1 _ _ _ hz
      have z2 : W.drew.cell? ⟨w.heap.size + 1, 2, none⟩ = some (.int .i64 last) := cell_of_row W.drew _ 2 _ _ _ hz
      exact bodyPost_ret (v := .tuple #[.agg #[.string (S.extract K n), .slice p2 n2 c2, .int .i64 last], .string (S.extract 0 K)]) (by simp [results, Try.results28, go_sem, z0, z1, z2]) rfl ⟨_, _, _, rfl, HRF.out _ (rowA_on HR.out HD.out), HD.out⟩
end Go.Proofs.Ytmblgpejgdlakaa
