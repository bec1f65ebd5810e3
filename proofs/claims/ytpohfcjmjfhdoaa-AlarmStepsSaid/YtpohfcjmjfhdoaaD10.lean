/-
  Contract: what the document's own Do answers, where some are taken: the slices. Conditions: as each states.
-/
import Derived.Test.YtpohfcjmjfhdoaaD8
namespace Go.Proofs.Ytpohfcjmjfhdoaa
open Go.RowKit

theorem sizeDue (w : World) : (sizeOf (Try.prog.elem 26)).run Try.prog w = .ok 2 w := by kernel_rfl
theorem elemDue : Try.prog.underlying 26 = some (.slice (Try.prog.elem 26)) := by kernel_rfl
theorem slice_to (p : Option Addr) (n c N : Nat) (h : N ≤ c) (w : World) : (Instr.slice 26 (.slice p n c) none (some (.int .i64 (N : Int))) none).run Try.prog w = .ok (.slice p N c) w := by
  rw [run_slice_h (P := Try.prog) w 26 p n c elemDue .i64 (N : Int) (by omega) (by omega), sizeDue]
  cases p with
  | none => simp [Result.andThen, sliced]
  | some a => simp [Result.andThen, sliced, Addr.add]
theorem slice_from (p : Option Addr) (n c N : Nat) (h : N ≤ n) (w : World) : (Instr.slice 26 (.slice p n c) (some (.int .i64 (N : Int))) none none).run Try.prog w = .ok (.slice (if c = N then p else p.map (·.add (N * 2))) (n - N) (c - N)) w := by
  rw [run_slice_l (P := Try.prog) w 26 p n c elemDue .i64 (N : Int) (by omega) (by omega), sizeDue]
  simp [Result.andThen, sliced]
theorem row_from {w : World} {p : Option Addr} {n c : Nat} {ds : List Due} (h : RowIn w p n c ds) (N : Nat) (hN : N ≤ n) : RowIn w (if c = N then p else p.map (·.add (N * 2))) (n - N) (c - N) (ds.drop N) := by
  refine ⟨by rw [List.length_drop, h.1], by have := h.2.1; omega, by have := h.2.2.1; omega, fun hn => ?_, fun hn => ?_⟩
  rotate_left
  · obtain ⟨b, o, rfl, _⟩ := h.2.2.2.1 (by omega)
    obtain ⟨a, cs, fr, e, hh⟩ := h.2.2.2.2 (by omega)
    cases e
    have hne : ¬ c = N := by have := h.2.1; omega
    rw [if_neg hne]
    exact ⟨⟨b, o + N * 2, none⟩, cs, fr, by rw [Option.map_some, WideShapes.add_plain], hh⟩
  obtain ⟨b, o, rfl, _⟩ := h.2.2.2.1 (by omega)
  have hne : ¬ c = N := by have := h.2.1; omega
  rw [if_neg hne]
  obtain ⟨b', o', e, hc⟩ := dues_drop h.2.2.2.1 N (n - N) (by omega) hn
  cases e
  exact ⟨b, o + N * 2, by rw [Option.map_some, WideShapes.add_plain], hc⟩
theorem do_take_any (p : Option Addr) (n c : Nat) (ds : List Due) (last x id : Int) (w : World) (hr : RowIn w p n c ds) (hn : n ≤ 4000) :
    Calls Try.prog 12 #[.agg #[.slice p n c, .int .i64 last], .agg #[.int .i64 4, .int .i64 x, .int .i64 id]] w (Did (ds.drop (dueN ds x)) last 0 false 0 (ds.take (dueN ds x)) w) := by
  have hl := due_le ds x
  rw [hr.1] at hl
  exact do_take p n c _ ds last x id w hr hn rfl _ _ _ (slice_to p n c _ (by have := hr.2.1; omega)) (slice_from p n c _ hl) (row_from hr _ hl)
end Go.Proofs.Ytpohfcjmjfhdoaa
