/-
  Contract: what the statements' own alive answers. Conditions: as each states.
-/
import Derived.Test.YtidklcjacejkaaaI
namespace Go.Proofs.Ytidklcjacejkaaa
open Go.RowKit

/-- A bucket in a block: its cells. -/
theorem bk_cells {w : World} {g : Nat} {r u l t : Int} {T : TypeId} {fr : Nat × Nat} (h : w.heap[g]? = some (.cells #[.int .i64 r, .int .i64 u, .int .i64 l, .int .i64 t] T fr)) :
    w.cell? ⟨g, 0, none⟩ = some (.int .i64 r) ∧ w.cell? ⟨g, 1, none⟩ = some (.int .i64 u) ∧ w.cell? ⟨g, 2, none⟩ = some (.int .i64 l) ∧ w.cell? ⟨g, 3, none⟩ = some (.int .i64 t) :=
  ⟨cell_of_row _ _ 0 _ _ _ h, cell_of_row _ _ 1 _ _ _ h, cell_of_row _ _ 2 _ _ _ h, cell_of_row _ _ 3 _ _ _ h⟩
/-- A block of the law's own, since then. -/
def Bx (w0 w : World) (g : Nat) (r u l t : Int) (T : TypeId) : Prop := w0.heap.size ≤ g ∧ w.heap[g]? = some (.cells #[.int .i64 r, .int .i64 u, .int .i64 l, .int .i64 t] T (0, 0)) ∧ Below w0.heap.size w0 w
section
variable {w0 w w' : World} {g : Nat} {r u l t : Int} {T : TypeId}
theorem Bx.on (h : Bx w0 w g r u l t T) (hb : Below w.heap.size w w') : Bx w0 w' g r u l t T := ⟨h.1, (hb.block _ (blk_lt h.2.1)).trans h.2.1, seqB h.2.2 hb⟩
theorem bx_new (h : Below w0.heap.size w0 w) (r u l t : Int) (T : TypeId) : Bx w0 (w.alloc (.cells #[.int .i64 r, .int .i64 u, .int .i64 l, .int .i64 t] T)) w.heap.size r u l t T :=
  ⟨h.size, heap_alloc_new w _, seqB h ((Below.refl _ _).alloc (Nat.le_refl _) _)⟩
theorem Bx.set (h : Bx w0 w g r u l t T) (a b c d : Int) : Bx w0 (set4 w g (.int .i64 a) (.int .i64 b) (.int .i64 c) (.int .i64 d)) g a b c d T :=
  ⟨h.1, set4_heap h.2.1 _ _ _ _, set4_below h.2.2 h.1 _ _ _ _⟩
theorem Bx.cells (h : Bx w0 w g r u l t T) : w.cell? ⟨g, 0, none⟩ = some (.int .i64 r) ∧ w.cell? ⟨g, 1, none⟩ = some (.int .i64 u) ∧ w.cell? ⟨g, 2, none⟩ = some (.int .i64 l) ∧ w.cell? ⟨g, 3, none⟩ = some (.int .i64 t) := bk_cells h.2.1
theorem Bx.frozen (h : Bx w0 w g r u l t T) (i : Nat) : w.frozen? ⟨g, i, none⟩ = false := frozen_at h.2.1
/-- A store into another block. -/
theorem Bx.far (h : Bx w0 w g r u l t T) {g' : Nat} (hne : g ≠ g') (hg : w0.heap.size ≤ g') (a b c d : Value) : Bx w0 (set4 w g' a b c d) g r u l t T :=
  ⟨h.1, (set4_far a b c d hne).trans h.2.1, set4_below h.2.2 hg _ _ _ _⟩
end
theorem alive_w : IsW 3 10 0 2 10 6 := ⟨by decide, by decide, by decide, fun y h1 h2 => by
  rcases (show y = 2 ∨ y = 3 ∨ y = 4 ∨ y = 5 by omega) with rfl | rfl | rfl | rfl <;> decide⟩
set_option maxRecDepth 100000 in
set_option maxHeartbeats 4000000 in
theorem alive_any (w : World) : Calls Try.prog 13 #[] w fun e w' => e = .returned (.bool true) ∧ Below w.heap.size w w' := by
  go_enter Try.func13, Try.ntmps13
  go_wp2_with fail
  refine (new_b1 (r := 3) (u := 10) (n := 0) (by decide) w).mono ?_
  rintro e w1 ⟨rfl, hb1⟩
  have HX2 := Lib.hid (bx_new hb1 3 10 10 0 24)
  clear hb1
  go_wp2_with fail
  generalize w1.alloc (.cells #[.int .i64 3, .int .i64 10, .int .i64 10, .int .i64 0] 24) = w2 at *
  generalize w1.heap.size = b at *
  refine (take_b1 (by decide) 0 12 (L := 10) (T := 0) (K := 10) (D := 0) (by decide) (by decide) (by decide) (by decide) w2).mono ?_
  rintro e w3 ⟨rfl, hb3⟩
  have HX3 := Lib.hid (HX2.out.on hb3)
  obtain ⟨x0, x1, x2, x3⟩ := HX3.out.cells
  have f0 := HX3.out.frozen 0
  have f1 := HX3.out.frozen 1
  have f2 := HX3.out.frozen 2
  have f3 := HX3.out.frozen 3
  have HX4 := Lib.hid (HX3.out.set 3 10 0 0)
  clear hb3 HX2 HX3
  go_wp2_with fail
  generalize hW : set4 w3 b (.int .i64 3) (.int .i64 10) (.int .i64 0) (.int .i64 0) = w4 at *
  unfold set4 at hW
  rw [hW]
  clear hW x0 x1 x2 x3 f0 f1 f2 f3
  refine (take_b1 (by decide) 2 9 (L := 6) (T := 2) (K := 6) (D := 0) (by decide) (by decide) (by decide) (by decide) w4).mono ?_
  rintro e w5 ⟨rfl, hb5⟩
  have HX5 := Lib.hid (HX4.out.on hb5)
  obtain ⟨x0, x1, x2, x3⟩ := HX5.out.cells
  have f0 := HX5.out.frozen 0
  have f1 := HX5.out.frozen 1
  have f2 := HX5.out.frozen 2
  have f3 := HX5.out.frozen 3
  have HX6 := Lib.hid (HX5.out.set 3 10 0 2)
  clear hb5 HX4 HX5
  go_wp2_with fail
  generalize hW : set4 w5 b (.int .i64 3) (.int .i64 10) (.int .i64 0) (.int .i64 2) = w6 at *
  unfold set4 at hW
  rw [hW]
  clear hW x0 x1 x2 x3 f0 f1 f2 f3
  refine (when_b1 (by decide) alive_w w6).mono ?_
  rintro e w7 ⟨rfl, hb7⟩
  have HX7 := Lib.hid (HX6.out.on hb7)
  obtain ⟨x0, x1, x2, x3⟩ := HX7.out.cells
  clear hb7 HX6
  go_wp2_with fail
  refine (right_b _ _ _ _ _).mono ?_
  rintro e w8 ⟨rfl, hb8⟩
  rw [show rightB 3 10 0 2 = true by decide]
  have HX8 := Lib.hid (HX7.out.on hb8)
  clear x0 x1 x2 x3 hb8 HX7
  obtain ⟨x0, x1, x2, x3⟩ := HX8.out.cells
  go_wp2_with fail
  refine (most_b _ _ _ _ _ _).mono ?_
  rintro e w9 ⟨rfl, hb9⟩
  rw [show mostV 3 10 0 2 2 = 16 by decide]
  have HE := Lib.hid (HX8.out.on hb9).2.2
  clear hb9 HX8
  go_wp2_with fail
  go_ret
  exact ⟨rfl, HE.out⟩
end Go.Proofs.Ytidklcjacejkaaa
