/-
  Contract: what the statements' own alive answers; a toxic in a block. Conditions: as each states.
-/
import Derived.Test.YthlpdhhifjjofaaDoorI
namespace Go.Proofs.YthlpdhhifjjofaaDoor
open Go.RowKit

/-- A block of the law's own, since then: a toxic. -/
def Tx (w0 w : World) (g : Nat) (s : ByteArray) (k : Int) (up : Bool) (o a b : Int) : Prop := w0.heap.size ≤ g ∧ w.heap[g]? = some (.cells #[.string s, .int .i64 k, .bool up, .int .i64 o, .int .i64 a, .int .i64 b] 23 (0, 0)) ∧ Below w0.heap.size w0 w
section
variable {w0 w w' : World} {g : Nat} {s : ByteArray} {k : Int} {up : Bool} {o a b : Int}
theorem Tx.on (h : Tx w0 w g s k up o a b) (hb : Below w.heap.size w w') : Tx w0 w' g s k up o a b := ⟨h.1, (hb.block _ (blk_lt h.2.1)).trans h.2.1, seqB h.2.2 hb⟩
theorem tx_new (h : Below w0.heap.size w0 w) (s : ByteArray) (k : Int) (up : Bool) (o a b : Int) : Tx w0 (w.alloc (.cells #[.string s, .int .i64 k, .bool up, .int .i64 o, .int .i64 a, .int .i64 b] 23)) w.heap.size s k up o a b :=
  ⟨h.size, heap_alloc_new w _, seqB h ((Below.refl _ _).alloc (Nat.le_refl _) _)⟩
theorem Tx.cells (h : Tx w0 w g s k up o a b) : w.cell? ⟨g, 0, none⟩ = some (.string s) ∧ w.cell? ⟨g, 1, none⟩ = some (.int .i64 k) ∧ w.cell? ⟨g, 2, none⟩ = some (.bool up) ∧ w.cell? ⟨g, 3, none⟩ = some (.int .i64 o) ∧ w.cell? ⟨g, 4, none⟩ = some (.int .i64 a) ∧ w.cell? ⟨g, 5, none⟩ = some (.int .i64 b) := box6 h.2.1 (Below.refl _ _)
theorem Tx.frozen (h : Tx w0 w g s k up o a b) (i : Nat) : w.frozen? ⟨g, i, none⟩ = false := frozen_at h.2.1
end
theorem alive_p1 (w : World) (hf : Fit w) : Calls Tryd.prog 17 #[.string ⟨#[120, 32, 116, 105, 109, 101, 111, 117, 116, 32, 100, 111, 119, 110, 32, 53, 48, 32, 48]⟩] w fun e w' => e = .returned (.tuple #[.agg #[.string ⟨#[]⟩, .int .i64 0, .bool false, .int .i64 0, .int .i64 0, .int .i64 0], .int .i64 92]) ∧ Below w.heap.size w w' :=
  (parse_i _ (by decide) w hf).mono fun _ _ ⟨he, hb⟩ => ⟨by rw [he, alive1]; rfl, hb⟩
theorem alive_p2 (w : World) (hf : Fit w) : Calls Tryd.prog 17 #[.string ⟨#[108, 97, 103, 32, 108, 97, 116, 101, 110, 99, 121, 32, 117, 112, 32, 49, 48, 48, 32, 50, 48, 32, 53]⟩] w fun e w' => e = .returned (.tuple #[.agg #[.string ⟨#[108, 97, 103]⟩, .int .i64 1, .bool true, .int .i64 100, .int .i64 20, .int .i64 5], .int .i64 0]) ∧ Below w.heap.size w w' :=
  (parse_i _ (by decide) w hf).mono fun _ _ ⟨he, hb⟩ => ⟨by rw [he, alive2], hb⟩
theorem alive_t (w : World) (hf : Fit w) : Calls Tryd.prog 13 #[.agg #[.string ⟨#[108, 97, 103]⟩, .int .i64 1, .bool true, .int .i64 100, .int .i64 20, .int .i64 5]] w fun e w' => e = .returned (.string ⟨#[108, 97, 103, 32, 108, 97, 116, 101, 110, 99, 121, 32, 117, 112, 32, 49, 48, 48, 32, 50, 48, 32, 53]⟩) ∧ Below w.heap.size w w' :=
  (text_i _ (by decide) _ _ _ _ _ w hf).mono fun _ _ ⟨he, hb⟩ => ⟨by rw [he, alive3], hb⟩
theorem alive_k (w : World) (hf : Fit w) : Calls Tryd.prog 21 #[.string ⟨#[115, 108, 105, 99, 101, 114]⟩] w fun e w' => e = .returned (.int .i64 3) ∧ Below w.heap.size w w' :=
  (kind_i _ (by decide) w hf).mono fun _ _ ⟨he, hb⟩ => ⟨by rw [he, alive4], hb⟩
theorem alive_n (w : World) (hf : Fit w) : Calls Tryd.prog 23 #[.int .i64 7] w fun e w' => e = .returned (.int .i64 1) ∧ Below w.heap.size w w' :=
  (numbers_i _ w hf).mono fun _ _ ⟨he, hb⟩ => ⟨by rw [he]; rfl, hb⟩
set_option maxRecDepth 100000 in
set_option maxHeartbeats 4000000 in
theorem alive_any (w : World) (hf : Fit w) : Calls Tryd.prog 9 #[] w fun e w' => e = .returned (.bool true) ∧ Below w.heap.size w w' := by
  have HF := Lib.hid hf
  have HP1 := Lib.hid (alive_p1 w hf)
  clear hf
  go_enter Tryd.func9, Tryd.ntmps9
  go_wp2_with fail
  refine HP1.out.mono ?_
  rintro e w1 ⟨rfl, hb1⟩
  have HX2 := Lib.hid (tx_new hb1 ⟨#[]⟩ 0 false 0 0 0)
  clear hb1 HP1
  go_wp2_with fail
  generalize w1.alloc (.cells #[.string ⟨#[]⟩, .int .i64 0, .bool false, .int .i64 0, .int .i64 0, .int .i64 0] 23) = w2 at *
  generalize w1.heap.size = g at *
  refine (alive_p2 w2 (fit_on HF.out HX2.out.2.2)).mono ?_
  rintro e w3 ⟨rfl, hb3⟩
  have HX4 := Lib.hid (tx_new (seqB HX2.out.2.2 hb3) ⟨#[108, 97, 103]⟩ 1 true 100 20 5)
  clear hb3 HX2
  go_wp2_with fail
  generalize w3.alloc (.cells #[.string ⟨#[108, 97, 103]⟩, .int .i64 1, .bool true, .int .i64 100, .int .i64 20, .int .i64 5] 23) = w4 at *
  generalize w3.heap.size = g4 at *
  refine (alive_t w4 (fit_on HF.out HX4.out.2.2)).mono ?_
  rintro e w5 ⟨rfl, hb5⟩
  have HX5 := Lib.hid (HX4.out.on hb5)
  clear hb5 HX4
  go_wp2_with fail
  refine (alive_k w5 (fit_on HF.out HX5.out.2.2)).mono ?_
  rintro e w6 ⟨rfl, hb6⟩
  have HX6 := Lib.hid (HX5.out.on hb6)
  clear hb6 HX5
  go_wp2_with fail
  refine (alive_n w6 (fit_on HF.out HX6.out.2.2)).mono ?_
  rintro e w7 ⟨rfl, hb7⟩
  have HE := Lib.hid (HX6.out.on hb7).2.2
  clear hb7 HX6
  go_wp2_with fail
  go_ret
  exact ⟨rfl, HE.out⟩
end Go.Proofs.YthlpdhhifjjofaaDoor
