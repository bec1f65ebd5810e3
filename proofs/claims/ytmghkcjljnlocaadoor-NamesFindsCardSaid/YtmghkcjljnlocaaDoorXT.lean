/-
  Contract: what the document's own Text of a toxic answers. Conditions: the name's length.
-/
import Derived.Test.YtmghkcjljnlocaaDoorXP
import Derived.Deep.RegionHeld
namespace Go.Proofs.YtmghkcjljnlocaaDoor.gx
open Go.RowKit

theorem quiet_left {P : Program} {f : FuncId} {args : Array Value} {w : World} {n : Nat} {v : Value} (h : Calls P f args (w.drewN n) fun e w' => e = .returned v ∧ w.drewN n = w') :
    Calls P f args (w.drewN n) fun e w'' => e = .returned v ∧ ∃ m, w'' = w.drewN m := h.mono fun _ _ ⟨he, hm⟩ => ⟨he, n, hm.symm⟩
theorem belowN (w : World) (m : Nat) : Below w.heap.size w (w.drewN m) := ⟨rfl, rfl, rfl, Nat.le_refl _, fun _ _ => rfl⟩
def wayB (up : Bool) : ByteArray := if up then ⟨#[32, 117, 112, 32]⟩ else ⟨#[32, 100, 111, 119, 110, 32]⟩
/-- A number's text. -/
def itB (n : Int) : ByteArray := ⟨(Lib.itoa (near n)).toArray⟩
theorem it_size (n : Int) : (itB n).size ≤ 13 := by
  have h := near_range n
  have := itoa_length (near n) h.1 h.2
  simpa [itB, ByteArray.size] using this
theorem word_size (k : Int) : (wordB k).size ≤ 10 := by
  unfold wordB wordL
  (repeat' split) <;> decide
theorem way_size (up : Bool) : (wayB up).size ≤ 6 := by cases up <;> decide
theorem cat_size (a b : ByteArray) : (a ++ b).size = a.size + b.size := ByteArray.size_append
/-- A sum of two texts. -/
theorem cat_run {a b c : ByteArray} (h : a ++ b = c) (ha : a.size ≤ 1100000) (hb : b.size ≤ 1100000) (w : World) : (Op.stringOp .add a b).run Tryd.prog w = .ok (.string c) w := by
  rw [← h]
  exact run_string_add w a b (by omega) (by omega)
def txt5 (s : ByteArray) (k : Int) (up : Bool) (o a : Int) : ByteArray := s ++ ⟨#[32]⟩ ++ wordB k ++ wayB up ++ itB o ++ ⟨#[32]⟩ ++ itB a
/-- A toxic's text. -/
def textB (s : ByteArray) (k : Int) (up : Bool) (o a b : Int) : ByteArray :=
  if checkB s k o a b = 0 then (if k ≤ 3 then txt5 s k up o a ++ ⟨#[32]⟩ ++ itB b else txt5 s k up o a) else ⟨#[]⟩
def Txt (s : ByteArray) (k : Int) (up : Bool) (o a b : Int) (w : World) (e : Ending) (w' : World) : Prop := e = .returned (.string (textB s k up o a b)) ∧ Below w.heap.size w w'
theorem box6 {w w1 : World} {g : Nat} {c0 c1 c2 c3 c4 c5 : Value} {T : TypeId} {fr : Nat × Nat} (h : w.heap[g]? = some (.cells #[c0, c1, c2, c3, c4, c5] T fr)) (hb : Below w.heap.size w w1) :
    w1.cell? ⟨g, 0, none⟩ = some c0 ∧ w1.cell? ⟨g, 1, none⟩ = some c1 ∧ w1.cell? ⟨g, 2, none⟩ = some c2 ∧ w1.cell? ⟨g, 3, none⟩ = some c3 ∧ w1.cell? ⟨g, 4, none⟩ = some c4 ∧ w1.cell? ⟨g, 5, none⟩ = some c5 := by
  have h1 := (hb.block _ (blk_lt h)).trans h
  exact ⟨cell_of_row _ _ 0 _ _ _ h1, cell_of_row _ _ 1 _ _ _ h1, cell_of_row _ _ 2 _ _ _ h1, cell_of_row _ _ 3 _ _ _ h1, cell_of_row _ _ 4 _ _ _ h1, cell_of_row _ _ 5 _ _ _ h1⟩
end Go.Proofs.YtmghkcjljnlocaaDoor.gx
