/-
  What the rows of this seat share: the listed tables, a world that holds them; a toxic that came in. Conditions: none.
-/
import Derived.Test.YtmghkcjljnlocaaGreatDoorPZ
import Derived.Test.YtmghkcjljnlocaaGreatDoorCards
import Derived.Test.YtmghkcjljnlocaaGreatDoorTie
import Derived.ProofKit
import Derived.OpenShut
import Derived.Carry
import Derived.ChangeMaps5
import Derived.Deep.DeepHandedRow
import Derived.Lib.LaidTab
import Derived.Stop.LaidErr
import Derived.Shelf.Vars
import Derived.Deep.Slices
namespace Go.Proofs.YtmghkcjljnlocaaGreatDoor
open Go.ChangeShapes Go.WideShapes Go.ChangeAt Go.RowKit

theorem own : ownKnob Tryz.prog.godebug = Option.none := by kernel_rfl
theorem laidOut : laidOutB Tryz.prog = true := by kernel_rfl
theorem gPowType : (Tryz.prog.globals[1]?).map (·.type) = some 137 := by kernel_rfl
theorem cellsPow : Tryz.prog.cellsOf 137 = 20 := by kernel_rfl
theorem cellsU64 : Tryz.prog.cellsOf 118 = 1 := by kernel_rfl
theorem cellsInt : Tryz.prog.cellsOf 3 = 1 := by kernel_rfl
theorem cellsStr : Tryz.prog.cellsOf 9 = 1 := by kernel_rfl
theorem cellsBool : Tryz.prog.cellsOf 4 = 1 := by kernel_rfl
theorem cellsTox : Tryz.prog.cellsOf 24 = 6 := by kernel_rfl
/-- The listed variables, in the rows' order. -/
def laidAll : List (String × DataW Unit) := Rows.namesChecksRow.laid
/-- What the row's list gives: the table's cells hold the powers of ten. -/
theorem table {W : World} (h : laidMetH Tryz.prog laidAll W) : gx.Tab W := by
  have h1 : laidMet Tryz.prog laidAll W := h
  exact Lib.tabIs_of_head gx.gPow gPowType Tryz.underlying137 Tryz.underlying118 cellsU64 cellsPow h1.tail.tail
theorem fit_of {W : World} (h : laidMetH Tryz.prog laidAll W) : gx.Tab W := table h
/-- A block's cells, laid anew. -/
def relay (cs : Array Value) : Obj → Obj
  | .cells _ t frozen => .cells cs t frozen
  | o => o
def tab0 : Array Value := #[.int .u8 0, .int .u8 1, .int .u8 28, .int .u8 2, .int .u8 29, .int .u8 14, .int .u8 24, .int .u8 3, .int .u8 30, .int .u8 22, .int .u8 20, .int .u8 15, .int .u8 25, .int .u8 17, .int .u8 4, .int .u8 8, .int .u8 31, .int .u8 27, .int .u8 13, .int .u8 23, .int .u8 21, .int .u8 19, .int .u8 16, .int .u8 7, .int .u8 26, .int .u8 12, .int .u8 18, .int .u8 6, .int .u8 11, .int .u8 5, .int .u8 10, .int .u8 9]
def tab1 : Array Value := #[.int .u8 0, .int .u8 1, .int .u8 56, .int .u8 2, .int .u8 57, .int .u8 49, .int .u8 28, .int .u8 3, .int .u8 61, .int .u8 58, .int .u8 42, .int .u8 50, .int .u8 38, .int .u8 29, .int .u8 17, .int .u8 4, .int .u8 62, .int .u8 47, .int .u8 59, .int .u8 36, .int .u8 45, .int .u8 43, .int .u8 51, .int .u8 22, .int .u8 53, .int .u8 39, .int .u8 33, .int .u8 30, .int .u8 24, .int .u8 18, .int .u8 12, .int .u8 5, .int .u8 63, .int .u8 55, .int .u8 48, .int .u8 27, .int .u8 60, .int .u8 41, .int .u8 37, .int .u8 16, .int .u8 46, .int .u8 35, .int .u8 44, .int .u8 21, .int .u8 52, .int .u8 32, .int .u8 23, .int .u8 11, .int .u8 54, .int .u8 26, .int .u8 40, .int .u8 15, .int .u8 34, .int .u8 20, .int .u8 31, .int .u8 10, .int .u8 25, .int .u8 14, .int .u8 19, .int .u8 9] ++ #[.int .u8 13, .int .u8 8, .int .u8 7, .int .u8 6]
def tab2 : Array Value := #[.int .u64 1, .int .u64 10, .int .u64 100, .int .u64 1000, .int .u64 10000, .int .u64 100000, .int .u64 1000000, .int .u64 10000000, .int .u64 100000000, .int .u64 1000000000, .int .u64 10000000000, .int .u64 100000000000, .int .u64 1000000000000, .int .u64 10000000000000, .int .u64 100000000000000, .int .u64 1000000000000000, .int .u64 10000000000000000, .int .u64 100000000000000000, .int .u64 1000000000000000000, .int .u64 10000000000000000000]
/-- A world for the witness: the settled one, the tables holding what their initialisers lay. -/
noncomputable def laidWorld (os : Os) : World :=
  { World.holding Tryz.prog os ⟨#[], #[], []⟩ with heap := ((((World.holding Tryz.prog os ⟨#[], #[], []⟩).heap.modify 2 (relay tab0)).modify 3 (relay tab1)).modify 1 (relay tab2)) }
set_option maxRecDepth 100000 in
/-- A toxic that came in. -/
theorem openTox {H : Type} {enc : TypeId × Value → H} {W : World} {base : Nat} {v : Value} {d : DataW H} {p : List MemPlace}
    (ho : Value.okWide Tryz.prog W .any base 24 v) (h : DataW.Trod enc Tryz.prog W 0 (fun _ => true) true 24 v d p) :
    ∃ (s : ByteArray) (k : Int) (up : Bool) (o a b : Int), v = .agg #[.string s, .int .i64 k, .bool up, .int .i64 o, .int .i64 a, .int .i64 b] ∧ p = [] ∧ s.size ≤ maxLen := by
  simp only [Value.okWide, Tryz.underlying24] at ho
  obtain ⟨cs, rfl, hs, _⟩ := ho
  rw [cellsTox] at hs
  obtain ⟨l⟩ := cs
  obtain ⟨c0, c1, c2, c3, c4, c5, rfl⟩ : ∃ c0 c1 c2 c3 c4 c5, l = [c0, c1, c2, c3, c4, c5] := by
    match l, hs with
    | [c0, c1, c2, c3, c4, c5], _ => exact ⟨c0, c1, c2, c3, c4, c5, rfl⟩
  obtain ⟨fuel, hf⟩ := h
  obtain ⟨xs, m, rfl, hx, _, hl, hi⟩ := DataW.trod_struct Tryz.underlying24 hf
  obtain ⟨y0, y1, y2, y3, y4, y5, rfl⟩ : ∃ y0 y1 y2 y3 y4 y5, xs = [y0, y1, y2, y3, y4, y5] := by
    match xs, hl with
    | [y0, y1, y2, y3, y4, y5], _ => exact ⟨y0, y1, y2, y3, y4, y5, rfl⟩
  have e0 := hi 0 _ rfl
  have e1 := hi 1 _ rfl
  have e2 := hi 2 _ rfl
  have e3 := hi 3 _ rfl
  have e4 := hi 4 _ rfl
  have e5 := hi 5 _ rfl
  simp [cellsInt, cellsStr, cellsBool, Value.cells] at e0 e1 e2 e3 e4 e5
  obtain ⟨x0, q0, rfl, w0⟩ := DataW.trod_string Tryz.underlying9 e0
  obtain ⟨x1, q1, rfl, w1⟩ := DataW.trod_int Tryz.underlying3 e1
  obtain ⟨x2, q2, rfl⟩ := DataW.trod_bool Tryz.underlying4 e2
  obtain ⟨x3, q3, rfl, w3⟩ := DataW.trod_int Tryz.underlying3 e3
  obtain ⟨x4, q4, rfl, w4⟩ := DataW.trod_int Tryz.underlying3 e4
  obtain ⟨x5, q5, rfl, w5⟩ := DataW.trod_int Tryz.underlying3 e5
  cases q0
  cases q1
  cases q2
  cases q3
  cases q4
  cases q5
  refine ⟨x0, x1, x2, x3, x4, x5, rfl, ?_, w0⟩
  simpa using (congrArg Prod.snd hx)
end Go.Proofs.YtmghkcjljnlocaaGreatDoor
