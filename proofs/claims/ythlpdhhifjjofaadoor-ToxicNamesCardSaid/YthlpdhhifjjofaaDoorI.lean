/-
  What the program's functions answer, gathered. Conditions: as each states.
-/
import Derived.Test.YthlpdhhifjjofaaDoorW10
namespace Go.Proofs.YthlpdhhifjjofaaDoor
open Go.RowKit

/-- What of the world the program's functions read. -/
def Fit (w : World) : Prop := Tab w ∧ Big w
theorem fit_on {w w' : World} (h : Fit w) (hb : Below w.heap.size w w') : Fit w' := ⟨tab_on h.1 hb, big_on h.2 hb⟩
theorem pureB {w : World} {v : Value} {e : Ending} {w' : World} (h : e = .returned v ∧ w = w') : e = .returned v ∧ Below w.heap.size w w' := ⟨h.1, h.2 ▸ Below.refl _ _⟩
theorem name_i (s : ByteArray) (hs : s.size ≤ maxLen) (w : World) (_ : Fit w) : Calls Tryd.prog 15 #[.string s] w fun e w' => e = .returned (.bool (nameB s)) ∧ Below w.heap.size w w' := name_any s w hs
theorem check_i (s : ByteArray) (hs : s.size ≤ maxLen) (k : Int) (up : Bool) (o a b : Int) (w : World) (_ : Fit w) : Calls Tryd.prog 10 #[.agg #[.string s, .int .i64 k, .bool up, .int .i64 o, .int .i64 a, .int .i64 b]] w fun e w' => e = .returned (.int .i64 (checkB s k o a b)) ∧ Below w.heap.size w w' := check_any s hs k up o a b w
theorem right_i (s : ByteArray) (hs : s.size ≤ maxLen) (k : Int) (up : Bool) (o a b : Int) (w : World) (_ : Fit w) : Calls Tryd.prog 12 #[.agg #[.string s, .int .i64 k, .bool up, .int .i64 o, .int .i64 a, .int .i64 b]] w fun e w' => e = .returned (.bool (checkB s k o a b == 0)) ∧ Below w.heap.size w w' := rightT_any s hs k up o a b w
theorem kind_i (s : ByteArray) (_ : s.size ≤ 1000000) (w : World) (_ : Fit w) : Calls Tryd.prog 21 #[.string s] w fun e w' => e = .returned (.int .i64 (kindB s)) ∧ Below w.heap.size w w' := (kind_any s w).mono fun _ _ h => pureB h
theorem word_i (k : Int) (w : World) (_ : Fit w) : Calls Tryd.prog 19 #[.int .i64 k] w fun e w' => e = .returned (.string (wordB k)) ∧ Below w.heap.size w w' := (word_any k w).mono fun _ _ h => pureB h
theorem numbers_i (k : Int) (w : World) (_ : Fit w) : Calls Tryd.prog 23 #[.int .i64 k] w fun e w' => e = .returned (.int .i64 (numsB k)) ∧ Below w.heap.size w w' := (numbers_any k w).mono fun _ _ h => pureB h
theorem ends_i (k : Int) (w : World) (_ : Fit w) : Calls Tryd.prog 25 #[.int .i64 k] w fun e w' => e = .returned (.bool (decide (4 ≤ k) && decide (k ≤ 6))) ∧ Below w.heap.size w w' := (ends_any k w).mono fun _ _ h => pureB h
theorem text_i (s : ByteArray) (hs : s.size ≤ 1000000) (k : Int) (up : Bool) (o a b : Int) (w : World) (hf : Fit w) : Calls Tryd.prog 13 #[.agg #[.string s, .int .i64 k, .bool up, .int .i64 o, .int .i64 a, .int .i64 b]] w fun e w' => e = .returned (.string (textB s k up o a b)) ∧ Below w.heap.size w w' := toxic_any s hs k up o a b w hf.1
theorem parse_i (s : ByteArray) (hs : s.size ≤ 1000000) (w : World) (hf : Fit w) : Calls Tryd.prog 17 #[.string s] w fun e w' => e = .returned (.tuple #[.agg #[.string (parseB s).1.s, .int .i64 (parseB s).1.k, .bool (parseB s).1.up, .int .i64 (parseB s).1.o, .int .i64 (parseB s).1.a, .int .i64 (parseB s).1.b], .int .i64 (parseB s).2]) ∧ Below w.heap.size w w' := parsex_any s hs w hf.2
end Go.Proofs.YthlpdhhifjjofaaDoor
