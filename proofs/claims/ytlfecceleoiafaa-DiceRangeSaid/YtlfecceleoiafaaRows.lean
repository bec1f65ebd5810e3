/-
  No cell of these rows narrows 'for every input' (looked for: loops, veiled, ifaces, maps, wideKeys, modest, calm, conditions, laid).
  DERIVED. THE GIVEN ROWS OF THIS SEAT. 7 by the template 'for every input the law returns true; each argument reads behind the call as it read before'; 0 by the template 'total and deterministic' (their statements: YtlfecceleoiafaaTotals.lean).
  GIVEN WITH THE SEED: the statements are not yours to turn. If you find one false, say at which input.
  Laid BY PROGRAM, IN A SANDBOX (cutbox-rows.mjs): the forced cells as the released guide's own fill.sh prints them over the translation b2518dd60aceade3… (all of the seat's roots in one cut). By AI agents, Wed Nov 11 2026. No macro, syntax, notation, axiom, sorry.
-/
import Derived.Test.YtlfecceleoiafaaChecked
import GoSem.Claim
import GoSem.ClaimJoined
import GoSem.ClaimMapViews
import Derived.JoinedTies
import Derived.KernelRfl
namespace Go.Proofs.Ytlfecceleoiafaa
/- THE CELL 'sum', in the pinned program and in every row, IS THE sha256 OF THE DUMP (.gsa) THAT YtlfecceleoiafaaProg.lean LOADS. Nothing in Lean hashes anything: it is a label: what it is worth is what the hold of that sum in a sandbox is worth. -/
noncomputable def Try.pinned : Pinned := { name := "ytlfecceleoiafaa", sum := "b2518dd60aceade3f786c0df0aa9d63e6bf2e352ff836393158116cfe433194b", checked := Try.checked }
namespace Rows
def none {H : Type} : Left H := { results := [], args := [] }

/-- 'chicanelaw02.DiceNexts': WHATEVER THE INPUT: true; the input reads as it did. -/
def diceNextsSpec : ChangeSpec := { name := "diceNexts", fn := fun _ => fun
  | [d] => { results := [.lit (.bool true)], args := [d] }
  | _ => none }
def diceNextsRow : OpenClaim := { program := "ytlfecceleoiafaa", sum := "b2518dd60aceade3f786c0df0aa9d63e6bf2e352ff836393158116cfe433194b", func := "chicane/chicanelaw02.DiceNexts", spec := "diceNexts", apart := false }
def DiceNextsSaid : Prop := diceNextsRow.holds Try.pinned (OpenSpec.ofChange diceNextsSpec)

/-- ITS FALSE NEIGHBOUR: 'it returns false'. Refute it at one input. -/
def diceNextsWrong : ChangeSpec := { name := "diceNexts", fn := fun _ => fun
  | [d] => { results := [.lit (.bool false)], args := [d] }
  | _ => none }
def DiceNextsWrongFalsely : Prop := diceNextsRow.holds Try.pinned (OpenSpec.ofChange diceNextsWrong)

/-- 'chicanelaw02.DiceMany': WHATEVER THE INPUT: true; the input reads as it did. -/
def diceManySpec : ChangeSpec := { name := "diceMany", fn := fun _ => fun
  | [d1, d2] => { results := [.lit (.bool true)], args := [d1, d2] }
  | _ => none }
def diceManyRow : OpenClaim := { program := "ytlfecceleoiafaa", sum := "b2518dd60aceade3f786c0df0aa9d63e6bf2e352ff836393158116cfe433194b", func := "chicane/chicanelaw02.DiceMany", spec := "diceMany", apart := false }
def DiceManySaid : Prop := diceManyRow.holds Try.pinned (OpenSpec.ofChange diceManySpec)

/-- ITS FALSE NEIGHBOUR: 'it returns false'. Refute it at one input. -/
def diceManyWrong : ChangeSpec := { name := "diceMany", fn := fun _ => fun
  | [d1, d2] => { results := [.lit (.bool false)], args := [d1, d2] }
  | _ => none }
def DiceManyWrongFalsely : Prop := diceManyRow.holds Try.pinned (OpenSpec.ofChange diceManyWrong)

/-- 'chicanelaw02.DiceStreams': WHATEVER THE INPUT: true; the input reads as it did. -/
def diceStreamsSpec : ChangeSpec := { name := "diceStreams", fn := fun _ => fun
  | [d1, d2, d3] => { results := [.lit (.bool true)], args := [d1, d2, d3] }
  | _ => none }
def diceStreamsRow : OpenClaim := { program := "ytlfecceleoiafaa", sum := "b2518dd60aceade3f786c0df0aa9d63e6bf2e352ff836393158116cfe433194b", func := "chicane/chicanelaw02.DiceStreams", spec := "diceStreams", apart := false }
def DiceStreamsSaid : Prop := diceStreamsRow.holds Try.pinned (OpenSpec.ofChange diceStreamsSpec)

/-- ITS FALSE NEIGHBOUR: 'it returns false'. Refute it at one input. -/
def diceStreamsWrong : ChangeSpec := { name := "diceStreams", fn := fun _ => fun
  | [d1, d2, d3] => { results := [.lit (.bool false)], args := [d1, d2, d3] }
  | _ => none }
def DiceStreamsWrongFalsely : Prop := diceStreamsRow.holds Try.pinned (OpenSpec.ofChange diceStreamsWrong)

/-- 'chicanelaw02.DiceTaken': WHATEVER THE INPUT: true; the input reads as it did. -/
def diceTakenSpec : ChangeSpec := { name := "diceTaken", fn := fun _ => fun
  | [d1, d2, d3] => { results := [.lit (.bool true)], args := [d1, d2, d3] }
  | _ => none }
def diceTakenRow : OpenClaim := { program := "ytlfecceleoiafaa", sum := "b2518dd60aceade3f786c0df0aa9d63e6bf2e352ff836393158116cfe433194b", func := "chicane/chicanelaw02.DiceTaken", spec := "diceTaken", apart := false }
def DiceTakenSaid : Prop := diceTakenRow.holds Try.pinned (OpenSpec.ofChange diceTakenSpec)

/-- ITS FALSE NEIGHBOUR: 'it returns false'. Refute it at one input. -/
def diceTakenWrong : ChangeSpec := { name := "diceTaken", fn := fun _ => fun
  | [d1, d2, d3] => { results := [.lit (.bool false)], args := [d1, d2, d3] }
  | _ => none }
def DiceTakenWrongFalsely : Prop := diceTakenRow.holds Try.pinned (OpenSpec.ofChange diceTakenWrong)

/-- 'chicanelaw02.DiceMixed': WHATEVER THE INPUT: true; the input reads as it did. -/
def diceMixedSpec : ChangeSpec := { name := "diceMixed", fn := fun _ => fun
  | [d1, d2] => { results := [.lit (.bool true)], args := [d1, d2] }
  | _ => none }
def diceMixedRow : OpenClaim := { program := "ytlfecceleoiafaa", sum := "b2518dd60aceade3f786c0df0aa9d63e6bf2e352ff836393158116cfe433194b", func := "chicane/chicanelaw02.DiceMixed", spec := "diceMixed", apart := false }
def DiceMixedSaid : Prop := diceMixedRow.holds Try.pinned (OpenSpec.ofChange diceMixedSpec)

/-- ITS FALSE NEIGHBOUR: 'it returns false'. Refute it at one input. -/
def diceMixedWrong : ChangeSpec := { name := "diceMixed", fn := fun _ => fun
  | [d1, d2] => { results := [.lit (.bool false)], args := [d1, d2] }
  | _ => none }
def DiceMixedWrongFalsely : Prop := diceMixedRow.holds Try.pinned (OpenSpec.ofChange diceMixedWrong)

/-- 'chicanelaw02.DiceOften': WHATEVER THE INPUT: true; the input reads as it did. -/
def diceOftenSpec : ChangeSpec := { name := "diceOften", fn := fun _ => fun
  | [d1, d2, d3] => { results := [.lit (.bool true)], args := [d1, d2, d3] }
  | _ => none }
def diceOftenRow : OpenClaim := { program := "ytlfecceleoiafaa", sum := "b2518dd60aceade3f786c0df0aa9d63e6bf2e352ff836393158116cfe433194b", func := "chicane/chicanelaw02.DiceOften", spec := "diceOften", apart := false }
def DiceOftenSaid : Prop := diceOftenRow.holds Try.pinned (OpenSpec.ofChange diceOftenSpec)

/-- ITS FALSE NEIGHBOUR: 'it returns false'. Refute it at one input. -/
def diceOftenWrong : ChangeSpec := { name := "diceOften", fn := fun _ => fun
  | [d1, d2, d3] => { results := [.lit (.bool false)], args := [d1, d2, d3] }
  | _ => none }
def DiceOftenWrongFalsely : Prop := diceOftenRow.holds Try.pinned (OpenSpec.ofChange diceOftenWrong)

/-- 'chicanelaw02.DiceRange': WHATEVER THE INPUT: true; the input reads as it did. -/
def diceRangeSpec : ChangeSpec := { name := "diceRange", fn := fun _ => fun
  | [d1, d2, d3] => { results := [.lit (.bool true)], args := [d1, d2, d3] }
  | _ => none }
def diceRangeRow : OpenClaim := { program := "ytlfecceleoiafaa", sum := "b2518dd60aceade3f786c0df0aa9d63e6bf2e352ff836393158116cfe433194b", func := "chicane/chicanelaw02.DiceRange", spec := "diceRange", apart := false }
def DiceRangeSaid : Prop := diceRangeRow.holds Try.pinned (OpenSpec.ofChange diceRangeSpec)

/-- ITS FALSE NEIGHBOUR: 'it returns false'. Refute it at one input. -/
def diceRangeWrong : ChangeSpec := { name := "diceRange", fn := fun _ => fun
  | [d1, d2, d3] => { results := [.lit (.bool false)], args := [d1, d2, d3] }
  | _ => none }
def DiceRangeWrongFalsely : Prop := diceRangeRow.holds Try.pinned (OpenSpec.ofChange diceRangeWrong)

/- THE SECOND FORM. 'bulk': how many values and letters a reading holds, each counted each time it is reached (what is shared counts as often as it is met; a slice's spare places count too). A statement '..UptoSaid' is the law's where the arguments, and the package variables that the reading takes, are together of bulk at most 1048576: NARROWER than '..Said'. Prove '..Said' where nothing that the law and all that it calls make is longer than what came in: it says more and counts as full. Else prove '..UptoSaid'. A law counts once. -/
mutual
def uptoBulk {H : Type} : DataW H → Nat
  | .lit (.string bytes) => bytes.length + 1
  | .lit _ => 1
  | .nil => 1
  | .ptr d => uptoBulk d + 1
  | .slice elems spare => uptoBulkAll elems + uptoBulkAll spare + 1
  | .agg parts => uptoBulkAll parts + 1
  | .iface _ d => uptoBulk d + 1
  | .map entries => uptoBulkEntries entries + 1
  | .held _ => 1
def uptoBulkAll {H : Type} : List (DataW H) → Nat
  | [] => 0
  | d :: r => uptoBulk d + uptoBulkAll r
def uptoBulkEntries {H : Type} : List (Lit × DataW H) → Nat
  | [] => 0
  | x :: r => uptoBulkEntry x + uptoBulkEntries r
def uptoBulkEntry {H : Type} : Lit × DataW H → Nat
  | (.string bytes, d) => bytes.length + uptoBulk d + 1
  | (_, d) => uptoBulk d + 1
 end
def uptoSmall : (H : Type) → List (DataW H) → Bool := fun _ ds => decide (uptoBulkAll ds ≤ 1048576)
def OpenSpec.upto (s : _root_.Go.ChangeSpec) : _root_.Go.OpenSpec := { _root_.Go.OpenSpec.ofChange s with cond := some uptoSmall }

/-- 'chicanelaw02.DiceNexts', WHERE WHAT IT READS IS OF BULK AT MOST 1048576: true; the input reads as it did. -/
def diceNextsUptoRow : OpenClaim := { program := "ytlfecceleoiafaa", sum := "b2518dd60aceade3f786c0df0aa9d63e6bf2e352ff836393158116cfe433194b", func := "chicane/chicanelaw02.DiceNexts", spec := "diceNexts", apart := false, narrowed := true }
def DiceNextsUptoSaid : Prop := diceNextsUptoRow.holds Try.pinned (OpenSpec.upto diceNextsSpec)

/-- 'chicanelaw02.DiceMany', WHERE WHAT IT READS IS OF BULK AT MOST 1048576: true; the input reads as it did. -/
def diceManyUptoRow : OpenClaim := { program := "ytlfecceleoiafaa", sum := "b2518dd60aceade3f786c0df0aa9d63e6bf2e352ff836393158116cfe433194b", func := "chicane/chicanelaw02.DiceMany", spec := "diceMany", apart := false, narrowed := true }
def DiceManyUptoSaid : Prop := diceManyUptoRow.holds Try.pinned (OpenSpec.upto diceManySpec)

/-- 'chicanelaw02.DiceStreams', WHERE WHAT IT READS IS OF BULK AT MOST 1048576: true; the input reads as it did. -/
def diceStreamsUptoRow : OpenClaim := { program := "ytlfecceleoiafaa", sum := "b2518dd60aceade3f786c0df0aa9d63e6bf2e352ff836393158116cfe433194b", func := "chicane/chicanelaw02.DiceStreams", spec := "diceStreams", apart := false, narrowed := true }
def DiceStreamsUptoSaid : Prop := diceStreamsUptoRow.holds Try.pinned (OpenSpec.upto diceStreamsSpec)

/-- 'chicanelaw02.DiceTaken', WHERE WHAT IT READS IS OF BULK AT MOST 1048576: true; the input reads as it did. -/
def diceTakenUptoRow : OpenClaim := { program := "ytlfecceleoiafaa", sum := "b2518dd60aceade3f786c0df0aa9d63e6bf2e352ff836393158116cfe433194b", func := "chicane/chicanelaw02.DiceTaken", spec := "diceTaken", apart := false, narrowed := true }
def DiceTakenUptoSaid : Prop := diceTakenUptoRow.holds Try.pinned (OpenSpec.upto diceTakenSpec)

/-- 'chicanelaw02.DiceMixed', WHERE WHAT IT READS IS OF BULK AT MOST 1048576: true; the input reads as it did. -/
def diceMixedUptoRow : OpenClaim := { program := "ytlfecceleoiafaa", sum := "b2518dd60aceade3f786c0df0aa9d63e6bf2e352ff836393158116cfe433194b", func := "chicane/chicanelaw02.DiceMixed", spec := "diceMixed", apart := false, narrowed := true }
def DiceMixedUptoSaid : Prop := diceMixedUptoRow.holds Try.pinned (OpenSpec.upto diceMixedSpec)

/-- 'chicanelaw02.DiceOften', WHERE WHAT IT READS IS OF BULK AT MOST 1048576: true; the input reads as it did. -/
def diceOftenUptoRow : OpenClaim := { program := "ytlfecceleoiafaa", sum := "b2518dd60aceade3f786c0df0aa9d63e6bf2e352ff836393158116cfe433194b", func := "chicane/chicanelaw02.DiceOften", spec := "diceOften", apart := false, narrowed := true }
def DiceOftenUptoSaid : Prop := diceOftenUptoRow.holds Try.pinned (OpenSpec.upto diceOftenSpec)

/-- 'chicanelaw02.DiceRange', WHERE WHAT IT READS IS OF BULK AT MOST 1048576: true; the input reads as it did. -/
def diceRangeUptoRow : OpenClaim := { program := "ytlfecceleoiafaa", sum := "b2518dd60aceade3f786c0df0aa9d63e6bf2e352ff836393158116cfe433194b", func := "chicane/chicanelaw02.DiceRange", spec := "diceRange", apart := false, narrowed := true }
def DiceRangeUptoSaid : Prop := diceRangeUptoRow.holds Try.pinned (OpenSpec.upto diceRangeSpec)

end Rows
end Go.Proofs.Ytlfecceleoiafaa
