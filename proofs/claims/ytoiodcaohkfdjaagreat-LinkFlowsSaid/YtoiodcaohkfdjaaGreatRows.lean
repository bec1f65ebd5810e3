/-
  No cell of these rows narrows 'for every input' (looked for: loops, veiled, ifaces, maps, wideKeys, modest, calm, conditions, laid).
  DERIVED. THE GIVEN ROWS OF THIS SEAT. 6 by the template 'for every input the law returns true; each argument reads behind the call as it read before'; 0 by the template 'total and deterministic' (their statements: YtoiodcaohkfdjaaGreatTotals.lean).
  GIVEN WITH THE SEED: the statements are not yours to turn. If you find one false, say at which input.
  Laid BY PROGRAM, IN A SANDBOX (cutbox-rows.mjs): the forced cells as the released guide's own fill.sh prints them over the translation 7154f863cff32184… (all of the seat's roots in one cut). By AI agents, Wed Nov 11 2026. No macro, syntax, notation, axiom, sorry.
-/
import Derived.Test.YtoiodcaohkfdjaaGreatChecked
import GoSem.Claim
import GoSem.ClaimJoined
import GoSem.ClaimMapViews
import Derived.JoinedTies
import Derived.KernelRfl
namespace Go.Proofs.YtoiodcaohkfdjaaGreat
/- THE CELL 'sum', in the pinned program and in every row, IS THE sha256 OF THE DUMP (.gsa) THAT YtoiodcaohkfdjaaGreatProg.lean LOADS. Nothing in Lean hashes anything: it is a label: what it is worth is what the hold of that sum in a sandbox is worth. -/
noncomputable def Tryz.pinned : Pinned := { name := "ytoiodcaohkfdjaagreat", sum := "7154f863cff321840661850b7f77142aceed8bfad289d57cfedfed1a56b11a34", checked := Tryz.checked }
namespace Rows
def none {H : Type} : Left H := { results := [], args := [] }

/-- 'chicanelaw12.LinkAll': WHATEVER THE INPUT: true; the input reads as it did. -/
def linkAllSpec : ChangeSpec := { name := "linkAll", fn := fun _ => fun
  | [d1, d2, d3] => { results := [.lit (.bool true)], args := [d1, d2, d3] }
  | _ => none }
def linkAllRow : OpenClaim := { program := "ytoiodcaohkfdjaagreat", sum := "7154f863cff321840661850b7f77142aceed8bfad289d57cfedfed1a56b11a34", func := "chicane/chicanelaw12.LinkAll", spec := "linkAll", inPlace := ["slices.overlaps[*chicane/chain.part]"], unfollowed := true, recurses := true, named := ["math/bits.divideError", "math/bits.overflowError"], apart := false }
def LinkAllSaid : Prop := linkAllRow.holds Tryz.pinned (OpenSpec.ofChange linkAllSpec)

/-- ITS FALSE NEIGHBOUR: 'it returns false'. Refute it at one input. -/
def linkAllWrong : ChangeSpec := { name := "linkAll", fn := fun _ => fun
  | [d1, d2, d3] => { results := [.lit (.bool false)], args := [d1, d2, d3] }
  | _ => none }
def LinkAllWrongFalsely : Prop := linkAllRow.holds Tryz.pinned (OpenSpec.ofChange linkAllWrong)

/-- 'chicanelaw12.LinkCounts': WHATEVER THE INPUT: true; the input reads as it did. -/
def linkCountsSpec : ChangeSpec := { name := "linkCounts", fn := fun _ => fun
  | [d1, d2] => { results := [.lit (.bool true)], args := [d1, d2] }
  | _ => none }
def linkCountsRow : OpenClaim := { program := "ytoiodcaohkfdjaagreat", sum := "7154f863cff321840661850b7f77142aceed8bfad289d57cfedfed1a56b11a34", func := "chicane/chicanelaw12.LinkCounts", spec := "linkCounts", inPlace := ["slices.overlaps[*chicane/chain.part]"], unfollowed := true, recurses := true, named := ["math/bits.divideError", "math/bits.overflowError"], apart := false }
def LinkCountsSaid : Prop := linkCountsRow.holds Tryz.pinned (OpenSpec.ofChange linkCountsSpec)

/-- ITS FALSE NEIGHBOUR: 'it returns false'. Refute it at one input. -/
def linkCountsWrong : ChangeSpec := { name := "linkCounts", fn := fun _ => fun
  | [d1, d2] => { results := [.lit (.bool false)], args := [d1, d2] }
  | _ => none }
def LinkCountsWrongFalsely : Prop := linkCountsRow.holds Tryz.pinned (OpenSpec.ofChange linkCountsWrong)

/-- 'chicanelaw12.LinkOnce': WHATEVER THE INPUT: true; the input reads as it did. -/
def linkOnceSpec : ChangeSpec := { name := "linkOnce", fn := fun _ => fun
  | [d1, d2] => { results := [.lit (.bool true)], args := [d1, d2] }
  | _ => none }
def linkOnceRow : OpenClaim := { program := "ytoiodcaohkfdjaagreat", sum := "7154f863cff321840661850b7f77142aceed8bfad289d57cfedfed1a56b11a34", func := "chicane/chicanelaw12.LinkOnce", spec := "linkOnce", inPlace := ["slices.overlaps[*chicane/chain.part]"], unfollowed := true, recurses := true, named := ["math/bits.divideError", "math/bits.overflowError"], apart := false }
def LinkOnceSaid : Prop := linkOnceRow.holds Tryz.pinned (OpenSpec.ofChange linkOnceSpec)

/-- ITS FALSE NEIGHBOUR: 'it returns false'. Refute it at one input. -/
def linkOnceWrong : ChangeSpec := { name := "linkOnce", fn := fun _ => fun
  | [d1, d2] => { results := [.lit (.bool false)], args := [d1, d2] }
  | _ => none }
def LinkOnceWrongFalsely : Prop := linkOnceRow.holds Tryz.pinned (OpenSpec.ofChange linkOnceWrong)

/-- 'chicanelaw12.LinkFlows': WHATEVER THE INPUT: true; the input reads as it did. -/
def linkFlowsSpec : ChangeSpec := { name := "linkFlows", fn := fun _ => fun
  | [d1, d2] => { results := [.lit (.bool true)], args := [d1, d2] }
  | _ => none }
def linkFlowsRow : OpenClaim := { program := "ytoiodcaohkfdjaagreat", sum := "7154f863cff321840661850b7f77142aceed8bfad289d57cfedfed1a56b11a34", func := "chicane/chicanelaw12.LinkFlows", spec := "linkFlows", inPlace := ["slices.overlaps[*chicane/chain.part]"], unfollowed := true, recurses := true, named := ["math/bits.divideError", "math/bits.overflowError"], apart := false }
def LinkFlowsSaid : Prop := linkFlowsRow.holds Tryz.pinned (OpenSpec.ofChange linkFlowsSpec)

/-- ITS FALSE NEIGHBOUR: 'it returns false'. Refute it at one input. -/
def linkFlowsWrong : ChangeSpec := { name := "linkFlows", fn := fun _ => fun
  | [d1, d2] => { results := [.lit (.bool false)], args := [d1, d2] }
  | _ => none }
def LinkFlowsWrongFalsely : Prop := linkFlowsRow.holds Tryz.pinned (OpenSpec.ofChange linkFlowsWrong)

/-- 'chicanelaw12.LinkLags': WHATEVER THE INPUT: true; the input reads as it did. -/
def linkLagsSpec : ChangeSpec := { name := "linkLags", fn := fun _ => fun
  | [d1, d2] => { results := [.lit (.bool true)], args := [d1, d2] }
  | _ => none }
def linkLagsRow : OpenClaim := { program := "ytoiodcaohkfdjaagreat", sum := "7154f863cff321840661850b7f77142aceed8bfad289d57cfedfed1a56b11a34", func := "chicane/chicanelaw12.LinkLags", spec := "linkLags", inPlace := ["slices.overlaps[*chicane/chain.part]"], unfollowed := true, recurses := true, named := ["math/bits.divideError", "math/bits.overflowError"], apart := false }
def LinkLagsSaid : Prop := linkLagsRow.holds Tryz.pinned (OpenSpec.ofChange linkLagsSpec)

/-- ITS FALSE NEIGHBOUR: 'it returns false'. Refute it at one input. -/
def linkLagsWrong : ChangeSpec := { name := "linkLags", fn := fun _ => fun
  | [d1, d2] => { results := [.lit (.bool false)], args := [d1, d2] }
  | _ => none }
def LinkLagsWrongFalsely : Prop := linkLagsRow.holds Tryz.pinned (OpenSpec.ofChange linkLagsWrong)

/-- 'chicanelaw12.LinkDraws': WHATEVER THE INPUT: true; the input reads as it did. -/
def linkDrawsSpec : ChangeSpec := { name := "linkDraws", fn := fun _ => fun
  | [d] => { results := [.lit (.bool true)], args := [d] }
  | _ => none }
def linkDrawsRow : OpenClaim := { program := "ytoiodcaohkfdjaagreat", sum := "7154f863cff321840661850b7f77142aceed8bfad289d57cfedfed1a56b11a34", func := "chicane/chicanelaw12.LinkDraws", spec := "linkDraws", inPlace := ["slices.overlaps[*chicane/chain.part]"], unfollowed := true, recurses := true, named := ["math/bits.divideError", "math/bits.overflowError"], apart := false }
def LinkDrawsSaid : Prop := linkDrawsRow.holds Tryz.pinned (OpenSpec.ofChange linkDrawsSpec)

/-- ITS FALSE NEIGHBOUR: 'it returns false'. Refute it at one input. -/
def linkDrawsWrong : ChangeSpec := { name := "linkDraws", fn := fun _ => fun
  | [d] => { results := [.lit (.bool false)], args := [d] }
  | _ => none }
def LinkDrawsWrongFalsely : Prop := linkDrawsRow.holds Tryz.pinned (OpenSpec.ofChange linkDrawsWrong)

/- THE SECOND FORM. 'bulk': how many values and letters a reading holds, each counted each time it is reached (what is shared counts as often as it is met; a slice's spare places count too). A statement '..UptoSaid' is the law's where the arguments, and the package variables that the reading takes, are together of bulk at most 1048576: NARROWER than '..Said'. Prove '..Said' where nothing that the law and all that it calls make is longer than what came in: it says more and counts as full. Else prove '..UptoSaid'. A law counts once. -/
mutual
def uptoBulk {H : Type} : DataW H → Nat
  | .lit (.string bytes) => bytes.length + 1
  | .lit _ => 1
  | .nil => 1
  | .ptr d => uptoBulk d + 1
  | .slice elems spare => uptoBulkAll elems + uptoBulkAll spare + 1
  | .agg parts => uptoBulkAll parts + 1
  | .iface _ d => uptoBulk d + 1
  | .map entries => uptoBulkEntries entries + 1
  | .held _ => 1
def uptoBulkAll {H : Type} : List (DataW H) → Nat
  | [] => 0
  | d :: r => uptoBulk d + uptoBulkAll r
def uptoBulkEntries {H : Type} : List (Lit × DataW H) → Nat
  | [] => 0
  | x :: r => uptoBulkEntry x + uptoBulkEntries r
def uptoBulkEntry {H : Type} : Lit × DataW H → Nat
  | (.string bytes, d) => bytes.length + uptoBulk d + 1
  | (_, d) => uptoBulk d + 1
 end
def uptoSmall : (H : Type) → List (DataW H) → Bool := fun _ ds => decide (uptoBulkAll ds ≤ 1048576)
def OpenSpec.upto (s : _root_.Go.ChangeSpec) : _root_.Go.OpenSpec := { _root_.Go.OpenSpec.ofChange s with cond := some uptoSmall }

/-- 'chicanelaw12.LinkAll', WHERE WHAT IT READS IS OF BULK AT MOST 1048576: true; the input reads as it did. -/
def linkAllUptoRow : OpenClaim := { program := "ytoiodcaohkfdjaagreat", sum := "7154f863cff321840661850b7f77142aceed8bfad289d57cfedfed1a56b11a34", func := "chicane/chicanelaw12.LinkAll", spec := "linkAll", inPlace := ["slices.overlaps[*chicane/chain.part]"], unfollowed := true, recurses := true, named := ["math/bits.divideError", "math/bits.overflowError"], apart := false, narrowed := true }
def LinkAllUptoSaid : Prop := linkAllUptoRow.holds Tryz.pinned (OpenSpec.upto linkAllSpec)

/-- 'chicanelaw12.LinkCounts', WHERE WHAT IT READS IS OF BULK AT MOST 1048576: true; the input reads as it did. -/
def linkCountsUptoRow : OpenClaim := { program := "ytoiodcaohkfdjaagreat", sum := "7154f863cff321840661850b7f77142aceed8bfad289d57cfedfed1a56b11a34", func := "chicane/chicanelaw12.LinkCounts", spec := "linkCounts", inPlace := ["slices.overlaps[*chicane/chain.part]"], unfollowed := true, recurses := true, named := ["math/bits.divideError", "math/bits.overflowError"], apart := false, narrowed := true }
def LinkCountsUptoSaid : Prop := linkCountsUptoRow.holds Tryz.pinned (OpenSpec.upto linkCountsSpec)

/-- 'chicanelaw12.LinkOnce', WHERE WHAT IT READS IS OF BULK AT MOST 1048576: true; the input reads as it did. -/
def linkOnceUptoRow : OpenClaim := { program := "ytoiodcaohkfdjaagreat", sum := "7154f863cff321840661850b7f77142aceed8bfad289d57cfedfed1a56b11a34", func := "chicane/chicanelaw12.LinkOnce", spec := "linkOnce", inPlace := ["slices.overlaps[*chicane/chain.part]"], unfollowed := true, recurses := true, named := ["math/bits.divideError", "math/bits.overflowError"], apart := false, narrowed := true }
def LinkOnceUptoSaid : Prop := linkOnceUptoRow.holds Tryz.pinned (OpenSpec.upto linkOnceSpec)

/-- 'chicanelaw12.LinkFlows', WHERE WHAT IT READS IS OF BULK AT MOST 1048576: true; the input reads as it did. -/
def linkFlowsUptoRow : OpenClaim := { program := "ytoiodcaohkfdjaagreat", sum := "7154f863cff321840661850b7f77142aceed8bfad289d57cfedfed1a56b11a34", func := "chicane/chicanelaw12.LinkFlows", spec := "linkFlows", inPlace := ["slices.overlaps[*chicane/chain.part]"], unfollowed := true, recurses := true, named := ["math/bits.divideError", "math/bits.overflowError"], apart := false, narrowed := true }
def LinkFlowsUptoSaid : Prop := linkFlowsUptoRow.holds Tryz.pinned (OpenSpec.upto linkFlowsSpec)

/-- 'chicanelaw12.LinkLags', WHERE WHAT IT READS IS OF BULK AT MOST 1048576: true; the input reads as it did. -/
def linkLagsUptoRow : OpenClaim := { program := "ytoiodcaohkfdjaagreat", sum := "7154f863cff321840661850b7f77142aceed8bfad289d57cfedfed1a56b11a34", func := "chicane/chicanelaw12.LinkLags", spec := "linkLags", inPlace := ["slices.overlaps[*chicane/chain.part]"], unfollowed := true, recurses := true, named := ["math/bits.divideError", "math/bits.overflowError"], apart := false, narrowed := true }
def LinkLagsUptoSaid : Prop := linkLagsUptoRow.holds Tryz.pinned (OpenSpec.upto linkLagsSpec)

/-- 'chicanelaw12.LinkDraws', WHERE WHAT IT READS IS OF BULK AT MOST 1048576: true; the input reads as it did. -/
def linkDrawsUptoRow : OpenClaim := { program := "ytoiodcaohkfdjaagreat", sum := "7154f863cff321840661850b7f77142aceed8bfad289d57cfedfed1a56b11a34", func := "chicane/chicanelaw12.LinkDraws", spec := "linkDraws", inPlace := ["slices.overlaps[*chicane/chain.part]"], unfollowed := true, recurses := true, named := ["math/bits.divideError", "math/bits.overflowError"], apart := false, narrowed := true }
def LinkDrawsUptoSaid : Prop := linkDrawsUptoRow.holds Tryz.pinned (OpenSpec.upto linkDrawsSpec)

end Rows
end Go.Proofs.YtoiodcaohkfdjaaGreat
