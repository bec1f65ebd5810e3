/-
  No cell of these rows narrows 'for every input' (looked for: loops, veiled, ifaces, maps, wideKeys, modest, calm, conditions, laid).
  DERIVED. THE GIVEN ROWS OF THIS SEAT. 6 by the template 'for every input the law returns true; each argument reads behind the call as it read before'; 0 by the template 'total and deterministic' (their statements: YtidklcjacejkaaaTotals.lean).
  GIVEN WITH THE SEED: the statements are not yours to turn. If you find one false, say at which input.
  Laid BY PROGRAM, IN A SANDBOX (cutbox-rows.mjs): the forced cells as the released guide's own fill.sh prints them over the translation f72c28b40b37e476… (all of the seat's roots in one cut). By AI agents, Wed Nov 11 2026. No macro, syntax, notation, axiom, sorry.
-/
import Derived.Test.YtidklcjacejkaaaChecked
import GoSem.Claim
import GoSem.ClaimJoined
import GoSem.ClaimMapViews
import Derived.JoinedTies
import Derived.KernelRfl
namespace Go.Proofs.Ytidklcjacejkaaa
/- THE CELL 'sum', in the pinned program and in every row, IS THE sha256 OF THE DUMP (.gsa) THAT YtidklcjacejkaaaProg.lean LOADS. Nothing in Lean hashes anything: it is a label: what it is worth is what the hold of that sum in a sandbox is worth. -/
noncomputable def Try.pinned : Pinned := { name := "ytidklcjacejkaaa", sum := "f72c28b40b37e4766547fdb4637650df6da0816b8f60384e27f5c398cf691354", checked := Try.checked }
namespace Rows
def none {H : Type} : Left H := { results := [], args := [] }

/-- 'chicanelaw08.BucketAll': WHATEVER THE INPUT: true; the input reads as it did. -/
def bucketAllSpec : ChangeSpec := { name := "bucketAll", fn := fun _ => fun
  | [d1, d2, d3] => { results := [.lit (.bool true)], args := [d1, d2, d3] }
  | _ => none }
def bucketAllRow : OpenClaim := { program := "ytidklcjacejkaaa", sum := "f72c28b40b37e4766547fdb4637650df6da0816b8f60384e27f5c398cf691354", func := "chicane/chicanelaw08.BucketAll", spec := "bucketAll", named := ["math/bits.divideError", "math/bits.overflowError"], apart := false }
def BucketAllSaid : Prop := bucketAllRow.holds Try.pinned (OpenSpec.ofChange bucketAllSpec)

/-- ITS FALSE NEIGHBOUR: 'it returns false'. Refute it at one input. -/
def bucketAllWrong : ChangeSpec := { name := "bucketAll", fn := fun _ => fun
  | [d1, d2, d3] => { results := [.lit (.bool false)], args := [d1, d2, d3] }
  | _ => none }
def BucketAllWrongFalsely : Prop := bucketAllRow.holds Try.pinned (OpenSpec.ofChange bucketAllWrong)

/-- 'chicanelaw08.BucketWindows': WHATEVER THE INPUT: true; the input reads as it did. -/
def bucketWindowsSpec : ChangeSpec := { name := "bucketWindows", fn := fun _ => fun
  | [d1, d2, d3] => { results := [.lit (.bool true)], args := [d1, d2, d3] }
  | _ => none }
def bucketWindowsRow : OpenClaim := { program := "ytidklcjacejkaaa", sum := "f72c28b40b37e4766547fdb4637650df6da0816b8f60384e27f5c398cf691354", func := "chicane/chicanelaw08.BucketWindows", spec := "bucketWindows", named := ["math/bits.divideError", "math/bits.overflowError"], apart := false }
def BucketWindowsSaid : Prop := bucketWindowsRow.holds Try.pinned (OpenSpec.ofChange bucketWindowsSpec)

/-- ITS FALSE NEIGHBOUR: 'it returns false'. Refute it at one input. -/
def bucketWindowsWrong : ChangeSpec := { name := "bucketWindows", fn := fun _ => fun
  | [d1, d2, d3] => { results := [.lit (.bool false)], args := [d1, d2, d3] }
  | _ => none }
def BucketWindowsWrongFalsely : Prop := bucketWindowsRow.holds Try.pinned (OpenSpec.ofChange bucketWindowsWrong)

/-- 'chicanelaw08.BucketSteps': WHATEVER THE INPUT: true; the input reads as it did. -/
def bucketStepsSpec : ChangeSpec := { name := "bucketSteps", fn := fun _ => fun
  | [d1, d2, d3] => { results := [.lit (.bool true)], args := [d1, d2, d3] }
  | _ => none }
def bucketStepsRow : OpenClaim := { program := "ytidklcjacejkaaa", sum := "f72c28b40b37e4766547fdb4637650df6da0816b8f60384e27f5c398cf691354", func := "chicane/chicanelaw08.BucketSteps", spec := "bucketSteps", named := ["math/bits.divideError", "math/bits.overflowError"], apart := false }
def BucketStepsSaid : Prop := bucketStepsRow.holds Try.pinned (OpenSpec.ofChange bucketStepsSpec)

/-- ITS FALSE NEIGHBOUR: 'it returns false'. Refute it at one input. -/
def bucketStepsWrong : ChangeSpec := { name := "bucketSteps", fn := fun _ => fun
  | [d1, d2, d3] => { results := [.lit (.bool false)], args := [d1, d2, d3] }
  | _ => none }
def BucketStepsWrongFalsely : Prop := bucketStepsRow.holds Try.pinned (OpenSpec.ofChange bucketStepsWrong)

/-- 'chicanelaw08.BucketWhen': WHATEVER THE INPUT: true; the input reads as it did. -/
def bucketWhenSpec : ChangeSpec := { name := "bucketWhen", fn := fun _ => fun
  | [d1, d2] => { results := [.lit (.bool true)], args := [d1, d2] }
  | _ => none }
def bucketWhenRow : OpenClaim := { program := "ytidklcjacejkaaa", sum := "f72c28b40b37e4766547fdb4637650df6da0816b8f60384e27f5c398cf691354", func := "chicane/chicanelaw08.BucketWhen", spec := "bucketWhen", named := ["math/bits.divideError", "math/bits.overflowError"], apart := false }
def BucketWhenSaid : Prop := bucketWhenRow.holds Try.pinned (OpenSpec.ofChange bucketWhenSpec)

/-- ITS FALSE NEIGHBOUR: 'it returns false'. Refute it at one input. -/
def bucketWhenWrong : ChangeSpec := { name := "bucketWhen", fn := fun _ => fun
  | [d1, d2] => { results := [.lit (.bool false)], args := [d1, d2] }
  | _ => none }
def BucketWhenWrongFalsely : Prop := bucketWhenRow.holds Try.pinned (OpenSpec.ofChange bucketWhenWrong)

/-- 'chicanelaw08.BucketTakes': WHATEVER THE INPUT: true; the input reads as it did. -/
def bucketTakesSpec : ChangeSpec := { name := "bucketTakes", fn := fun _ => fun
  | [d1, d2, d3] => { results := [.lit (.bool true)], args := [d1, d2, d3] }
  | _ => none }
def bucketTakesRow : OpenClaim := { program := "ytidklcjacejkaaa", sum := "f72c28b40b37e4766547fdb4637650df6da0816b8f60384e27f5c398cf691354", func := "chicane/chicanelaw08.BucketTakes", spec := "bucketTakes", named := ["math/bits.divideError", "math/bits.overflowError"], apart := false }
def BucketTakesSaid : Prop := bucketTakesRow.holds Try.pinned (OpenSpec.ofChange bucketTakesSpec)

/-- ITS FALSE NEIGHBOUR: 'it returns false'. Refute it at one input. -/
def bucketTakesWrong : ChangeSpec := { name := "bucketTakes", fn := fun _ => fun
  | [d1, d2, d3] => { results := [.lit (.bool false)], args := [d1, d2, d3] }
  | _ => none }
def BucketTakesWrongFalsely : Prop := bucketTakesRow.holds Try.pinned (OpenSpec.ofChange bucketTakesWrong)

/-- 'chicanelaw08.BucketMore': WHATEVER THE INPUT: true; the input reads as it did. -/
def bucketMoreSpec : ChangeSpec := { name := "bucketMore", fn := fun _ => fun
  | [d1, d2, d3] => { results := [.lit (.bool true)], args := [d1, d2, d3] }
  | _ => none }
def bucketMoreRow : OpenClaim := { program := "ytidklcjacejkaaa", sum := "f72c28b40b37e4766547fdb4637650df6da0816b8f60384e27f5c398cf691354", func := "chicane/chicanelaw08.BucketMore", spec := "bucketMore", named := ["math/bits.divideError", "math/bits.overflowError"], apart := false }
def BucketMoreSaid : Prop := bucketMoreRow.holds Try.pinned (OpenSpec.ofChange bucketMoreSpec)

/-- ITS FALSE NEIGHBOUR: 'it returns false'. Refute it at one input. -/
def bucketMoreWrong : ChangeSpec := { name := "bucketMore", fn := fun _ => fun
  | [d1, d2, d3] => { results := [.lit (.bool false)], args := [d1, d2, d3] }
  | _ => none }
def BucketMoreWrongFalsely : Prop := bucketMoreRow.holds Try.pinned (OpenSpec.ofChange bucketMoreWrong)

/- THE SECOND FORM. 'bulk': how many values and letters a reading holds, each counted each time it is reached (what is shared counts as often as it is met; a slice's spare places count too). A statement '..UptoSaid' is the law's where the arguments, and the package variables that the reading takes, are together of bulk at most 1048576: NARROWER than '..Said'. Prove '..Said' where nothing that the law and all that it calls make is longer than what came in: it says more and counts as full. Else prove '..UptoSaid'. A law counts once. -/
mutual
def uptoBulk {H : Type} : DataW H → Nat
  | .lit (.string bytes) => bytes.length + 1
  | .lit _ => 1
  | .nil => 1
  | .ptr d => uptoBulk d + 1
  | .slice elems spare => uptoBulkAll elems + uptoBulkAll spare + 1
  | .agg parts => uptoBulkAll parts + 1
  | .iface _ d => uptoBulk d + 1
  | .map entries => uptoBulkEntries entries + 1
  | .held _ => 1
def uptoBulkAll {H : Type} : List (DataW H) → Nat
  | [] => 0
  | d :: r => uptoBulk d + uptoBulkAll r
def uptoBulkEntries {H : Type} : List (Lit × DataW H) → Nat
  | [] => 0
  | x :: r => uptoBulkEntry x + uptoBulkEntries r
def uptoBulkEntry {H : Type} : Lit × DataW H → Nat
  | (.string bytes, d) => bytes.length + uptoBulk d + 1
  | (_, d) => uptoBulk d + 1
 end
def uptoSmall : (H : Type) → List (DataW H) → Bool := fun _ ds => decide (uptoBulkAll ds ≤ 1048576)
def OpenSpec.upto (s : _root_.Go.ChangeSpec) : _root_.Go.OpenSpec := { _root_.Go.OpenSpec.ofChange s with cond := some uptoSmall }

/-- 'chicanelaw08.BucketAll', WHERE WHAT IT READS IS OF BULK AT MOST 1048576: true; the input reads as it did. -/
def bucketAllUptoRow : OpenClaim := { program := "ytidklcjacejkaaa", sum := "f72c28b40b37e4766547fdb4637650df6da0816b8f60384e27f5c398cf691354", func := "chicane/chicanelaw08.BucketAll", spec := "bucketAll", named := ["math/bits.divideError", "math/bits.overflowError"], apart := false, narrowed := true }
def BucketAllUptoSaid : Prop := bucketAllUptoRow.holds Try.pinned (OpenSpec.upto bucketAllSpec)

/-- 'chicanelaw08.BucketWindows', WHERE WHAT IT READS IS OF BULK AT MOST 1048576: true; the input reads as it did. -/
def bucketWindowsUptoRow : OpenClaim := { program := "ytidklcjacejkaaa", sum := "f72c28b40b37e4766547fdb4637650df6da0816b8f60384e27f5c398cf691354", func := "chicane/chicanelaw08.BucketWindows", spec := "bucketWindows", named := ["math/bits.divideError", "math/bits.overflowError"], apart := false, narrowed := true }
def BucketWindowsUptoSaid : Prop := bucketWindowsUptoRow.holds Try.pinned (OpenSpec.upto bucketWindowsSpec)

/-- 'chicanelaw08.BucketSteps', WHERE WHAT IT READS IS OF BULK AT MOST 1048576: true; the input reads as it did. -/
def bucketStepsUptoRow : OpenClaim := { program := "ytidklcjacejkaaa", sum := "f72c28b40b37e4766547fdb4637650df6da0816b8f60384e27f5c398cf691354", func := "chicane/chicanelaw08.BucketSteps", spec := "bucketSteps", named := ["math/bits.divideError", "math/bits.overflowError"], apart := false, narrowed := true }
def BucketStepsUptoSaid : Prop := bucketStepsUptoRow.holds Try.pinned (OpenSpec.upto bucketStepsSpec)

/-- 'chicanelaw08.BucketWhen', WHERE WHAT IT READS IS OF BULK AT MOST 1048576: true; the input reads as it did. -/
def bucketWhenUptoRow : OpenClaim := { program := "ytidklcjacejkaaa", sum := "f72c28b40b37e4766547fdb4637650df6da0816b8f60384e27f5c398cf691354", func := "chicane/chicanelaw08.BucketWhen", spec := "bucketWhen", named := ["math/bits.divideError", "math/bits.overflowError"], apart := false, narrowed := true }
def BucketWhenUptoSaid : Prop := bucketWhenUptoRow.holds Try.pinned (OpenSpec.upto bucketWhenSpec)

/-- 'chicanelaw08.BucketTakes', WHERE WHAT IT READS IS OF BULK AT MOST 1048576: true; the input reads as it did. -/
def bucketTakesUptoRow : OpenClaim := { program := "ytidklcjacejkaaa", sum := "f72c28b40b37e4766547fdb4637650df6da0816b8f60384e27f5c398cf691354", func := "chicane/chicanelaw08.BucketTakes", spec := "bucketTakes", named := ["math/bits.divideError", "math/bits.overflowError"], apart := false, narrowed := true }
def BucketTakesUptoSaid : Prop := bucketTakesUptoRow.holds Try.pinned (OpenSpec.upto bucketTakesSpec)

/-- 'chicanelaw08.BucketMore', WHERE WHAT IT READS IS OF BULK AT MOST 1048576: true; the input reads as it did. -/
def bucketMoreUptoRow : OpenClaim := { program := "ytidklcjacejkaaa", sum := "f72c28b40b37e4766547fdb4637650df6da0816b8f60384e27f5c398cf691354", func := "chicane/chicanelaw08.BucketMore", spec := "bucketMore", named := ["math/bits.divideError", "math/bits.overflowError"], apart := false, narrowed := true }
def BucketMoreUptoSaid : Prop := bucketMoreUptoRow.holds Try.pinned (OpenSpec.upto bucketMoreSpec)

end Rows
end Go.Proofs.Ytidklcjacejkaaa
