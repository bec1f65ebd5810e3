/-
  No cell of these rows narrows 'for every input' (looked for: loops, veiled, ifaces, maps, wideKeys, modest, calm, conditions, laid).
  DERIVED. THE GIVEN ROWS OF THIS SEAT. 5 by the template 'for every input the law returns true; each argument reads behind the call as it read before'; 0 by the template 'total and deterministic' (their statements: YtfdfgnmgpgkknaaTotals.lean).
  GIVEN WITH THE SEED: the statements are not yours to turn. If you find one false, say at which input.
  Laid BY PROGRAM, IN A SANDBOX (cutbox-rows.mjs): the forced cells as the released guide's own fill.sh prints them over the translation ccc13c2a021e57c9… (all of the seat's roots in one cut). By AI agents, Wed Nov 11 2026. No macro, syntax, notation, axiom, sorry.
-/
import Derived.Test.YtfdfgnmgpgkknaaChecked
import GoSem.Claim
import GoSem.ClaimJoined
import GoSem.ClaimMapViews
import Derived.JoinedTies
import Derived.KernelRfl
namespace Go.Proofs.Ytfdfgnmgpgkknaa
/- THE CELL 'sum', in the pinned program and in every row, IS THE sha256 OF THE DUMP (.gsa) THAT YtfdfgnmgpgkknaaProg.lean LOADS. Nothing in Lean hashes anything: it is a label: what it is worth is what the hold of that sum in a sandbox is worth. -/
noncomputable def Try.pinned : Pinned := { name := "ytfdfgnmgpgkknaa", sum := "ccc13c2a021e57c91e523b906eb2d08d9302c45ed42f797aed9eac4d5c84162c", checked := Try.checked }
namespace Rows
def none {H : Type} : Left H := { results := [], args := [] }

/-- 'chicanelaw11.ChainCounts': WHATEVER THE INPUT: true; the input reads as it did. -/
def chainCountsSpec : ChangeSpec := { name := "chainCounts", fn := fun _ => fun
  | [d1, d2] => { results := [.lit (.bool true)], args := [d1, d2] }
  | _ => none }
def chainCountsRow : OpenClaim := { program := "ytfdfgnmgpgkknaa", sum := "ccc13c2a021e57c91e523b906eb2d08d9302c45ed42f797aed9eac4d5c84162c", func := "chicane/chicanelaw11.ChainCounts", spec := "chainCounts", inPlace := ["slices.overlaps[*chicane/chain.part]"], unfollowed := true, recurses := true, named := ["math/bits.divideError", "math/bits.overflowError"], apart := false }
def ChainCountsSaid : Prop := chainCountsRow.holds Try.pinned (OpenSpec.ofChange chainCountsSpec)

/-- ITS FALSE NEIGHBOUR: 'it returns false'. Refute it at one input. -/
def chainCountsWrong : ChangeSpec := { name := "chainCounts", fn := fun _ => fun
  | [d1, d2] => { results := [.lit (.bool false)], args := [d1, d2] }
  | _ => none }
def ChainCountsWrongFalsely : Prop := chainCountsRow.holds Try.pinned (OpenSpec.ofChange chainCountsWrong)

/-- 'chicanelaw11.ChainKeeps': WHATEVER THE INPUT: true; the input reads as it did. -/
def chainKeepsSpec : ChangeSpec := { name := "chainKeeps", fn := fun _ => fun
  | [d1, d2] => { results := [.lit (.bool true)], args := [d1, d2] }
  | _ => none }
def chainKeepsRow : OpenClaim := { program := "ytfdfgnmgpgkknaa", sum := "ccc13c2a021e57c91e523b906eb2d08d9302c45ed42f797aed9eac4d5c84162c", func := "chicane/chicanelaw11.ChainKeeps", spec := "chainKeeps", inPlace := ["slices.overlaps[*chicane/chain.part]"], unfollowed := true, recurses := true, named := ["math/bits.divideError", "math/bits.overflowError"], apart := false }
def ChainKeepsSaid : Prop := chainKeepsRow.holds Try.pinned (OpenSpec.ofChange chainKeepsSpec)

/-- ITS FALSE NEIGHBOUR: 'it returns false'. Refute it at one input. -/
def chainKeepsWrong : ChangeSpec := { name := "chainKeeps", fn := fun _ => fun
  | [d1, d2] => { results := [.lit (.bool false)], args := [d1, d2] }
  | _ => none }
def ChainKeepsWrongFalsely : Prop := chainKeepsRow.holds Try.pinned (OpenSpec.ofChange chainKeepsWrong)

/-- 'chicanelaw11.ChainSafe': WHATEVER THE INPUT: true; the input reads as it did. -/
def chainSafeSpec : ChangeSpec := { name := "chainSafe", fn := fun _ => fun
  | [d1, d2] => { results := [.lit (.bool true)], args := [d1, d2] }
  | _ => none }
def chainSafeRow : OpenClaim := { program := "ytfdfgnmgpgkknaa", sum := "ccc13c2a021e57c91e523b906eb2d08d9302c45ed42f797aed9eac4d5c84162c", func := "chicane/chicanelaw11.ChainSafe", spec := "chainSafe", inPlace := ["slices.overlaps[*chicane/chain.part]"], unfollowed := true, recurses := true, named := ["math/bits.divideError", "math/bits.overflowError"], apart := false }
def ChainSafeSaid : Prop := chainSafeRow.holds Try.pinned (OpenSpec.ofChange chainSafeSpec)

/-- ITS FALSE NEIGHBOUR: 'it returns false'. Refute it at one input. -/
def chainSafeWrong : ChangeSpec := { name := "chainSafe", fn := fun _ => fun
  | [d1, d2] => { results := [.lit (.bool false)], args := [d1, d2] }
  | _ => none }
def ChainSafeWrongFalsely : Prop := chainSafeRow.holds Try.pinned (OpenSpec.ofChange chainSafeWrong)

/-- 'chicanelaw11.ChainEnds': WHATEVER THE INPUT: true; the input reads as it did. -/
def chainEndsSpec : ChangeSpec := { name := "chainEnds", fn := fun _ => fun
  | [d1, d2] => { results := [.lit (.bool true)], args := [d1, d2] }
  | _ => none }
def chainEndsRow : OpenClaim := { program := "ytfdfgnmgpgkknaa", sum := "ccc13c2a021e57c91e523b906eb2d08d9302c45ed42f797aed9eac4d5c84162c", func := "chicane/chicanelaw11.ChainEnds", spec := "chainEnds", inPlace := ["slices.overlaps[*chicane/chain.part]"], unfollowed := true, recurses := true, named := ["math/bits.divideError", "math/bits.overflowError"], apart := false }
def ChainEndsSaid : Prop := chainEndsRow.holds Try.pinned (OpenSpec.ofChange chainEndsSpec)

/-- ITS FALSE NEIGHBOUR: 'it returns false'. Refute it at one input. -/
def chainEndsWrong : ChangeSpec := { name := "chainEnds", fn := fun _ => fun
  | [d1, d2] => { results := [.lit (.bool false)], args := [d1, d2] }
  | _ => none }
def ChainEndsWrongFalsely : Prop := chainEndsRow.holds Try.pinned (OpenSpec.ofChange chainEndsWrong)

/-- 'chicanelaw11.ChainDrains': WHATEVER THE INPUT: true; the input reads as it did. -/
def chainDrainsSpec : ChangeSpec := { name := "chainDrains", fn := fun _ => fun
  | [d1, d2, d3] => { results := [.lit (.bool true)], args := [d1, d2, d3] }
  | _ => none }
def chainDrainsRow : OpenClaim := { program := "ytfdfgnmgpgkknaa", sum := "ccc13c2a021e57c91e523b906eb2d08d9302c45ed42f797aed9eac4d5c84162c", func := "chicane/chicanelaw11.ChainDrains", spec := "chainDrains", inPlace := ["slices.overlaps[*chicane/chain.part]"], unfollowed := true, recurses := true, named := ["math/bits.divideError", "math/bits.overflowError"], apart := false }
def ChainDrainsSaid : Prop := chainDrainsRow.holds Try.pinned (OpenSpec.ofChange chainDrainsSpec)

/-- ITS FALSE NEIGHBOUR: 'it returns false'. Refute it at one input. -/
def chainDrainsWrong : ChangeSpec := { name := "chainDrains", fn := fun _ => fun
  | [d1, d2, d3] => { results := [.lit (.bool false)], args := [d1, d2, d3] }
  | _ => none }
def ChainDrainsWrongFalsely : Prop := chainDrainsRow.holds Try.pinned (OpenSpec.ofChange chainDrainsWrong)

/- THE SECOND FORM. 'bulk': how many values and letters a reading holds, each counted each time it is reached (what is shared counts as often as it is met; a slice's spare places count too). A statement '..UptoSaid' is the law's where the arguments, and the package variables that the reading takes, are together of bulk at most 1048576: NARROWER than '..Said'. Prove '..Said' where nothing that the law and all that it calls make is longer than what came in: it says more and counts as full. Else prove '..UptoSaid'. A law counts once. -/
mutual
def uptoBulk {H : Type} : DataW H → Nat
  | .lit (.string bytes) => bytes.length + 1
  | .lit _ => 1
  | .nil => 1
  | .ptr d => uptoBulk d + 1
  | .slice elems spare => uptoBulkAll elems + uptoBulkAll spare + 1
  | .agg parts => uptoBulkAll parts + 1
  | .iface _ d => uptoBulk d + 1
  | .map entries => uptoBulkEntries entries + 1
  | .held _ => 1
def uptoBulkAll {H : Type} : List (DataW H) → Nat
  | [] => 0
  | d :: r => uptoBulk d + uptoBulkAll r
def uptoBulkEntries {H : Type} : List (Lit × DataW H) → Nat
  | [] => 0
  | x :: r => uptoBulkEntry x + uptoBulkEntries r
def uptoBulkEntry {H : Type} : Lit × DataW H → Nat
  | (.string bytes, d) => bytes.length + uptoBulk d + 1
  | (_, d) => uptoBulk d + 1
 end
def uptoSmall : (H : Type) → List (DataW H) → Bool := fun _ ds => decide (uptoBulkAll ds ≤ 1048576)
def OpenSpec.upto (s : _root_.Go.ChangeSpec) : _root_.Go.OpenSpec := { _root_.Go.OpenSpec.ofChange s with cond := some uptoSmall }

/-- 'chicanelaw11.ChainCounts', WHERE WHAT IT READS IS OF BULK AT MOST 1048576: true; the input reads as it did. -/
def chainCountsUptoRow : OpenClaim := { program := "ytfdfgnmgpgkknaa", sum := "ccc13c2a021e57c91e523b906eb2d08d9302c45ed42f797aed9eac4d5c84162c", func := "chicane/chicanelaw11.ChainCounts", spec := "chainCounts", inPlace := ["slices.overlaps[*chicane/chain.part]"], unfollowed := true, recurses := true, named := ["math/bits.divideError", "math/bits.overflowError"], apart := false, narrowed := true }
def ChainCountsUptoSaid : Prop := chainCountsUptoRow.holds Try.pinned (OpenSpec.upto chainCountsSpec)

/-- 'chicanelaw11.ChainKeeps', WHERE WHAT IT READS IS OF BULK AT MOST 1048576: true; the input reads as it did. -/
def chainKeepsUptoRow : OpenClaim := { program := "ytfdfgnmgpgkknaa", sum := "ccc13c2a021e57c91e523b906eb2d08d9302c45ed42f797aed9eac4d5c84162c", func := "chicane/chicanelaw11.ChainKeeps", spec := "chainKeeps", inPlace := ["slices.overlaps[*chicane/chain.part]"], unfollowed := true, recurses := true, named := ["math/bits.divideError", "math/bits.overflowError"], apart := false, narrowed := true }
def ChainKeepsUptoSaid : Prop := chainKeepsUptoRow.holds Try.pinned (OpenSpec.upto chainKeepsSpec)

/-- 'chicanelaw11.ChainSafe', WHERE WHAT IT READS IS OF BULK AT MOST 1048576: true; the input reads as it did. -/
def chainSafeUptoRow : OpenClaim := { program := "ytfdfgnmgpgkknaa", sum := "ccc13c2a021e57c91e523b906eb2d08d9302c45ed42f797aed9eac4d5c84162c", func := "chicane/chicanelaw11.ChainSafe", spec := "chainSafe", inPlace := ["slices.overlaps[*chicane/chain.part]"], unfollowed := true, recurses := true, named := ["math/bits.divideError", "math/bits.overflowError"], apart := false, narrowed := true }
def ChainSafeUptoSaid : Prop := chainSafeUptoRow.holds Try.pinned (OpenSpec.upto chainSafeSpec)

/-- 'chicanelaw11.ChainEnds', WHERE WHAT IT READS IS OF BULK AT MOST 1048576: true; the input reads as it did. -/
def chainEndsUptoRow : OpenClaim := { program := "ytfdfgnmgpgkknaa", sum := "ccc13c2a021e57c91e523b906eb2d08d9302c45ed42f797aed9eac4d5c84162c", func := "chicane/chicanelaw11.ChainEnds", spec := "chainEnds", inPlace := ["slices.overlaps[*chicane/chain.part]"], unfollowed := true, recurses := true, named := ["math/bits.divideError", "math/bits.overflowError"], apart := false, narrowed := true }
def ChainEndsUptoSaid : Prop := chainEndsUptoRow.holds Try.pinned (OpenSpec.upto chainEndsSpec)

/-- 'chicanelaw11.ChainDrains', WHERE WHAT IT READS IS OF BULK AT MOST 1048576: true; the input reads as it did. -/
def chainDrainsUptoRow : OpenClaim := { program := "ytfdfgnmgpgkknaa", sum := "ccc13c2a021e57c91e523b906eb2d08d9302c45ed42f797aed9eac4d5c84162c", func := "chicane/chicanelaw11.ChainDrains", spec := "chainDrains", inPlace := ["slices.overlaps[*chicane/chain.part]"], unfollowed := true, recurses := true, named := ["math/bits.divideError", "math/bits.overflowError"], apart := false, narrowed := true }
def ChainDrainsUptoSaid : Prop := chainDrainsUptoRow.holds Try.pinned (OpenSpec.upto chainDrainsSpec)

end Rows
end Go.Proofs.Ytfdfgnmgpgkknaa
