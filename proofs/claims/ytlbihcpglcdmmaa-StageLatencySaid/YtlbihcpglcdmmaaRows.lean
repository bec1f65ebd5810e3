/-
  No cell of these rows narrows 'for every input' (looked for: loops, veiled, ifaces, maps, wideKeys, modest, calm, conditions, laid).
  DERIVED. THE GIVEN ROWS OF THIS SEAT. 5 by the template 'for every input the law returns true; each argument reads behind the call as it read before'; 0 by the template 'total and deterministic' (their statements: YtlbihcpglcdmmaaTotals.lean).
  GIVEN WITH THE SEED: the statements are not yours to turn. If you find one false, say at which input.
  Laid BY PROGRAM, IN A SANDBOX (cutbox-rows.mjs): the forced cells as the released guide's own fill.sh prints them over the translation 5f738f47743b89a1… (all of the seat's roots in one cut). By AI agents, Wed Nov 11 2026. No macro, syntax, notation, axiom, sorry.
-/
import Derived.Test.YtlbihcpglcdmmaaChecked
import GoSem.Claim
import GoSem.ClaimJoined
import GoSem.ClaimMapViews
import Derived.JoinedTies
import Derived.KernelRfl
namespace Go.Proofs.Ytlbihcpglcdmmaa
/- THE CELL 'sum', in the pinned program and in every row, IS THE sha256 OF THE DUMP (.gsa) THAT YtlbihcpglcdmmaaProg.lean LOADS. Nothing in Lean hashes anything: it is a label: what it is worth is what the hold of that sum in a sandbox is worth. -/
noncomputable def Try.pinned : Pinned := { name := "ytlbihcpglcdmmaa", sum := "5f738f47743b89a1b7ad537b48bf991a86c7ed50361c99cd93a66e6a3d9117a0", checked := Try.checked }
namespace Rows
def none {H : Type} : Left H := { results := [], args := [] }

/-- 'chicanelaw10.StageKeeps': WHATEVER THE INPUT: true; the input reads as it did. -/
def stageKeepsSpec : ChangeSpec := { name := "stageKeeps", fn := fun _ => fun
  | [d1, d2] => { results := [.lit (.bool true)], args := [d1, d2] }
  | _ => none }
def stageKeepsRow : OpenClaim := { program := "ytlbihcpglcdmmaa", sum := "5f738f47743b89a1b7ad537b48bf991a86c7ed50361c99cd93a66e6a3d9117a0", func := "chicane/chicanelaw10.StageKeeps", spec := "stageKeeps", unfollowed := true, recurses := true, named := ["math/bits.divideError", "math/bits.overflowError"], apart := false }
def StageKeepsSaid : Prop := stageKeepsRow.holds Try.pinned (OpenSpec.ofChange stageKeepsSpec)

/-- ITS FALSE NEIGHBOUR: 'it returns false'. Refute it at one input. -/
def stageKeepsWrong : ChangeSpec := { name := "stageKeeps", fn := fun _ => fun
  | [d1, d2] => { results := [.lit (.bool false)], args := [d1, d2] }
  | _ => none }
def StageKeepsWrongFalsely : Prop := stageKeepsRow.holds Try.pinned (OpenSpec.ofChange stageKeepsWrong)

/-- 'chicanelaw10.StageLatency': WHATEVER THE INPUT: true; the input reads as it did. -/
def stageLatencySpec : ChangeSpec := { name := "stageLatency", fn := fun _ => fun
  | [d1, d2, d3] => { results := [.lit (.bool true)], args := [d1, d2, d3] }
  | _ => none }
def stageLatencyRow : OpenClaim := { program := "ytlbihcpglcdmmaa", sum := "5f738f47743b89a1b7ad537b48bf991a86c7ed50361c99cd93a66e6a3d9117a0", func := "chicane/chicanelaw10.StageLatency", spec := "stageLatency", unfollowed := true, recurses := true, named := ["math/bits.divideError", "math/bits.overflowError"], apart := false }
def StageLatencySaid : Prop := stageLatencyRow.holds Try.pinned (OpenSpec.ofChange stageLatencySpec)

/-- ITS FALSE NEIGHBOUR: 'it returns false'. Refute it at one input. -/
def stageLatencyWrong : ChangeSpec := { name := "stageLatency", fn := fun _ => fun
  | [d1, d2, d3] => { results := [.lit (.bool false)], args := [d1, d2, d3] }
  | _ => none }
def StageLatencyWrongFalsely : Prop := stageLatencyRow.holds Try.pinned (OpenSpec.ofChange stageLatencyWrong)

/-- 'chicanelaw10.StageWindows': WHATEVER THE INPUT: true; the input reads as it did. -/
def stageWindowsSpec : ChangeSpec := { name := "stageWindows", fn := fun _ => fun
  | [d1, d2, d3] => { results := [.lit (.bool true)], args := [d1, d2, d3] }
  | _ => none }
def stageWindowsRow : OpenClaim := { program := "ytlbihcpglcdmmaa", sum := "5f738f47743b89a1b7ad537b48bf991a86c7ed50361c99cd93a66e6a3d9117a0", func := "chicane/chicanelaw10.StageWindows", spec := "stageWindows", unfollowed := true, recurses := true, named := ["math/bits.divideError", "math/bits.overflowError"], apart := false }
def StageWindowsSaid : Prop := stageWindowsRow.holds Try.pinned (OpenSpec.ofChange stageWindowsSpec)

/-- ITS FALSE NEIGHBOUR: 'it returns false'. Refute it at one input. -/
def stageWindowsWrong : ChangeSpec := { name := "stageWindows", fn := fun _ => fun
  | [d1, d2, d3] => { results := [.lit (.bool false)], args := [d1, d2, d3] }
  | _ => none }
def StageWindowsWrongFalsely : Prop := stageWindowsRow.holds Try.pinned (OpenSpec.ofChange stageWindowsWrong)

/-- 'chicanelaw10.StagePieces': WHATEVER THE INPUT: true; the input reads as it did. -/
def stagePiecesSpec : ChangeSpec := { name := "stagePieces", fn := fun _ => fun
  | [d1, d2, d3] => { results := [.lit (.bool true)], args := [d1, d2, d3] }
  | _ => none }
def stagePiecesRow : OpenClaim := { program := "ytlbihcpglcdmmaa", sum := "5f738f47743b89a1b7ad537b48bf991a86c7ed50361c99cd93a66e6a3d9117a0", func := "chicane/chicanelaw10.StagePieces", spec := "stagePieces", unfollowed := true, recurses := true, named := ["math/bits.divideError", "math/bits.overflowError"], apart := false }
def StagePiecesSaid : Prop := stagePiecesRow.holds Try.pinned (OpenSpec.ofChange stagePiecesSpec)

/-- ITS FALSE NEIGHBOUR: 'it returns false'. Refute it at one input. -/
def stagePiecesWrong : ChangeSpec := { name := "stagePieces", fn := fun _ => fun
  | [d1, d2, d3] => { results := [.lit (.bool false)], args := [d1, d2, d3] }
  | _ => none }
def StagePiecesWrongFalsely : Prop := stagePiecesRow.holds Try.pinned (OpenSpec.ofChange stagePiecesWrong)

/-- 'chicanelaw10.StageEnds': WHATEVER THE INPUT: true; the input reads as it did. -/
def stageEndsSpec : ChangeSpec := { name := "stageEnds", fn := fun _ => fun
  | [d1, d2] => { results := [.lit (.bool true)], args := [d1, d2] }
  | _ => none }
def stageEndsRow : OpenClaim := { program := "ytlbihcpglcdmmaa", sum := "5f738f47743b89a1b7ad537b48bf991a86c7ed50361c99cd93a66e6a3d9117a0", func := "chicane/chicanelaw10.StageEnds", spec := "stageEnds", unfollowed := true, recurses := true, named := ["math/bits.divideError", "math/bits.overflowError"], apart := false }
def StageEndsSaid : Prop := stageEndsRow.holds Try.pinned (OpenSpec.ofChange stageEndsSpec)

/-- ITS FALSE NEIGHBOUR: 'it returns false'. Refute it at one input. -/
def stageEndsWrong : ChangeSpec := { name := "stageEnds", fn := fun _ => fun
  | [d1, d2] => { results := [.lit (.bool false)], args := [d1, d2] }
  | _ => none }
def StageEndsWrongFalsely : Prop := stageEndsRow.holds Try.pinned (OpenSpec.ofChange stageEndsWrong)

/- THE SECOND FORM. 'bulk': how many values and letters a reading holds, each counted each time it is reached (what is shared counts as often as it is met; a slice's spare places count too). A statement '..UptoSaid' is the law's where the arguments, and the package variables that the reading takes, are together of bulk at most 1048576: NARROWER than '..Said'. Prove '..Said' where nothing that the law and all that it calls make is longer than what came in: it says more and counts as full. Else prove '..UptoSaid'. A law counts once. -/
mutual
def uptoBulk {H : Type} : DataW H → Nat
  | .lit (.string bytes) => bytes.length + 1
  | .lit _ => 1
  | .nil => 1
  | .ptr d => uptoBulk d + 1
  | .slice elems spare => uptoBulkAll elems + uptoBulkAll spare + 1
  | .agg parts => uptoBulkAll parts + 1
  | .iface _ d => uptoBulk d + 1
  | .map entries => uptoBulkEntries entries + 1
  | .held _ => 1
def uptoBulkAll {H : Type} : List (DataW H) → Nat
  | [] => 0
  | d :: r => uptoBulk d + uptoBulkAll r
def uptoBulkEntries {H : Type} : List (Lit × DataW H) → Nat
  | [] => 0
  | x :: r => uptoBulkEntry x + uptoBulkEntries r
def uptoBulkEntry {H : Type} : Lit × DataW H → Nat
  | (.string bytes, d) => bytes.length + uptoBulk d + 1
  | (_, d) => uptoBulk d + 1
 end
def uptoSmall : (H : Type) → List (DataW H) → Bool := fun _ ds => decide (uptoBulkAll ds ≤ 1048576)
def OpenSpec.upto (s : _root_.Go.ChangeSpec) : _root_.Go.OpenSpec := { _root_.Go.OpenSpec.ofChange s with cond := some uptoSmall }

/-- 'chicanelaw10.StageKeeps', WHERE WHAT IT READS IS OF BULK AT MOST 1048576: true; the input reads as it did. -/
def stageKeepsUptoRow : OpenClaim := { program := "ytlbihcpglcdmmaa", sum := "5f738f47743b89a1b7ad537b48bf991a86c7ed50361c99cd93a66e6a3d9117a0", func := "chicane/chicanelaw10.StageKeeps", spec := "stageKeeps", unfollowed := true, recurses := true, named := ["math/bits.divideError", "math/bits.overflowError"], apart := false, narrowed := true }
def StageKeepsUptoSaid : Prop := stageKeepsUptoRow.holds Try.pinned (OpenSpec.upto stageKeepsSpec)

/-- 'chicanelaw10.StageLatency', WHERE WHAT IT READS IS OF BULK AT MOST 1048576: true; the input reads as it did. -/
def stageLatencyUptoRow : OpenClaim := { program := "ytlbihcpglcdmmaa", sum := "5f738f47743b89a1b7ad537b48bf991a86c7ed50361c99cd93a66e6a3d9117a0", func := "chicane/chicanelaw10.StageLatency", spec := "stageLatency", unfollowed := true, recurses := true, named := ["math/bits.divideError", "math/bits.overflowError"], apart := false, narrowed := true }
def StageLatencyUptoSaid : Prop := stageLatencyUptoRow.holds Try.pinned (OpenSpec.upto stageLatencySpec)

/-- 'chicanelaw10.StageWindows', WHERE WHAT IT READS IS OF BULK AT MOST 1048576: true; the input reads as it did. -/
def stageWindowsUptoRow : OpenClaim := { program := "ytlbihcpglcdmmaa", sum := "5f738f47743b89a1b7ad537b48bf991a86c7ed50361c99cd93a66e6a3d9117a0", func := "chicane/chicanelaw10.StageWindows", spec := "stageWindows", unfollowed := true, recurses := true, named := ["math/bits.divideError", "math/bits.overflowError"], apart := false, narrowed := true }
def StageWindowsUptoSaid : Prop := stageWindowsUptoRow.holds Try.pinned (OpenSpec.upto stageWindowsSpec)

/-- 'chicanelaw10.StagePieces', WHERE WHAT IT READS IS OF BULK AT MOST 1048576: true; the input reads as it did. -/
def stagePiecesUptoRow : OpenClaim := { program := "ytlbihcpglcdmmaa", sum := "5f738f47743b89a1b7ad537b48bf991a86c7ed50361c99cd93a66e6a3d9117a0", func := "chicane/chicanelaw10.StagePieces", spec := "stagePieces", unfollowed := true, recurses := true, named := ["math/bits.divideError", "math/bits.overflowError"], apart := false, narrowed := true }
def StagePiecesUptoSaid : Prop := stagePiecesUptoRow.holds Try.pinned (OpenSpec.upto stagePiecesSpec)

/-- 'chicanelaw10.StageEnds', WHERE WHAT IT READS IS OF BULK AT MOST 1048576: true; the input reads as it did. -/
def stageEndsUptoRow : OpenClaim := { program := "ytlbihcpglcdmmaa", sum := "5f738f47743b89a1b7ad537b48bf991a86c7ed50361c99cd93a66e6a3d9117a0", func := "chicane/chicanelaw10.StageEnds", spec := "stageEnds", unfollowed := true, recurses := true, named := ["math/bits.divideError", "math/bits.overflowError"], apart := false, narrowed := true }
def StageEndsUptoSaid : Prop := stageEndsUptoRow.holds Try.pinned (OpenSpec.upto stageEndsSpec)

end Rows
end Go.Proofs.Ytlbihcpglcdmmaa
