/-
  No cell of these rows narrows 'for every input' (looked for: loops, veiled, ifaces, maps, wideKeys, modest, calm, conditions, laid).
  DERIVED. THE GIVEN ROWS OF THIS SEAT. 7 by the template 'for every input the law returns true; each argument reads behind the call as it read before'; 0 by the template 'total and deterministic' (their statements: YtdighjgcnaajgaaGreatTotals.lean).
  GIVEN WITH THE SEED: the statements are not yours to turn. If you find one false, say at which input.
  Laid BY PROGRAM, IN A SANDBOX (cutbox-rows.mjs): the forced cells as the released guide's own fill.sh prints them over the translation 14df92ee20ef6283… (all of the seat's roots in one cut). By AI agents, Wed Nov 11 2026. No macro, syntax, notation, axiom, sorry.
-/
import Derived.Test.YtdighjgcnaajgaaGreatChecked
import GoSem.Claim
import GoSem.ClaimJoined
import GoSem.ClaimMapViews
import Derived.JoinedTies
import Derived.KernelRfl
namespace Go.Proofs.YtdighjgcnaajgaaGreat
/- THE CELL 'sum', in the pinned program and in every row, IS THE sha256 OF THE DUMP (.gsa) THAT YtdighjgcnaajgaaGreatProg.lean LOADS. Nothing in Lean hashes anything: it is a label: what it is worth is what the hold of that sum in a sandbox is worth. -/
noncomputable def Tryz.pinned : Pinned := { name := "ytdighjgcnaajgaagreat", sum := "14df92ee20ef62838f9923ce66f6f0d09efae3dbdebcdcb3ce5e1ba18ae952d0", checked := Tryz.checked }
namespace Rows
def none {H : Type} : Left H := { results := [], args := [] }

/-- 'chicanelaw13.ConnAll': WHATEVER THE INPUT: true; the input reads as it did. -/
def connAllSpec : ChangeSpec := { name := "connAll", fn := fun _ => fun
  | [d1, d2] => { results := [.lit (.bool true)], args := [d1, d2] }
  | _ => none }
def connAllRow : OpenClaim := { program := "ytdighjgcnaajgaagreat", sum := "14df92ee20ef62838f9923ce66f6f0d09efae3dbdebcdcb3ce5e1ba18ae952d0", func := "chicane/chicanelaw13.ConnAll", spec := "connAll", inPlace := ["slices.overlaps[*chicane/chain.part]"], unfollowed := true, recurses := true, named := ["math/bits.divideError", "math/bits.overflowError"], apart := false }
def ConnAllSaid : Prop := connAllRow.holds Tryz.pinned (OpenSpec.ofChange connAllSpec)

/-- ITS FALSE NEIGHBOUR: 'it returns false'. Refute it at one input. -/
def connAllWrong : ChangeSpec := { name := "connAll", fn := fun _ => fun
  | [d1, d2] => { results := [.lit (.bool false)], args := [d1, d2] }
  | _ => none }
def ConnAllWrongFalsely : Prop := connAllRow.holds Tryz.pinned (OpenSpec.ofChange connAllWrong)

/-- 'chicanelaw13.ConnBroken': WHATEVER THE INPUT: true; the input reads as it did. -/
def connBrokenSpec : ChangeSpec := { name := "connBroken", fn := fun _ => fun
  | [d1, d2] => { results := [.lit (.bool true)], args := [d1, d2] }
  | _ => none }
def connBrokenRow : OpenClaim := { program := "ytdighjgcnaajgaagreat", sum := "14df92ee20ef62838f9923ce66f6f0d09efae3dbdebcdcb3ce5e1ba18ae952d0", func := "chicane/chicanelaw13.ConnBroken", spec := "connBroken", inPlace := ["slices.overlaps[*chicane/chain.part]"], unfollowed := true, recurses := true, named := ["math/bits.divideError", "math/bits.overflowError"], apart := false }
def ConnBrokenSaid : Prop := connBrokenRow.holds Tryz.pinned (OpenSpec.ofChange connBrokenSpec)

/-- ITS FALSE NEIGHBOUR: 'it returns false'. Refute it at one input. -/
def connBrokenWrong : ChangeSpec := { name := "connBroken", fn := fun _ => fun
  | [d1, d2] => { results := [.lit (.bool false)], args := [d1, d2] }
  | _ => none }
def ConnBrokenWrongFalsely : Prop := connBrokenRow.holds Tryz.pinned (OpenSpec.ofChange connBrokenWrong)

/-- 'chicanelaw13.ConnKeeps': WHATEVER THE INPUT: true; the input reads as it did. -/
def connKeepsSpec : ChangeSpec := { name := "connKeeps", fn := fun _ => fun
  | [d1, d2] => { results := [.lit (.bool true)], args := [d1, d2] }
  | _ => none }
def connKeepsRow : OpenClaim := { program := "ytdighjgcnaajgaagreat", sum := "14df92ee20ef62838f9923ce66f6f0d09efae3dbdebcdcb3ce5e1ba18ae952d0", func := "chicane/chicanelaw13.ConnKeeps", spec := "connKeeps", inPlace := ["slices.overlaps[*chicane/chain.part]"], unfollowed := true, recurses := true, named := ["math/bits.divideError", "math/bits.overflowError"], apart := false }
def ConnKeepsSaid : Prop := connKeepsRow.holds Tryz.pinned (OpenSpec.ofChange connKeepsSpec)

/-- ITS FALSE NEIGHBOUR: 'it returns false'. Refute it at one input. -/
def connKeepsWrong : ChangeSpec := { name := "connKeeps", fn := fun _ => fun
  | [d1, d2] => { results := [.lit (.bool false)], args := [d1, d2] }
  | _ => none }
def ConnKeepsWrongFalsely : Prop := connKeepsRow.holds Tryz.pinned (OpenSpec.ofChange connKeepsWrong)

/-- 'chicanelaw13.ConnApart': WHATEVER THE INPUT: true; the input reads as it did. -/
def connApartSpec : ChangeSpec := { name := "connApart", fn := fun _ => fun
  | [d1, d2] => { results := [.lit (.bool true)], args := [d1, d2] }
  | _ => none }
def connApartRow : OpenClaim := { program := "ytdighjgcnaajgaagreat", sum := "14df92ee20ef62838f9923ce66f6f0d09efae3dbdebcdcb3ce5e1ba18ae952d0", func := "chicane/chicanelaw13.ConnApart", spec := "connApart", inPlace := ["slices.overlaps[*chicane/chain.part]"], unfollowed := true, recurses := true, named := ["math/bits.divideError", "math/bits.overflowError"], apart := false }
def ConnApartSaid : Prop := connApartRow.holds Tryz.pinned (OpenSpec.ofChange connApartSpec)

/-- ITS FALSE NEIGHBOUR: 'it returns false'. Refute it at one input. -/
def connApartWrong : ChangeSpec := { name := "connApart", fn := fun _ => fun
  | [d1, d2] => { results := [.lit (.bool false)], args := [d1, d2] }
  | _ => none }
def ConnApartWrongFalsely : Prop := connApartRow.holds Tryz.pinned (OpenSpec.ofChange connApartWrong)

/-- 'chicanelaw13.ConnCopies': WHATEVER THE INPUT: true; the input reads as it did. -/
def connCopiesSpec : ChangeSpec := { name := "connCopies", fn := fun _ => fun
  | [d1, d2, d3] => { results := [.lit (.bool true)], args := [d1, d2, d3] }
  | _ => none }
def connCopiesRow : OpenClaim := { program := "ytdighjgcnaajgaagreat", sum := "14df92ee20ef62838f9923ce66f6f0d09efae3dbdebcdcb3ce5e1ba18ae952d0", func := "chicane/chicanelaw13.ConnCopies", spec := "connCopies", inPlace := ["slices.overlaps[*chicane/chain.part]"], unfollowed := true, recurses := true, named := ["math/bits.divideError", "math/bits.overflowError"], apart := false }
def ConnCopiesSaid : Prop := connCopiesRow.holds Tryz.pinned (OpenSpec.ofChange connCopiesSpec)

/-- ITS FALSE NEIGHBOUR: 'it returns false'. Refute it at one input. -/
def connCopiesWrong : ChangeSpec := { name := "connCopies", fn := fun _ => fun
  | [d1, d2, d3] => { results := [.lit (.bool false)], args := [d1, d2, d3] }
  | _ => none }
def ConnCopiesWrongFalsely : Prop := connCopiesRow.holds Tryz.pinned (OpenSpec.ofChange connCopiesWrong)

/-- 'chicanelaw13.ConnNames': WHATEVER THE INPUT: true; the input reads as it did. -/
def connNamesSpec : ChangeSpec := { name := "connNames", fn := fun _ => fun
  | [d1, d2] => { results := [.lit (.bool true)], args := [d1, d2] }
  | _ => none }
def connNamesRow : OpenClaim := { program := "ytdighjgcnaajgaagreat", sum := "14df92ee20ef62838f9923ce66f6f0d09efae3dbdebcdcb3ce5e1ba18ae952d0", func := "chicane/chicanelaw13.ConnNames", spec := "connNames", inPlace := ["slices.overlaps[*chicane/chain.part]"], unfollowed := true, recurses := true, named := ["math/bits.divideError", "math/bits.overflowError"], apart := false }
def ConnNamesSaid : Prop := connNamesRow.holds Tryz.pinned (OpenSpec.ofChange connNamesSpec)

/-- ITS FALSE NEIGHBOUR: 'it returns false'. Refute it at one input. -/
def connNamesWrong : ChangeSpec := { name := "connNames", fn := fun _ => fun
  | [d1, d2] => { results := [.lit (.bool false)], args := [d1, d2] }
  | _ => none }
def ConnNamesWrongFalsely : Prop := connNamesRow.holds Tryz.pinned (OpenSpec.ofChange connNamesWrong)

/-- 'chicanelaw12.LinkAll': WHATEVER THE INPUT: true; the input reads as it did. -/
def linkAllSpec : ChangeSpec := { name := "linkAll", fn := fun _ => fun
  | [d1, d2, d3] => { results := [.lit (.bool true)], args := [d1, d2, d3] }
  | _ => none }
def linkAllRow : OpenClaim := { program := "ytdighjgcnaajgaagreat", sum := "14df92ee20ef62838f9923ce66f6f0d09efae3dbdebcdcb3ce5e1ba18ae952d0", func := "chicane/chicanelaw12.LinkAll", spec := "linkAll", inPlace := ["slices.overlaps[*chicane/chain.part]"], unfollowed := true, recurses := true, named := ["math/bits.divideError", "math/bits.overflowError"], apart := false }
def LinkAllSaid : Prop := linkAllRow.holds Tryz.pinned (OpenSpec.ofChange linkAllSpec)

/-- ITS FALSE NEIGHBOUR: 'it returns false'. Refute it at one input. -/
def linkAllWrong : ChangeSpec := { name := "linkAll", fn := fun _ => fun
  | [d1, d2, d3] => { results := [.lit (.bool false)], args := [d1, d2, d3] }
  | _ => none }
def LinkAllWrongFalsely : Prop := linkAllRow.holds Tryz.pinned (OpenSpec.ofChange linkAllWrong)

/- THE SECOND FORM. 'bulk': how many values and letters a reading holds, each counted each time it is reached (what is shared counts as often as it is met; a slice's spare places count too). A statement '..UptoSaid' is the law's where the arguments, and the package variables that the reading takes, are together of bulk at most 1048576: NARROWER than '..Said'. Prove '..Said' where nothing that the law and all that it calls make is longer than what came in: it says more and counts as full. Else prove '..UptoSaid'. A law counts once. -/
mutual
def uptoBulk {H : Type} : DataW H → Nat
  | .lit (.string bytes) => bytes.length + 1
  | .lit _ => 1
  | .nil => 1
  | .ptr d => uptoBulk d + 1
  | .slice elems spare => uptoBulkAll elems + uptoBulkAll spare + 1
  | .agg parts => uptoBulkAll parts + 1
  | .iface _ d => uptoBulk d + 1
  | .map entries => uptoBulkEntries entries + 1
  | .held _ => 1
def uptoBulkAll {H : Type} : List (DataW H) → Nat
  | [] => 0
  | d :: r => uptoBulk d + uptoBulkAll r
def uptoBulkEntries {H : Type} : List (Lit × DataW H) → Nat
  | [] => 0
  | x :: r => uptoBulkEntry x + uptoBulkEntries r
def uptoBulkEntry {H : Type} : Lit × DataW H → Nat
  | (.string bytes, d) => bytes.length + uptoBulk d + 1
  | (_, d) => uptoBulk d + 1
 end
def uptoSmall : (H : Type) → List (DataW H) → Bool := fun _ ds => decide (uptoBulkAll ds ≤ 1048576)
def OpenSpec.upto (s : _root_.Go.ChangeSpec) : _root_.Go.OpenSpec := { _root_.Go.OpenSpec.ofChange s with cond := some uptoSmall }

/-- 'chicanelaw13.ConnAll', WHERE WHAT IT READS IS OF BULK AT MOST 1048576: true; the input reads as it did. -/
def connAllUptoRow : OpenClaim := { program := "ytdighjgcnaajgaagreat", sum := "14df92ee20ef62838f9923ce66f6f0d09efae3dbdebcdcb3ce5e1ba18ae952d0", func := "chicane/chicanelaw13.ConnAll", spec := "connAll", inPlace := ["slices.overlaps[*chicane/chain.part]"], unfollowed := true, recurses := true, named := ["math/bits.divideError", "math/bits.overflowError"], apart := false, narrowed := true }
def ConnAllUptoSaid : Prop := connAllUptoRow.holds Tryz.pinned (OpenSpec.upto connAllSpec)

/-- 'chicanelaw13.ConnBroken', WHERE WHAT IT READS IS OF BULK AT MOST 1048576: true; the input reads as it did. -/
def connBrokenUptoRow : OpenClaim := { program := "ytdighjgcnaajgaagreat", sum := "14df92ee20ef62838f9923ce66f6f0d09efae3dbdebcdcb3ce5e1ba18ae952d0", func := "chicane/chicanelaw13.ConnBroken", spec := "connBroken", inPlace := ["slices.overlaps[*chicane/chain.part]"], unfollowed := true, recurses := true, named := ["math/bits.divideError", "math/bits.overflowError"], apart := false, narrowed := true }
def ConnBrokenUptoSaid : Prop := connBrokenUptoRow.holds Tryz.pinned (OpenSpec.upto connBrokenSpec)

/-- 'chicanelaw13.ConnKeeps', WHERE WHAT IT READS IS OF BULK AT MOST 1048576: true; the input reads as it did. -/
def connKeepsUptoRow : OpenClaim := { program := "ytdighjgcnaajgaagreat", sum := "14df92ee20ef62838f9923ce66f6f0d09efae3dbdebcdcb3ce5e1ba18ae952d0", func := "chicane/chicanelaw13.ConnKeeps", spec := "connKeeps", inPlace := ["slices.overlaps[*chicane/chain.part]"], unfollowed := true, recurses := true, named := ["math/bits.divideError", "math/bits.overflowError"], apart := false, narrowed := true }
def ConnKeepsUptoSaid : Prop := connKeepsUptoRow.holds Tryz.pinned (OpenSpec.upto connKeepsSpec)

/-- 'chicanelaw13.ConnApart', WHERE WHAT IT READS IS OF BULK AT MOST 1048576: true; the input reads as it did. -/
def connApartUptoRow : OpenClaim := { program := "ytdighjgcnaajgaagreat", sum := "14df92ee20ef62838f9923ce66f6f0d09efae3dbdebcdcb3ce5e1ba18ae952d0", func := "chicane/chicanelaw13.ConnApart", spec := "connApart", inPlace := ["slices.overlaps[*chicane/chain.part]"], unfollowed := true, recurses := true, named := ["math/bits.divideError", "math/bits.overflowError"], apart := false, narrowed := true }
def ConnApartUptoSaid : Prop := connApartUptoRow.holds Tryz.pinned (OpenSpec.upto connApartSpec)

/-- 'chicanelaw13.ConnCopies', WHERE WHAT IT READS IS OF BULK AT MOST 1048576: true; the input reads as it did. -/
def connCopiesUptoRow : OpenClaim := { program := "ytdighjgcnaajgaagreat", sum := "14df92ee20ef62838f9923ce66f6f0d09efae3dbdebcdcb3ce5e1ba18ae952d0", func := "chicane/chicanelaw13.ConnCopies", spec := "connCopies", inPlace := ["slices.overlaps[*chicane/chain.part]"], unfollowed := true, recurses := true, named := ["math/bits.divideError", "math/bits.overflowError"], apart := false, narrowed := true }
def ConnCopiesUptoSaid : Prop := connCopiesUptoRow.holds Tryz.pinned (OpenSpec.upto connCopiesSpec)

/-- 'chicanelaw13.ConnNames', WHERE WHAT IT READS IS OF BULK AT MOST 1048576: true; the input reads as it did. -/
def connNamesUptoRow : OpenClaim := { program := "ytdighjgcnaajgaagreat", sum := "14df92ee20ef62838f9923ce66f6f0d09efae3dbdebcdcb3ce5e1ba18ae952d0", func := "chicane/chicanelaw13.ConnNames", spec := "connNames", inPlace := ["slices.overlaps[*chicane/chain.part]"], unfollowed := true, recurses := true, named := ["math/bits.divideError", "math/bits.overflowError"], apart := false, narrowed := true }
def ConnNamesUptoSaid : Prop := connNamesUptoRow.holds Tryz.pinned (OpenSpec.upto connNamesSpec)

/-- 'chicanelaw12.LinkAll', WHERE WHAT IT READS IS OF BULK AT MOST 1048576: true; the input reads as it did. -/
def linkAllUptoRow : OpenClaim := { program := "ytdighjgcnaajgaagreat", sum := "14df92ee20ef62838f9923ce66f6f0d09efae3dbdebcdcb3ce5e1ba18ae952d0", func := "chicane/chicanelaw12.LinkAll", spec := "linkAll", inPlace := ["slices.overlaps[*chicane/chain.part]"], unfollowed := true, recurses := true, named := ["math/bits.divideError", "math/bits.overflowError"], apart := false, narrowed := true }
def LinkAllUptoSaid : Prop := linkAllUptoRow.holds Tryz.pinned (OpenSpec.upto linkAllSpec)

end Rows
end Go.Proofs.YtdighjgcnaajgaaGreat
