/-
  No cell of these rows narrows 'for every input' (looked for: loops, veiled, ifaces, maps, wideKeys, modest, calm, conditions, laid).
  DERIVED. THE GIVEN ROWS OF THIS SEAT. 7 by the template 'for every input the law returns true; each argument reads behind the call as it read before'; 0 by the template 'total and deterministic' (their statements: YtmblgpejgdlakaaTotals.lean).
  GIVEN WITH THE SEED: the statements are not yours to turn. If you find one false, say at which input.
  Laid BY PROGRAM, IN A SANDBOX (cutbox-rows.mjs): the forced cells as the released guide's own fill.sh prints them over the translation c88db7c3d2462304… (all of the seat's roots in one cut). By AI agents, Wed Nov 11 2026. No macro, syntax, notation, axiom, sorry.
-/
import Derived.Test.YtmblgpejgdlakaaChecked
import GoSem.Claim
import GoSem.ClaimJoined
import GoSem.ClaimMapViews
import Derived.JoinedTies
import Derived.KernelRfl
namespace Go.Proofs.Ytmblgpejgdlakaa
/- THE CELL 'sum', in the pinned program and in every row, IS THE sha256 OF THE DUMP (.gsa) THAT YtmblgpejgdlakaaProg.lean LOADS. Nothing in Lean hashes anything: it is a label: what it is worth is what the hold of that sum in a sandbox is worth. -/
noncomputable def Try.pinned : Pinned := { name := "ytmblgpejgdlakaa", sum := "c88db7c3d246230493ec665add7a490eae598497fb350ed2ab25120ba2d76cbb", checked := Try.checked }
namespace Rows
def none {H : Type} : Left H := { results := [], args := [] }

/-- 'chicanelaw07.CargoAll': WHATEVER THE INPUT: true; the input reads as it did. -/
def cargoAllSpec : ChangeSpec := { name := "cargoAll", fn := fun _ => fun
  | [d] => { results := [.lit (.bool true)], args := [d] }
  | _ => none }
def cargoAllRow : OpenClaim := { program := "ytmblgpejgdlakaa", sum := "c88db7c3d246230493ec665add7a490eae598497fb350ed2ab25120ba2d76cbb", func := "chicane/chicanelaw07.CargoAll", spec := "cargoAll", unfollowed := true, recurses := true, apart := false }
def CargoAllSaid : Prop := cargoAllRow.holds Try.pinned (OpenSpec.ofChange cargoAllSpec)

/-- ITS FALSE NEIGHBOUR: 'it returns false'. Refute it at one input. -/
def cargoAllWrong : ChangeSpec := { name := "cargoAll", fn := fun _ => fun
  | [d] => { results := [.lit (.bool false)], args := [d] }
  | _ => none }
def CargoAllWrongFalsely : Prop := cargoAllRow.holds Try.pinned (OpenSpec.ofChange cargoAllWrong)

/-- 'chicanelaw07.CargoKeeps': WHATEVER THE INPUT: true; the input reads as it did. -/
def cargoKeepsSpec : ChangeSpec := { name := "cargoKeeps", fn := fun _ => fun
  | [d] => { results := [.lit (.bool true)], args := [d] }
  | _ => none }
def cargoKeepsRow : OpenClaim := { program := "ytmblgpejgdlakaa", sum := "c88db7c3d246230493ec665add7a490eae598497fb350ed2ab25120ba2d76cbb", func := "chicane/chicanelaw07.CargoKeeps", spec := "cargoKeeps", unfollowed := true, recurses := true, apart := false }
def CargoKeepsSaid : Prop := cargoKeepsRow.holds Try.pinned (OpenSpec.ofChange cargoKeepsSpec)

/-- ITS FALSE NEIGHBOUR: 'it returns false'. Refute it at one input. -/
def cargoKeepsWrong : ChangeSpec := { name := "cargoKeeps", fn := fun _ => fun
  | [d] => { results := [.lit (.bool false)], args := [d] }
  | _ => none }
def CargoKeepsWrongFalsely : Prop := cargoKeepsRow.holds Try.pinned (OpenSpec.ofChange cargoKeepsWrong)

/-- 'chicanelaw07.CargoEarly': WHATEVER THE INPUT: true; the input reads as it did. -/
def cargoEarlySpec : ChangeSpec := { name := "cargoEarly", fn := fun _ => fun
  | [d1, d2] => { results := [.lit (.bool true)], args := [d1, d2] }
  | _ => none }
def cargoEarlyRow : OpenClaim := { program := "ytmblgpejgdlakaa", sum := "c88db7c3d246230493ec665add7a490eae598497fb350ed2ab25120ba2d76cbb", func := "chicane/chicanelaw07.CargoEarly", spec := "cargoEarly", unfollowed := true, recurses := true, apart := false }
def CargoEarlySaid : Prop := cargoEarlyRow.holds Try.pinned (OpenSpec.ofChange cargoEarlySpec)

/-- ITS FALSE NEIGHBOUR: 'it returns false'. Refute it at one input. -/
def cargoEarlyWrong : ChangeSpec := { name := "cargoEarly", fn := fun _ => fun
  | [d1, d2] => { results := [.lit (.bool false)], args := [d1, d2] }
  | _ => none }
def CargoEarlyWrongFalsely : Prop := cargoEarlyRow.holds Try.pinned (OpenSpec.ofChange cargoEarlyWrong)

/-- 'chicanelaw07.CargoTicks': WHATEVER THE INPUT: true; the input reads as it did. -/
def cargoTicksSpec : ChangeSpec := { name := "cargoTicks", fn := fun _ => fun
  | [d] => { results := [.lit (.bool true)], args := [d] }
  | _ => none }
def cargoTicksRow : OpenClaim := { program := "ytmblgpejgdlakaa", sum := "c88db7c3d246230493ec665add7a490eae598497fb350ed2ab25120ba2d76cbb", func := "chicane/chicanelaw07.CargoTicks", spec := "cargoTicks", unfollowed := true, recurses := true, apart := false }
def CargoTicksSaid : Prop := cargoTicksRow.holds Try.pinned (OpenSpec.ofChange cargoTicksSpec)

/-- ITS FALSE NEIGHBOUR: 'it returns false'. Refute it at one input. -/
def cargoTicksWrong : ChangeSpec := { name := "cargoTicks", fn := fun _ => fun
  | [d] => { results := [.lit (.bool false)], args := [d] }
  | _ => none }
def CargoTicksWrongFalsely : Prop := cargoTicksRow.holds Try.pinned (OpenSpec.ofChange cargoTicksWrong)

/-- 'chicanelaw07.CargoParts': WHATEVER THE INPUT: true; the input reads as it did. -/
def cargoPartsSpec : ChangeSpec := { name := "cargoParts", fn := fun _ => fun
  | [d1, d2, d3] => { results := [.lit (.bool true)], args := [d1, d2, d3] }
  | _ => none }
def cargoPartsRow : OpenClaim := { program := "ytmblgpejgdlakaa", sum := "c88db7c3d246230493ec665add7a490eae598497fb350ed2ab25120ba2d76cbb", func := "chicane/chicanelaw07.CargoParts", spec := "cargoParts", unfollowed := true, recurses := true, apart := false }
def CargoPartsSaid : Prop := cargoPartsRow.holds Try.pinned (OpenSpec.ofChange cargoPartsSpec)

/-- ITS FALSE NEIGHBOUR: 'it returns false'. Refute it at one input. -/
def cargoPartsWrong : ChangeSpec := { name := "cargoParts", fn := fun _ => fun
  | [d1, d2, d3] => { results := [.lit (.bool false)], args := [d1, d2, d3] }
  | _ => none }
def CargoPartsWrongFalsely : Prop := cargoPartsRow.holds Try.pinned (OpenSpec.ofChange cargoPartsWrong)

/-- 'chicanelaw07.CargoCopies': WHATEVER THE INPUT: true; the input reads as it did. -/
def cargoCopiesSpec : ChangeSpec := { name := "cargoCopies", fn := fun _ => fun
  | [d1, d2] => { results := [.lit (.bool true)], args := [d1, d2] }
  | _ => none }
def cargoCopiesRow : OpenClaim := { program := "ytmblgpejgdlakaa", sum := "c88db7c3d246230493ec665add7a490eae598497fb350ed2ab25120ba2d76cbb", func := "chicane/chicanelaw07.CargoCopies", spec := "cargoCopies", unfollowed := true, recurses := true, apart := false }
def CargoCopiesSaid : Prop := cargoCopiesRow.holds Try.pinned (OpenSpec.ofChange cargoCopiesSpec)

/-- ITS FALSE NEIGHBOUR: 'it returns false'. Refute it at one input. -/
def cargoCopiesWrong : ChangeSpec := { name := "cargoCopies", fn := fun _ => fun
  | [d1, d2] => { results := [.lit (.bool false)], args := [d1, d2] }
  | _ => none }
def CargoCopiesWrongFalsely : Prop := cargoCopiesRow.holds Try.pinned (OpenSpec.ofChange cargoCopiesWrong)

/-- 'chicanelaw07.CargoHurries': WHATEVER THE INPUT: true; the input reads as it did. -/
def cargoHurriesSpec : ChangeSpec := { name := "cargoHurries", fn := fun _ => fun
  | [d1, d2, d3] => { results := [.lit (.bool true)], args := [d1, d2, d3] }
  | _ => none }
def cargoHurriesRow : OpenClaim := { program := "ytmblgpejgdlakaa", sum := "c88db7c3d246230493ec665add7a490eae598497fb350ed2ab25120ba2d76cbb", func := "chicane/chicanelaw07.CargoHurries", spec := "cargoHurries", unfollowed := true, recurses := true, apart := false }
def CargoHurriesSaid : Prop := cargoHurriesRow.holds Try.pinned (OpenSpec.ofChange cargoHurriesSpec)

/-- ITS FALSE NEIGHBOUR: 'it returns false'. Refute it at one input. -/
def cargoHurriesWrong : ChangeSpec := { name := "cargoHurries", fn := fun _ => fun
  | [d1, d2, d3] => { results := [.lit (.bool false)], args := [d1, d2, d3] }
  | _ => none }
def CargoHurriesWrongFalsely : Prop := cargoHurriesRow.holds Try.pinned (OpenSpec.ofChange cargoHurriesWrong)

/- THE SECOND FORM. 'bulk': how many values and letters a reading holds, each counted each time it is reached (what is shared counts as often as it is met; a slice's spare places count too). A statement '..UptoSaid' is the law's where the arguments, and the package variables that the reading takes, are together of bulk at most 1048576: NARROWER than '..Said'. Prove '..Said' where nothing that the law and all that it calls make is longer than what came in: it says more and counts as full. Else prove '..UptoSaid'. A law counts once. -/
mutual
def uptoBulk {H : Type} : DataW H → Nat
  | .lit (.string bytes) => bytes.length + 1
  | .lit _ => 1
  | .nil => 1
  | .ptr d => uptoBulk d + 1
  | .slice elems spare => uptoBulkAll elems + uptoBulkAll spare + 1
  | .agg parts => uptoBulkAll parts + 1
  | .iface _ d => uptoBulk d + 1
  | .map entries => uptoBulkEntries entries + 1
  | .held _ => 1
def uptoBulkAll {H : Type} : List (DataW H) → Nat
  | [] => 0
  | d :: r => uptoBulk d + uptoBulkAll r
def uptoBulkEntries {H : Type} : List (Lit × DataW H) → Nat
  | [] => 0
  | x :: r => uptoBulkEntry x + uptoBulkEntries r
def uptoBulkEntry {H : Type} : Lit × DataW H → Nat
  | (.string bytes, d) => bytes.length + uptoBulk d + 1
  | (_, d) => uptoBulk d + 1
 end
def uptoSmall : (H : Type) → List (DataW H) → Bool := fun _ ds => decide (uptoBulkAll ds ≤ 1048576)
def OpenSpec.upto (s : _root_.Go.ChangeSpec) : _root_.Go.OpenSpec := { _root_.Go.OpenSpec.ofChange s with cond := some uptoSmall }

/-- 'chicanelaw07.CargoAll', WHERE WHAT IT READS IS OF BULK AT MOST 1048576: true; the input reads as it did. -/
def cargoAllUptoRow : OpenClaim := { program := "ytmblgpejgdlakaa", sum := "c88db7c3d246230493ec665add7a490eae598497fb350ed2ab25120ba2d76cbb", func := "chicane/chicanelaw07.CargoAll", spec := "cargoAll", unfollowed := true, recurses := true, apart := false, narrowed := true }
def CargoAllUptoSaid : Prop := cargoAllUptoRow.holds Try.pinned (OpenSpec.upto cargoAllSpec)

/-- 'chicanelaw07.CargoKeeps', WHERE WHAT IT READS IS OF BULK AT MOST 1048576: true; the input reads as it did. -/
def cargoKeepsUptoRow : OpenClaim := { program := "ytmblgpejgdlakaa", sum := "c88db7c3d246230493ec665add7a490eae598497fb350ed2ab25120ba2d76cbb", func := "chicane/chicanelaw07.CargoKeeps", spec := "cargoKeeps", unfollowed := true, recurses := true, apart := false, narrowed := true }
def CargoKeepsUptoSaid : Prop := cargoKeepsUptoRow.holds Try.pinned (OpenSpec.upto cargoKeepsSpec)

/-- 'chicanelaw07.CargoEarly', WHERE WHAT IT READS IS OF BULK AT MOST 1048576: true; the input reads as it did. -/
def cargoEarlyUptoRow : OpenClaim := { program := "ytmblgpejgdlakaa", sum := "c88db7c3d246230493ec665add7a490eae598497fb350ed2ab25120ba2d76cbb", func := "chicane/chicanelaw07.CargoEarly", spec := "cargoEarly", unfollowed := true, recurses := true, apart := false, narrowed := true }
def CargoEarlyUptoSaid : Prop := cargoEarlyUptoRow.holds Try.pinned (OpenSpec.upto cargoEarlySpec)

/-- 'chicanelaw07.CargoTicks', WHERE WHAT IT READS IS OF BULK AT MOST 1048576: true; the input reads as it did. -/
def cargoTicksUptoRow : OpenClaim := { program := "ytmblgpejgdlakaa", sum := "c88db7c3d246230493ec665add7a490eae598497fb350ed2ab25120ba2d76cbb", func := "chicane/chicanelaw07.CargoTicks", spec := "cargoTicks", unfollowed := true, recurses := true, apart := false, narrowed := true }
def CargoTicksUptoSaid : Prop := cargoTicksUptoRow.holds Try.pinned (OpenSpec.upto cargoTicksSpec)

/-- 'chicanelaw07.CargoParts', WHERE WHAT IT READS IS OF BULK AT MOST 1048576: true; the input reads as it did. -/
def cargoPartsUptoRow : OpenClaim := { program := "ytmblgpejgdlakaa", sum := "c88db7c3d246230493ec665add7a490eae598497fb350ed2ab25120ba2d76cbb", func := "chicane/chicanelaw07.CargoParts", spec := "cargoParts", unfollowed := true, recurses := true, apart := false, narrowed := true }
def CargoPartsUptoSaid : Prop := cargoPartsUptoRow.holds Try.pinned (OpenSpec.upto cargoPartsSpec)

/-- 'chicanelaw07.CargoCopies', WHERE WHAT IT READS IS OF BULK AT MOST 1048576: true; the input reads as it did. -/
def cargoCopiesUptoRow : OpenClaim := { program := "ytmblgpejgdlakaa", sum := "c88db7c3d246230493ec665add7a490eae598497fb350ed2ab25120ba2d76cbb", func := "chicane/chicanelaw07.CargoCopies", spec := "cargoCopies", unfollowed := true, recurses := true, apart := false, narrowed := true }
def CargoCopiesUptoSaid : Prop := cargoCopiesUptoRow.holds Try.pinned (OpenSpec.upto cargoCopiesSpec)

/-- 'chicanelaw07.CargoHurries', WHERE WHAT IT READS IS OF BULK AT MOST 1048576: true; the input reads as it did. -/
def cargoHurriesUptoRow : OpenClaim := { program := "ytmblgpejgdlakaa", sum := "c88db7c3d246230493ec665add7a490eae598497fb350ed2ab25120ba2d76cbb", func := "chicane/chicanelaw07.CargoHurries", spec := "cargoHurries", unfollowed := true, recurses := true, apart := false, narrowed := true }
def CargoHurriesUptoSaid : Prop := cargoHurriesUptoRow.holds Try.pinned (OpenSpec.upto cargoHurriesSpec)

end Rows
end Go.Proofs.Ytmblgpejgdlakaa
