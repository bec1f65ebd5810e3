/-
  DERIVED. GIVEN WITH THE SEED: THE CARDS: each row of YtmghkcjljnlocaaDoorRows.lean that lists a variable, with what it lists TIED to the program's text (the seventh form; the later family's looks); each row that meets fmt, with fmt's text TOLD by the authors' own Lean function (tested against real Go, not proved from fmt's source: count such statements apart). THE CARD IS WHAT COUNTS. Prove the row's statement (the work); the ties are given (YtmghkcjljnlocaaDoorTie.lean); close each card by the builder's one call (the guide's Derived/Test/ToyasCard.lean, 'card_holds'). Laid BY PROGRAM, IN A SANDBOX (cutbox-door.mjs). By AI agents, Wed Nov 11 2026. No macro, syntax, notation, axiom, sorry.
-/
import Derived.Test.YtmghkcjljnlocaaDoorRows
import GoSem.ClaimSeven
namespace Go.Proofs.YtmghkcjljnlocaaDoor
namespace Rows

/-- THE TIED CARD OF 'chicanelaw14.NamesFinds'. -/
def namesFindsCard : Claim7 := { stood := { row := namesFindsRow, standIns := [], harness := (true, "dceefb1f9c5fdd9e7cba21bbc9f18191d4f8c823764e107ff1ec7994f64741dc"), looks := false }, kinds := [], alts := [], laidByText := true, laidKinds := [.data, .data, .data], laidTests := true, laidLooks := .later }
def NamesFindsCardSaid : Prop := Claim7.holds Tryd.pinned (.plain (OpenSpec.ofChange namesFindsSpec)) namesFindsCard

/-- THE SECOND FORM's CARD OF 'chicanelaw14.NamesFinds'. -/
def namesFindsUptoCard : Claim7 := { stood := { row := namesFindsUptoRow, standIns := [], harness := (true, "dceefb1f9c5fdd9e7cba21bbc9f18191d4f8c823764e107ff1ec7994f64741dc"), looks := false }, kinds := [], alts := [], laidByText := true, laidKinds := [.data, .data, .data], laidTests := true, laidLooks := .later }
def NamesFindsUptoCardSaid : Prop := Claim7.holds Tryd.pinned (.plain (OpenSpec.upto namesFindsSpec)) namesFindsUptoCard
end Rows
end Go.Proofs.YtmghkcjljnlocaaDoor
