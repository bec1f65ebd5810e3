/-
  DERIVED. GIVEN WITH THE SEED: THE CARDS: each row of YtmghkcjljnlocaaGreatDoorRows.lean that lists a variable, with what it lists TIED to the program's text (the seventh form; the later family's looks); each row that meets fmt, with fmt's text TOLD by the authors' own Lean function (tested against real Go, not proved from fmt's source: count such statements apart). THE CARD IS WHAT COUNTS. Prove the row's statement (the work); the ties are given (YtmghkcjljnlocaaGreatDoorTie.lean); close each card by the builder's one call (the guide's Derived/Test/ToyasCard.lean, 'card_holds'). Laid BY PROGRAM, IN A SANDBOX (cutbox-door.mjs). By AI agents, Wed Nov 11 2026. No macro, syntax, notation, axiom, sorry.
-/
import Derived.Test.YtmghkcjljnlocaaGreatDoorRows
import GoSem.ClaimSeven
namespace Go.Proofs.YtmghkcjljnlocaaGreatDoor
namespace Rows

/-- THE TIED CARD OF 'chicanelaw14.NamesAll'. -/
def namesAllCard : Claim7 := { stood := { row := namesAllRow, standIns := [], harness := (true, "06e178cc40b2714e4d79c777725fa37d5d042d3d7d340964e0b6261d0550b9cc"), looks := false }, kinds := [], alts := [], laidByText := true, laidKinds := [.data, .data, .data], laidTests := true, laidLooks := .later }
def NamesAllCardSaid : Prop := Claim7.holds Tryz.pinned (.plain (OpenSpec.ofChange namesAllSpec)) namesAllCard

/-- THE TIED CARD OF 'chicanelaw14.NamesChecks'. -/
def namesChecksCard : Claim7 := { stood := { row := namesChecksRow, standIns := [], harness := (true, "06e178cc40b2714e4d79c777725fa37d5d042d3d7d340964e0b6261d0550b9cc"), looks := false }, kinds := [], alts := [], laidByText := true, laidKinds := [.data, .data, .data], laidTests := true, laidLooks := .later }
def NamesChecksCardSaid : Prop := Claim7.holds Tryz.pinned (.plain (OpenSpec.ofChange namesChecksSpec)) namesChecksCard

/-- THE TIED CARD OF 'chicanelaw14.NamesScripts'. -/
def namesScriptsCard : Claim7 := { stood := { row := namesScriptsRow, standIns := [], harness := (true, "06e178cc40b2714e4d79c777725fa37d5d042d3d7d340964e0b6261d0550b9cc"), looks := false }, kinds := [], alts := [], laidByText := true, laidKinds := [.data, .data, .data], laidTests := true, laidLooks := .later }
def NamesScriptsCardSaid : Prop := Claim7.holds Tryz.pinned (.plain (OpenSpec.ofChange namesScriptsSpec)) namesScriptsCard

/-- THE TIED CARD OF 'chicanelaw14.NamesOne'. -/
def namesOneCard : Claim7 := { stood := { row := namesOneRow, standIns := [], harness := (true, "06e178cc40b2714e4d79c777725fa37d5d042d3d7d340964e0b6261d0550b9cc"), looks := false }, kinds := [], alts := [], laidByText := true, laidKinds := [.data, .data, .data], laidTests := true, laidLooks := .later }
def NamesOneCardSaid : Prop := Claim7.holds Tryz.pinned (.plain (OpenSpec.ofChange namesOneSpec)) namesOneCard

/-- THE TIED CARD OF 'chicanelaw14.NamesOwn'. -/
def namesOwnCard : Claim7 := { stood := { row := namesOwnRow, standIns := [], harness := (true, "06e178cc40b2714e4d79c777725fa37d5d042d3d7d340964e0b6261d0550b9cc"), looks := false }, kinds := [], alts := [], laidByText := true, laidKinds := [.data, .data, .data], laidTests := true, laidLooks := .later }
def NamesOwnCardSaid : Prop := Claim7.holds Tryz.pinned (.plain (OpenSpec.ofChange namesOwnSpec)) namesOwnCard

/-- THE TIED CARD OF 'chicanelaw14.NamesBack'. -/
def namesBackCard : Claim7 := { stood := { row := namesBackRow, standIns := [], harness := (true, "06e178cc40b2714e4d79c777725fa37d5d042d3d7d340964e0b6261d0550b9cc"), looks := false }, kinds := [], alts := [], laidByText := true, laidKinds := [.data, .data, .data], laidTests := true, laidLooks := .later }
def NamesBackCardSaid : Prop := Claim7.holds Tryz.pinned (.plain (OpenSpec.ofChange namesBackSpec)) namesBackCard

/-- THE SECOND FORM's CARD OF 'chicanelaw14.NamesAll'. -/
def namesAllUptoCard : Claim7 := { stood := { row := namesAllUptoRow, standIns := [], harness := (true, "06e178cc40b2714e4d79c777725fa37d5d042d3d7d340964e0b6261d0550b9cc"), looks := false }, kinds := [], alts := [], laidByText := true, laidKinds := [.data, .data, .data], laidTests := true, laidLooks := .later }
def NamesAllUptoCardSaid : Prop := Claim7.holds Tryz.pinned (.plain (OpenSpec.upto namesAllSpec)) namesAllUptoCard

/-- THE SECOND FORM's CARD OF 'chicanelaw14.NamesChecks'. -/
def namesChecksUptoCard : Claim7 := { stood := { row := namesChecksUptoRow, standIns := [], harness := (true, "06e178cc40b2714e4d79c777725fa37d5d042d3d7d340964e0b6261d0550b9cc"), looks := false }, kinds := [], alts := [], laidByText := true, laidKinds := [.data, .data, .data], laidTests := true, laidLooks := .later }
def NamesChecksUptoCardSaid : Prop := Claim7.holds Tryz.pinned (.plain (OpenSpec.upto namesChecksSpec)) namesChecksUptoCard

/-- THE SECOND FORM's CARD OF 'chicanelaw14.NamesScripts'. -/
def namesScriptsUptoCard : Claim7 := { stood := { row := namesScriptsUptoRow, standIns := [], harness := (true, "06e178cc40b2714e4d79c777725fa37d5d042d3d7d340964e0b6261d0550b9cc"), looks := false }, kinds := [], alts := [], laidByText := true, laidKinds := [.data, .data, .data], laidTests := true, laidLooks := .later }
def NamesScriptsUptoCardSaid : Prop := Claim7.holds Tryz.pinned (.plain (OpenSpec.upto namesScriptsSpec)) namesScriptsUptoCard

/-- THE SECOND FORM's CARD OF 'chicanelaw14.NamesOne'. -/
def namesOneUptoCard : Claim7 := { stood := { row := namesOneUptoRow, standIns := [], harness := (true, "06e178cc40b2714e4d79c777725fa37d5d042d3d7d340964e0b6261d0550b9cc"), looks := false }, kinds := [], alts := [], laidByText := true, laidKinds := [.data, .data, .data], laidTests := true, laidLooks := .later }
def NamesOneUptoCardSaid : Prop := Claim7.holds Tryz.pinned (.plain (OpenSpec.upto namesOneSpec)) namesOneUptoCard

/-- THE SECOND FORM's CARD OF 'chicanelaw14.NamesOwn'. -/
def namesOwnUptoCard : Claim7 := { stood := { row := namesOwnUptoRow, standIns := [], harness := (true, "06e178cc40b2714e4d79c777725fa37d5d042d3d7d340964e0b6261d0550b9cc"), looks := false }, kinds := [], alts := [], laidByText := true, laidKinds := [.data, .data, .data], laidTests := true, laidLooks := .later }
def NamesOwnUptoCardSaid : Prop := Claim7.holds Tryz.pinned (.plain (OpenSpec.upto namesOwnSpec)) namesOwnUptoCard

/-- THE SECOND FORM's CARD OF 'chicanelaw14.NamesBack'. -/
def namesBackUptoCard : Claim7 := { stood := { row := namesBackUptoRow, standIns := [], harness := (true, "06e178cc40b2714e4d79c777725fa37d5d042d3d7d340964e0b6261d0550b9cc"), looks := false }, kinds := [], alts := [], laidByText := true, laidKinds := [.data, .data, .data], laidTests := true, laidLooks := .later }
def NamesBackUptoCardSaid : Prop := Claim7.holds Tryz.pinned (.plain (OpenSpec.upto namesBackSpec)) namesBackUptoCard
end Rows
end Go.Proofs.YtmghkcjljnlocaaGreatDoor
