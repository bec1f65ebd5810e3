/-
  DERIVED. GIVEN WITH THE SEED: THE CARDS: each row of YtndplngdafnffaaDoorRows.lean that lists a variable, with what it lists TIED to the program's text (the seventh form; the later family's looks); each row that meets fmt, with fmt's text TOLD by the authors' own Lean function (tested against real Go, not proved from fmt's source: count such statements apart). THE CARD IS WHAT COUNTS. Prove the row's statement (the work); the ties are given (YtndplngdafnffaaDoorTie.lean); close each card by the builder's one call (the guide's Derived/Test/ToyasCard.lean, 'card_holds'). Laid BY PROGRAM, IN A SANDBOX (cutbox-door.mjs). By AI agents, Wed Nov 11 2026. No macro, syntax, notation, axiom, sorry.
-/
import Derived.Test.YtndplngdafnffaaDoorRows
import GoSem.ClaimSeven
namespace Go.Proofs.YtndplngdafnffaaDoor
namespace Rows

/-- THE TIED CARD OF 'chicanelaw01.TickSums'. -/
def tickSumsCard : Claim7 := { stood := { row := tickSumsRow, standIns := [], harness := (true, "ca3430d8718faabc5c593bf3454d6f77ebc41f37716f045fac4ced53e38d937f"), looks := false }, kinds := [], alts := [], laidByText := true, laidKinds := [.data, .data, .data], laidTests := true, laidLooks := .later }
def TickSumsCardSaid : Prop := Claim7.holds Tryd.pinned (.plain (OpenSpec.ofChange tickSumsSpec)) tickSumsCard

/-- THE TIED CARD OF 'chicanelaw01.TickShares'. -/
def tickSharesCard : Claim7 := { stood := { row := tickSharesRow, standIns := [], harness := (true, "ca3430d8718faabc5c593bf3454d6f77ebc41f37716f045fac4ced53e38d937f"), looks := false }, kinds := [], alts := [], laidByText := true, laidKinds := [.data, .data, .data], laidTests := true, laidLooks := .later }
def TickSharesCardSaid : Prop := Claim7.holds Tryd.pinned (.plain (OpenSpec.ofChange tickSharesSpec)) tickSharesCard

/-- THE TIED CARD OF 'chicanelaw01.TickTexts'. -/
def tickTextsCard : Claim7 := { stood := { row := tickTextsRow, standIns := [], harness := (true, "ca3430d8718faabc5c593bf3454d6f77ebc41f37716f045fac4ced53e38d937f"), looks := false }, kinds := [], alts := [], laidByText := true, laidKinds := [.data, .data, .data], laidTests := true, laidLooks := .later }
def TickTextsCardSaid : Prop := Claim7.holds Tryd.pinned (.plain (OpenSpec.ofChange tickTextsSpec)) tickTextsCard

/-- THE TIED CARD OF 'chicanelaw01.TickLeast'. -/
def tickLeastCard : Claim7 := { stood := { row := tickLeastRow, standIns := [], harness := (true, "ca3430d8718faabc5c593bf3454d6f77ebc41f37716f045fac4ced53e38d937f"), looks := false }, kinds := [], alts := [], laidByText := true, laidKinds := [.data, .data, .data], laidTests := true, laidLooks := .later }
def TickLeastCardSaid : Prop := Claim7.holds Tryd.pinned (.plain (OpenSpec.ofChange tickLeastSpec)) tickLeastCard

/-- THE TIED CARD OF 'chicanelaw01.TickOrder'. -/
def tickOrderCard : Claim7 := { stood := { row := tickOrderRow, standIns := [], harness := (true, "ca3430d8718faabc5c593bf3454d6f77ebc41f37716f045fac4ced53e38d937f"), looks := false }, kinds := [], alts := [], laidByText := true, laidKinds := [.data, .data, .data], laidTests := true, laidLooks := .later }
def TickOrderCardSaid : Prop := Claim7.holds Tryd.pinned (.plain (OpenSpec.ofChange tickOrderSpec)) tickOrderCard

/-- THE TIED CARD OF 'chicanelaw01.TickBack'. -/
def tickBackCard : Claim7 := { stood := { row := tickBackRow, standIns := [], harness := (true, "ca3430d8718faabc5c593bf3454d6f77ebc41f37716f045fac4ced53e38d937f"), looks := false }, kinds := [], alts := [], laidByText := true, laidKinds := [.data, .data, .data], laidTests := true, laidLooks := .later }
def TickBackCardSaid : Prop := Claim7.holds Tryd.pinned (.plain (OpenSpec.ofChange tickBackSpec)) tickBackCard

/-- THE TIED CARD OF 'chicanelaw01.TickUps'. -/
def tickUpsCard : Claim7 := { stood := { row := tickUpsRow, standIns := [], harness := (true, "ca3430d8718faabc5c593bf3454d6f77ebc41f37716f045fac4ced53e38d937f"), looks := false }, kinds := [], alts := [], laidByText := true, laidKinds := [.data, .data, .data], laidTests := true, laidLooks := .later }
def TickUpsCardSaid : Prop := Claim7.holds Tryd.pinned (.plain (OpenSpec.ofChange tickUpsSpec)) tickUpsCard

/-- THE SECOND FORM's CARD OF 'chicanelaw01.TickSums'. -/
def tickSumsUptoCard : Claim7 := { stood := { row := tickSumsUptoRow, standIns := [], harness := (true, "ca3430d8718faabc5c593bf3454d6f77ebc41f37716f045fac4ced53e38d937f"), looks := false }, kinds := [], alts := [], laidByText := true, laidKinds := [.data, .data, .data], laidTests := true, laidLooks := .later }
def TickSumsUptoCardSaid : Prop := Claim7.holds Tryd.pinned (.plain (OpenSpec.upto tickSumsSpec)) tickSumsUptoCard

/-- THE SECOND FORM's CARD OF 'chicanelaw01.TickShares'. -/
def tickSharesUptoCard : Claim7 := { stood := { row := tickSharesUptoRow, standIns := [], harness := (true, "ca3430d8718faabc5c593bf3454d6f77ebc41f37716f045fac4ced53e38d937f"), looks := false }, kinds := [], alts := [], laidByText := true, laidKinds := [.data, .data, .data], laidTests := true, laidLooks := .later }
def TickSharesUptoCardSaid : Prop := Claim7.holds Tryd.pinned (.plain (OpenSpec.upto tickSharesSpec)) tickSharesUptoCard

/-- THE SECOND FORM's CARD OF 'chicanelaw01.TickTexts'. -/
def tickTextsUptoCard : Claim7 := { stood := { row := tickTextsUptoRow, standIns := [], harness := (true, "ca3430d8718faabc5c593bf3454d6f77ebc41f37716f045fac4ced53e38d937f"), looks := false }, kinds := [], alts := [], laidByText := true, laidKinds := [.data, .data, .data], laidTests := true, laidLooks := .later }
def TickTextsUptoCardSaid : Prop := Claim7.holds Tryd.pinned (.plain (OpenSpec.upto tickTextsSpec)) tickTextsUptoCard

/-- THE SECOND FORM's CARD OF 'chicanelaw01.TickLeast'. -/
def tickLeastUptoCard : Claim7 := { stood := { row := tickLeastUptoRow, standIns := [], harness := (true, "ca3430d8718faabc5c593bf3454d6f77ebc41f37716f045fac4ced53e38d937f"), looks := false }, kinds := [], alts := [], laidByText := true, laidKinds := [.data, .data, .data], laidTests := true, laidLooks := .later }
def TickLeastUptoCardSaid : Prop := Claim7.holds Tryd.pinned (.plain (OpenSpec.upto tickLeastSpec)) tickLeastUptoCard

/-- THE SECOND FORM's CARD OF 'chicanelaw01.TickOrder'. -/
def tickOrderUptoCard : Claim7 := { stood := { row := tickOrderUptoRow, standIns := [], harness := (true, "ca3430d8718faabc5c593bf3454d6f77ebc41f37716f045fac4ced53e38d937f"), looks := false }, kinds := [], alts := [], laidByText := true, laidKinds := [.data, .data, .data], laidTests := true, laidLooks := .later }
def TickOrderUptoCardSaid : Prop := Claim7.holds Tryd.pinned (.plain (OpenSpec.upto tickOrderSpec)) tickOrderUptoCard

/-- THE SECOND FORM's CARD OF 'chicanelaw01.TickBack'. -/
def tickBackUptoCard : Claim7 := { stood := { row := tickBackUptoRow, standIns := [], harness := (true, "ca3430d8718faabc5c593bf3454d6f77ebc41f37716f045fac4ced53e38d937f"), looks := false }, kinds := [], alts := [], laidByText := true, laidKinds := [.data, .data, .data], laidTests := true, laidLooks := .later }
def TickBackUptoCardSaid : Prop := Claim7.holds Tryd.pinned (.plain (OpenSpec.upto tickBackSpec)) tickBackUptoCard

/-- THE SECOND FORM's CARD OF 'chicanelaw01.TickUps'. -/
def tickUpsUptoCard : Claim7 := { stood := { row := tickUpsUptoRow, standIns := [], harness := (true, "ca3430d8718faabc5c593bf3454d6f77ebc41f37716f045fac4ced53e38d937f"), looks := false }, kinds := [], alts := [], laidByText := true, laidKinds := [.data, .data, .data], laidTests := true, laidLooks := .later }
def TickUpsUptoCardSaid : Prop := Claim7.holds Tryd.pinned (.plain (OpenSpec.upto tickUpsSpec)) tickUpsUptoCard
end Rows
end Go.Proofs.YtndplngdafnffaaDoor
