/-
  DERIVED. GIVEN WITH THE SEED: THE CARDS: each row of YthlpdhhifjjofaaDoorRows.lean that lists a variable, with what it lists TIED to the program's text (the seventh form; the later family's looks); each row that meets fmt, with fmt's text TOLD by the authors' own Lean function (tested against real Go, not proved from fmt's source: count such statements apart). THE CARD IS WHAT COUNTS. Prove the row's statement (the work); the ties are given (YthlpdhhifjjofaaDoorTie.lean); close each card by the builder's one call (the guide's Derived/Test/ToyasCard.lean, 'card_holds'). Laid BY PROGRAM, IN A SANDBOX (cutbox-door.mjs). By AI agents, Wed Nov 11 2026. No macro, syntax, notation, axiom, sorry.
-/
import Derived.Test.YthlpdhhifjjofaaDoorRows
import GoSem.ClaimSeven
namespace Go.Proofs.YthlpdhhifjjofaaDoor
namespace Rows

/-- THE TIED CARD OF 'chicanelaw09.ToxicChecks'. -/
def toxicChecksCard : Claim7 := { stood := { row := toxicChecksRow, standIns := [], harness := (true, "9de365177e4482786892bd1c2900b6550428b02e474135555b95497ac3d918dc"), looks := false }, kinds := [], alts := [], laidByText := true, laidKinds := [.data, .data, .data, .data, .pinned], laidTests := true, laidLooks := .later }
def ToxicChecksCardSaid : Prop := Claim7.holds Tryd.pinned (.plain (OpenSpec.ofChange toxicChecksSpec)) toxicChecksCard

/-- THE TIED CARD OF 'chicanelaw09.ToxicReads'. -/
def toxicReadsCard : Claim7 := { stood := { row := toxicReadsRow, standIns := [], harness := (true, "9de365177e4482786892bd1c2900b6550428b02e474135555b95497ac3d918dc"), looks := false }, kinds := [], alts := [], laidByText := true, laidKinds := [.data, .data, .data, .data, .pinned], laidTests := true, laidLooks := .later }
def ToxicReadsCardSaid : Prop := Claim7.holds Tryd.pinned (.plain (OpenSpec.ofChange toxicReadsSpec)) toxicReadsCard

/-- THE TIED CARD OF 'chicanelaw09.ToxicBack'. -/
def toxicBackCard : Claim7 := { stood := { row := toxicBackRow, standIns := [], harness := (true, "9de365177e4482786892bd1c2900b6550428b02e474135555b95497ac3d918dc"), looks := false }, kinds := [], alts := [], laidByText := true, laidKinds := [.data, .data, .data, .data, .pinned], laidTests := true, laidLooks := .later }
def ToxicBackCardSaid : Prop := Claim7.holds Tryd.pinned (.plain (OpenSpec.ofChange toxicBackSpec)) toxicBackCard

/-- THE TIED CARD OF 'chicanelaw09.ToxicKinds'. -/
def toxicKindsCard : Claim7 := { stood := { row := toxicKindsRow, standIns := [], harness := (true, "9de365177e4482786892bd1c2900b6550428b02e474135555b95497ac3d918dc"), looks := false }, kinds := [], alts := [], laidByText := true, laidKinds := [.data, .data, .data, .data, .pinned], laidTests := true, laidLooks := .later }
def ToxicKindsCardSaid : Prop := Claim7.holds Tryd.pinned (.plain (OpenSpec.ofChange toxicKindsSpec)) toxicKindsCard

/-- THE TIED CARD OF 'chicanelaw09.ToxicOften'. -/
def toxicOftenCard : Claim7 := { stood := { row := toxicOftenRow, standIns := [], harness := (true, "9de365177e4482786892bd1c2900b6550428b02e474135555b95497ac3d918dc"), looks := false }, kinds := [], alts := [], laidByText := true, laidKinds := [.data, .data, .data, .data, .pinned], laidTests := true, laidLooks := .later }
def ToxicOftenCardSaid : Prop := Claim7.holds Tryd.pinned (.plain (OpenSpec.ofChange toxicOftenSpec)) toxicOftenCard

/-- THE TIED CARD OF 'chicanelaw09.ToxicNames'. -/
def toxicNamesCard : Claim7 := { stood := { row := toxicNamesRow, standIns := [], harness := (true, "9de365177e4482786892bd1c2900b6550428b02e474135555b95497ac3d918dc"), looks := false }, kinds := [], alts := [], laidByText := true, laidKinds := [.data, .data, .data, .data, .pinned], laidTests := true, laidLooks := .later }
def ToxicNamesCardSaid : Prop := Claim7.holds Tryd.pinned (.plain (OpenSpec.ofChange toxicNamesSpec)) toxicNamesCard

/-- THE SECOND FORM's CARD OF 'chicanelaw09.ToxicChecks'. -/
def toxicChecksUptoCard : Claim7 := { stood := { row := toxicChecksUptoRow, standIns := [], harness := (true, "9de365177e4482786892bd1c2900b6550428b02e474135555b95497ac3d918dc"), looks := false }, kinds := [], alts := [], laidByText := true, laidKinds := [.data, .data, .data, .data, .pinned], laidTests := true, laidLooks := .later }
def ToxicChecksUptoCardSaid : Prop := Claim7.holds Tryd.pinned (.plain (OpenSpec.upto toxicChecksSpec)) toxicChecksUptoCard

/-- THE SECOND FORM's CARD OF 'chicanelaw09.ToxicReads'. -/
def toxicReadsUptoCard : Claim7 := { stood := { row := toxicReadsUptoRow, standIns := [], harness := (true, "9de365177e4482786892bd1c2900b6550428b02e474135555b95497ac3d918dc"), looks := false }, kinds := [], alts := [], laidByText := true, laidKinds := [.data, .data, .data, .data, .pinned], laidTests := true, laidLooks := .later }
def ToxicReadsUptoCardSaid : Prop := Claim7.holds Tryd.pinned (.plain (OpenSpec.upto toxicReadsSpec)) toxicReadsUptoCard

/-- THE SECOND FORM's CARD OF 'chicanelaw09.ToxicBack'. -/
def toxicBackUptoCard : Claim7 := { stood := { row := toxicBackUptoRow, standIns := [], harness := (true, "9de365177e4482786892bd1c2900b6550428b02e474135555b95497ac3d918dc"), looks := false }, kinds := [], alts := [], laidByText := true, laidKinds := [.data, .data, .data, .data, .pinned], laidTests := true, laidLooks := .later }
def ToxicBackUptoCardSaid : Prop := Claim7.holds Tryd.pinned (.plain (OpenSpec.upto toxicBackSpec)) toxicBackUptoCard

/-- THE SECOND FORM's CARD OF 'chicanelaw09.ToxicKinds'. -/
def toxicKindsUptoCard : Claim7 := { stood := { row := toxicKindsUptoRow, standIns := [], harness := (true, "9de365177e4482786892bd1c2900b6550428b02e474135555b95497ac3d918dc"), looks := false }, kinds := [], alts := [], laidByText := true, laidKinds := [.data, .data, .data, .data, .pinned], laidTests := true, laidLooks := .later }
def ToxicKindsUptoCardSaid : Prop := Claim7.holds Tryd.pinned (.plain (OpenSpec.upto toxicKindsSpec)) toxicKindsUptoCard

/-- THE SECOND FORM's CARD OF 'chicanelaw09.ToxicOften'. -/
def toxicOftenUptoCard : Claim7 := { stood := { row := toxicOftenUptoRow, standIns := [], harness := (true, "9de365177e4482786892bd1c2900b6550428b02e474135555b95497ac3d918dc"), looks := false }, kinds := [], alts := [], laidByText := true, laidKinds := [.data, .data, .data, .data, .pinned], laidTests := true, laidLooks := .later }
def ToxicOftenUptoCardSaid : Prop := Claim7.holds Tryd.pinned (.plain (OpenSpec.upto toxicOftenSpec)) toxicOftenUptoCard

/-- THE SECOND FORM's CARD OF 'chicanelaw09.ToxicNames'. -/
def toxicNamesUptoCard : Claim7 := { stood := { row := toxicNamesUptoRow, standIns := [], harness := (true, "9de365177e4482786892bd1c2900b6550428b02e474135555b95497ac3d918dc"), looks := false }, kinds := [], alts := [], laidByText := true, laidKinds := [.data, .data, .data, .data, .pinned], laidTests := true, laidLooks := .later }
def ToxicNamesUptoCardSaid : Prop := Claim7.holds Tryd.pinned (.plain (OpenSpec.upto toxicNamesSpec)) toxicNamesUptoCard
end Rows
end Go.Proofs.YthlpdhhifjjofaaDoor
