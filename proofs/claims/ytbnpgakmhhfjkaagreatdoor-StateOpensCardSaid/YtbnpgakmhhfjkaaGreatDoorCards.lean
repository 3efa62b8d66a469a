/-
  DERIVED. GIVEN WITH THE SEED: THE CARDS: each row of YtbnpgakmhhfjkaaGreatDoorRows.lean that lists a variable, with what it lists TIED to the program's text (the seventh form; the later family's looks); each row that meets fmt, with fmt's text TOLD by the authors' own Lean function (tested against real Go, not proved from fmt's source: count such statements apart). THE CARD IS WHAT COUNTS. Prove the row's statement (the work); the ties are given (YtbnpgakmhhfjkaaGreatDoorTie.lean); close each card by the builder's one call (the guide's Derived/Test/ToyasCard.lean, 'card_holds'). Laid BY PROGRAM, IN A SANDBOX (cutbox-door.mjs). By AI agents, Wed Nov 11 2026. No macro, syntax, notation, axiom, sorry.
-/
import Derived.Test.YtbnpgakmhhfjkaaGreatDoorRows
import GoSem.ClaimSeven
namespace Go.Proofs.YtbnpgakmhhfjkaaGreatDoor
namespace Rows

/-- THE TIED CARD OF 'permafrostlaw14.StateKept'. -/
def stateKeptCard : Claim7 := { stood := { row := stateKeptRow, standIns := [], harness := (true, "fa244c240cac89cf04736cf4a53074f352079f6541d25868a7293bb10dbed22c"), looks := false }, kinds := [], alts := [], laidByText := true, laidKinds := [.data], laidTests := true, laidLooks := .later }
def StateKeptCardSaid : Prop := Claim7.holds Tryz.pinned (.plain (OpenSpec.ofChange stateKeptSpec)) stateKeptCard

/-- THE TIED CARD OF 'permafrostlaw14.StateRefused'. -/
def stateRefusedCard : Claim7 := { stood := { row := stateRefusedRow, standIns := [], harness := (true, "fa244c240cac89cf04736cf4a53074f352079f6541d25868a7293bb10dbed22c"), looks := false }, kinds := [], alts := [], laidByText := true, laidKinds := [.data], laidTests := true, laidLooks := .later }
def StateRefusedCardSaid : Prop := Claim7.holds Tryz.pinned (.plain (OpenSpec.ofChange stateRefusedSpec)) stateRefusedCard

/-- THE TIED CARD OF 'permafrostlaw14.StateBack'. -/
def stateBackCard : Claim7 := { stood := { row := stateBackRow, standIns := [], harness := (true, "fa244c240cac89cf04736cf4a53074f352079f6541d25868a7293bb10dbed22c"), looks := false }, kinds := [], alts := [], laidByText := true, laidKinds := [.data], laidTests := true, laidLooks := .later }
def StateBackCardSaid : Prop := Claim7.holds Tryz.pinned (.plain (OpenSpec.ofChange stateBackSpec)) stateBackCard

/-- THE TIED CARD OF 'permafrostlaw14.StateReads'. -/
def stateReadsCard : Claim7 := { stood := { row := stateReadsRow, standIns := [], harness := (true, "fa244c240cac89cf04736cf4a53074f352079f6541d25868a7293bb10dbed22c"), looks := false }, kinds := [], alts := [], laidByText := true, laidKinds := [.data], laidTests := true, laidLooks := .later }
def StateReadsCardSaid : Prop := Claim7.holds Tryz.pinned (.plain (OpenSpec.ofChange stateReadsSpec)) stateReadsCard

/-- THE TIED CARD OF 'permafrostlaw14.StateClock'. -/
def stateClockCard : Claim7 := { stood := { row := stateClockRow, standIns := [], harness := (true, "fa244c240cac89cf04736cf4a53074f352079f6541d25868a7293bb10dbed22c"), looks := false }, kinds := [], alts := [], laidByText := true, laidKinds := [.data], laidTests := true, laidLooks := .later }
def StateClockCardSaid : Prop := Claim7.holds Tryz.pinned (.plain (OpenSpec.ofChange stateClockSpec)) stateClockCard

/-- THE TIED CARD OF 'permafrostlaw14.StateOpens'. -/
def stateOpensCard : Claim7 := { stood := { row := stateOpensRow, standIns := [], harness := (true, "fa244c240cac89cf04736cf4a53074f352079f6541d25868a7293bb10dbed22c"), looks := false }, kinds := [], alts := [], laidByText := true, laidKinds := [.data], laidTests := true, laidLooks := .later }
def StateOpensCardSaid : Prop := Claim7.holds Tryz.pinned (.plain (OpenSpec.ofChange stateOpensSpec)) stateOpensCard

/-- THE TIED CARD OF 'permafrostlaw14.StateOpenFiles'. -/
def stateOpenFilesCard : Claim7 := { stood := { row := stateOpenFilesRow, standIns := [], harness := (true, "fa244c240cac89cf04736cf4a53074f352079f6541d25868a7293bb10dbed22c"), looks := false }, kinds := [], alts := [], laidByText := true, laidKinds := [.data], laidTests := true, laidLooks := .later }
def StateOpenFilesCardSaid : Prop := Claim7.holds Tryz.pinned (.plain (OpenSpec.ofChange stateOpenFilesSpec)) stateOpenFilesCard

/-- THE TIED CARD OF 'permafrostlaw14.StateTwins'. -/
def stateTwinsCard : Claim7 := { stood := { row := stateTwinsRow, standIns := [], harness := (true, "fa244c240cac89cf04736cf4a53074f352079f6541d25868a7293bb10dbed22c"), looks := false }, kinds := [], alts := [], laidByText := true, laidKinds := [.data], laidTests := true, laidLooks := .later }
def StateTwinsCardSaid : Prop := Claim7.holds Tryz.pinned (.plain (OpenSpec.ofChange stateTwinsSpec)) stateTwinsCard

/-- THE TIED CARD OF 'permafrostlaw14.StateRenames'. -/
def stateRenamesCard : Claim7 := { stood := { row := stateRenamesRow, standIns := [], harness := (true, "fa244c240cac89cf04736cf4a53074f352079f6541d25868a7293bb10dbed22c"), looks := false }, kinds := [], alts := [], laidByText := true, laidKinds := [.data], laidTests := true, laidLooks := .later }
def StateRenamesCardSaid : Prop := Claim7.holds Tryz.pinned (.plain (OpenSpec.ofChange stateRenamesSpec)) stateRenamesCard

/-- THE TIED CARD OF 'permafrostlaw14.StateSnaps'. -/
def stateSnapsCard : Claim7 := { stood := { row := stateSnapsRow, standIns := [], harness := (true, "fa244c240cac89cf04736cf4a53074f352079f6541d25868a7293bb10dbed22c"), looks := false }, kinds := [], alts := [], laidByText := true, laidKinds := [.data], laidTests := true, laidLooks := .later }
def StateSnapsCardSaid : Prop := Claim7.holds Tryz.pinned (.plain (OpenSpec.ofChange stateSnapsSpec)) stateSnapsCard

/-- THE SECOND FORM's CARD OF 'permafrostlaw14.StateKept'. -/
def stateKeptUptoCard : Claim7 := { stood := { row := stateKeptUptoRow, standIns := [], harness := (true, "fa244c240cac89cf04736cf4a53074f352079f6541d25868a7293bb10dbed22c"), looks := false }, kinds := [], alts := [], laidByText := true, laidKinds := [.data], laidTests := true, laidLooks := .later }
def StateKeptUptoCardSaid : Prop := Claim7.holds Tryz.pinned (.plain (OpenSpec.upto stateKeptSpec)) stateKeptUptoCard

/-- THE SECOND FORM's CARD OF 'permafrostlaw14.StateRefused'. -/
def stateRefusedUptoCard : Claim7 := { stood := { row := stateRefusedUptoRow, standIns := [], harness := (true, "fa244c240cac89cf04736cf4a53074f352079f6541d25868a7293bb10dbed22c"), looks := false }, kinds := [], alts := [], laidByText := true, laidKinds := [.data], laidTests := true, laidLooks := .later }
def StateRefusedUptoCardSaid : Prop := Claim7.holds Tryz.pinned (.plain (OpenSpec.upto stateRefusedSpec)) stateRefusedUptoCard

/-- THE SECOND FORM's CARD OF 'permafrostlaw14.StateBack'. -/
def stateBackUptoCard : Claim7 := { stood := { row := stateBackUptoRow, standIns := [], harness := (true, "fa244c240cac89cf04736cf4a53074f352079f6541d25868a7293bb10dbed22c"), looks := false }, kinds := [], alts := [], laidByText := true, laidKinds := [.data], laidTests := true, laidLooks := .later }
def StateBackUptoCardSaid : Prop := Claim7.holds Tryz.pinned (.plain (OpenSpec.upto stateBackSpec)) stateBackUptoCard

/-- THE SECOND FORM's CARD OF 'permafrostlaw14.StateReads'. -/
def stateReadsUptoCard : Claim7 := { stood := { row := stateReadsUptoRow, standIns := [], harness := (true, "fa244c240cac89cf04736cf4a53074f352079f6541d25868a7293bb10dbed22c"), looks := false }, kinds := [], alts := [], laidByText := true, laidKinds := [.data], laidTests := true, laidLooks := .later }
def StateReadsUptoCardSaid : Prop := Claim7.holds Tryz.pinned (.plain (OpenSpec.upto stateReadsSpec)) stateReadsUptoCard

/-- THE SECOND FORM's CARD OF 'permafrostlaw14.StateClock'. -/
def stateClockUptoCard : Claim7 := { stood := { row := stateClockUptoRow, standIns := [], harness := (true, "fa244c240cac89cf04736cf4a53074f352079f6541d25868a7293bb10dbed22c"), looks := false }, kinds := [], alts := [], laidByText := true, laidKinds := [.data], laidTests := true, laidLooks := .later }
def StateClockUptoCardSaid : Prop := Claim7.holds Tryz.pinned (.plain (OpenSpec.upto stateClockSpec)) stateClockUptoCard

/-- THE SECOND FORM's CARD OF 'permafrostlaw14.StateOpens'. -/
def stateOpensUptoCard : Claim7 := { stood := { row := stateOpensUptoRow, standIns := [], harness := (true, "fa244c240cac89cf04736cf4a53074f352079f6541d25868a7293bb10dbed22c"), looks := false }, kinds := [], alts := [], laidByText := true, laidKinds := [.data], laidTests := true, laidLooks := .later }
def StateOpensUptoCardSaid : Prop := Claim7.holds Tryz.pinned (.plain (OpenSpec.upto stateOpensSpec)) stateOpensUptoCard

/-- THE SECOND FORM's CARD OF 'permafrostlaw14.StateOpenFiles'. -/
def stateOpenFilesUptoCard : Claim7 := { stood := { row := stateOpenFilesUptoRow, standIns := [], harness := (true, "fa244c240cac89cf04736cf4a53074f352079f6541d25868a7293bb10dbed22c"), looks := false }, kinds := [], alts := [], laidByText := true, laidKinds := [.data], laidTests := true, laidLooks := .later }
def StateOpenFilesUptoCardSaid : Prop := Claim7.holds Tryz.pinned (.plain (OpenSpec.upto stateOpenFilesSpec)) stateOpenFilesUptoCard

/-- THE SECOND FORM's CARD OF 'permafrostlaw14.StateTwins'. -/
def stateTwinsUptoCard : Claim7 := { stood := { row := stateTwinsUptoRow, standIns := [], harness := (true, "fa244c240cac89cf04736cf4a53074f352079f6541d25868a7293bb10dbed22c"), looks := false }, kinds := [], alts := [], laidByText := true, laidKinds := [.data], laidTests := true, laidLooks := .later }
def StateTwinsUptoCardSaid : Prop := Claim7.holds Tryz.pinned (.plain (OpenSpec.upto stateTwinsSpec)) stateTwinsUptoCard

/-- THE SECOND FORM's CARD OF 'permafrostlaw14.StateRenames'. -/
def stateRenamesUptoCard : Claim7 := { stood := { row := stateRenamesUptoRow, standIns := [], harness := (true, "fa244c240cac89cf04736cf4a53074f352079f6541d25868a7293bb10dbed22c"), looks := false }, kinds := [], alts := [], laidByText := true, laidKinds := [.data], laidTests := true, laidLooks := .later }
def StateRenamesUptoCardSaid : Prop := Claim7.holds Tryz.pinned (.plain (OpenSpec.upto stateRenamesSpec)) stateRenamesUptoCard

/-- THE SECOND FORM's CARD OF 'permafrostlaw14.StateSnaps'. -/
def stateSnapsUptoCard : Claim7 := { stood := { row := stateSnapsUptoRow, standIns := [], harness := (true, "fa244c240cac89cf04736cf4a53074f352079f6541d25868a7293bb10dbed22c"), looks := false }, kinds := [], alts := [], laidByText := true, laidKinds := [.data], laidTests := true, laidLooks := .later }
def StateSnapsUptoCardSaid : Prop := Claim7.holds Tryz.pinned (.plain (OpenSpec.upto stateSnapsSpec)) stateSnapsUptoCard
end Rows
end Go.Proofs.YtbnpgakmhhfjkaaGreatDoor
