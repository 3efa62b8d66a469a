/-
  DERIVED. GIVEN WITH THE SEED: THE CARDS: each row of YtdopgnfggpdfoaaDoorRows.lean that lists a variable, with what it lists TIED to the program's text (the seventh form; the later family's looks); each row that meets fmt, with fmt's text TOLD by the authors' own Lean function (tested against real Go, not proved from fmt's source: count such statements apart). THE CARD IS WHAT COUNTS. Prove the row's statement (the work); the ties are given (YtdopgnfggpdfoaaDoorTie.lean); close each card by the builder's one call (the guide's Derived/Test/ToyasCard.lean, 'card_holds'). Laid BY PROGRAM, IN A SANDBOX (cutbox-door.mjs). By AI agents, Wed Nov 11 2026. No macro, syntax, notation, axiom, sorry.
-/
import Derived.Test.YtdopgnfggpdfoaaDoorRows
import GoSem.ClaimSeven
namespace Go.Proofs.YtdopgnfggpdfoaaDoor
namespace Rows

/-- THE TIED CARD OF 'permafrostlaw3.CrcNumbers'. -/
def crcNumbersCard : Claim7 := { stood := { row := crcNumbersRow, standIns := [], harness := (true, "32d21268f4e3ca5c53eb8d17e9cb676bf49a5aa9d9eb9a5278f295d6a9d6683e"), looks := false }, kinds := [], alts := [], laidByText := true, laidKinds := [.data], laidTests := true, laidLooks := .later }
def CrcNumbersCardSaid : Prop := Claim7.holds Tryd.pinned (.plain (OpenSpec.ofChange crcNumbersSpec)) crcNumbersCard

/-- THE TIED CARD OF 'permafrostlaw3.CrcTells'. -/
def crcTellsCard : Claim7 := { stood := { row := crcTellsRow, standIns := [], harness := (true, "32d21268f4e3ca5c53eb8d17e9cb676bf49a5aa9d9eb9a5278f295d6a9d6683e"), looks := false }, kinds := [], alts := [], laidByText := true, laidKinds := [.data], laidTests := true, laidLooks := .later }
def CrcTellsCardSaid : Prop := Claim7.holds Tryd.pinned (.plain (OpenSpec.ofChange crcTellsSpec)) crcTellsCard

/-- THE TIED CARD OF 'permafrostlaw3.CrcTurned'. -/
def crcTurnedCard : Claim7 := { stood := { row := crcTurnedRow, standIns := [], harness := (true, "32d21268f4e3ca5c53eb8d17e9cb676bf49a5aa9d9eb9a5278f295d6a9d6683e"), looks := false }, kinds := [], alts := [], laidByText := true, laidKinds := [.data], laidTests := true, laidLooks := .later }
def CrcTurnedCardSaid : Prop := Claim7.holds Tryd.pinned (.plain (OpenSpec.ofChange crcTurnedSpec)) crcTurnedCard

/-- THE TIED CARD OF 'permafrostlaw3.CrcLinear'. -/
def crcLinearCard : Claim7 := { stood := { row := crcLinearRow, standIns := [], harness := (true, "32d21268f4e3ca5c53eb8d17e9cb676bf49a5aa9d9eb9a5278f295d6a9d6683e"), looks := false }, kinds := [], alts := [], laidByText := true, laidKinds := [.data], laidTests := true, laidLooks := .later }
def CrcLinearCardSaid : Prop := Claim7.holds Tryd.pinned (.plain (OpenSpec.ofChange crcLinearSpec)) crcLinearCard

/-- THE SECOND FORM's CARD OF 'permafrostlaw3.CrcNumbers'. -/
def crcNumbersUptoCard : Claim7 := { stood := { row := crcNumbersUptoRow, standIns := [], harness := (true, "32d21268f4e3ca5c53eb8d17e9cb676bf49a5aa9d9eb9a5278f295d6a9d6683e"), looks := false }, kinds := [], alts := [], laidByText := true, laidKinds := [.data], laidTests := true, laidLooks := .later }
def CrcNumbersUptoCardSaid : Prop := Claim7.holds Tryd.pinned (.plain (OpenSpec.upto crcNumbersSpec)) crcNumbersUptoCard

/-- THE SECOND FORM's CARD OF 'permafrostlaw3.CrcTells'. -/
def crcTellsUptoCard : Claim7 := { stood := { row := crcTellsUptoRow, standIns := [], harness := (true, "32d21268f4e3ca5c53eb8d17e9cb676bf49a5aa9d9eb9a5278f295d6a9d6683e"), looks := false }, kinds := [], alts := [], laidByText := true, laidKinds := [.data], laidTests := true, laidLooks := .later }
def CrcTellsUptoCardSaid : Prop := Claim7.holds Tryd.pinned (.plain (OpenSpec.upto crcTellsSpec)) crcTellsUptoCard

/-- THE SECOND FORM's CARD OF 'permafrostlaw3.CrcTurned'. -/
def crcTurnedUptoCard : Claim7 := { stood := { row := crcTurnedUptoRow, standIns := [], harness := (true, "32d21268f4e3ca5c53eb8d17e9cb676bf49a5aa9d9eb9a5278f295d6a9d6683e"), looks := false }, kinds := [], alts := [], laidByText := true, laidKinds := [.data], laidTests := true, laidLooks := .later }
def CrcTurnedUptoCardSaid : Prop := Claim7.holds Tryd.pinned (.plain (OpenSpec.upto crcTurnedSpec)) crcTurnedUptoCard

/-- THE SECOND FORM's CARD OF 'permafrostlaw3.CrcLinear'. -/
def crcLinearUptoCard : Claim7 := { stood := { row := crcLinearUptoRow, standIns := [], harness := (true, "32d21268f4e3ca5c53eb8d17e9cb676bf49a5aa9d9eb9a5278f295d6a9d6683e"), looks := false }, kinds := [], alts := [], laidByText := true, laidKinds := [.data], laidTests := true, laidLooks := .later }
def CrcLinearUptoCardSaid : Prop := Claim7.holds Tryd.pinned (.plain (OpenSpec.upto crcLinearSpec)) crcLinearUptoCard
end Rows
end Go.Proofs.YtdopgnfggpdfoaaDoor
