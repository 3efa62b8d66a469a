/-
  DERIVED. GIVEN WITH THE SEED: THE CARDS: each row of YtbdbccdkimkhbaaDoorRows.lean that lists a variable, with what it lists TIED to the program's text (the seventh form; the later family's looks); each row that meets fmt, with fmt's text TOLD by the authors' own Lean function (tested against real Go, not proved from fmt's source: count such statements apart). THE CARD IS WHAT COUNTS. Prove the row's statement (the work); the ties are given (YtbdbccdkimkhbaaDoorTie.lean); close each card by the builder's one call (the guide's Derived/Test/ToyasCard.lean, 'card_holds'). Laid BY PROGRAM, IN A SANDBOX (cutbox-door.mjs). By AI agents, Wed Nov 11 2026. No macro, syntax, notation, axiom, sorry.
-/
import Derived.Test.YtbdbccdkimkhbaaDoorRows
import GoSem.ClaimSeven
namespace Go.Proofs.YtbdbccdkimkhbaaDoor
namespace Rows

/-- THE TIED CARD OF 'permafrostlaw2.ShaNumbers'. -/
def shaNumbersCard : Claim7 := { stood := { row := shaNumbersRow, standIns := [], harness := (true, "2252daac0611e02c38cf9a7a5516c845676765a2c25be8569ff02acf56582827"), looks := false }, kinds := [], alts := [], laidByText := true, laidKinds := [.data], laidTests := true, laidLooks := .later }
def ShaNumbersCardSaid : Prop := Claim7.holds Tryd.pinned (.plain (OpenSpec.ofChange shaNumbersSpec)) shaNumbersCard

/-- THE TIED CARD OF 'permafrostlaw2.ShaTells'. -/
def shaTellsCard : Claim7 := { stood := { row := shaTellsRow, standIns := [], harness := (true, "2252daac0611e02c38cf9a7a5516c845676765a2c25be8569ff02acf56582827"), looks := false }, kinds := [], alts := [], laidByText := true, laidKinds := [.data], laidTests := true, laidLooks := .later }
def ShaTellsCardSaid : Prop := Claim7.holds Tryd.pinned (.plain (OpenSpec.ofChange shaTellsSpec)) shaTellsCard

/-- THE TIED CARD OF 'permafrostlaw2.ShaParts'. -/
def shaPartsCard : Claim7 := { stood := { row := shaPartsRow, standIns := [], harness := (true, "2252daac0611e02c38cf9a7a5516c845676765a2c25be8569ff02acf56582827"), looks := false }, kinds := [], alts := [], laidByText := true, laidKinds := [.data], laidTests := true, laidLooks := .later }
def ShaPartsCardSaid : Prop := Claim7.holds Tryd.pinned (.plain (OpenSpec.ofChange shaPartsSpec)) shaPartsCard

/-- THE TIED CARD OF 'permafrostlaw2.ShaStreams'. -/
def shaStreamsCard : Claim7 := { stood := { row := shaStreamsRow, standIns := [], harness := (true, "2252daac0611e02c38cf9a7a5516c845676765a2c25be8569ff02acf56582827"), looks := false }, kinds := [], alts := [], laidByText := true, laidKinds := [.data], laidTests := true, laidLooks := .later }
def ShaStreamsCardSaid : Prop := Claim7.holds Tryd.pinned (.plain (OpenSpec.ofChange shaStreamsSpec)) shaStreamsCard

/-- THE SECOND FORM's CARD OF 'permafrostlaw2.ShaNumbers'. -/
def shaNumbersUptoCard : Claim7 := { stood := { row := shaNumbersUptoRow, standIns := [], harness := (true, "2252daac0611e02c38cf9a7a5516c845676765a2c25be8569ff02acf56582827"), looks := false }, kinds := [], alts := [], laidByText := true, laidKinds := [.data], laidTests := true, laidLooks := .later }
def ShaNumbersUptoCardSaid : Prop := Claim7.holds Tryd.pinned (.plain (OpenSpec.upto shaNumbersSpec)) shaNumbersUptoCard

/-- THE SECOND FORM's CARD OF 'permafrostlaw2.ShaTells'. -/
def shaTellsUptoCard : Claim7 := { stood := { row := shaTellsUptoRow, standIns := [], harness := (true, "2252daac0611e02c38cf9a7a5516c845676765a2c25be8569ff02acf56582827"), looks := false }, kinds := [], alts := [], laidByText := true, laidKinds := [.data], laidTests := true, laidLooks := .later }
def ShaTellsUptoCardSaid : Prop := Claim7.holds Tryd.pinned (.plain (OpenSpec.upto shaTellsSpec)) shaTellsUptoCard

/-- THE SECOND FORM's CARD OF 'permafrostlaw2.ShaParts'. -/
def shaPartsUptoCard : Claim7 := { stood := { row := shaPartsUptoRow, standIns := [], harness := (true, "2252daac0611e02c38cf9a7a5516c845676765a2c25be8569ff02acf56582827"), looks := false }, kinds := [], alts := [], laidByText := true, laidKinds := [.data], laidTests := true, laidLooks := .later }
def ShaPartsUptoCardSaid : Prop := Claim7.holds Tryd.pinned (.plain (OpenSpec.upto shaPartsSpec)) shaPartsUptoCard

/-- THE SECOND FORM's CARD OF 'permafrostlaw2.ShaStreams'. -/
def shaStreamsUptoCard : Claim7 := { stood := { row := shaStreamsUptoRow, standIns := [], harness := (true, "2252daac0611e02c38cf9a7a5516c845676765a2c25be8569ff02acf56582827"), looks := false }, kinds := [], alts := [], laidByText := true, laidKinds := [.data], laidTests := true, laidLooks := .later }
def ShaStreamsUptoCardSaid : Prop := Claim7.holds Tryd.pinned (.plain (OpenSpec.upto shaStreamsSpec)) shaStreamsUptoCard
end Rows
end Go.Proofs.YtbdbccdkimkhbaaDoor
