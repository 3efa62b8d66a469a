/-
  DERIVED. GIVEN WITH THE SEED: THE CARDS: each row of YtjoedamiilgajaaGreatDoorRows.lean that lists a variable, with what it lists TIED to the program's text (the seventh form; the later family's looks); each row that meets fmt, with fmt's text TOLD by the authors' own Lean function (tested against real Go, not proved from fmt's source: count such statements apart). THE CARD IS WHAT COUNTS. Prove the row's statement (the work); the ties are given (YtjoedamiilgajaaGreatDoorTie.lean); close each card by the builder's one call (the guide's Derived/Test/ToyasCard.lean, 'card_holds'). Laid BY PROGRAM, IN A SANDBOX (cutbox-door.mjs). By AI agents, Wed Nov 11 2026. No macro, syntax, notation, axiom, sorry.
-/
import Derived.Test.YtjoedamiilgajaaGreatDoorRows
import GoSem.ClaimSeven
namespace Go.Proofs.YtjoedamiilgajaaGreatDoor
namespace Rows

/-- THE TIED CARD OF 'permafrostlaw13.SnapNumbers'. -/
def snapNumbersCard : Claim7 := { stood := { row := snapNumbersRow, standIns := [], harness := (true, "759481060e435e327db2c6a075ecb7f2b344a3d780c62bcb840c6805e4879a2d"), looks := false }, kinds := [], alts := [], laidByText := true, laidKinds := [.data], laidTests := true, laidLooks := .later }
def SnapNumbersCardSaid : Prop := Claim7.holds Tryz.pinned (.plain (OpenSpec.ofChange snapNumbersSpec)) snapNumbersCard

/-- THE TIED CARD OF 'permafrostlaw13.SnapPlays'. -/
def snapPlaysCard : Claim7 := { stood := { row := snapPlaysRow, standIns := [], harness := (true, "759481060e435e327db2c6a075ecb7f2b344a3d780c62bcb840c6805e4879a2d"), looks := false }, kinds := [], alts := [], laidByText := true, laidKinds := [.data], laidTests := true, laidLooks := .later }
def SnapPlaysCardSaid : Prop := Claim7.holds Tryz.pinned (.plain (OpenSpec.ofChange snapPlaysSpec)) snapPlaysCard

/-- THE TIED CARD OF 'permafrostlaw13.SnapBack'. -/
def snapBackCard : Claim7 := { stood := { row := snapBackRow, standIns := [], harness := (true, "759481060e435e327db2c6a075ecb7f2b344a3d780c62bcb840c6805e4879a2d"), looks := false }, kinds := [], alts := [], laidByText := true, laidKinds := [.data], laidTests := true, laidLooks := .later }
def SnapBackCardSaid : Prop := Claim7.holds Tryz.pinned (.plain (OpenSpec.ofChange snapBackSpec)) snapBackCard

/-- THE TIED CARD OF 'permafrostlaw13.SnapChain'. -/
def snapChainCard : Claim7 := { stood := { row := snapChainRow, standIns := [], harness := (true, "759481060e435e327db2c6a075ecb7f2b344a3d780c62bcb840c6805e4879a2d"), looks := false }, kinds := [], alts := [], laidByText := true, laidKinds := [.data], laidTests := true, laidLooks := .later }
def SnapChainCardSaid : Prop := Claim7.holds Tryz.pinned (.plain (OpenSpec.ofChange snapChainSpec)) snapChainCard

/-- THE TIED CARD OF 'permafrostlaw13.SnapForgets'. -/
def snapForgetsCard : Claim7 := { stood := { row := snapForgetsRow, standIns := [], harness := (true, "759481060e435e327db2c6a075ecb7f2b344a3d780c62bcb840c6805e4879a2d"), looks := false }, kinds := [], alts := [], laidByText := true, laidKinds := [.data], laidTests := true, laidLooks := .later }
def SnapForgetsCardSaid : Prop := Claim7.holds Tryz.pinned (.plain (OpenSpec.ofChange snapForgetsSpec)) snapForgetsCard

/-- THE SECOND FORM's CARD OF 'permafrostlaw13.SnapNumbers'. -/
def snapNumbersUptoCard : Claim7 := { stood := { row := snapNumbersUptoRow, standIns := [], harness := (true, "759481060e435e327db2c6a075ecb7f2b344a3d780c62bcb840c6805e4879a2d"), looks := false }, kinds := [], alts := [], laidByText := true, laidKinds := [.data], laidTests := true, laidLooks := .later }
def SnapNumbersUptoCardSaid : Prop := Claim7.holds Tryz.pinned (.plain (OpenSpec.upto snapNumbersSpec)) snapNumbersUptoCard

/-- THE SECOND FORM's CARD OF 'permafrostlaw13.SnapPlays'. -/
def snapPlaysUptoCard : Claim7 := { stood := { row := snapPlaysUptoRow, standIns := [], harness := (true, "759481060e435e327db2c6a075ecb7f2b344a3d780c62bcb840c6805e4879a2d"), looks := false }, kinds := [], alts := [], laidByText := true, laidKinds := [.data], laidTests := true, laidLooks := .later }
def SnapPlaysUptoCardSaid : Prop := Claim7.holds Tryz.pinned (.plain (OpenSpec.upto snapPlaysSpec)) snapPlaysUptoCard

/-- THE SECOND FORM's CARD OF 'permafrostlaw13.SnapBack'. -/
def snapBackUptoCard : Claim7 := { stood := { row := snapBackUptoRow, standIns := [], harness := (true, "759481060e435e327db2c6a075ecb7f2b344a3d780c62bcb840c6805e4879a2d"), looks := false }, kinds := [], alts := [], laidByText := true, laidKinds := [.data], laidTests := true, laidLooks := .later }
def SnapBackUptoCardSaid : Prop := Claim7.holds Tryz.pinned (.plain (OpenSpec.upto snapBackSpec)) snapBackUptoCard

/-- THE SECOND FORM's CARD OF 'permafrostlaw13.SnapChain'. -/
def snapChainUptoCard : Claim7 := { stood := { row := snapChainUptoRow, standIns := [], harness := (true, "759481060e435e327db2c6a075ecb7f2b344a3d780c62bcb840c6805e4879a2d"), looks := false }, kinds := [], alts := [], laidByText := true, laidKinds := [.data], laidTests := true, laidLooks := .later }
def SnapChainUptoCardSaid : Prop := Claim7.holds Tryz.pinned (.plain (OpenSpec.upto snapChainSpec)) snapChainUptoCard

/-- THE SECOND FORM's CARD OF 'permafrostlaw13.SnapForgets'. -/
def snapForgetsUptoCard : Claim7 := { stood := { row := snapForgetsUptoRow, standIns := [], harness := (true, "759481060e435e327db2c6a075ecb7f2b344a3d780c62bcb840c6805e4879a2d"), looks := false }, kinds := [], alts := [], laidByText := true, laidKinds := [.data], laidTests := true, laidLooks := .later }
def SnapForgetsUptoCardSaid : Prop := Claim7.holds Tryz.pinned (.plain (OpenSpec.upto snapForgetsSpec)) snapForgetsUptoCard
end Rows
end Go.Proofs.YtjoedamiilgajaaGreatDoor
