/-
  DERIVED. GIVEN WITH THE SEED: THE CARDS: each row of YtjoedamiilgajaaDoorRows.lean that lists a variable, with what it lists TIED to the program's text (the seventh form; the later family's looks); each row that meets fmt, with fmt's text TOLD by the authors' own Lean function (tested against real Go, not proved from fmt's source: count such statements apart). THE CARD IS WHAT COUNTS. Prove the row's statement (the work); the ties are given (YtjoedamiilgajaaDoorTie.lean); close each card by the builder's one call (the guide's Derived/Test/ToyasCard.lean, 'card_holds'). Laid BY PROGRAM, IN A SANDBOX (cutbox-door.mjs). By AI agents, Wed Nov 11 2026. No macro, syntax, notation, axiom, sorry.
-/
import Derived.Test.YtjoedamiilgajaaDoorRows
import GoSem.ClaimSeven
namespace Go.Proofs.YtjoedamiilgajaaDoor
namespace Rows

/-- THE TIED CARD OF 'permafrostlaw13.SnapIds'. -/
def snapIdsCard : Claim7 := { stood := { row := snapIdsRow, standIns := [], harness := (true, "32f82fd6182d0685bf1f1bc0f5e8d237d2566f051e55fd2ef37cede4f5f49688"), looks := false }, kinds := [], alts := [], laidByText := true, laidKinds := [.data], laidTests := true, laidLooks := .later }
def SnapIdsCardSaid : Prop := Claim7.holds Tryd.pinned (.plain (OpenSpec.ofChange snapIdsSpec)) snapIdsCard

/-- THE SECOND FORM's CARD OF 'permafrostlaw13.SnapIds'. -/
def snapIdsUptoCard : Claim7 := { stood := { row := snapIdsUptoRow, standIns := [], harness := (true, "32f82fd6182d0685bf1f1bc0f5e8d237d2566f051e55fd2ef37cede4f5f49688"), looks := false }, kinds := [], alts := [], laidByText := true, laidKinds := [.data], laidTests := true, laidLooks := .later }
def SnapIdsUptoCardSaid : Prop := Claim7.holds Tryd.pinned (.plain (OpenSpec.upto snapIdsSpec)) snapIdsUptoCard
end Rows
end Go.Proofs.YtjoedamiilgajaaDoor
