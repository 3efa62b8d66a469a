/-
  DERIVED. GIVEN WITH THE SEED: THE CARDS: each row of YtjeclmbableacaaDoorRows.lean that lists a variable, with what it lists TIED to the program's text (the seventh form; the later family's looks); each row that meets fmt, with fmt's text TOLD by the authors' own Lean function (tested against real Go, not proved from fmt's source: count such statements apart). THE CARD IS WHAT COUNTS. Prove the row's statement (the work); the ties are given (YtjeclmbableacaaDoorTie.lean); close each card by the builder's one call (the guide's Derived/Test/ToyasCard.lean, 'card_holds'). Laid BY PROGRAM, IN A SANDBOX (cutbox-door.mjs). By AI agents, Wed Nov 11 2026. No macro, syntax, notation, axiom, sorry.
-/
import Derived.Test.YtjeclmbableacaaDoorRows
import GoSem.ClaimSeven
namespace Go.Proofs.YtjeclmbableacaaDoor
namespace Rows

/-- THE TIED CARD OF 'permafrostlaw6.MerkleNumbers'. -/
def merkleNumbersCard : Claim7 := { stood := { row := merkleNumbersRow, standIns := [], harness := (true, "06a916e9f3affd3cdde6931f8bb6564e6a03aa58bf4c2ab2d706e23147a615d4"), looks := false }, kinds := [], alts := [], laidByText := true, laidKinds := [.data], laidTests := true, laidLooks := .later }
def MerkleNumbersCardSaid : Prop := Claim7.holds Tryd.pinned (.plain (OpenSpec.ofChange merkleNumbersSpec)) merkleNumbersCard

/-- THE TIED CARD OF 'permafrostlaw6.MerkleTells'. -/
def merkleTellsCard : Claim7 := { stood := { row := merkleTellsRow, standIns := [], harness := (true, "06a916e9f3affd3cdde6931f8bb6564e6a03aa58bf4c2ab2d706e23147a615d4"), looks := false }, kinds := [], alts := [], laidByText := true, laidKinds := [.data], laidTests := true, laidLooks := .later }
def MerkleTellsCardSaid : Prop := Claim7.holds Tryd.pinned (.plain (OpenSpec.ofChange merkleTellsSpec)) merkleTellsCard

/-- THE TIED CARD OF 'permafrostlaw6.MerklePaths'. -/
def merklePathsCard : Claim7 := { stood := { row := merklePathsRow, standIns := [], harness := (true, "06a916e9f3affd3cdde6931f8bb6564e6a03aa58bf4c2ab2d706e23147a615d4"), looks := false }, kinds := [], alts := [], laidByText := true, laidKinds := [.data], laidTests := true, laidLooks := .later }
def MerklePathsCardSaid : Prop := Claim7.holds Tryd.pinned (.plain (OpenSpec.ofChange merklePathsSpec)) merklePathsCard

/-- THE TIED CARD OF 'permafrostlaw6.MerkleSplit'. -/
def merkleSplitCard : Claim7 := { stood := { row := merkleSplitRow, standIns := [], harness := (true, "06a916e9f3affd3cdde6931f8bb6564e6a03aa58bf4c2ab2d706e23147a615d4"), looks := false }, kinds := [], alts := [], laidByText := true, laidKinds := [.data], laidTests := true, laidLooks := .later }
def MerkleSplitCardSaid : Prop := Claim7.holds Tryd.pinned (.plain (OpenSpec.ofChange merkleSplitSpec)) merkleSplitCard

/-- THE TIED CARD OF 'permafrostlaw6.MerkleChain'. -/
def merkleChainCard : Claim7 := { stood := { row := merkleChainRow, standIns := [], harness := (true, "06a916e9f3affd3cdde6931f8bb6564e6a03aa58bf4c2ab2d706e23147a615d4"), looks := false }, kinds := [], alts := [], laidByText := true, laidKinds := [.data], laidTests := true, laidLooks := .later }
def MerkleChainCardSaid : Prop := Claim7.holds Tryd.pinned (.plain (OpenSpec.ofChange merkleChainSpec)) merkleChainCard

/-- THE TIED CARD OF 'permafrostlaw6.MerklePlaces'. -/
def merklePlacesCard : Claim7 := { stood := { row := merklePlacesRow, standIns := [], harness := (true, "06a916e9f3affd3cdde6931f8bb6564e6a03aa58bf4c2ab2d706e23147a615d4"), looks := false }, kinds := [], alts := [], laidByText := true, laidKinds := [.data], laidTests := true, laidLooks := .later }
def MerklePlacesCardSaid : Prop := Claim7.holds Tryd.pinned (.plain (OpenSpec.ofChange merklePlacesSpec)) merklePlacesCard

/-- THE SECOND FORM's CARD OF 'permafrostlaw6.MerkleNumbers'. -/
def merkleNumbersUptoCard : Claim7 := { stood := { row := merkleNumbersUptoRow, standIns := [], harness := (true, "06a916e9f3affd3cdde6931f8bb6564e6a03aa58bf4c2ab2d706e23147a615d4"), looks := false }, kinds := [], alts := [], laidByText := true, laidKinds := [.data], laidTests := true, laidLooks := .later }
def MerkleNumbersUptoCardSaid : Prop := Claim7.holds Tryd.pinned (.plain (OpenSpec.upto merkleNumbersSpec)) merkleNumbersUptoCard

/-- THE SECOND FORM's CARD OF 'permafrostlaw6.MerkleTells'. -/
def merkleTellsUptoCard : Claim7 := { stood := { row := merkleTellsUptoRow, standIns := [], harness := (true, "06a916e9f3affd3cdde6931f8bb6564e6a03aa58bf4c2ab2d706e23147a615d4"), looks := false }, kinds := [], alts := [], laidByText := true, laidKinds := [.data], laidTests := true, laidLooks := .later }
def MerkleTellsUptoCardSaid : Prop := Claim7.holds Tryd.pinned (.plain (OpenSpec.upto merkleTellsSpec)) merkleTellsUptoCard

/-- THE SECOND FORM's CARD OF 'permafrostlaw6.MerklePaths'. -/
def merklePathsUptoCard : Claim7 := { stood := { row := merklePathsUptoRow, standIns := [], harness := (true, "06a916e9f3affd3cdde6931f8bb6564e6a03aa58bf4c2ab2d706e23147a615d4"), looks := false }, kinds := [], alts := [], laidByText := true, laidKinds := [.data], laidTests := true, laidLooks := .later }
def MerklePathsUptoCardSaid : Prop := Claim7.holds Tryd.pinned (.plain (OpenSpec.upto merklePathsSpec)) merklePathsUptoCard

/-- THE SECOND FORM's CARD OF 'permafrostlaw6.MerkleSplit'. -/
def merkleSplitUptoCard : Claim7 := { stood := { row := merkleSplitUptoRow, standIns := [], harness := (true, "06a916e9f3affd3cdde6931f8bb6564e6a03aa58bf4c2ab2d706e23147a615d4"), looks := false }, kinds := [], alts := [], laidByText := true, laidKinds := [.data], laidTests := true, laidLooks := .later }
def MerkleSplitUptoCardSaid : Prop := Claim7.holds Tryd.pinned (.plain (OpenSpec.upto merkleSplitSpec)) merkleSplitUptoCard

/-- THE SECOND FORM's CARD OF 'permafrostlaw6.MerkleChain'. -/
def merkleChainUptoCard : Claim7 := { stood := { row := merkleChainUptoRow, standIns := [], harness := (true, "06a916e9f3affd3cdde6931f8bb6564e6a03aa58bf4c2ab2d706e23147a615d4"), looks := false }, kinds := [], alts := [], laidByText := true, laidKinds := [.data], laidTests := true, laidLooks := .later }
def MerkleChainUptoCardSaid : Prop := Claim7.holds Tryd.pinned (.plain (OpenSpec.upto merkleChainSpec)) merkleChainUptoCard

/-- THE SECOND FORM's CARD OF 'permafrostlaw6.MerklePlaces'. -/
def merklePlacesUptoCard : Claim7 := { stood := { row := merklePlacesUptoRow, standIns := [], harness := (true, "06a916e9f3affd3cdde6931f8bb6564e6a03aa58bf4c2ab2d706e23147a615d4"), looks := false }, kinds := [], alts := [], laidByText := true, laidKinds := [.data], laidTests := true, laidLooks := .later }
def MerklePlacesUptoCardSaid : Prop := Claim7.holds Tryd.pinned (.plain (OpenSpec.upto merklePlacesSpec)) merklePlacesUptoCard
end Rows
end Go.Proofs.YtjeclmbableacaaDoor
