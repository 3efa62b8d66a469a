/-
  No cell of these rows narrows 'for every input' (looked for: loops, veiled, ifaces, maps, wideKeys, modest, calm, conditions, laid).
  DERIVED. THE GIVEN ROWS OF THIS SEAT. 5 by the template 'for every input the law returns true; each argument reads behind the call as it read before'; 0 by the template 'total and deterministic' (their statements: YtpblhdpnmnfieaaTotals.lean).
  GIVEN WITH THE SEED: the statements are not yours to turn. If you find one false, say at which input.
  Laid BY PROGRAM, IN A SANDBOX (cutbox-rows.mjs): the forced cells as the released guide's own fill.sh prints them over the translation c7434be6143a1372… (all of the seat's roots in one cut). By AI agents, Wed Nov 11 2026. No macro, syntax, notation, axiom, sorry.
-/
import Derived.Test.YtpblhdpnmnfieaaChecked
import GoSem.Claim
import GoSem.ClaimJoined
import GoSem.ClaimMapViews
import Derived.JoinedTies
import Derived.KernelRfl
namespace Go.Proofs.Ytpblhdpnmnfieaa
/- THE CELL 'sum', in the pinned program and in every row, IS THE sha256 OF THE DUMP (.gsa) THAT YtpblhdpnmnfieaaProg.lean LOADS. Nothing in Lean hashes anything: it is a label: what it is worth is what the hold of that sum in a sandbox is worth. -/
noncomputable def Try.pinned : Pinned := { name := "ytpblhdpnmnfieaa", sum := "c7434be6143a1372eb2400f776ec1a209350e8bbca01488d55caba026407cbbf", checked := Try.checked }
namespace Rows
def none {H : Type} : Left H := { results := [], args := [] }

/-- 'permafrostlaw12.WormNumbers': WHATEVER THE INPUT: true; the input reads as it did. -/
def wormNumbersSpec : ChangeSpec := { name := "wormNumbers", fn := fun _ => fun
  | [] => { results := [.lit (.bool true)], args := [] }
  | _ => none }
def wormNumbersRow : OpenClaim := { program := "ytpblhdpnmnfieaa", sum := "c7434be6143a1372eb2400f776ec1a209350e8bbca01488d55caba026407cbbf", func := "permafrost/permafrostlaw12.WormNumbers", spec := "wormNumbers", apart := false }
def WormNumbersSaid : Prop := wormNumbersRow.holds Try.pinned (OpenSpec.ofChange wormNumbersSpec)

/-- ITS FALSE NEIGHBOUR: 'it returns false'. Refute it at one input. -/
def wormNumbersWrong : ChangeSpec := { name := "wormNumbers", fn := fun _ => fun
  | [] => { results := [.lit (.bool false)], args := [] }
  | _ => none }
def WormNumbersWrongFalsely : Prop := wormNumbersRow.holds Try.pinned (OpenSpec.ofChange wormNumbersWrong)

/-- 'permafrostlaw12.WormTells': WHATEVER THE INPUT: true; the input reads as it did. -/
def wormTellsSpec : ChangeSpec := { name := "wormTells", fn := fun _ => fun
  | [d1, d2, d3] => { results := [.lit (.bool true)], args := [d1, d2, d3] }
  | _ => none }
def wormTellsRow : OpenClaim := { program := "ytpblhdpnmnfieaa", sum := "c7434be6143a1372eb2400f776ec1a209350e8bbca01488d55caba026407cbbf", func := "permafrost/permafrostlaw12.WormTells", spec := "wormTells", apart := false }
def WormTellsSaid : Prop := wormTellsRow.holds Try.pinned (OpenSpec.ofChange wormTellsSpec)

/-- ITS FALSE NEIGHBOUR: 'it returns false'. Refute it at one input. -/
def wormTellsWrong : ChangeSpec := { name := "wormTells", fn := fun _ => fun
  | [d1, d2, d3] => { results := [.lit (.bool false)], args := [d1, d2, d3] }
  | _ => none }
def WormTellsWrongFalsely : Prop := wormTellsRow.holds Try.pinned (OpenSpec.ofChange wormTellsWrong)

/-- 'permafrostlaw12.WormLives': WHATEVER THE INPUT: true; the input reads as it did. -/
def wormLivesSpec : ChangeSpec := { name := "wormLives", fn := fun _ => fun
  | [d1, d2, d3, d4] => { results := [.lit (.bool true)], args := [d1, d2, d3, d4] }
  | _ => none }
def wormLivesRow : OpenClaim := { program := "ytpblhdpnmnfieaa", sum := "c7434be6143a1372eb2400f776ec1a209350e8bbca01488d55caba026407cbbf", func := "permafrost/permafrostlaw12.WormLives", spec := "wormLives", inPlace := ["slices.overlaps[*permafrost/tree.entry]", "slices.overlaps[permafrost/tree.name]"], unfollowed := true, recurses := true, apart := false }
def WormLivesSaid : Prop := wormLivesRow.holds Try.pinned (OpenSpec.ofChange wormLivesSpec)

/-- ITS FALSE NEIGHBOUR: 'it returns false'. Refute it at one input. -/
def wormLivesWrong : ChangeSpec := { name := "wormLives", fn := fun _ => fun
  | [d1, d2, d3, d4] => { results := [.lit (.bool false)], args := [d1, d2, d3, d4] }
  | _ => none }
def WormLivesWrongFalsely : Prop := wormLivesRow.holds Try.pinned (OpenSpec.ofChange wormLivesWrong)

/-- 'permafrostlaw12.WormLater': WHATEVER THE INPUT: true; the input reads as it did. -/
def wormLaterSpec : ChangeSpec := { name := "wormLater", fn := fun _ => fun
  | [d1, d2, d3, d4] => { results := [.lit (.bool true)], args := [d1, d2, d3, d4] }
  | _ => none }
def wormLaterRow : OpenClaim := { program := "ytpblhdpnmnfieaa", sum := "c7434be6143a1372eb2400f776ec1a209350e8bbca01488d55caba026407cbbf", func := "permafrost/permafrostlaw12.WormLater", spec := "wormLater", apart := false }
def WormLaterSaid : Prop := wormLaterRow.holds Try.pinned (OpenSpec.ofChange wormLaterSpec)

/-- ITS FALSE NEIGHBOUR: 'it returns false'. Refute it at one input. -/
def wormLaterWrong : ChangeSpec := { name := "wormLater", fn := fun _ => fun
  | [d1, d2, d3, d4] => { results := [.lit (.bool false)], args := [d1, d2, d3, d4] }
  | _ => none }
def WormLaterWrongFalsely : Prop := wormLaterRow.holds Try.pinned (OpenSpec.ofChange wormLaterWrong)

/-- 'permafrostlaw12.WormBound': WHATEVER THE INPUT: true; the input reads as it did. -/
def wormBoundSpec : ChangeSpec := { name := "wormBound", fn := fun _ => fun
  | [d1, d2, d3] => { results := [.lit (.bool true)], args := [d1, d2, d3] }
  | _ => none }
def wormBoundRow : OpenClaim := { program := "ytpblhdpnmnfieaa", sum := "c7434be6143a1372eb2400f776ec1a209350e8bbca01488d55caba026407cbbf", func := "permafrost/permafrostlaw12.WormBound", spec := "wormBound", inPlace := ["slices.overlaps[*permafrost/tree.entry]", "slices.overlaps[permafrost/tree.name]"], unfollowed := true, recurses := true, apart := false }
def WormBoundSaid : Prop := wormBoundRow.holds Try.pinned (OpenSpec.ofChange wormBoundSpec)

/-- ITS FALSE NEIGHBOUR: 'it returns false'. Refute it at one input. -/
def wormBoundWrong : ChangeSpec := { name := "wormBound", fn := fun _ => fun
  | [d1, d2, d3] => { results := [.lit (.bool false)], args := [d1, d2, d3] }
  | _ => none }
def WormBoundWrongFalsely : Prop := wormBoundRow.holds Try.pinned (OpenSpec.ofChange wormBoundWrong)

/- THE SECOND FORM. 'bulk': how many values and letters a reading holds, each counted each time it is reached (what is shared counts as often as it is met; a slice's spare places count too). A statement '..UptoSaid' is the law's where the arguments, and the package variables that the reading takes, are together of bulk at most 1048576: NARROWER than '..Said'. Prove '..Said' where nothing that the law and all that it calls make is longer than what came in: it says more and counts as full. Else prove '..UptoSaid'. A law counts once. -/
mutual
def uptoBulk {H : Type} : DataW H → Nat
  | .lit (.string bytes) => bytes.length + 1
  | .lit _ => 1
  | .nil => 1
  | .ptr d => uptoBulk d + 1
  | .slice elems spare => uptoBulkAll elems + uptoBulkAll spare + 1
  | .agg parts => uptoBulkAll parts + 1
  | .iface _ d => uptoBulk d + 1
  | .map entries => uptoBulkEntries entries + 1
  | .held _ => 1
def uptoBulkAll {H : Type} : List (DataW H) → Nat
  | [] => 0
  | d :: r => uptoBulk d + uptoBulkAll r
def uptoBulkEntries {H : Type} : List (Lit × DataW H) → Nat
  | [] => 0
  | x :: r => uptoBulkEntry x + uptoBulkEntries r
def uptoBulkEntry {H : Type} : Lit × DataW H → Nat
  | (.string bytes, d) => bytes.length + uptoBulk d + 1
  | (_, d) => uptoBulk d + 1
 end
def uptoSmall : (H : Type) → List (DataW H) → Bool := fun _ ds => decide (uptoBulkAll ds ≤ 1048576)
def OpenSpec.upto (s : _root_.Go.ChangeSpec) : _root_.Go.OpenSpec := { _root_.Go.OpenSpec.ofChange s with cond := some uptoSmall }

/-- 'permafrostlaw12.WormNumbers', WHERE WHAT IT READS IS OF BULK AT MOST 1048576: true; the input reads as it did. -/
def wormNumbersUptoRow : OpenClaim := { program := "ytpblhdpnmnfieaa", sum := "c7434be6143a1372eb2400f776ec1a209350e8bbca01488d55caba026407cbbf", func := "permafrost/permafrostlaw12.WormNumbers", spec := "wormNumbers", apart := false, narrowed := true }
def WormNumbersUptoSaid : Prop := wormNumbersUptoRow.holds Try.pinned (OpenSpec.upto wormNumbersSpec)

/-- 'permafrostlaw12.WormTells', WHERE WHAT IT READS IS OF BULK AT MOST 1048576: true; the input reads as it did. -/
def wormTellsUptoRow : OpenClaim := { program := "ytpblhdpnmnfieaa", sum := "c7434be6143a1372eb2400f776ec1a209350e8bbca01488d55caba026407cbbf", func := "permafrost/permafrostlaw12.WormTells", spec := "wormTells", apart := false, narrowed := true }
def WormTellsUptoSaid : Prop := wormTellsUptoRow.holds Try.pinned (OpenSpec.upto wormTellsSpec)

/-- 'permafrostlaw12.WormLives', WHERE WHAT IT READS IS OF BULK AT MOST 1048576: true; the input reads as it did. -/
def wormLivesUptoRow : OpenClaim := { program := "ytpblhdpnmnfieaa", sum := "c7434be6143a1372eb2400f776ec1a209350e8bbca01488d55caba026407cbbf", func := "permafrost/permafrostlaw12.WormLives", spec := "wormLives", inPlace := ["slices.overlaps[*permafrost/tree.entry]", "slices.overlaps[permafrost/tree.name]"], unfollowed := true, recurses := true, apart := false, narrowed := true }
def WormLivesUptoSaid : Prop := wormLivesUptoRow.holds Try.pinned (OpenSpec.upto wormLivesSpec)

/-- 'permafrostlaw12.WormLater', WHERE WHAT IT READS IS OF BULK AT MOST 1048576: true; the input reads as it did. -/
def wormLaterUptoRow : OpenClaim := { program := "ytpblhdpnmnfieaa", sum := "c7434be6143a1372eb2400f776ec1a209350e8bbca01488d55caba026407cbbf", func := "permafrost/permafrostlaw12.WormLater", spec := "wormLater", apart := false, narrowed := true }
def WormLaterUptoSaid : Prop := wormLaterUptoRow.holds Try.pinned (OpenSpec.upto wormLaterSpec)

/-- 'permafrostlaw12.WormBound', WHERE WHAT IT READS IS OF BULK AT MOST 1048576: true; the input reads as it did. -/
def wormBoundUptoRow : OpenClaim := { program := "ytpblhdpnmnfieaa", sum := "c7434be6143a1372eb2400f776ec1a209350e8bbca01488d55caba026407cbbf", func := "permafrost/permafrostlaw12.WormBound", spec := "wormBound", inPlace := ["slices.overlaps[*permafrost/tree.entry]", "slices.overlaps[permafrost/tree.name]"], unfollowed := true, recurses := true, apart := false, narrowed := true }
def WormBoundUptoSaid : Prop := wormBoundUptoRow.holds Try.pinned (OpenSpec.upto wormBoundSpec)

end Rows
end Go.Proofs.Ytpblhdpnmnfieaa
