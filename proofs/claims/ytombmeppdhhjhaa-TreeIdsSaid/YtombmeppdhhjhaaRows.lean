/-
  No cell of these rows narrows 'for every input' (looked for: loops, veiled, ifaces, maps, wideKeys, modest, calm, conditions, laid).
  DERIVED. THE GIVEN ROWS OF THIS SEAT. 3 by the template 'for every input the law returns true; each argument reads behind the call as it read before'; 0 by the template 'total and deterministic' (their statements: YtombmeppdhhjhaaTotals.lean).
  GIVEN WITH THE SEED: the statements are not yours to turn. If you find one false, say at which input.
  Laid BY PROGRAM, IN A SANDBOX (cutbox-rows.mjs): the forced cells as the released guide's own fill.sh prints them over the translation 2cb6b6ffb3714f93… (all of the seat's roots in one cut). By AI agents, Wed Nov 11 2026. No macro, syntax, notation, axiom, sorry.
-/
import Derived.Test.YtombmeppdhhjhaaChecked
import GoSem.Claim
import GoSem.ClaimJoined
import GoSem.ClaimMapViews
import Derived.JoinedTies
import Derived.KernelRfl
namespace Go.Proofs.Ytombmeppdhhjhaa
/- THE CELL 'sum', in the pinned program and in every row, IS THE sha256 OF THE DUMP (.gsa) THAT YtombmeppdhhjhaaProg.lean LOADS. Nothing in Lean hashes anything: it is a label: what it is worth is what the hold of that sum in a sandbox is worth. -/
noncomputable def Try.pinned : Pinned := { name := "ytombmeppdhhjhaa", sum := "2cb6b6ffb3714f93370867e9d06ec58941bc0e046c1c2acfcdac0254ba478149", checked := Try.checked }
namespace Rows
def none {H : Type} : Left H := { results := [], args := [] }

/-- 'permafrostlaw11.TreeReads': WHATEVER THE INPUT: true; the input reads as it did. -/
def treeReadsSpec : ChangeSpec := { name := "treeReads", fn := fun _ => fun
  | [d1, d2, d3] => { results := [.lit (.bool true)], args := [d1, d2, d3] }
  | _ => none }
def treeReadsRow : OpenClaim := { program := "ytombmeppdhhjhaa", sum := "2cb6b6ffb3714f93370867e9d06ec58941bc0e046c1c2acfcdac0254ba478149", func := "permafrost/permafrostlaw11.TreeReads", spec := "treeReads", inPlace := ["slices.overlaps[*permafrost/tree.entry]", "slices.overlaps[permafrost/tree.name]"], apart := false }
def TreeReadsSaid : Prop := treeReadsRow.holds Try.pinned (OpenSpec.ofChange treeReadsSpec)

/-- ITS FALSE NEIGHBOUR: 'it returns false'. Refute it at one input. -/
def treeReadsWrong : ChangeSpec := { name := "treeReads", fn := fun _ => fun
  | [d1, d2, d3] => { results := [.lit (.bool false)], args := [d1, d2, d3] }
  | _ => none }
def TreeReadsWrongFalsely : Prop := treeReadsRow.holds Try.pinned (OpenSpec.ofChange treeReadsWrong)

/-- 'permafrostlaw11.TreeIds': WHATEVER THE INPUT: true; the input reads as it did. -/
def treeIdsSpec : ChangeSpec := { name := "treeIds", fn := fun _ => fun
  | [d1, d2] => { results := [.lit (.bool true)], args := [d1, d2] }
  | _ => none }
def treeIdsRow : OpenClaim := { program := "ytombmeppdhhjhaa", sum := "2cb6b6ffb3714f93370867e9d06ec58941bc0e046c1c2acfcdac0254ba478149", func := "permafrost/permafrostlaw11.TreeIds", spec := "treeIds", inPlace := ["slices.overlaps[*permafrost/tree.entry]", "slices.overlaps[permafrost/tree.name]"], unfollowed := true, recurses := true, apart := false }
def TreeIdsSaid : Prop := treeIdsRow.holds Try.pinned (OpenSpec.ofChange treeIdsSpec)

/-- ITS FALSE NEIGHBOUR: 'it returns false'. Refute it at one input. -/
def treeIdsWrong : ChangeSpec := { name := "treeIds", fn := fun _ => fun
  | [d1, d2] => { results := [.lit (.bool false)], args := [d1, d2] }
  | _ => none }
def TreeIdsWrongFalsely : Prop := treeIdsRow.holds Try.pinned (OpenSpec.ofChange treeIdsWrong)

/-- 'permafrostlaw11.TreeSeals': WHATEVER THE INPUT: true; the input reads as it did. -/
def treeSealsSpec : ChangeSpec := { name := "treeSeals", fn := fun _ => fun
  | [d1, d2, d3, d4] => { results := [.lit (.bool true)], args := [d1, d2, d3, d4] }
  | _ => none }
def treeSealsRow : OpenClaim := { program := "ytombmeppdhhjhaa", sum := "2cb6b6ffb3714f93370867e9d06ec58941bc0e046c1c2acfcdac0254ba478149", func := "permafrost/permafrostlaw11.TreeSeals", spec := "treeSeals", inPlace := ["slices.overlaps[*permafrost/tree.entry]", "slices.overlaps[permafrost/tree.name]"], unfollowed := true, recurses := true, apart := false }
def TreeSealsSaid : Prop := treeSealsRow.holds Try.pinned (OpenSpec.ofChange treeSealsSpec)

/-- ITS FALSE NEIGHBOUR: 'it returns false'. Refute it at one input. -/
def treeSealsWrong : ChangeSpec := { name := "treeSeals", fn := fun _ => fun
  | [d1, d2, d3, d4] => { results := [.lit (.bool false)], args := [d1, d2, d3, d4] }
  | _ => none }
def TreeSealsWrongFalsely : Prop := treeSealsRow.holds Try.pinned (OpenSpec.ofChange treeSealsWrong)

/- THE SECOND FORM. 'bulk': how many values and letters a reading holds, each counted each time it is reached (what is shared counts as often as it is met; a slice's spare places count too). A statement '..UptoSaid' is the law's where the arguments, and the package variables that the reading takes, are together of bulk at most 1048576: NARROWER than '..Said'. Prove '..Said' where nothing that the law and all that it calls make is longer than what came in: it says more and counts as full. Else prove '..UptoSaid'. A law counts once. -/
mutual
def uptoBulk {H : Type} : DataW H → Nat
  | .lit (.string bytes) => bytes.length + 1
  | .lit _ => 1
  | .nil => 1
  | .ptr d => uptoBulk d + 1
  | .slice elems spare => uptoBulkAll elems + uptoBulkAll spare + 1
  | .agg parts => uptoBulkAll parts + 1
  | .iface _ d => uptoBulk d + 1
  | .map entries => uptoBulkEntries entries + 1
  | .held _ => 1
def uptoBulkAll {H : Type} : List (DataW H) → Nat
  | [] => 0
  | d :: r => uptoBulk d + uptoBulkAll r
def uptoBulkEntries {H : Type} : List (Lit × DataW H) → Nat
  | [] => 0
  | x :: r => uptoBulkEntry x + uptoBulkEntries r
def uptoBulkEntry {H : Type} : Lit × DataW H → Nat
  | (.string bytes, d) => bytes.length + uptoBulk d + 1
  | (_, d) => uptoBulk d + 1
 end
def uptoSmall : (H : Type) → List (DataW H) → Bool := fun _ ds => decide (uptoBulkAll ds ≤ 1048576)
def OpenSpec.upto (s : _root_.Go.ChangeSpec) : _root_.Go.OpenSpec := { _root_.Go.OpenSpec.ofChange s with cond := some uptoSmall }

/-- 'permafrostlaw11.TreeReads', WHERE WHAT IT READS IS OF BULK AT MOST 1048576: true; the input reads as it did. -/
def treeReadsUptoRow : OpenClaim := { program := "ytombmeppdhhjhaa", sum := "2cb6b6ffb3714f93370867e9d06ec58941bc0e046c1c2acfcdac0254ba478149", func := "permafrost/permafrostlaw11.TreeReads", spec := "treeReads", inPlace := ["slices.overlaps[*permafrost/tree.entry]", "slices.overlaps[permafrost/tree.name]"], apart := false, narrowed := true }
def TreeReadsUptoSaid : Prop := treeReadsUptoRow.holds Try.pinned (OpenSpec.upto treeReadsSpec)

/-- 'permafrostlaw11.TreeIds', WHERE WHAT IT READS IS OF BULK AT MOST 1048576: true; the input reads as it did. -/
def treeIdsUptoRow : OpenClaim := { program := "ytombmeppdhhjhaa", sum := "2cb6b6ffb3714f93370867e9d06ec58941bc0e046c1c2acfcdac0254ba478149", func := "permafrost/permafrostlaw11.TreeIds", spec := "treeIds", inPlace := ["slices.overlaps[*permafrost/tree.entry]", "slices.overlaps[permafrost/tree.name]"], unfollowed := true, recurses := true, apart := false, narrowed := true }
def TreeIdsUptoSaid : Prop := treeIdsUptoRow.holds Try.pinned (OpenSpec.upto treeIdsSpec)

/-- 'permafrostlaw11.TreeSeals', WHERE WHAT IT READS IS OF BULK AT MOST 1048576: true; the input reads as it did. -/
def treeSealsUptoRow : OpenClaim := { program := "ytombmeppdhhjhaa", sum := "2cb6b6ffb3714f93370867e9d06ec58941bc0e046c1c2acfcdac0254ba478149", func := "permafrost/permafrostlaw11.TreeSeals", spec := "treeSeals", inPlace := ["slices.overlaps[*permafrost/tree.entry]", "slices.overlaps[permafrost/tree.name]"], unfollowed := true, recurses := true, apart := false, narrowed := true }
def TreeSealsUptoSaid : Prop := treeSealsUptoRow.holds Try.pinned (OpenSpec.upto treeSealsSpec)

end Rows
end Go.Proofs.Ytombmeppdhhjhaa
