/-
  No cell of these rows narrows 'for every input' (looked for: loops, veiled, ifaces, maps, wideKeys, modest, calm, conditions, laid).
  DERIVED. THE GIVEN ROWS OF THIS SEAT. 6 by the template 'for every input the law returns true; each argument reads behind the call as it read before'; 0 by the template 'total and deterministic' (their statements: YtkjkmdhbodjeeaaTotals.lean).
  GIVEN WITH THE SEED: the statements are not yours to turn. If you find one false, say at which input.
  Laid BY PROGRAM, IN A SANDBOX (cutbox-rows.mjs): the forced cells as the released guide's own fill.sh prints them over the translation 0551df2254eb52bf… (all of the seat's roots in one cut). By AI agents, Wed Nov 11 2026. No macro, syntax, notation, axiom, sorry.
-/
import Derived.Test.YtkjkmdhbodjeeaaChecked
import GoSem.Claim
import GoSem.ClaimJoined
import GoSem.ClaimMapViews
import Derived.JoinedTies
import Derived.KernelRfl
namespace Go.Proofs.Ytkjkmdhbodjeeaa
/- THE CELL 'sum', in the pinned program and in every row, IS THE sha256 OF THE DUMP (.gsa) THAT YtkjkmdhbodjeeaaProg.lean LOADS. Nothing in Lean hashes anything: it is a label: what it is worth is what the hold of that sum in a sandbox is worth. -/
noncomputable def Try.pinned : Pinned := { name := "ytkjkmdhbodjeeaa", sum := "0551df2254eb52bf4128410ddbe130c82e24704c054965f8a1f56d04ffa700df", checked := Try.checked }
namespace Rows
def none {H : Type} : Left H := { results := [], args := [] }

/-- 'permafrostlaw9.BmapNumbers': WHATEVER THE INPUT: true; the input reads as it did. -/
def bmapNumbersSpec : ChangeSpec := { name := "bmapNumbers", fn := fun _ => fun
  | [] => { results := [.lit (.bool true)], args := [] }
  | _ => none }
def bmapNumbersRow : OpenClaim := { program := "ytkjkmdhbodjeeaa", sum := "0551df2254eb52bf4128410ddbe130c82e24704c054965f8a1f56d04ffa700df", func := "permafrost/permafrostlaw9.BmapNumbers", spec := "bmapNumbers", apart := false }
def BmapNumbersSaid : Prop := bmapNumbersRow.holds Try.pinned (OpenSpec.ofChange bmapNumbersSpec)

/-- ITS FALSE NEIGHBOUR: 'it returns false'. Refute it at one input. -/
def bmapNumbersWrong : ChangeSpec := { name := "bmapNumbers", fn := fun _ => fun
  | [] => { results := [.lit (.bool false)], args := [] }
  | _ => none }
def BmapNumbersWrongFalsely : Prop := bmapNumbersRow.holds Try.pinned (OpenSpec.ofChange bmapNumbersWrong)

/-- 'permafrostlaw9.BmapTells': WHATEVER THE INPUT: true; the input reads as it did. -/
def bmapTellsSpec : ChangeSpec := { name := "bmapTells", fn := fun _ => fun
  | [d1, d2, d3] => { results := [.lit (.bool true)], args := [d1, d2, d3] }
  | _ => none }
def bmapTellsRow : OpenClaim := { program := "ytkjkmdhbodjeeaa", sum := "0551df2254eb52bf4128410ddbe130c82e24704c054965f8a1f56d04ffa700df", func := "permafrost/permafrostlaw9.BmapTells", spec := "bmapTells", apart := false }
def BmapTellsSaid : Prop := bmapTellsRow.holds Try.pinned (OpenSpec.ofChange bmapTellsSpec)

/-- ITS FALSE NEIGHBOUR: 'it returns false'. Refute it at one input. -/
def bmapTellsWrong : ChangeSpec := { name := "bmapTells", fn := fun _ => fun
  | [d1, d2, d3] => { results := [.lit (.bool false)], args := [d1, d2, d3] }
  | _ => none }
def BmapTellsWrongFalsely : Prop := bmapTellsRow.holds Try.pinned (OpenSpec.ofChange bmapTellsWrong)

/-- 'permafrostlaw9.BmapGlues': WHATEVER THE INPUT: true; the input reads as it did. -/
def bmapGluesSpec : ChangeSpec := { name := "bmapGlues", fn := fun _ => fun
  | [d1, d2, d3] => { results := [.lit (.bool true)], args := [d1, d2, d3] }
  | _ => none }
def bmapGluesRow : OpenClaim := { program := "ytkjkmdhbodjeeaa", sum := "0551df2254eb52bf4128410ddbe130c82e24704c054965f8a1f56d04ffa700df", func := "permafrost/permafrostlaw9.BmapGlues", spec := "bmapGlues", unfollowed := true, recurses := true, apart := false }
def BmapGluesSaid : Prop := bmapGluesRow.holds Try.pinned (OpenSpec.ofChange bmapGluesSpec)

/-- ITS FALSE NEIGHBOUR: 'it returns false'. Refute it at one input. -/
def bmapGluesWrong : ChangeSpec := { name := "bmapGlues", fn := fun _ => fun
  | [d1, d2, d3] => { results := [.lit (.bool false)], args := [d1, d2, d3] }
  | _ => none }
def BmapGluesWrongFalsely : Prop := bmapGluesRow.holds Try.pinned (OpenSpec.ofChange bmapGluesWrong)

/-- 'permafrostlaw9.BmapGrows': WHATEVER THE INPUT: true; the input reads as it did. -/
def bmapGrowsSpec : ChangeSpec := { name := "bmapGrows", fn := fun _ => fun
  | [d] => { results := [.lit (.bool true)], args := [d] }
  | _ => none }
def bmapGrowsRow : OpenClaim := { program := "ytkjkmdhbodjeeaa", sum := "0551df2254eb52bf4128410ddbe130c82e24704c054965f8a1f56d04ffa700df", func := "permafrost/permafrostlaw9.BmapGrows", spec := "bmapGrows", apart := false }
def BmapGrowsSaid : Prop := bmapGrowsRow.holds Try.pinned (OpenSpec.ofChange bmapGrowsSpec)

/-- ITS FALSE NEIGHBOUR: 'it returns false'. Refute it at one input. -/
def bmapGrowsWrong : ChangeSpec := { name := "bmapGrows", fn := fun _ => fun
  | [d] => { results := [.lit (.bool false)], args := [d] }
  | _ => none }
def BmapGrowsWrongFalsely : Prop := bmapGrowsRow.holds Try.pinned (OpenSpec.ofChange bmapGrowsWrong)

/-- 'permafrostlaw9.BmapOwn': WHATEVER THE INPUT: true; the input reads as it did. -/
def bmapOwnSpec : ChangeSpec := { name := "bmapOwn", fn := fun _ => fun
  | [d1, d2] => { results := [.lit (.bool true)], args := [d1, d2] }
  | _ => none }
def bmapOwnRow : OpenClaim := { program := "ytkjkmdhbodjeeaa", sum := "0551df2254eb52bf4128410ddbe130c82e24704c054965f8a1f56d04ffa700df", func := "permafrost/permafrostlaw9.BmapOwn", spec := "bmapOwn", apart := false }
def BmapOwnSaid : Prop := bmapOwnRow.holds Try.pinned (OpenSpec.ofChange bmapOwnSpec)

/-- ITS FALSE NEIGHBOUR: 'it returns false'. Refute it at one input. -/
def bmapOwnWrong : ChangeSpec := { name := "bmapOwn", fn := fun _ => fun
  | [d1, d2] => { results := [.lit (.bool false)], args := [d1, d2] }
  | _ => none }
def BmapOwnWrongFalsely : Prop := bmapOwnRow.holds Try.pinned (OpenSpec.ofChange bmapOwnWrong)

/-- 'permafrostlaw9.BmapSizes': WHATEVER THE INPUT: true; the input reads as it did. -/
def bmapSizesSpec : ChangeSpec := { name := "bmapSizes", fn := fun _ => fun
  | [d] => { results := [.lit (.bool true)], args := [d] }
  | _ => none }
def bmapSizesRow : OpenClaim := { program := "ytkjkmdhbodjeeaa", sum := "0551df2254eb52bf4128410ddbe130c82e24704c054965f8a1f56d04ffa700df", func := "permafrost/permafrostlaw9.BmapSizes", spec := "bmapSizes", apart := false }
def BmapSizesSaid : Prop := bmapSizesRow.holds Try.pinned (OpenSpec.ofChange bmapSizesSpec)

/-- ITS FALSE NEIGHBOUR: 'it returns false'. Refute it at one input. -/
def bmapSizesWrong : ChangeSpec := { name := "bmapSizes", fn := fun _ => fun
  | [d] => { results := [.lit (.bool false)], args := [d] }
  | _ => none }
def BmapSizesWrongFalsely : Prop := bmapSizesRow.holds Try.pinned (OpenSpec.ofChange bmapSizesWrong)

/- THE SECOND FORM. 'bulk': how many values and letters a reading holds, each counted each time it is reached (what is shared counts as often as it is met; a slice's spare places count too). A statement '..UptoSaid' is the law's where the arguments, and the package variables that the reading takes, are together of bulk at most 1048576: NARROWER than '..Said'. Prove '..Said' where nothing that the law and all that it calls make is longer than what came in: it says more and counts as full. Else prove '..UptoSaid'. A law counts once. -/
mutual
def uptoBulk {H : Type} : DataW H → Nat
  | .lit (.string bytes) => bytes.length + 1
  | .lit _ => 1
  | .nil => 1
  | .ptr d => uptoBulk d + 1
  | .slice elems spare => uptoBulkAll elems + uptoBulkAll spare + 1
  | .agg parts => uptoBulkAll parts + 1
  | .iface _ d => uptoBulk d + 1
  | .map entries => uptoBulkEntries entries + 1
  | .held _ => 1
def uptoBulkAll {H : Type} : List (DataW H) → Nat
  | [] => 0
  | d :: r => uptoBulk d + uptoBulkAll r
def uptoBulkEntries {H : Type} : List (Lit × DataW H) → Nat
  | [] => 0
  | x :: r => uptoBulkEntry x + uptoBulkEntries r
def uptoBulkEntry {H : Type} : Lit × DataW H → Nat
  | (.string bytes, d) => bytes.length + uptoBulk d + 1
  | (_, d) => uptoBulk d + 1
 end
def uptoSmall : (H : Type) → List (DataW H) → Bool := fun _ ds => decide (uptoBulkAll ds ≤ 1048576)
def OpenSpec.upto (s : _root_.Go.ChangeSpec) : _root_.Go.OpenSpec := { _root_.Go.OpenSpec.ofChange s with cond := some uptoSmall }

/-- 'permafrostlaw9.BmapNumbers', WHERE WHAT IT READS IS OF BULK AT MOST 1048576: true; the input reads as it did. -/
def bmapNumbersUptoRow : OpenClaim := { program := "ytkjkmdhbodjeeaa", sum := "0551df2254eb52bf4128410ddbe130c82e24704c054965f8a1f56d04ffa700df", func := "permafrost/permafrostlaw9.BmapNumbers", spec := "bmapNumbers", apart := false, narrowed := true }
def BmapNumbersUptoSaid : Prop := bmapNumbersUptoRow.holds Try.pinned (OpenSpec.upto bmapNumbersSpec)

/-- 'permafrostlaw9.BmapTells', WHERE WHAT IT READS IS OF BULK AT MOST 1048576: true; the input reads as it did. -/
def bmapTellsUptoRow : OpenClaim := { program := "ytkjkmdhbodjeeaa", sum := "0551df2254eb52bf4128410ddbe130c82e24704c054965f8a1f56d04ffa700df", func := "permafrost/permafrostlaw9.BmapTells", spec := "bmapTells", apart := false, narrowed := true }
def BmapTellsUptoSaid : Prop := bmapTellsUptoRow.holds Try.pinned (OpenSpec.upto bmapTellsSpec)

/-- 'permafrostlaw9.BmapGlues', WHERE WHAT IT READS IS OF BULK AT MOST 1048576: true; the input reads as it did. -/
def bmapGluesUptoRow : OpenClaim := { program := "ytkjkmdhbodjeeaa", sum := "0551df2254eb52bf4128410ddbe130c82e24704c054965f8a1f56d04ffa700df", func := "permafrost/permafrostlaw9.BmapGlues", spec := "bmapGlues", unfollowed := true, recurses := true, apart := false, narrowed := true }
def BmapGluesUptoSaid : Prop := bmapGluesUptoRow.holds Try.pinned (OpenSpec.upto bmapGluesSpec)

/-- 'permafrostlaw9.BmapGrows', WHERE WHAT IT READS IS OF BULK AT MOST 1048576: true; the input reads as it did. -/
def bmapGrowsUptoRow : OpenClaim := { program := "ytkjkmdhbodjeeaa", sum := "0551df2254eb52bf4128410ddbe130c82e24704c054965f8a1f56d04ffa700df", func := "permafrost/permafrostlaw9.BmapGrows", spec := "bmapGrows", apart := false, narrowed := true }
def BmapGrowsUptoSaid : Prop := bmapGrowsUptoRow.holds Try.pinned (OpenSpec.upto bmapGrowsSpec)

/-- 'permafrostlaw9.BmapOwn', WHERE WHAT IT READS IS OF BULK AT MOST 1048576: true; the input reads as it did. -/
def bmapOwnUptoRow : OpenClaim := { program := "ytkjkmdhbodjeeaa", sum := "0551df2254eb52bf4128410ddbe130c82e24704c054965f8a1f56d04ffa700df", func := "permafrost/permafrostlaw9.BmapOwn", spec := "bmapOwn", apart := false, narrowed := true }
def BmapOwnUptoSaid : Prop := bmapOwnUptoRow.holds Try.pinned (OpenSpec.upto bmapOwnSpec)

/-- 'permafrostlaw9.BmapSizes', WHERE WHAT IT READS IS OF BULK AT MOST 1048576: true; the input reads as it did. -/
def bmapSizesUptoRow : OpenClaim := { program := "ytkjkmdhbodjeeaa", sum := "0551df2254eb52bf4128410ddbe130c82e24704c054965f8a1f56d04ffa700df", func := "permafrost/permafrostlaw9.BmapSizes", spec := "bmapSizes", apart := false, narrowed := true }
def BmapSizesUptoSaid : Prop := bmapSizesUptoRow.holds Try.pinned (OpenSpec.upto bmapSizesSpec)

end Rows
end Go.Proofs.Ytkjkmdhbodjeeaa
