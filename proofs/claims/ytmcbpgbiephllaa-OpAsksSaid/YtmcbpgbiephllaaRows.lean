/-
  No cell of these rows narrows 'for every input' (looked for: loops, veiled, ifaces, maps, wideKeys, modest, calm, conditions, laid).
  DERIVED. THE GIVEN ROWS OF THIS SEAT. 6 by the template 'for every input the law returns true; each argument reads behind the call as it read before'; 0 by the template 'total and deterministic' (their statements: YtmcbpgbiephllaaTotals.lean).
  GIVEN WITH THE SEED: the statements are not yours to turn. If you find one false, say at which input.
  Laid BY PROGRAM, IN A SANDBOX (cutbox-rows.mjs): the forced cells as the released guide's own fill.sh prints them over the translation d9603e58c0fac2e3… (all of the seat's roots in one cut). By AI agents, Wed Nov 11 2026. No macro, syntax, notation, axiom, sorry.
-/
import Derived.Test.YtmcbpgbiephllaaChecked
import GoSem.Claim
import GoSem.ClaimJoined
import GoSem.ClaimMapViews
import Derived.JoinedTies
import Derived.KernelRfl
namespace Go.Proofs.Ytmcbpgbiephllaa
/- THE CELL 'sum', in the pinned program and in every row, IS THE sha256 OF THE DUMP (.gsa) THAT YtmcbpgbiephllaaProg.lean LOADS. Nothing in Lean hashes anything: it is a label: what it is worth is what the hold of that sum in a sandbox is worth. -/
noncomputable def Try.pinned : Pinned := { name := "ytmcbpgbiephllaa", sum := "d9603e58c0fac2e349a44c16f830fb25eec59c201f53c4b3384e12585058ee1c", checked := Try.checked }
namespace Rows
def none {H : Type} : Left H := { results := [], args := [] }

/-- 'permafrostlaw15.OpNumbers': WHATEVER THE INPUT: true; the input reads as it did. -/
def opNumbersSpec : ChangeSpec := { name := "opNumbers", fn := fun _ => fun
  | [] => { results := [.lit (.bool true)], args := [] }
  | _ => none }
def opNumbersRow : OpenClaim := { program := "ytmcbpgbiephllaa", sum := "d9603e58c0fac2e349a44c16f830fb25eec59c201f53c4b3384e12585058ee1c", func := "permafrost/permafrostlaw15.OpNumbers", spec := "opNumbers", apart := false }
def OpNumbersSaid : Prop := opNumbersRow.holds Try.pinned (OpenSpec.ofChange opNumbersSpec)

/-- ITS FALSE NEIGHBOUR: 'it returns false'. Refute it at one input. -/
def opNumbersWrong : ChangeSpec := { name := "opNumbers", fn := fun _ => fun
  | [] => { results := [.lit (.bool false)], args := [] }
  | _ => none }
def OpNumbersWrongFalsely : Prop := opNumbersRow.holds Try.pinned (OpenSpec.ofChange opNumbersWrong)

/-- 'permafrostlaw15.OpTells': WHATEVER THE INPUT: true; the input reads as it did. -/
def opTellsSpec : ChangeSpec := { name := "opTells", fn := fun _ => fun
  | [d1, d2, d3, d4] => { results := [.lit (.bool true)], args := [d1, d2, d3, d4] }
  | _ => none }
def opTellsRow : OpenClaim := { program := "ytmcbpgbiephllaa", sum := "d9603e58c0fac2e349a44c16f830fb25eec59c201f53c4b3384e12585058ee1c", func := "permafrost/permafrostlaw15.OpTells", spec := "opTells", apart := false }
def OpTellsSaid : Prop := opTellsRow.holds Try.pinned (OpenSpec.ofChange opTellsSpec)

/-- ITS FALSE NEIGHBOUR: 'it returns false'. Refute it at one input. -/
def opTellsWrong : ChangeSpec := { name := "opTells", fn := fun _ => fun
  | [d1, d2, d3, d4] => { results := [.lit (.bool false)], args := [d1, d2, d3, d4] }
  | _ => none }
def OpTellsWrongFalsely : Prop := opTellsRow.holds Try.pinned (OpenSpec.ofChange opTellsWrong)

/-- 'permafrostlaw15.OpReplies': WHATEVER THE INPUT: true; the input reads as it did. -/
def opRepliesSpec : ChangeSpec := { name := "opReplies", fn := fun _ => fun
  | [d1, d2, d3, d4] => { results := [.lit (.bool true)], args := [d1, d2, d3, d4] }
  | _ => none }
def opRepliesRow : OpenClaim := { program := "ytmcbpgbiephllaa", sum := "d9603e58c0fac2e349a44c16f830fb25eec59c201f53c4b3384e12585058ee1c", func := "permafrost/permafrostlaw15.OpReplies", spec := "opReplies", apart := false }
def OpRepliesSaid : Prop := opRepliesRow.holds Try.pinned (OpenSpec.ofChange opRepliesSpec)

/-- ITS FALSE NEIGHBOUR: 'it returns false'. Refute it at one input. -/
def opRepliesWrong : ChangeSpec := { name := "opReplies", fn := fun _ => fun
  | [d1, d2, d3, d4] => { results := [.lit (.bool false)], args := [d1, d2, d3, d4] }
  | _ => none }
def OpRepliesWrongFalsely : Prop := opRepliesRow.holds Try.pinned (OpenSpec.ofChange opRepliesWrong)

/-- 'permafrostlaw15.OpBack': WHATEVER THE INPUT: true; the input reads as it did. -/
def opBackSpec : ChangeSpec := { name := "opBack", fn := fun _ => fun
  | [d1, d2, d3, d4] => { results := [.lit (.bool true)], args := [d1, d2, d3, d4] }
  | _ => none }
def opBackRow : OpenClaim := { program := "ytmcbpgbiephllaa", sum := "d9603e58c0fac2e349a44c16f830fb25eec59c201f53c4b3384e12585058ee1c", func := "permafrost/permafrostlaw15.OpBack", spec := "opBack", apart := false }
def OpBackSaid : Prop := opBackRow.holds Try.pinned (OpenSpec.ofChange opBackSpec)

/-- ITS FALSE NEIGHBOUR: 'it returns false'. Refute it at one input. -/
def opBackWrong : ChangeSpec := { name := "opBack", fn := fun _ => fun
  | [d1, d2, d3, d4] => { results := [.lit (.bool false)], args := [d1, d2, d3, d4] }
  | _ => none }
def OpBackWrongFalsely : Prop := opBackRow.holds Try.pinned (OpenSpec.ofChange opBackWrong)

/-- 'permafrostlaw15.OpAsks': WHATEVER THE INPUT: true; the input reads as it did. -/
def opAsksSpec : ChangeSpec := { name := "opAsks", fn := fun _ => fun
  | [d1, d2] => { results := [.lit (.bool true)], args := [d1, d2] }
  | _ => none }
def opAsksRow : OpenClaim := { program := "ytmcbpgbiephllaa", sum := "d9603e58c0fac2e349a44c16f830fb25eec59c201f53c4b3384e12585058ee1c", func := "permafrost/permafrostlaw15.OpAsks", spec := "opAsks", apart := false }
def OpAsksSaid : Prop := opAsksRow.holds Try.pinned (OpenSpec.ofChange opAsksSpec)

/-- ITS FALSE NEIGHBOUR: 'it returns false'. Refute it at one input. -/
def opAsksWrong : ChangeSpec := { name := "opAsks", fn := fun _ => fun
  | [d1, d2] => { results := [.lit (.bool false)], args := [d1, d2] }
  | _ => none }
def OpAsksWrongFalsely : Prop := opAsksRow.holds Try.pinned (OpenSpec.ofChange opAsksWrong)

/-- 'permafrostlaw15.OpCuts': WHATEVER THE INPUT: true; the input reads as it did. -/
def opCutsSpec : ChangeSpec := { name := "opCuts", fn := fun _ => fun
  | [d1, d2, d3, d4] => { results := [.lit (.bool true)], args := [d1, d2, d3, d4] }
  | _ => none }
def opCutsRow : OpenClaim := { program := "ytmcbpgbiephllaa", sum := "d9603e58c0fac2e349a44c16f830fb25eec59c201f53c4b3384e12585058ee1c", func := "permafrost/permafrostlaw15.OpCuts", spec := "opCuts", apart := false }
def OpCutsSaid : Prop := opCutsRow.holds Try.pinned (OpenSpec.ofChange opCutsSpec)

/-- ITS FALSE NEIGHBOUR: 'it returns false'. Refute it at one input. -/
def opCutsWrong : ChangeSpec := { name := "opCuts", fn := fun _ => fun
  | [d1, d2, d3, d4] => { results := [.lit (.bool false)], args := [d1, d2, d3, d4] }
  | _ => none }
def OpCutsWrongFalsely : Prop := opCutsRow.holds Try.pinned (OpenSpec.ofChange opCutsWrong)

/- THE SECOND FORM. 'bulk': how many values and letters a reading holds, each counted each time it is reached (what is shared counts as often as it is met; a slice's spare places count too). A statement '..UptoSaid' is the law's where the arguments, and the package variables that the reading takes, are together of bulk at most 1048576: NARROWER than '..Said'. Prove '..Said' where nothing that the law and all that it calls make is longer than what came in: it says more and counts as full. Else prove '..UptoSaid'. A law counts once. -/
mutual
def uptoBulk {H : Type} : DataW H → Nat
  | .lit (.string bytes) => bytes.length + 1
  | .lit _ => 1
  | .nil => 1
  | .ptr d => uptoBulk d + 1
  | .slice elems spare => uptoBulkAll elems + uptoBulkAll spare + 1
  | .agg parts => uptoBulkAll parts + 1
  | .iface _ d => uptoBulk d + 1
  | .map entries => uptoBulkEntries entries + 1
  | .held _ => 1
def uptoBulkAll {H : Type} : List (DataW H) → Nat
  | [] => 0
  | d :: r => uptoBulk d + uptoBulkAll r
def uptoBulkEntries {H : Type} : List (Lit × DataW H) → Nat
  | [] => 0
  | x :: r => uptoBulkEntry x + uptoBulkEntries r
def uptoBulkEntry {H : Type} : Lit × DataW H → Nat
  | (.string bytes, d) => bytes.length + uptoBulk d + 1
  | (_, d) => uptoBulk d + 1
 end
def uptoSmall : (H : Type) → List (DataW H) → Bool := fun _ ds => decide (uptoBulkAll ds ≤ 1048576)
def OpenSpec.upto (s : _root_.Go.ChangeSpec) : _root_.Go.OpenSpec := { _root_.Go.OpenSpec.ofChange s with cond := some uptoSmall }

/-- 'permafrostlaw15.OpNumbers', WHERE WHAT IT READS IS OF BULK AT MOST 1048576: true; the input reads as it did. -/
def opNumbersUptoRow : OpenClaim := { program := "ytmcbpgbiephllaa", sum := "d9603e58c0fac2e349a44c16f830fb25eec59c201f53c4b3384e12585058ee1c", func := "permafrost/permafrostlaw15.OpNumbers", spec := "opNumbers", apart := false, narrowed := true }
def OpNumbersUptoSaid : Prop := opNumbersUptoRow.holds Try.pinned (OpenSpec.upto opNumbersSpec)

/-- 'permafrostlaw15.OpTells', WHERE WHAT IT READS IS OF BULK AT MOST 1048576: true; the input reads as it did. -/
def opTellsUptoRow : OpenClaim := { program := "ytmcbpgbiephllaa", sum := "d9603e58c0fac2e349a44c16f830fb25eec59c201f53c4b3384e12585058ee1c", func := "permafrost/permafrostlaw15.OpTells", spec := "opTells", apart := false, narrowed := true }
def OpTellsUptoSaid : Prop := opTellsUptoRow.holds Try.pinned (OpenSpec.upto opTellsSpec)

/-- 'permafrostlaw15.OpReplies', WHERE WHAT IT READS IS OF BULK AT MOST 1048576: true; the input reads as it did. -/
def opRepliesUptoRow : OpenClaim := { program := "ytmcbpgbiephllaa", sum := "d9603e58c0fac2e349a44c16f830fb25eec59c201f53c4b3384e12585058ee1c", func := "permafrost/permafrostlaw15.OpReplies", spec := "opReplies", apart := false, narrowed := true }
def OpRepliesUptoSaid : Prop := opRepliesUptoRow.holds Try.pinned (OpenSpec.upto opRepliesSpec)

/-- 'permafrostlaw15.OpBack', WHERE WHAT IT READS IS OF BULK AT MOST 1048576: true; the input reads as it did. -/
def opBackUptoRow : OpenClaim := { program := "ytmcbpgbiephllaa", sum := "d9603e58c0fac2e349a44c16f830fb25eec59c201f53c4b3384e12585058ee1c", func := "permafrost/permafrostlaw15.OpBack", spec := "opBack", apart := false, narrowed := true }
def OpBackUptoSaid : Prop := opBackUptoRow.holds Try.pinned (OpenSpec.upto opBackSpec)

/-- 'permafrostlaw15.OpAsks', WHERE WHAT IT READS IS OF BULK AT MOST 1048576: true; the input reads as it did. -/
def opAsksUptoRow : OpenClaim := { program := "ytmcbpgbiephllaa", sum := "d9603e58c0fac2e349a44c16f830fb25eec59c201f53c4b3384e12585058ee1c", func := "permafrost/permafrostlaw15.OpAsks", spec := "opAsks", apart := false, narrowed := true }
def OpAsksUptoSaid : Prop := opAsksUptoRow.holds Try.pinned (OpenSpec.upto opAsksSpec)

/-- 'permafrostlaw15.OpCuts', WHERE WHAT IT READS IS OF BULK AT MOST 1048576: true; the input reads as it did. -/
def opCutsUptoRow : OpenClaim := { program := "ytmcbpgbiephllaa", sum := "d9603e58c0fac2e349a44c16f830fb25eec59c201f53c4b3384e12585058ee1c", func := "permafrost/permafrostlaw15.OpCuts", spec := "opCuts", apart := false, narrowed := true }
def OpCutsUptoSaid : Prop := opCutsUptoRow.holds Try.pinned (OpenSpec.upto opCutsSpec)

end Rows
end Go.Proofs.Ytmcbpgbiephllaa
