/-
  NARROWER THAN 'FOR EVERY INPUT', by the rows' own cells (each row's printed sentence says how): StateKept: laid · StateRefused: laid · StateBack: laid · StateReads: laid · StateClock: laid · StateOpens: laid · StateOpenFiles: laid · StateTwins: laid · StateRenames: laid · StateSnaps: laid.
  DERIVED. THE GIVEN ROWS OF THIS SEAT. 10 by the template 'for every input the law returns true; each argument reads behind the call as it read before'; 0 by the template 'total and deterministic' (their statements: YtbnpgakmhhfjkaaGreatDoorTotals.lean).
  GIVEN WITH THE SEED: the statements are not yours to turn. If you find one false, say at which input.
  Laid BY PROGRAM, IN A SANDBOX (cutbox-rows.mjs): the forced cells as the released guide's own fill.sh prints them over the translation fe26bcebc9277029… (all of the seat's roots in one cut). By AI agents, Wed Nov 11 2026. No macro, syntax, notation, axiom, sorry.
-/
import Derived.Test.YtbnpgakmhhfjkaaGreatDoorChecked
import GoSem.Claim
import GoSem.ClaimJoined
import GoSem.ClaimMapViews
import Derived.JoinedTies
import Derived.KernelRfl
namespace Go.Proofs.YtbnpgakmhhfjkaaGreatDoor
/- THE CELL 'sum', in the pinned program and in every row, IS THE sha256 OF THE DUMP (.gsa) THAT YtbnpgakmhhfjkaaGreatDoorProg.lean LOADS. Nothing in Lean hashes anything: it is a label: what it is worth is what the hold of that sum in a sandbox is worth. -/
noncomputable def Tryz.pinned : Pinned := { name := "ytbnpgakmhhfjkaagreatdoor", sum := "fe26bcebc9277029b6f3d3a2d6ee3fd8e54a4c0faa36def6c27013cc1f528b21", checked := Tryz.checked }
namespace Rows
def none {H : Type} : Left H := { results := [], args := [] }

/- WHAT THE LISTED PACKAGE-LEVEL VARIABLES READ AS WHEN THE CALL BEGINS. Each datum BY PROGRAM (the guide's laid-datum.mjs) off the statement by which the dump's own 'gosem.cut.vars' lays the variable. In a bare row this is a premise. The card (YtbnpgakmhhfjkaaGreatDoorCards.lean) ties it to the program's text. -/
def laid_permafrost_sha_roundWords {H : Type} : DataW H := .agg [.lit (.int .u32 1116352408), .lit (.int .u32 1899447441), .lit (.int .u32 3049323471), .lit (.int .u32 3921009573), .lit (.int .u32 961987163), .lit (.int .u32 1508970993), .lit (.int .u32 2453635748), .lit (.int .u32 2870763221), .lit (.int .u32 3624381080), .lit (.int .u32 310598401), .lit (.int .u32 607225278), .lit (.int .u32 1426881987), .lit (.int .u32 1925078388), .lit (.int .u32 2162078206), .lit (.int .u32 2614888103), .lit (.int .u32 3248222580), .lit (.int .u32 3835390401), .lit (.int .u32 4022224774), .lit (.int .u32 264347078), .lit (.int .u32 604807628), .lit (.int .u32 770255983), .lit (.int .u32 1249150122), .lit (.int .u32 1555081692), .lit (.int .u32 1996064986), .lit (.int .u32 2554220882), .lit (.int .u32 2821834349), .lit (.int .u32 2952996808), .lit (.int .u32 3210313671), .lit (.int .u32 3336571891), .lit (.int .u32 3584528711), .lit (.int .u32 113926993), .lit (.int .u32 338241895), .lit (.int .u32 666307205), .lit (.int .u32 773529912), .lit (.int .u32 1294757372), .lit (.int .u32 1396182291), .lit (.int .u32 1695183700), .lit (.int .u32 1986661051), .lit (.int .u32 2177026350), .lit (.int .u32 2456956037), .lit (.int .u32 2730485921), .lit (.int .u32 2820302411), .lit (.int .u32 3259730800), .lit (.int .u32 3345764771), .lit (.int .u32 3516065817), .lit (.int .u32 3600352804), .lit (.int .u32 4094571909), .lit (.int .u32 275423344), .lit (.int .u32 430227734), .lit (.int .u32 506948616), .lit (.int .u32 659060556), .lit (.int .u32 883997877), .lit (.int .u32 958139571), .lit (.int .u32 1322822218), .lit (.int .u32 1537002063), .lit (.int .u32 1747873779), .lit (.int .u32 1955562222), .lit (.int .u32 2024104815), .lit (.int .u32 2227730452), .lit (.int .u32 2361852424), .lit (.int .u32 2428436474), .lit (.int .u32 2756734187), .lit (.int .u32 3204031479), .lit (.int .u32 3329325298)]

/-- 'permafrostlaw14.StateKept': WHATEVER THE INPUT: true; the input reads as it did. -/
def stateKeptSpec : ChangeSpec := { name := "stateKept", fn := fun _ => fun
  | [d1, d2, d3] => { results := [.lit (.bool true)], args := [d1, d2, d3] }
  | _ => none }
def stateKeptRow : OpenClaim := { program := "ytbnpgakmhhfjkaagreatdoor", sum := "fe26bcebc9277029b6f3d3a2d6ee3fd8e54a4c0faa36def6c27013cc1f528b21", func := "permafrost/permafrostlaw14.StateKept", spec := "stateKept", inPlace := ["slices.overlaps[*permafrost/tree.entry]", "slices.overlaps[permafrost/tree.name]", "internal/abi.NoEscape", "internal/bytealg.abigen_runtime_cmpstring"], unfollowed := true, recurses := true, named := ["permafrost/sha.roundWords"], apart := false, laid := [("permafrost/sha.roundWords", laid_permafrost_sha_roundWords)] }
def StateKeptSaid : Prop := stateKeptRow.holds Tryz.pinned (OpenSpec.ofChange stateKeptSpec)

/-- ITS FALSE NEIGHBOUR: 'it returns false'. Refute it at one input. -/
def stateKeptWrong : ChangeSpec := { name := "stateKept", fn := fun _ => fun
  | [d1, d2, d3] => { results := [.lit (.bool false)], args := [d1, d2, d3] }
  | _ => none }
def StateKeptWrongFalsely : Prop := stateKeptRow.holds Tryz.pinned (OpenSpec.ofChange stateKeptWrong)

/-- 'permafrostlaw14.StateRefused': WHATEVER THE INPUT: true; the input reads as it did. -/
def stateRefusedSpec : ChangeSpec := { name := "stateRefused", fn := fun _ => fun
  | [d] => { results := [.lit (.bool true)], args := [d] }
  | _ => none }
def stateRefusedRow : OpenClaim := { program := "ytbnpgakmhhfjkaagreatdoor", sum := "fe26bcebc9277029b6f3d3a2d6ee3fd8e54a4c0faa36def6c27013cc1f528b21", func := "permafrost/permafrostlaw14.StateRefused", spec := "stateRefused", inPlace := ["slices.overlaps[*permafrost/tree.entry]", "slices.overlaps[permafrost/tree.name]"], unfollowed := true, recurses := true, named := ["permafrost/sha.roundWords"], apart := false, laid := [("permafrost/sha.roundWords", laid_permafrost_sha_roundWords)] }
def StateRefusedSaid : Prop := stateRefusedRow.holds Tryz.pinned (OpenSpec.ofChange stateRefusedSpec)

/-- ITS FALSE NEIGHBOUR: 'it returns false'. Refute it at one input. -/
def stateRefusedWrong : ChangeSpec := { name := "stateRefused", fn := fun _ => fun
  | [d] => { results := [.lit (.bool false)], args := [d] }
  | _ => none }
def StateRefusedWrongFalsely : Prop := stateRefusedRow.holds Tryz.pinned (OpenSpec.ofChange stateRefusedWrong)

/-- 'permafrostlaw14.StateBack': WHATEVER THE INPUT: true; the input reads as it did. -/
def stateBackSpec : ChangeSpec := { name := "stateBack", fn := fun _ => fun
  | [d1, d2] => { results := [.lit (.bool true)], args := [d1, d2] }
  | _ => none }
def stateBackRow : OpenClaim := { program := "ytbnpgakmhhfjkaagreatdoor", sum := "fe26bcebc9277029b6f3d3a2d6ee3fd8e54a4c0faa36def6c27013cc1f528b21", func := "permafrost/permafrostlaw14.StateBack", spec := "stateBack", inPlace := ["slices.overlaps[*permafrost/tree.entry]", "slices.overlaps[permafrost/tree.name]"], unfollowed := true, recurses := true, named := ["permafrost/sha.roundWords"], apart := false, laid := [("permafrost/sha.roundWords", laid_permafrost_sha_roundWords)] }
def StateBackSaid : Prop := stateBackRow.holds Tryz.pinned (OpenSpec.ofChange stateBackSpec)

/-- ITS FALSE NEIGHBOUR: 'it returns false'. Refute it at one input. -/
def stateBackWrong : ChangeSpec := { name := "stateBack", fn := fun _ => fun
  | [d1, d2] => { results := [.lit (.bool false)], args := [d1, d2] }
  | _ => none }
def StateBackWrongFalsely : Prop := stateBackRow.holds Tryz.pinned (OpenSpec.ofChange stateBackWrong)

/-- 'permafrostlaw14.StateReads': WHATEVER THE INPUT: true; the input reads as it did. -/
def stateReadsSpec : ChangeSpec := { name := "stateReads", fn := fun _ => fun
  | [d1, d2, d3, d4] => { results := [.lit (.bool true)], args := [d1, d2, d3, d4] }
  | _ => none }
def stateReadsRow : OpenClaim := { program := "ytbnpgakmhhfjkaagreatdoor", sum := "fe26bcebc9277029b6f3d3a2d6ee3fd8e54a4c0faa36def6c27013cc1f528b21", func := "permafrost/permafrostlaw14.StateReads", spec := "stateReads", inPlace := ["slices.overlaps[*permafrost/tree.entry]", "slices.overlaps[permafrost/tree.name]"], unfollowed := true, recurses := true, named := ["permafrost/sha.roundWords"], apart := false, laid := [("permafrost/sha.roundWords", laid_permafrost_sha_roundWords)] }
def StateReadsSaid : Prop := stateReadsRow.holds Tryz.pinned (OpenSpec.ofChange stateReadsSpec)

/-- ITS FALSE NEIGHBOUR: 'it returns false'. Refute it at one input. -/
def stateReadsWrong : ChangeSpec := { name := "stateReads", fn := fun _ => fun
  | [d1, d2, d3, d4] => { results := [.lit (.bool false)], args := [d1, d2, d3, d4] }
  | _ => none }
def StateReadsWrongFalsely : Prop := stateReadsRow.holds Tryz.pinned (OpenSpec.ofChange stateReadsWrong)

/-- 'permafrostlaw14.StateClock': WHATEVER THE INPUT: true; the input reads as it did. -/
def stateClockSpec : ChangeSpec := { name := "stateClock", fn := fun _ => fun
  | [d] => { results := [.lit (.bool true)], args := [d] }
  | _ => none }
def stateClockRow : OpenClaim := { program := "ytbnpgakmhhfjkaagreatdoor", sum := "fe26bcebc9277029b6f3d3a2d6ee3fd8e54a4c0faa36def6c27013cc1f528b21", func := "permafrost/permafrostlaw14.StateClock", spec := "stateClock", inPlace := ["slices.overlaps[*permafrost/tree.entry]", "slices.overlaps[permafrost/tree.name]"], unfollowed := true, recurses := true, named := ["permafrost/sha.roundWords"], apart := false, laid := [("permafrost/sha.roundWords", laid_permafrost_sha_roundWords)] }
def StateClockSaid : Prop := stateClockRow.holds Tryz.pinned (OpenSpec.ofChange stateClockSpec)

/-- ITS FALSE NEIGHBOUR: 'it returns false'. Refute it at one input. -/
def stateClockWrong : ChangeSpec := { name := "stateClock", fn := fun _ => fun
  | [d] => { results := [.lit (.bool false)], args := [d] }
  | _ => none }
def StateClockWrongFalsely : Prop := stateClockRow.holds Tryz.pinned (OpenSpec.ofChange stateClockWrong)

/-- 'permafrostlaw14.StateOpens': WHATEVER THE INPUT: true; the input reads as it did. -/
def stateOpensSpec : ChangeSpec := { name := "stateOpens", fn := fun _ => fun
  | [d1, d2] => { results := [.lit (.bool true)], args := [d1, d2] }
  | _ => none }
def stateOpensRow : OpenClaim := { program := "ytbnpgakmhhfjkaagreatdoor", sum := "fe26bcebc9277029b6f3d3a2d6ee3fd8e54a4c0faa36def6c27013cc1f528b21", func := "permafrost/permafrostlaw14.StateOpens", spec := "stateOpens", inPlace := ["slices.overlaps[*permafrost/tree.entry]", "slices.overlaps[permafrost/tree.name]"], unfollowed := true, recurses := true, named := ["permafrost/sha.roundWords"], apart := false, laid := [("permafrost/sha.roundWords", laid_permafrost_sha_roundWords)] }
def StateOpensSaid : Prop := stateOpensRow.holds Tryz.pinned (OpenSpec.ofChange stateOpensSpec)

/-- ITS FALSE NEIGHBOUR: 'it returns false'. Refute it at one input. -/
def stateOpensWrong : ChangeSpec := { name := "stateOpens", fn := fun _ => fun
  | [d1, d2] => { results := [.lit (.bool false)], args := [d1, d2] }
  | _ => none }
def StateOpensWrongFalsely : Prop := stateOpensRow.holds Tryz.pinned (OpenSpec.ofChange stateOpensWrong)

/-- 'permafrostlaw14.StateOpenFiles': WHATEVER THE INPUT: true; the input reads as it did. -/
def stateOpenFilesSpec : ChangeSpec := { name := "stateOpenFiles", fn := fun _ => fun
  | [d1, d2] => { results := [.lit (.bool true)], args := [d1, d2] }
  | _ => none }
def stateOpenFilesRow : OpenClaim := { program := "ytbnpgakmhhfjkaagreatdoor", sum := "fe26bcebc9277029b6f3d3a2d6ee3fd8e54a4c0faa36def6c27013cc1f528b21", func := "permafrost/permafrostlaw14.StateOpenFiles", spec := "stateOpenFiles", inPlace := ["slices.overlaps[*permafrost/tree.entry]", "slices.overlaps[permafrost/tree.name]"], unfollowed := true, recurses := true, named := ["permafrost/sha.roundWords"], apart := false, laid := [("permafrost/sha.roundWords", laid_permafrost_sha_roundWords)] }
def StateOpenFilesSaid : Prop := stateOpenFilesRow.holds Tryz.pinned (OpenSpec.ofChange stateOpenFilesSpec)

/-- ITS FALSE NEIGHBOUR: 'it returns false'. Refute it at one input. -/
def stateOpenFilesWrong : ChangeSpec := { name := "stateOpenFiles", fn := fun _ => fun
  | [d1, d2] => { results := [.lit (.bool false)], args := [d1, d2] }
  | _ => none }
def StateOpenFilesWrongFalsely : Prop := stateOpenFilesRow.holds Tryz.pinned (OpenSpec.ofChange stateOpenFilesWrong)

/-- 'permafrostlaw14.StateTwins': WHATEVER THE INPUT: true; the input reads as it did. -/
def stateTwinsSpec : ChangeSpec := { name := "stateTwins", fn := fun _ => fun
  | [d] => { results := [.lit (.bool true)], args := [d] }
  | _ => none }
def stateTwinsRow : OpenClaim := { program := "ytbnpgakmhhfjkaagreatdoor", sum := "fe26bcebc9277029b6f3d3a2d6ee3fd8e54a4c0faa36def6c27013cc1f528b21", func := "permafrost/permafrostlaw14.StateTwins", spec := "stateTwins", inPlace := ["slices.overlaps[*permafrost/tree.entry]", "slices.overlaps[permafrost/tree.name]"], unfollowed := true, recurses := true, named := ["permafrost/sha.roundWords"], apart := false, laid := [("permafrost/sha.roundWords", laid_permafrost_sha_roundWords)] }
def StateTwinsSaid : Prop := stateTwinsRow.holds Tryz.pinned (OpenSpec.ofChange stateTwinsSpec)

/-- ITS FALSE NEIGHBOUR: 'it returns false'. Refute it at one input. -/
def stateTwinsWrong : ChangeSpec := { name := "stateTwins", fn := fun _ => fun
  | [d] => { results := [.lit (.bool false)], args := [d] }
  | _ => none }
def StateTwinsWrongFalsely : Prop := stateTwinsRow.holds Tryz.pinned (OpenSpec.ofChange stateTwinsWrong)

/-- 'permafrostlaw14.StateRenames': WHATEVER THE INPUT: true; the input reads as it did. -/
def stateRenamesSpec : ChangeSpec := { name := "stateRenames", fn := fun _ => fun
  | [d1, d2] => { results := [.lit (.bool true)], args := [d1, d2] }
  | _ => none }
def stateRenamesRow : OpenClaim := { program := "ytbnpgakmhhfjkaagreatdoor", sum := "fe26bcebc9277029b6f3d3a2d6ee3fd8e54a4c0faa36def6c27013cc1f528b21", func := "permafrost/permafrostlaw14.StateRenames", spec := "stateRenames", inPlace := ["slices.overlaps[*permafrost/tree.entry]", "slices.overlaps[permafrost/tree.name]"], unfollowed := true, recurses := true, named := ["permafrost/sha.roundWords"], apart := false, laid := [("permafrost/sha.roundWords", laid_permafrost_sha_roundWords)] }
def StateRenamesSaid : Prop := stateRenamesRow.holds Tryz.pinned (OpenSpec.ofChange stateRenamesSpec)

/-- ITS FALSE NEIGHBOUR: 'it returns false'. Refute it at one input. -/
def stateRenamesWrong : ChangeSpec := { name := "stateRenames", fn := fun _ => fun
  | [d1, d2] => { results := [.lit (.bool false)], args := [d1, d2] }
  | _ => none }
def StateRenamesWrongFalsely : Prop := stateRenamesRow.holds Tryz.pinned (OpenSpec.ofChange stateRenamesWrong)

/-- 'permafrostlaw14.StateSnaps': WHATEVER THE INPUT: true; the input reads as it did. -/
def stateSnapsSpec : ChangeSpec := { name := "stateSnaps", fn := fun _ => fun
  | [d1, d2, d3] => { results := [.lit (.bool true)], args := [d1, d2, d3] }
  | _ => none }
def stateSnapsRow : OpenClaim := { program := "ytbnpgakmhhfjkaagreatdoor", sum := "fe26bcebc9277029b6f3d3a2d6ee3fd8e54a4c0faa36def6c27013cc1f528b21", func := "permafrost/permafrostlaw14.StateSnaps", spec := "stateSnaps", inPlace := ["slices.overlaps[*permafrost/tree.entry]", "slices.overlaps[permafrost/tree.name]"], unfollowed := true, recurses := true, named := ["permafrost/sha.roundWords"], apart := false, laid := [("permafrost/sha.roundWords", laid_permafrost_sha_roundWords)] }
def StateSnapsSaid : Prop := stateSnapsRow.holds Tryz.pinned (OpenSpec.ofChange stateSnapsSpec)

/-- ITS FALSE NEIGHBOUR: 'it returns false'. Refute it at one input. -/
def stateSnapsWrong : ChangeSpec := { name := "stateSnaps", fn := fun _ => fun
  | [d1, d2, d3] => { results := [.lit (.bool false)], args := [d1, d2, d3] }
  | _ => none }
def StateSnapsWrongFalsely : Prop := stateSnapsRow.holds Tryz.pinned (OpenSpec.ofChange stateSnapsWrong)

/- THE SECOND FORM. 'bulk': how many values and letters a reading holds, each counted each time it is reached (what is shared counts as often as it is met; a slice's spare places count too). A statement '..UptoSaid' is the law's where the arguments, and the package variables that the reading takes, are together of bulk at most 1048576: NARROWER than '..Said'. Prove '..Said' where nothing that the law and all that it calls make is longer than what came in: it says more and counts as full. Else prove '..UptoSaid'. A law counts once. -/
mutual
def uptoBulk {H : Type} : DataW H → Nat
  | .lit (.string bytes) => bytes.length + 1
  | .lit _ => 1
  | .nil => 1
  | .ptr d => uptoBulk d + 1
  | .slice elems spare => uptoBulkAll elems + uptoBulkAll spare + 1
  | .agg parts => uptoBulkAll parts + 1
  | .iface _ d => uptoBulk d + 1
  | .map entries => uptoBulkEntries entries + 1
  | .held _ => 1
def uptoBulkAll {H : Type} : List (DataW H) → Nat
  | [] => 0
  | d :: r => uptoBulk d + uptoBulkAll r
def uptoBulkEntries {H : Type} : List (Lit × DataW H) → Nat
  | [] => 0
  | x :: r => uptoBulkEntry x + uptoBulkEntries r
def uptoBulkEntry {H : Type} : Lit × DataW H → Nat
  | (.string bytes, d) => bytes.length + uptoBulk d + 1
  | (_, d) => uptoBulk d + 1
 end
def uptoSmall : (H : Type) → List (DataW H) → Bool := fun _ ds => decide (uptoBulkAll ds ≤ 1048576)
def OpenSpec.upto (s : _root_.Go.ChangeSpec) : _root_.Go.OpenSpec := { _root_.Go.OpenSpec.ofChange s with cond := some uptoSmall }

/-- 'permafrostlaw14.StateKept', WHERE WHAT IT READS IS OF BULK AT MOST 1048576: true; the input reads as it did. -/
def stateKeptUptoRow : OpenClaim := { program := "ytbnpgakmhhfjkaagreatdoor", sum := "fe26bcebc9277029b6f3d3a2d6ee3fd8e54a4c0faa36def6c27013cc1f528b21", func := "permafrost/permafrostlaw14.StateKept", spec := "stateKept", inPlace := ["slices.overlaps[*permafrost/tree.entry]", "slices.overlaps[permafrost/tree.name]", "internal/abi.NoEscape", "internal/bytealg.abigen_runtime_cmpstring"], unfollowed := true, recurses := true, named := ["permafrost/sha.roundWords"], apart := false, laid := [("permafrost/sha.roundWords", laid_permafrost_sha_roundWords)], narrowed := true }
def StateKeptUptoSaid : Prop := stateKeptUptoRow.holds Tryz.pinned (OpenSpec.upto stateKeptSpec)

/-- 'permafrostlaw14.StateRefused', WHERE WHAT IT READS IS OF BULK AT MOST 1048576: true; the input reads as it did. -/
def stateRefusedUptoRow : OpenClaim := { program := "ytbnpgakmhhfjkaagreatdoor", sum := "fe26bcebc9277029b6f3d3a2d6ee3fd8e54a4c0faa36def6c27013cc1f528b21", func := "permafrost/permafrostlaw14.StateRefused", spec := "stateRefused", inPlace := ["slices.overlaps[*permafrost/tree.entry]", "slices.overlaps[permafrost/tree.name]"], unfollowed := true, recurses := true, named := ["permafrost/sha.roundWords"], apart := false, laid := [("permafrost/sha.roundWords", laid_permafrost_sha_roundWords)], narrowed := true }
def StateRefusedUptoSaid : Prop := stateRefusedUptoRow.holds Tryz.pinned (OpenSpec.upto stateRefusedSpec)

/-- 'permafrostlaw14.StateBack', WHERE WHAT IT READS IS OF BULK AT MOST 1048576: true; the input reads as it did. -/
def stateBackUptoRow : OpenClaim := { program := "ytbnpgakmhhfjkaagreatdoor", sum := "fe26bcebc9277029b6f3d3a2d6ee3fd8e54a4c0faa36def6c27013cc1f528b21", func := "permafrost/permafrostlaw14.StateBack", spec := "stateBack", inPlace := ["slices.overlaps[*permafrost/tree.entry]", "slices.overlaps[permafrost/tree.name]"], unfollowed := true, recurses := true, named := ["permafrost/sha.roundWords"], apart := false, laid := [("permafrost/sha.roundWords", laid_permafrost_sha_roundWords)], narrowed := true }
def StateBackUptoSaid : Prop := stateBackUptoRow.holds Tryz.pinned (OpenSpec.upto stateBackSpec)

/-- 'permafrostlaw14.StateReads', WHERE WHAT IT READS IS OF BULK AT MOST 1048576: true; the input reads as it did. -/
def stateReadsUptoRow : OpenClaim := { program := "ytbnpgakmhhfjkaagreatdoor", sum := "fe26bcebc9277029b6f3d3a2d6ee3fd8e54a4c0faa36def6c27013cc1f528b21", func := "permafrost/permafrostlaw14.StateReads", spec := "stateReads", inPlace := ["slices.overlaps[*permafrost/tree.entry]", "slices.overlaps[permafrost/tree.name]"], unfollowed := true, recurses := true, named := ["permafrost/sha.roundWords"], apart := false, laid := [("permafrost/sha.roundWords", laid_permafrost_sha_roundWords)], narrowed := true }
def StateReadsUptoSaid : Prop := stateReadsUptoRow.holds Tryz.pinned (OpenSpec.upto stateReadsSpec)

/-- 'permafrostlaw14.StateClock', WHERE WHAT IT READS IS OF BULK AT MOST 1048576: true; the input reads as it did. -/
def stateClockUptoRow : OpenClaim := { program := "ytbnpgakmhhfjkaagreatdoor", sum := "fe26bcebc9277029b6f3d3a2d6ee3fd8e54a4c0faa36def6c27013cc1f528b21", func := "permafrost/permafrostlaw14.StateClock", spec := "stateClock", inPlace := ["slices.overlaps[*permafrost/tree.entry]", "slices.overlaps[permafrost/tree.name]"], unfollowed := true, recurses := true, named := ["permafrost/sha.roundWords"], apart := false, laid := [("permafrost/sha.roundWords", laid_permafrost_sha_roundWords)], narrowed := true }
def StateClockUptoSaid : Prop := stateClockUptoRow.holds Tryz.pinned (OpenSpec.upto stateClockSpec)

/-- 'permafrostlaw14.StateOpens', WHERE WHAT IT READS IS OF BULK AT MOST 1048576: true; the input reads as it did. -/
def stateOpensUptoRow : OpenClaim := { program := "ytbnpgakmhhfjkaagreatdoor", sum := "fe26bcebc9277029b6f3d3a2d6ee3fd8e54a4c0faa36def6c27013cc1f528b21", func := "permafrost/permafrostlaw14.StateOpens", spec := "stateOpens", inPlace := ["slices.overlaps[*permafrost/tree.entry]", "slices.overlaps[permafrost/tree.name]"], unfollowed := true, recurses := true, named := ["permafrost/sha.roundWords"], apart := false, laid := [("permafrost/sha.roundWords", laid_permafrost_sha_roundWords)], narrowed := true }
def StateOpensUptoSaid : Prop := stateOpensUptoRow.holds Tryz.pinned (OpenSpec.upto stateOpensSpec)

/-- 'permafrostlaw14.StateOpenFiles', WHERE WHAT IT READS IS OF BULK AT MOST 1048576: true; the input reads as it did. -/
def stateOpenFilesUptoRow : OpenClaim := { program := "ytbnpgakmhhfjkaagreatdoor", sum := "fe26bcebc9277029b6f3d3a2d6ee3fd8e54a4c0faa36def6c27013cc1f528b21", func := "permafrost/permafrostlaw14.StateOpenFiles", spec := "stateOpenFiles", inPlace := ["slices.overlaps[*permafrost/tree.entry]", "slices.overlaps[permafrost/tree.name]"], unfollowed := true, recurses := true, named := ["permafrost/sha.roundWords"], apart := false, laid := [("permafrost/sha.roundWords", laid_permafrost_sha_roundWords)], narrowed := true }
def StateOpenFilesUptoSaid : Prop := stateOpenFilesUptoRow.holds Tryz.pinned (OpenSpec.upto stateOpenFilesSpec)

/-- 'permafrostlaw14.StateTwins', WHERE WHAT IT READS IS OF BULK AT MOST 1048576: true; the input reads as it did. -/
def stateTwinsUptoRow : OpenClaim := { program := "ytbnpgakmhhfjkaagreatdoor", sum := "fe26bcebc9277029b6f3d3a2d6ee3fd8e54a4c0faa36def6c27013cc1f528b21", func := "permafrost/permafrostlaw14.StateTwins", spec := "stateTwins", inPlace := ["slices.overlaps[*permafrost/tree.entry]", "slices.overlaps[permafrost/tree.name]"], unfollowed := true, recurses := true, named := ["permafrost/sha.roundWords"], apart := false, laid := [("permafrost/sha.roundWords", laid_permafrost_sha_roundWords)], narrowed := true }
def StateTwinsUptoSaid : Prop := stateTwinsUptoRow.holds Tryz.pinned (OpenSpec.upto stateTwinsSpec)

/-- 'permafrostlaw14.StateRenames', WHERE WHAT IT READS IS OF BULK AT MOST 1048576: true; the input reads as it did. -/
def stateRenamesUptoRow : OpenClaim := { program := "ytbnpgakmhhfjkaagreatdoor", sum := "fe26bcebc9277029b6f3d3a2d6ee3fd8e54a4c0faa36def6c27013cc1f528b21", func := "permafrost/permafrostlaw14.StateRenames", spec := "stateRenames", inPlace := ["slices.overlaps[*permafrost/tree.entry]", "slices.overlaps[permafrost/tree.name]"], unfollowed := true, recurses := true, named := ["permafrost/sha.roundWords"], apart := false, laid := [("permafrost/sha.roundWords", laid_permafrost_sha_roundWords)], narrowed := true }
def StateRenamesUptoSaid : Prop := stateRenamesUptoRow.holds Tryz.pinned (OpenSpec.upto stateRenamesSpec)

/-- 'permafrostlaw14.StateSnaps', WHERE WHAT IT READS IS OF BULK AT MOST 1048576: true; the input reads as it did. -/
def stateSnapsUptoRow : OpenClaim := { program := "ytbnpgakmhhfjkaagreatdoor", sum := "fe26bcebc9277029b6f3d3a2d6ee3fd8e54a4c0faa36def6c27013cc1f528b21", func := "permafrost/permafrostlaw14.StateSnaps", spec := "stateSnaps", inPlace := ["slices.overlaps[*permafrost/tree.entry]", "slices.overlaps[permafrost/tree.name]"], unfollowed := true, recurses := true, named := ["permafrost/sha.roundWords"], apart := false, laid := [("permafrost/sha.roundWords", laid_permafrost_sha_roundWords)], narrowed := true }
def StateSnapsUptoSaid : Prop := stateSnapsUptoRow.holds Tryz.pinned (OpenSpec.upto stateSnapsSpec)

end Rows
end Go.Proofs.YtbnpgakmhhfjkaaGreatDoor
