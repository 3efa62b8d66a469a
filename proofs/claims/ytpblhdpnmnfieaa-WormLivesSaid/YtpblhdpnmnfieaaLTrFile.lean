/-
  OWN WORK. The program's tree: Node; files by their ID: Keep, Seal, Append, Read, Drop.
-/
import Derived.Test.YtpblhdpnmnfieaaLTrTree
import Derived.Test.YtpblhdpnmnfieaaLBaCell
namespace Go.Proofs.Ytpblhdpnmnfieaa
open Go.RowKit Rc
open Tr (Nm En T)
namespace Tm
variable {p : Nat} {av : Value} {gs : List Nat} {S : Nat → Prop} {t : T} {w : World}
theorem find_lt (h : TIn p av gs S t w) (hG : Tr.Good t) (W : World) (hW : Below w.heap.size w W) (i : Int) : Calls Try.prog 31 #[.pointer (some ⟨p, 0, none⟩), .int .i64 i] W fun e w' => e = .returned (ptrOf gs t i) ∧ w' = W := find_any (h.below hW) i (by have := hG.few; omega)
def fileV (gs : List Nat) (t : T) (i : Int) (n : Nat) : Value := .tuple #[if n = 0 then ptrOf gs t i else .pointer none, .int .i64 (n : Nat)]

set_option maxHeartbeats 1000000 in
set_option maxRecDepth 100000 in
theorem file_any (h : TIn p av gs S t w) (hG : Tr.Good t) (i : Int) :
    Calls Try.prog 43 #[.pointer (some ⟨p, 0, none⟩), .int .i64 i] w fun e w' => e = .returned (fileV gs t i (Tr.file t i)) ∧ w' = w := by
  have HF := Lib.hid (find_lt h hG w (Below.refl _ _) i)
  rcases Tr.file_cases t i with ⟨h1, h2⟩ | ⟨h1, e, h2, h3⟩ | ⟨h1, e, h2, h3⟩
  · rw [h1]
    rw [ptrOf_none (Tr.find_none.1 h2)] at HF
    clear h hG h1 h2
    go_enter Try.func43, Try.ntmps43
    go_wp2_with fail
    refine HF.out.mono ?_
    rintro e w1 ⟨rfl, rfl⟩
    go_wp2_with fail
    go_ret2
    exact ⟨rfl, rfl⟩
  · obtain ⟨g, S1, hp, hE, _, _⟩ := h.ptr hG h2
    rw [h1]
    rw [hp] at HF
    have HV : Hid (fileV gs t i 0 = .tuple #[.pointer (some ⟨g, 0, none⟩), .int .i64 0]) := by
      show _ = _
      unfold fileV
      rw [if_pos rfl, hp]; rfl
    have c1 := hE.cells.2.1
    have hk : (e.nd.kind == 2) = true := by simpa using h3
    clear h hG h1 h2 h3 hE hp
    go_enter Try.func43, Try.ntmps43
    go_wp2_with fail
    refine HF.out.mono ?_
    rintro e w1 ⟨rfl, rfl⟩
    go_wp2_with fail
    go_ret2
    exact ⟨rfl, rfl⟩
  · obtain ⟨g, S1, hp, hE, _, _⟩ := h.ptr hG h2
    rw [h1]
    rw [hp] at HF
    have HV : Hid (fileV gs t i 0 = .tuple #[.pointer (some ⟨g, 0, none⟩), .int .i64 0]) := by
      show _ = _
      unfold fileV
      rw [if_pos rfl, hp]; rfl
    have c1 := hE.cells.2.1
    have hk : (e.nd.kind == 2) = false := by simpa using h3
    clear h hG h1 h2 h3 hE hp
    go_enter Try.func43, Try.ntmps43
    go_wp2_with fail
    refine HF.out.mono ?_
    rintro e w1 ⟨rfl, rfl⟩
    go_wp2_with fail
    go_ret2
    exact ⟨by rw [HV.out]; rfl, rfl⟩

set_option maxHeartbeats 1000000 in
set_option maxRecDepth 100000 in
theorem open_any (h : TIn p av gs S t w) (hG : Tr.Good t) (i : Int) :
    Calls Try.prog 29 #[.pointer (some ⟨p, 0, none⟩), .int .i64 i] w fun e w' => e = .returned (fileV gs t i (Tr.openN t i)) ∧ w' = w := by
  have HF := Lib.hid (file_any h hG i)
  rcases Tr.file_cases t i with ⟨h1, h2⟩ | ⟨h1, e, h2, h3⟩ | ⟨h1, e, h2, h3⟩
  any_goals
    have HN : Hid (Tr.openN t i = Tr.file t i) := by
      show _ = _
      unfold Tr.openN
      rw [if_pos (by rw [h1]; simp)]
    rw [HN.out, h1]
    rw [h1] at HF
    unfold fileV at HF
    clear h hG h1
    go_enter Try.func29, Try.ntmps29
    go_wp2_with fail
    refine HF.out.mono ?_
    rintro e w1 ⟨rfl, rfl⟩
    go_wp2_with fail
    go_ret2
    exact ⟨rfl, rfl⟩
  obtain ⟨g, S1, hp, hE, _, _⟩ := h.ptr hG h2
  have HN : Hid (Tr.openN t i = if e.nd.shut = true then 27 else 0) := by
    show _ = _
    unfold Tr.openN
    rw [if_neg (by rw [h1]; simp), Tr.ndOf_of h2]
  have HV : Hid (fileV gs t i 0 = .tuple #[.pointer (some ⟨g, 0, none⟩), .int .i64 0]) := by
    show _ = _
    unfold fileV
    rw [if_pos rfl, hp]; rfl
  rw [h1, HV.out] at HF
  rw [HN.out]
  have c1 := hE.cells.2.2.2.2.2
  obtain ⟨b, hb⟩ : ∃ b, b = e.nd.shut := ⟨_, rfl⟩
  rw [← hb] at c1 ⊢
  clear h hG h1 h2 h3 hE hp hb
  cases b
  · go_enter Try.func29, Try.ntmps29
    go_wp2_with fail
    refine HF.out.mono ?_
    rintro e w1 ⟨rfl, rfl⟩
    go_wp2_with fail
    go_ret2
    exact ⟨(congrArg Ending.returned HV.out).symm, rfl⟩
  · go_enter Try.func29, Try.ntmps29
    go_wp2_with fail
    refine HF.out.mono ?_
    rintro e w1 ⟨rfl, rfl⟩
    go_wp2_with fail
    go_ret2
    exact ⟨rfl, rfl⟩

set_option maxHeartbeats 1000000 in
set_option maxRecDepth 100000 in
theorem node_any (h : TIn p av gs S t w) (hG : Tr.Good t) (i : Int) :
    Calls Try.prog 15 #[.pointer (some ⟨p, 0, none⟩), .int .i64 i] w fun e w' => e = .returned (.tuple #[(Tr.node t i).1.val, .bool (Tr.node t i).2]) ∧ Below w.heap.size w w' := by
  have hb0 := below_new w (.cells #[.int .i64 0, .int .i64 0, .int .i64 0, .int .i64 0, .int .u64 0, .bool false] 26)
  have HB0 := Lib.hid hb0
  have HF := Lib.hid (find_lt h hG _ hb0 i)
  cases hf : Tr.find t i with
  | none =>
    rw [ptrOf_none (Tr.find_none.1 hf)] at HF
    have HN : Hid (Tr.node t i = (Nd.zero, false)) := by
      show _ = _
      unfold Tr.node Tr.ndOf
      rw [hf]; rfl
    clear h hG hf hb0
    go_enter Try.func15, Try.ntmps15
    go_wp2_with fail
    refine HF.out.mono ?_
    rintro e w1 ⟨rfl, rfl⟩
    go_wp2_with fail
    refine bodyPost_ret (results_blk_tmp rfl _ _ w.heap.size 26 [.int .i64 0, .int .i64 0, .int .i64 0, .int .i64 0, .int .u64 0, .bool false] _ rfl (Blk.new w _ _) rfl rfl rfl) rfl ⟨?_, ?_⟩
    · rw [HN.out]; rfl
    · exact below_new w _
  | some en =>
    obtain ⟨g, S1, hp, hE, _, _⟩ := (h.below hb0).ptr hG hf
    rw [hp] at HF
    have HN : Hid (Tr.node t i = (en.nd, true)) := by
      show _ = _
      unfold Tr.node
      rw [Tr.ndOf_of hf, hf]; rfl
    obtain ⟨c0, c1, c2, c3, c4, c5⟩ := hE.cells
    clear h hG hf hb0 hE hp
    obtain ⟨⟨id, kind, links, size, till, shut⟩, data, names⟩ := en
    simp only at c0 c1 c2 c3 c4 c5 HN
    go_enter Try.func15, Try.ntmps15
    go_wp2_with fail
    refine HF.out.mono ?_
    rintro e w1 ⟨rfl, rfl⟩
    go_wp2_with fail
    refine bodyPost_ret (results_blk_tmp rfl _ _ w.heap.size 26 [.int .i64 id, .int .i64 kind, .int .i64 links, .int .i64 size, .int .u64 (till : Nat), .bool shut] _ rfl (Blk.new w _ _) rfl rfl rfl) rfl ⟨?_, ?_⟩
    · rw [HN.out]; rfl
    · exact below_new w _
end Tm
end Go.Proofs.Ytpblhdpnmnfieaa
