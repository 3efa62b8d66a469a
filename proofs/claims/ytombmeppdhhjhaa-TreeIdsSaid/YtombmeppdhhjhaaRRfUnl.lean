/-
  OWN WORK. The document's tree: Unlink, Rmdir.
-/
import Derived.Test.YtombmeppdhhjhaaRRfLink
import Derived.Test.YtombmeppdhhjhaaRRfSeal
namespace Go.Proofs.Ytombmeppdhhjhaa
open Go.RowKit Rc
open Tr (Nm En T)
namespace Rf
variable {p : Nat} {nv dv ev nv2 dv2 ev2 : Value} {D D2 : Nat → Prop} {t t' : T} {w w1 w2 : World}
/-- Blocks that are no rows of the tree's stay. -/
theorem Left.apart {S : Nat → Prop} {n0 : Nat} (h : Left p t' S w w1 nv dv ev D) (hS : ∀ b, S b → b < n0) {b : Nat} (h1 : n0 ≤ b) (h2 : b < w.heap.size) : w1.heap[b]? = w.heap[b]? := h.mod.block b h2 fun e => by have := hS b e; omega
theorem rm_name (hG : Tr.Good t) {d i : Int} {x : Bs} {en : En} (hf : Tr.find t d = some en) (hg : Tr.get en.names x = some i) (h : RA p nv dv ev D t w) : ∃ j : Nat, idxE (Tr.flat t) d x = (j : Int) ∧ ∀ W, Below w.heap.size w W → Calls Try.prog 86 #[.pointer (some ⟨p, 0, none⟩), .int .i64 (j : Nat)] W fun e w' => e = .returned (.tuple #[]) ∧ ∃ nv2 dv2 ev2 D2, Left p (Tr.cut t d x) (RS p nv ev D) W w' nv2 dv2 ev2 D2 := by
  rcases flat_idx hG d x with ⟨k1, _⟩ | ⟨k, j, k1, k2, k3, k4⟩
  · rw [Tr.kids_of hf, hg] at k1; cases k1
  · rw [Tr.kids_of hf, hg] at k1
    injection k1 with k1
    subst k1
    refine ⟨j, k2, fun W hW => (cut_any (h.below hW) j k4 (by have := hG.flat_le; omega) (flat_cut_at hG k3) (cut_maps t d x).1 (cut_maps t d x).2).mono ?_⟩
    intro e w' ht
    exact ht.left
theorem gone_of (hr : Tr.Ris t) (hfew : t.length ≤ 64) {i : Int} {e : En} (hf : Tr.find t i = some e) (hn : e.names = []) (h : RA p nv dv ev D t w) : Calls Try.prog 87 #[.pointer (some ⟨p, 0, none⟩), .int .i64 i] w (RTurn p (Tr.remove t i) (.tuple #[]) (RS p nv ev D) w) := by
  rcases idx_find t i with ⟨h1, _⟩ | ⟨e', j, h1, h2, h3, h4⟩
  · rw [h1] at hf; cases hf
  · rw [hf] at h1
    injection h1 with h1
    subst h1
    refine gone_any h i j h4 h3 (by omega) (remove_at hr h2 (Tr.find_some hf).2) (flat_remove fun m hm hmi => ?_)
    have k1 := hr.find hm
    rw [hmi, hf] at k1
    injection k1 with k1
    rw [← k1]; exact hn
set_option maxHeartbeats 2000000 in
set_option maxRecDepth 100000 in
theorem unlink_any (h : RA p nv dv ev D t w) (hG : Tr.Good t) (A : Option Addr) (q : List Bs) (cap : Nat) (hr : RdS w A q) (hc : q.length ≤ cap) (hl : q.length ≤ 1000000) (hs : ∀ s ∈ q, s.length ≤ 1000000) :
    Calls Try.prog 52 #[.pointer (some ⟨p, 0, none⟩), .slice A q.length cap] w (RTurn p (Tr.unlink t q).2 (.int .i64 ((Tr.unlink t q).1 : Nat)) (RS p nv ev D) w) := by
  have HS : Hid (∀ x W, Below w.heap.size w W → RTurn p t x (RS p nv ev D) w (.returned x) W) := fun x W hW => RTurn.stay h hW
  have H1 := Lib.hid (look_any h.in_ hG h.low A q cap hr hl hs)
  obtain ⟨i, n, hin⟩ : ∃ i n, Tr.look t q = (i, n) := ⟨_, _, rfl⟩
  rw [hin] at H1
  have hlf : n = 0 → Tr.formed q = 0 ∧ Tr.lookF t 0 q = (i, 0) := fun hn => by
    subst hn
    unfold Tr.look at hin
    by_cases hf : Tr.formed q = 0
    · rw [if_neg (by simp [hf])] at hin
      exact ⟨hf, hin⟩
    · rw [if_pos hf] at hin
      injection hin with _ h2
      exact absurd h2 hf
  have hunl : Tr.unlink t q = if n ≠ 0 then (n, t) else if (Tr.ndOf t i).kind = 2 then (22, t) else if (Tr.ndOf t i).links = 1 ∧ (Tr.ndOf t i).shut = true then (0, Tr.remove (Tr.unlinked t q) i) else (0, Tr.unlinked t q) := by
    unfold Tr.unlink Tr.kindOf
    unfold Tr.look at hin
    by_cases hf : Tr.formed q = 0
    · rw [if_neg (by simp [hf])] at hin
      rw [if_neg (by simp [hf]), hin]
    · rw [if_pos hf] at hin
      injection hin with h1 h2
      rw [if_pos hf, if_pos (by rw [← h2]; exact hf), h2]
  have H3 : Hid (∀ W, Below w.heap.size w W → Calls Try.prog 63 #[.pointer (some ⟨p, 0, none⟩), .int .i64 i] W fun e w' => e = .returned (.tuple #[(Tr.node t i).1.val, .bool (Tr.node t i).2]) ∧ Below W.heap.size W w') := fun W hW => node_any (h.below hW).in_ (h.below hW).low i (by have := hG.few; omega)
  have HGO : Hid (n = 0 → (Tr.ndOf t i).kind ≠ 2 → ∃ (d : Int) (x : Bs) (j : Nat),
      (∀ W, Below w.heap.size w W → Calls Try.prog 79 #[.pointer (some ⟨p, 0, none⟩), .slice A q.length cap] W fun e w' => e = .returned (.tuple #[.int .i64 d, .string (strOf x), .int .i64 0]) ∧ Below W.heap.size W w') ∧
      (∀ W, Below w.heap.size w W → Calls Try.prog 80 #[.pointer (some ⟨p, 0, none⟩), .int .i64 d, .string (strOf x)] W fun e w' => e = .returned (.int .i64 (j : Nat)) ∧ w' = W) ∧
      (∀ W, Below w.heap.size w W → Calls Try.prog 86 #[.pointer (some ⟨p, 0, none⟩), .int .i64 (j : Nat)] W fun e w' => e = .returned (.tuple #[]) ∧ ∃ nv2 dv2 ev2 D2, Left p (Tr.cut t d x) (RS p nv ev D) W w' nv2 dv2 ev2 D2) ∧
      (∀ W nv2 dv2 ev2 D2, RA p nv2 dv2 ev2 D2 (Tr.cut t d x) W → Calls Try.prog 85 #[.pointer (some ⟨p, 0, none⟩), .int .i64 i, .int .i64 (-1)] W (RTurn p (Tr.unlinked t q) (.tuple #[]) (RS p nv2 ev2 D2) W)) ∧
      (∀ W nv2 dv2 ev2 D2, RA p nv2 dv2 ev2 D2 (Tr.unlinked t q) W → Calls Try.prog 87 #[.pointer (some ⟨p, 0, none⟩), .int .i64 i] W (RTurn p (Tr.remove (Tr.unlinked t q) i) (.tuple #[]) (RS p nv2 ev2 D2) W))) := fun hn hk => by
    obtain ⟨hf0, hlk⟩ := hlf hn
    have hqne : q ≠ [] := by
      rintro rfl
      have : (0, 0) = ((i, 0) : Int × Nat) := hlk
      injection this with h1 _
      subst h1
      obtain ⟨z, hz, hzk, _⟩ := hG.zero
      rw [Tr.ndOf_of hz] at hk
      exact hk hzk
    obtain ⟨r, x, d, en, _, _, k3, _, k5, k6⟩ := hG.looked hlk hqne
    obtain ⟨j, m1, m2⟩ := rm_name hG k3 k5 h
    have hsm := hG.look_is (p := q) (by rw [hlk])
    rw [hlk] at hsm
    obtain ⟨ei, hei⟩ := Option.isSome_iff_exists.1 hsm
    have hkf : ei.nd.kind ≠ 2 := by rw [Tr.ndOf_of hei] at hk; exact hk
    have hnm : ei.names = [] := (hG.each ei (Tr.find_some hei).1).file (by
      rcases hG.kind (Tr.find_some hei).1 with k | k
      · exact k
      · exact absurd k hkf)
    have hfc : Tr.find (Tr.cut t d x) i = some (if i = d then { ei with names := Tr.del ei.names x } else ei) := by
      unfold Tr.cut
      rw [Tr.find_upd (Tr.cut_id x), hei]; rfl
    have hnd : (if i = d then { ei with names := Tr.del ei.names x } else ei : En).nd = ei.nd := by split <;> rfl
    have hnc : (if i = d then { ei with names := Tr.del ei.names x } else ei : En).names = [] := by
      split
      · show Tr.del ei.names x = []
        rw [hnm]; rfl
      · exact hnm
    have hrc : Tr.Ris (Tr.cut t d x) := Tr.upd_ris hG.ris fun _ => rfl
    have hlc : (Tr.cut t d x).length ≤ 64 := by unfold Tr.cut; rw [Tr.upd_length]; exact hG.few
    have hun : Tr.unlinked t q = Tr.more (Tr.cut t d x) i (-1) := by
      unfold Tr.unlinked
      rw [k6, hlk]
    have hfm : ∃ e2, Tr.find (Tr.more (Tr.cut t d x) i (-1)) i = some e2 ∧ e2.names = [] := by
      refine ⟨_, Tr.find_upd_same (fun _ => rfl) hfc, hnc⟩
    obtain ⟨e2, hf2, hn2⟩ := hfm
    refine ⟨d, x, j, fun W hW => ?_, fun W hW => ?_, m2, fun W nv2 dv2 ev2 D2 hW => ?_, fun W nv2 dv2 ev2 D2 hW => ?_⟩
    · have := place_any (h.below hW) hG A q cap (hr.below hW) hc hl
      rw [k6] at this
      exact this
    · have := entry_any (h.below hW).in_ d x (by have := hG.flat_le; omega)
      rw [m1] at this
      exact this
    · rw [hun]
      exact links_any hW hrc (by omega) hfc (-1) ⟨by omega, by omega⟩ (by
        have hrt := (hG.each ei (Tr.find_some hei).1).nd
        rw [hnd]
        exact ⟨hrt.2.2.1, by have := hrt.2.2.2.1; omega⟩)
    · rw [hun] at hW ⊢
      exact gone_of (t := Tr.more (Tr.cut t d x) i (-1)) (Tr.upd_ris hrc fun _ => rfl) (by unfold Tr.more; rw [Tr.upd_length]; exact hlc) hf2 hn2 hW
  have e0 : Tr.node t i = (Tr.ndOf t i, (Tr.find t i).isSome) := rfl
  rw [e0] at H3
  obtain ⟨fo, hfo⟩ : ∃ fo, fo = (Tr.find t i).isSome := ⟨_, rfl⟩
  rw [← hfo] at H3
  obtain ⟨⟨a1, a2, a3, a4, a5, a6⟩, hnd⟩ : ∃ nd, nd = Tr.ndOf t i := ⟨_, rfl⟩
  rw [← hnd] at H3 hunl HGO
  unfold Nd.val at H3
  simp only at H3 hunl HGO
  have HUN := Lib.hid hunl
  have HRL : Hid (∀ b, RS p nv ev D b → b < w.heap.size) := fun b hb => h.lt hb
  have HLF0 : Hid (∀ W, Below w.heap.size w W → Left p t (RS p nv ev D) w W nv dv ev D) := fun W hW => h.left.later hW
  clear h hG hr hs hin hunl e0 hfo hnd hlf hc hl
  go_enter Try.func52, Try.ntmps52
  go_wp2_with fail
  refine H1.out.mono ?_
  rintro e w2 ⟨rfl, hb2⟩
  have HB2 := Lib.hid hb2
  clear hb2 H1
  by_cases hn : n = 0
  case neg =>
    have hnb : ((n : Int) != 0) = true := by rw [bne_iff_ne]; omega
    have HN : Hid (Tr.unlink t q = (n, t)) := by
      have := HUN.out
      rw [if_pos hn] at this
      exact this
    clear hn HUN
    go_wp2_with fail
    go_ret
    rw [HN.out]
    exact HS.out _ _ HB2.out
  subst hn
  rw [if_neg (by simp)] at HUN
  have H3a := Lib.hid (H3.out _ HB2.out)
  go_wp2_with fail
  refine H3a.out.mono ?_
  rintro e w3 ⟨rfl, hb3⟩
  have HB3 : Hid (Below w.heap.size w w3) := HB2.out.trans (hb3.mono HB2.out.size)
  obtain ⟨wb, hwb⟩ : ∃ wb, wb = w3.alloc (.cells #[.int .i64 a1, .int .i64 a2, .int .i64 a3, .int .i64 a4, .int .u64 (a5 : Nat), .bool a6] 38) := ⟨_, rfl⟩
  have HB4 : Hid (Below w.heap.size w wb) := by show Below _ _ _; rw [hwb]; exact HB3.out.alloc HB3.out.size _
  have HBK : Hid (Blk wb w3.heap.size 38 [.int .i64 a1, .int .i64 a2, .int .i64 a3, .int .i64 a4, .int .u64 (a5 : Nat), .bool a6]) := by show Blk _ _ _ _; rw [hwb]; exact Blk.new w3 _ _
  clear hb3 H3 H3a
  go_upto_region 5 with (fail)
  rw [← hwb]
  clear hwb
  have c1 : wb.cell? ⟨w3.heap.size, 1, none⟩ = some (.int .i64 a2) := HBK.out.cell 1
  by_cases h2 : a2 = 2
  · have HN : Hid (Tr.unlink t q = (22, t)) := by
      have := HUN.out
      rw [if_pos h2] at this
      exact this
    subst h2
    clear HUN
    go_wp2_with fail
    go_ret
    rw [HN.out]
    exact HS.out _ _ HB4.out
  have h2b : (a2 == 2) = false := by rw [beq_eq_false_iff_ne]; exact h2
  rw [if_neg h2] at HUN
  obtain ⟨d, x, j, G1, G2, G3, G4, G5⟩ := HGO.out (by first | rfl | trivial) h2
  have G1a := Lib.hid (G1 wb HB4.out)
  have G2 := Lib.hid G2
  have G3 := Lib.hid G3
  have G4 := Lib.hid G4
  have G5 := Lib.hid G5
  clear h2 G1 HGO
  go_wp2_with fail
  refine G1a.out.mono ?_
  rintro e w5 ⟨rfl, hb5⟩
  have HB5 : Hid (Below w.heap.size w w5) := HB4.out.trans (hb5.mono HB4.out.size)
  have HBK5 : Hid (Blk w5 w3.heap.size 38 [.int .i64 a1, .int .i64 a2, .int .i64 a3, .int .i64 a4, .int .u64 (a5 : Nat), .bool a6]) := HBK.out.below hb5 HBK.out.lt
  have G2a := Lib.hid (G2.out w5 HB5.out)
  have G3a := Lib.hid (G3.out w5 HB5.out)
  clear hb5 c1 HBK G1a G2 G3
  go_wp2_with fail
  refine G2a.out.mono ?_
  rintro e w6 ⟨rfl, rfl⟩
  go_wp2_with fail
  refine G3a.out.mono ?_
  rintro e w7 ⟨rfl, nv2, dv2, ev2, D2, hl7⟩
  have HL7 : Hid (Left p (Tr.cut t d x) (RS p nv ev D) w w7 nv2 dv2 ev2 D2) := (HLF0.out w6 HB5.out).then hl7
  have HBK7 : Hid (Blk w7 w3.heap.size 38 [.int .i64 a1, .int .i64 a2, .int .i64 a3, .int .i64 a4, .int .u64 (a5 : Nat), .bool a6]) := (hl7.apart HRL.out HB3.out.size HBK5.out.lt).trans HBK5.out
  have HSUB : Hid (∀ b, RS p nv2 ev2 D2 b → RS p nv ev D b ∨ w6.heap.size ≤ b) := hl7.sub
  have HLT6 : Hid (w3.heap.size < w6.heap.size) := HBK5.out.lt
  have G4a := Lib.hid (G4.out w7 _ _ _ _ hl7.ra)
  clear hl7 G2a G3a G4 HBK5
  go_wp2_with fail
  refine G4a.out.mono ?_
  intro e w8 ht8
  obtain ⟨rfl, nv3, dv3, ev3, D3, hl8⟩ := ht8.left
  have HL8 : Hid (Left p (Tr.unlinked t q) (RS p nv ev D) w w8 nv3 dv3 ev3 D3) := HL7.out.then hl8
  have hbk8 : Blk w8 w3.heap.size 38 [.int .i64 a1, .int .i64 a2, .int .i64 a3, .int .i64 a4, .int .u64 (a5 : Nat), .bool a6] := (hl8.mod.block _ HBK7.out.lt fun e => by
    rcases HSUB.out _ e with k | k
    · have := HRL.out _ k; have := HB3.out.size; omega
    · have := HLT6.out; omega).trans HBK7.out
  have c2 : w8.cell? ⟨w3.heap.size, 2, none⟩ = some (.int .i64 a3) := hbk8.cell 2
  have c5 : w8.cell? ⟨w3.heap.size, 5, none⟩ = some (.bool a6) := hbk8.cell 5
  have G5a := Lib.hid (G5.out w8 _ _ _ _ HL8.out.ra)
  clear hbk8 hl8 ht8 G4a G5 HL7 HBK7 HSUB HLT6
  by_cases h1 : a3 = 1
  · subst h1
    cases a6 with
    | true =>
      have HN : Hid (Tr.unlink t q = (0, Tr.remove (Tr.unlinked t q) i)) := by
        have := HUN.out
        rw [if_pos ⟨rfl, rfl⟩] at this
        exact this
      clear HUN
      go_wp2_with fail
      refine G5a.out.mono ?_
      intro e w9 ht9
      obtain ⟨rfl, nv4, dv4, ev4, D4, hl9⟩ := ht9.left
      have HL9 : Hid (RTurn p (Tr.remove (Tr.unlinked t q) i) (.int .i64 0) (RS p nv ev D) w (.returned (.int .i64 0)) w9) := (HL8.out.then hl9).turn
      clear hl9 ht9
      go_wp2_with fail
      go_ret
      rw [HN.out]
      exact HL9.out
    | false =>
      have HN : Hid (Tr.unlink t q = (0, Tr.unlinked t q)) := by
        have := HUN.out
        rw [if_neg (by simp)] at this
        exact this
      have HL9 : Hid (RTurn p (Tr.unlinked t q) (.int .i64 0) (RS p nv ev D) w (.returned (.int .i64 0)) w8) := HL8.out.turn
      clear HUN
      go_wp2_with fail
      go_ret
      rw [HN.out]
      exact HL9.out
  · have h1b : (a3 == 1) = false := by rw [beq_eq_false_iff_ne]; exact h1
    have HN : Hid (Tr.unlink t q = (0, Tr.unlinked t q)) := by
      have := HUN.out
      rw [if_neg (fun e => h1 e.1)] at this
      exact this
    have HL9 : Hid (RTurn p (Tr.unlinked t q) (.int .i64 0) (RS p nv ev D) w (.returned (.int .i64 0)) w8) := HL8.out.turn
    clear HUN h1
    go_wp2_with fail
    go_ret
    rw [HN.out]
    exact HL9.out
set_option maxHeartbeats 2000000 in
set_option maxRecDepth 100000 in
theorem rmdir_any (h : RA p nv dv ev D t w) (hG : Tr.Good t) (A : Option Addr) (q : List Bs) (cap : Nat) (hr : RdS w A q) (hc : q.length ≤ cap) (hl : q.length ≤ 1000000) (hs : ∀ s ∈ q, s.length ≤ 1000000) :
    Calls Try.prog 53 #[.pointer (some ⟨p, 0, none⟩), .slice A q.length cap] w (RTurn p (Tr.rmdir t q).2 (.int .i64 ((Tr.rmdir t q).1 : Nat)) (RS p nv ev D) w) := by
  have HS : Hid (∀ x W, Below w.heap.size w W → RTurn p t x (RS p nv ev D) w (.returned x) W) := fun x W hW => RTurn.stay h hW
  have H1 := Lib.hid (look_any h.in_ hG h.low A q cap hr hl hs)
  obtain ⟨i, n, hin⟩ : ∃ i n, Tr.look t q = (i, n) := ⟨_, _, rfl⟩
  rw [hin] at H1
  have hlf : n = 0 → Tr.formed q = 0 ∧ Tr.lookF t 0 q = (i, 0) := fun hn => by
    subst hn
    unfold Tr.look at hin
    by_cases hf : Tr.formed q = 0
    · rw [if_neg (by simp [hf])] at hin
      exact ⟨hf, hin⟩
    · rw [if_pos hf] at hin
      injection hin with _ h2
      exact absurd h2 hf
  obtain ⟨L, m, hli⟩ : ∃ L m, Tr.list t i = (L, m) := ⟨_, _, rfl⟩
  have hmk : n = 0 → (m = 23 ∧ Tr.kindOf t i ≠ 2 ∨ m = 0 ∧ Tr.kindOf t i = 2 ∧ L = (Tr.kids t i).map (·.1)) := fun hn => by
    have hsm := hG.look_is (p := q) (by rw [(hlf hn).2])
    rw [(hlf hn).2] at hsm
    unfold Tr.list at hli
    rw [if_neg (by cases hz : Tr.find t i <;> simp_all)] at hli
    by_cases hk : Tr.kindOf t i = 2
    · rw [if_neg (by simp [hk])] at hli
      injection hli with h1 h2
      exact .inr ⟨h2.symm, hk, h1.symm⟩
    · rw [if_pos hk] at hli
      injection hli with h1 h2
      exact .inl ⟨h2.symm, hk⟩
  have hrm : Tr.rmdir t q = if n ≠ 0 then (n, t) else if Tr.kindOf t i ≠ 2 then (23, t) else if q = [] then (1, t) else if Tr.kids t i ≠ [] then (24, t) else (0, Tr.remove (Tr.cut t (Tr.place t q).1 (Tr.place t q).2.1) i) := by
    unfold Tr.rmdir
    unfold Tr.look at hin
    by_cases hf : Tr.formed q = 0
    · rw [if_neg (by simp [hf])] at hin
      rw [if_neg (by simp [hf]), hin]
    · rw [if_pos hf] at hin
      injection hin with h1 h2
      rw [if_pos hf, if_pos (by rw [← h2]; exact hf), h2]
  have H3 : Hid (∀ W, Below w.heap.size w W → Calls Try.prog 65 #[.pointer (some ⟨p, 0, none⟩), .int .i64 i] W (LAns L m W)) := fun W hW => by
    have := list_any (h.below hW) hG i
    rw [hli] at this
    exact this
  have HGO : Hid (n = 0 → q ≠ [] → Tr.kids t i = [] → ∃ (d : Int) (x : Bs) (j : Nat), (Tr.place t q).1 = d ∧ (Tr.place t q).2.1 = x ∧
      (∀ W, Below w.heap.size w W → Calls Try.prog 79 #[.pointer (some ⟨p, 0, none⟩), .slice A q.length cap] W fun e w' => e = .returned (.tuple #[.int .i64 d, .string (strOf x), .int .i64 0]) ∧ Below W.heap.size W w') ∧
      (∀ W, Below w.heap.size w W → Calls Try.prog 80 #[.pointer (some ⟨p, 0, none⟩), .int .i64 d, .string (strOf x)] W fun e w' => e = .returned (.int .i64 (j : Nat)) ∧ w' = W) ∧
      (∀ W, Below w.heap.size w W → Calls Try.prog 86 #[.pointer (some ⟨p, 0, none⟩), .int .i64 (j : Nat)] W fun e w' => e = .returned (.tuple #[]) ∧ ∃ nv2 dv2 ev2 D2, Left p (Tr.cut t d x) (RS p nv ev D) W w' nv2 dv2 ev2 D2) ∧
      (∀ W nv2 dv2 ev2 D2, RA p nv2 dv2 ev2 D2 (Tr.cut t d x) W → Calls Try.prog 87 #[.pointer (some ⟨p, 0, none⟩), .int .i64 i] W (RTurn p (Tr.remove (Tr.cut t d x) i) (.tuple #[]) (RS p nv2 ev2 D2) W))) := fun hn hqne hkd => by
    obtain ⟨hf0, hlk⟩ := hlf hn
    obtain ⟨r, x, d, en, _, _, k3, _, k5, k6⟩ := hG.looked hlk hqne
    obtain ⟨j, m1, m2⟩ := rm_name hG k3 k5 h
    have hsm := hG.look_is (p := q) (by rw [hlk])
    rw [hlk] at hsm
    obtain ⟨ei, hei⟩ := Option.isSome_iff_exists.1 hsm
    have hnm : ei.names = [] := by rw [Tr.kids_of hei] at hkd; exact hkd
    have hfc : Tr.find (Tr.cut t d x) i = some (if i = d then { ei with names := Tr.del ei.names x } else ei) := by
      unfold Tr.cut
      rw [Tr.find_upd (Tr.cut_id x), hei]; rfl
    have hnc : (if i = d then { ei with names := Tr.del ei.names x } else ei : En).names = [] := by
      split
      · show Tr.del ei.names x = []
        rw [hnm]; rfl
      · exact hnm
    have hrc : Tr.Ris (Tr.cut t d x) := Tr.upd_ris hG.ris fun _ => rfl
    have hlc : (Tr.cut t d x).length ≤ 64 := by unfold Tr.cut; rw [Tr.upd_length]; exact hG.few
    refine ⟨d, x, j, by rw [k6], by rw [k6], fun W hW => ?_, fun W hW => ?_, m2, fun W nv2 dv2 ev2 D2 hW => gone_of hrc hlc hfc hnc hW⟩
    · have := place_any (h.below hW) hG A q cap (hr.below hW) hc hl
      rw [k6] at this
      exact this
    · have := entry_any (h.below hW).in_ d x (by have := hG.flat_le; omega)
      rw [m1] at this
      exact this
  have HRM := Lib.hid hrm
  have HMK := Lib.hid hmk
  have hqb : q = [] ∨ q ≠ [] := Decidable.em _
  have HLF0 : Hid (∀ W, Below w.heap.size w W → Left p t (RS p nv ev D) w W nv dv ev D) := fun W hW => h.left.later hW
  obtain ⟨ql, hql⟩ : ∃ ql, ql = q.length := ⟨_, rfl⟩
  have HQL : Hid (q = [] ↔ ql = 0) := by rw [hql]; exact List.length_eq_zero_iff.symm
  have hqlf : ql ≤ 1000000 := by omega
  rw [← hql] at H1 HGO ⊢
  clear h hG hr hs hin hrm hlf hc hl hli hmk hqb hql
  go_enter Try.func53, Try.ntmps53
  go_wp2_with fail
  refine H1.out.mono ?_
  rintro e w2 ⟨rfl, hb2⟩
  have HB2 := Lib.hid hb2
  clear hb2 H1
  by_cases hn : n = 0
  case neg =>
    have hnb : ((n : Int) != 0) = true := by rw [bne_iff_ne]; omega
    have HN : Hid (Tr.rmdir t q = (n, t)) := by
      have := HRM.out
      rw [if_pos hn] at this
      exact this
    clear hn HRM
    go_wp2_with fail
    go_ret
    rw [HN.out]
    exact HS.out _ _ HB2.out
  subst hn
  rw [if_neg (by simp)] at HRM
  have H3a := Lib.hid (H3.out _ HB2.out)
  go_wp2_with fail
  refine H3a.out.mono ?_
  rintro e w3 ⟨v3, rfl, hT3⟩
  have HB3 : Hid (Below w.heap.size w w3) := HB2.out.trans (hT3.later.mono HB2.out.size)
  obtain ⟨X, c, rfl, _, _⟩ := hT3.form
  clear hT3 H3 H3a
  rcases HMK.out (by first | rfl | trivial) with ⟨rfl, hk⟩ | ⟨rfl, hk, hL⟩
  · have HN : Hid (Tr.rmdir t q = (23, t)) := by
      have := HRM.out
      rw [if_pos hk] at this
      exact this
    clear hk HRM HMK
    go_wp2_with fail
    go_ret
    rw [HN.out]
    exact HS.out _ _ HB3.out
  rw [if_neg (by simp [hk])] at HRM
  by_cases hq0 : ql = 0
  · have HN : Hid (Tr.rmdir t q = (1, t)) := by
      have := HRM.out
      rw [if_pos (HQL.out.2 hq0)] at this
      exact this
    subst hq0
    clear hk HRM HMK hL
    go_wp2_with fail
    go_ret
    rw [HN.out]
    exact HS.out _ _ HB3.out
  have hqne : q ≠ [] := fun e => hq0 (HQL.out.1 e)
  have hqi : ((ql : Int) == 0) = false := by rw [beq_eq_false_iff_ne]; omega
  rw [if_neg hqne] at HRM
  obtain ⟨ll, hll⟩ : ∃ ll, ll = L.length := ⟨_, rfl⟩
  rw [← hll]
  by_cases hk0 : Tr.kids t i = []
  case neg =>
    have hpos : (0 : Int) < (ll : Int) := by
      rw [hll, hL, List.length_map]
      have := List.length_pos_iff.2 hk0
      omega
    have HN : Hid (Tr.rmdir t q = (24, t)) := by
      have := HRM.out
      rw [if_pos hk0] at this
      exact this
    clear hk HRM HMK hL hk0 hq0 hqne hll
    go_wp2_with fail
    go_ret
    rw [HN.out]
    exact HS.out _ _ HB3.out
  have hl0 : ll = 0 := by rw [hll, hL, hk0]; rfl
  subst hl0
  obtain ⟨d, x, j, e1, e2, G1, G2, G3, G4⟩ := HGO.out (by first | rfl | trivial) hqne hk0
  have HN : Hid (Tr.rmdir t q = (0, Tr.remove (Tr.cut t d x) i)) := by
    have := HRM.out
    rw [if_neg (by simp [hk0]), e1, e2] at this
    exact this
  have G1a := Lib.hid (G1 w3 HB3.out)
  have G2 := Lib.hid G2
  have G3 := Lib.hid G3
  have G4 := Lib.hid G4
  clear hk HRM HMK hL hk0 hq0 hqne hll G1 HGO e1 e2
  go_wp2_with fail
  refine G1a.out.mono ?_
  rintro e w5 ⟨rfl, hb5⟩
  have HB5 : Hid (Below w.heap.size w w5) := HB3.out.trans (hb5.mono HB3.out.size)
  have G2a := Lib.hid (G2.out w5 HB5.out)
  have G3a := Lib.hid (G3.out w5 HB5.out)
  clear hb5 G1a G2 G3
  go_wp2_with fail
  refine G2a.out.mono ?_
  rintro e w6 ⟨rfl, rfl⟩
  go_wp2_with fail
  refine G3a.out.mono ?_
  rintro e w7 ⟨rfl, nv2, dv2, ev2, D2, hl7⟩
  have HL7 : Hid (Left p (Tr.cut t d x) (RS p nv ev D) w w7 nv2 dv2 ev2 D2) := (HLF0.out w6 HB5.out).then hl7
  have G4a := Lib.hid (G4.out w7 _ _ _ _ hl7.ra)
  clear hl7 G2a G3a G4
  go_wp2_with fail
  refine G4a.out.mono ?_
  intro e w8 ht8
  obtain ⟨rfl, nv3, dv3, ev3, D3, hl8⟩ := ht8.left
  have HL9 : Hid (RTurn p (Tr.remove (Tr.cut t d x) i) (.int .i64 0) (RS p nv ev D) w (.returned (.int .i64 0)) w8) := (HL7.out.then hl8).turn
  clear hl8 ht8
  go_wp2_with fail
  go_ret
  rw [HN.out]
  exact HL9.out
end Rf
end Go.Proofs.Ytombmeppdhhjhaa
