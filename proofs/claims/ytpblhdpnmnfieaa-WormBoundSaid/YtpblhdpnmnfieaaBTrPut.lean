/-
  OWN WORK. The program's directories: a name more, a name less, all names of a node less.
-/
import Derived.Test.YtpblhdpnmnfieaaBTrEnt
import Derived.Test.YtpblhdpnmnfieaaBTrInsN
import Derived.Test.YtpblhdpnmnfieaaBTrDelN
import Derived.Deep.RegionHeld3
namespace Go.Proofs.Ytpblhdpnmnfieaa
open Go.RowKit Rc
open Tr (Nm En T)
namespace Tm
theorem cell_alloc {w : World} {a : Addr} {v : Value} (o : Obj) (h : w.cell? a = some v) : (w.alloc o).cell? a = some v := by
  have hlt : a.block < w.heap.size := by
    rcases Nat.lt_or_ge a.block w.heap.size with h' | h'
    · exact h'
    · simp [World.cell?, Array.getElem?_eq_none h'] at h
  exact ((below_new w o).cell hlt).trans h
/-- What strings.Clone answers. -/
def CloneSaid : Prop := ∀ (s : Bs) (w : World), s.length ≤ 1000000 → Calls Try.prog 42 #[.string (strOf s)] w fun e w' => e = .returned (.string (strOf s)) ∧ Below w.heap.size w w'
/-- One node is turned. -/
def ETurn (g : Nat) (e' : En) (S : Nat → Prop) (w : World) (r : Ending) (w' : World) : Prop :=
  r = .returned (.tuple #[]) ∧ ∃ S', EAt g e' S' w' ∧ Mod w w' S ∧ ∀ b, S' b → S b ∨ w.heap.size ≤ b
/-- Its names are turned: a row of names that was made out of its own. -/
theorem EIn.names_to {g : Nat} {dv nv nv' : Value} {e : En} {w w1 : World} (h : EIn g dv nv e w) (l : List Nm) (ho : NOwn w1 0 nv' l) (hg : w.grownBy w1 nv.ownBlock) (hb : ∀ b, nv'.ownBlock = some b → nv.ownBlock = some b ∨ w.heap.size ≤ b) :
    ∃ S', EAt g { e with names := l } S' (w1.setCell ⟨g, 7, none⟩ nv') ∧ Mod w (w1.setCell ⟨g, 7, none⟩ nv') (EnS g dv nv) ∧ ∀ b, S' b → EnS g dv nv b ∨ w.heap.size ≤ b := by
  have hgn : some g ≠ nv.ownBlock := fun e2 => by
    obtain ⟨_, _, cs, h1⟩ := own_blk h.names e2.symm
    exact absurd rfl (h1.ne_ h.box (by decide))
  have hgd : ∀ b, dv.ownBlock = some b → some b ≠ nv.ownBlock := fun b hb2 e2 => by
    obtain ⟨_, _, cs, h1⟩ := own_blk h.names e2.symm
    obtain ⟨_, _, cs2, h2⟩ := own_blk h.data hb2
    exact absurd rfl (h1.ne_ h2 (by decide))
  have hgl := h.box.lt
  have hdg : ∀ b, dv.ownBlock = some b → b ≠ g := fun b hb2 => by
    obtain ⟨_, _, cs, h1⟩ := own_blk h.data hb2
    exact h1.ne_ h.box (by decide)
  have hng : ∀ b, nv'.ownBlock = some b → b ≠ g := fun b hb2 e2 => by
    rcases hb b hb2 with h1 | h1
    · exact hgn (by rw [h1, e2])
    · omega
  have hbox : Blk w1 g 63 (enCells e dv nv) := (hg.block g hgl hgn).trans h.box
  refine ⟨EnS g dv nv', ⟨dv, nv', ⟨hbox.set_ 7 nv', own_keep h.data fun b hb2 => ?_, own_keep ho fun b hb2 => ?_⟩, rfl⟩, ⟨hg.os, hg.tape, hg.output, by simpa [World.setCell] using hg.size, fun k hk hn => ?_⟩, ?_⟩
  · rw [Below.heap_setCell _ _ _ _ (hdg b hb2)]
    exact hg.block b (own_blk h.data hb2).2.1 (hgd b hb2)
  · exact Below.heap_setCell _ _ _ _ (hng b hb2)
  · rw [Below.heap_setCell _ _ _ _ (fun e2 => hn (.inl e2))]
    exact hg.block k hk fun e2 => hn (.inr (.inr e2.symm))
  · rintro b (rfl | hb2 | hb2)
    · exact .inl (.inl rfl)
    · exact .inl (.inr (.inl hb2))
    · exact (hb b hb2).imp (fun h1 => .inr (.inr h1)) id
/-- Where a name comes to stand. -/
theorem ins_at {l : List Nm} {x : Bs} (k : Int) {j : Nat} (hj : j ≤ l.length) (h1 : ∀ m ∈ l.take j, Tr.less m.1 x = true) (h2 : ∀ n, l[j]? = some n → Tr.less n.1 x = false) : Tr.ins l x k = l.take j ++ (x, k) :: l.drop j := by
  induction j generalizing l with
  | zero =>
    cases l with
    | nil => rfl
    | cons m l =>
      have := h2 m rfl
      unfold Tr.ins
      rw [if_neg (by rw [this]; simp)]; rfl
  | succ j ih =>
    cases l with
    | nil => simp at hj
    | cons m l =>
      rw [List.take_succ_cons] at h1 ⊢
      unfold Tr.ins
      rw [if_pos (h1 m (.head _)), ih (by simpa using hj) (fun y hy => h1 y (.tail _ hy)) (fun n hn => h2 n (by simpa using hn))]
      rfl

set_option maxHeartbeats 2000000 in
set_option maxRecDepth 100000 in
theorem put_any (hcl : CloneSaid) {g : Nat} {e : En} {S : Nat → Prop} {w : World} (h : EAt g e S w) (x : Bs) (k : Int) (hlt : e.names.length ≤ 900000000) (hx : x.length ≤ 1000000) :
    Calls Try.prog 28 #[.pointer (some ⟨g, 0, none⟩), .string (strOf x), .int .i64 k] w (ETurn g { e with names := Tr.ins e.names x k } S w) := by
  obtain ⟨dv, nv, hE, rfl⟩ := h
  have HE := Lib.hid hE
  have c0 : w.cell? ⟨g, 7, none⟩ = some nv := hE.box.cell 7
  have HC := Lib.hid c0
  have f0 : w.frozen? ⟨g, 7, none⟩ = false := hE.box.frozen 7
  have HF0 := Lib.hid f0
  have HG : Hid (g < w.heap.size) := hE.box.lt
  obtain ⟨A, c, hnv, hc, hA⟩ := hE.names.form
  have HA := Lib.hid hA
  have hnf : nv.ownBlock ≠ some w.heap.size := fun e2 => by have := (own_blk hE.names e2).2.1; omega
  have HNF := Lib.hid hnf
  obtain ⟨l, hl⟩ : ∃ l, l = e.names := ⟨_, rfl⟩
  have HLE := Lib.hid hl
  have HN : Hid (NOwn w 0 nv l) := by rw [hl]; exact hE.names
  rw [← hl] at HA hlt hc hnv ⊢
  have HCL := Lib.hid hcl
  have HLT := Lib.hid hlt
  have HX := Lib.hid hx
  subst hnv
  clear hE hA hcl hnf hl
  go_enter Try.func28, Try.ntmps28
  go_wp2_with fail
  go_loopw [6] (fun t6 wr => ∃ j : Nat, t6 = .int .i64 j ∧ j ≤ l.length ∧ Hid (∀ m ∈ l.take j, Tr.less m.1 x = true) ∧ wr = w) (fun t6 _ => l.length - (match t6 with | .int _ k => k.toNat | _ => 0))
  case atStart => exact ⟨0, rfl, Nat.zero_le _, fun e he => by simp at he, rfl⟩
  case round =>
    obtain ⟨j, rfl, hj, HN1, rfl⟩ := hrel
    have key : (∃ n, l[j]? = some n ∧ Tr.less n.1 x = true) ∨ (∀ n, l[j]? = some n → Tr.less n.1 x = false) := by
      cases hn : l[j]? with
      | none => exact .inr fun n h => by cases h
      | some n =>
        cases hb : Tr.less n.1 x
        · exact .inr fun m hm => by injection hm with hm; rw [← hm]; exact hb
        · exact .inl ⟨n, rfl, hb⟩
    rcases key with ⟨n, hn, hb⟩ | hstop
    · have hk := (List.getElem?_eq_some_iff.1 hn).1
      obtain ⟨q, rfl, _, _, hql, hcell⟩ := HA.out (by omega)
      have c1 := (hcell j n hn).1
      have hlt2 : (j : Int) < (l.length : Int) := by omega
      have HNN : Hid (∀ m ∈ l.take (j + 1), Tr.less m.1 x = true) := fun m hm => by
        rw [take_next hn, List.mem_append] at hm
        rcases hm with hm | hm
        · exact HN1.out m hm
        · simp only [List.mem_singleton] at hm
          rw [hm]; exact hb
      have hbb : Op.bytesLess (strOf n.1).toList (strOf x).toList = true := by rw [strOf_list, strOf_list]; exact hb
      clear hn hb hcell hql
      go_wp2_with fail
      go_roundw
      case rel => exact ⟨j + 1, by go_num, by omega, HNN.out, by first | rfl | trivial⟩
      case measure => simp; omega
    · have HINS := Lib.hid (ins_at k hj HN1.out hstop)
      have hgo : Hid (∀ P : Prop, (∀ n, l[j]? = some n → (j : Int) < (l.length : Int) → Op.bytesLess (strOf n.1).toList (strOf x).toList = false → P) → (¬ (j : Int) < (l.length : Int) → P) → P) := by
        intro P h1 h2
        by_cases hk : j < l.length
        · exact h1 l[j] (List.getElem?_eq_getElem hk) (by omega) (by rw [strOf_list, strOf_list]; exact hstop _ (List.getElem?_eq_getElem hk))
        · exact h2 (by omega)
      have HGN : Hid (some g ≠ (Value.slice A l.length c).ownBlock) := fun e2 => by
        obtain ⟨_, _, cs, h1⟩ := own_blk HN.out e2.symm
        exact absurd rfl (h1.ne_ HE.out.box (by decide))
      have HFR : Hid (∀ w2, wr.grownBy w2 (Value.slice A l.length c).ownBlock → w2.frozen? ⟨g, 7, none⟩ = false) := fun w2 hg => by
        have : Blk w2 g 63 (enCells e dv (.slice A l.length c)) := (hg.block g HG.out HGN.out).trans HE.out.box
        exact this.frozen 7
      have HINS2 : Hid (∀ w1, Below wr.heap.size wr w1 → Calls Try.prog 41 #[.slice A l.length c, .int .i64 (j : Nat), .slice (some ⟨w1.heap.size, 0, none⟩) 1 1] (w1.alloc (.cells #[.string (strOf x), .int .i64 k] 80)) fun r w' => ∃ nv', r = .returned nv' ∧ NOwn w' 0 nv' (Tr.ins l x k) ∧ wr.grownBy w' (Value.slice A l.length c).ownBlock ∧ ∀ b, nv'.ownBlock = some b → (Value.slice A l.length c).ownBlock = some b ∨ wr.heap.size ≤ b) := fun w1 hb => by
        have hb2 : Below wr.heap.size wr (w1.alloc (.cells #[.string (strOf x), .int .i64 k] 80)) := hb.alloc hb.size _
        refine (insNm_any _ 0 _ l.length j (nmCells l) [.string (strOf x), .int .i64 k] (own_keep HN.out fun b hb3 => hb2.block b (own_blk HN.out hb3).2.1) (Nat.zero_le _) hj (by have := HLT.out; omega) (nmCells_one l) w1.heap.size (Blk.new w1 _ _) (fun e2 => by have := (own_blk HN.out e2).2.1; have := hb.size; omega) rfl (fun u hu => by simp at hu; rcases hu with rfl | rfl <;> rfl)).mono ?_
        rintro r w' ⟨v', rfl, h1, h2, h3⟩
        refine ⟨v', rfl, ?_, ⟨h2.os.trans hb2.os, h2.tape.trans hb2.tape, h2.output.trans hb2.output, Nat.le_trans hb2.size h2.size, fun b hlt hne => (h2.block b (Nat.lt_of_lt_of_le hlt hb2.size) hne).trans (hb2.block b hlt)⟩, fun b hb3 => (h3 b hb3).imp id fun h4 => Nat.le_trans hb2.size h4⟩
        have e1 : nmCells (Tr.ins l x k) = (nmCells l).take (j * 2) ++ ([.string (strOf x), .int .i64 k] ++ (nmCells l).drop (j * 2)) := by
          rw [HINS.out, nmCells_append, nmCells_cons, nmCells_take, nmCells_drop]; rfl
        have e2 : (Tr.ins l x k).length = l.length + 1 := by rw [(Tr.ins_perm l x k).length_eq]; rfl
        unfold NOwn
        rw [e1, e2]
        exact h1
      have HEND : Hid (∀ nv' w2, NOwn w2 0 nv' (Tr.ins l x k) → wr.grownBy w2 (Value.slice A l.length c).ownBlock → (∀ b, nv'.ownBlock = some b → (Value.slice A l.length c).ownBlock = some b ∨ wr.heap.size ≤ b) → ∃ S', EAt g { e with names := Tr.ins l x k } S' (w2.setCell ⟨g, 7, none⟩ nv') ∧ Mod wr (w2.setCell ⟨g, 7, none⟩ nv') (EnS g dv (.slice A l.length c)) ∧ ∀ b, S' b → EnS g dv (.slice A l.length c) b ∨ wr.heap.size ≤ b) :=
        fun nv' w2 ho hg hb => HE.out.names_to (Tr.ins l x k) ho hg hb
      clear hstop
      refine hgo.out _ (fun n hn hlt2 hbb => ?_) (fun hge => ?_)
      · obtain ⟨q, rfl, _, _, hql, hcell⟩ := HA.out (by omega)
        have c1 := (hcell j n hn).1
        clear hn hcell hql
        go_wp2_with fail
        go_region_with (first
          | (go_at_call 42; refine (HCL.out x _ HX.out).mono ?_; rintro e1 w1 ⟨rfl, hb⟩; have HB1 : Hid (Below wr.heap.size wr w1) := undrew hb; have hc1 := (HB1.out.cell (p := ⟨g, 7, none⟩) HG.out).trans HC.out; have hc1a := fun o => (cell_alloc o hc1); clear hb)
          | (go_at_call 41; refine (HINS2.out w1 HB1.out).mono ?_; rintro e2 w2 ⟨nv', rfl, ho, hgr, hbl⟩; obtain ⟨A9, c9, rfl, _, _⟩ := ho.form; have HO := Lib.hid ho; have HGR := Lib.hid hgr; have HBL := Lib.hid hbl; have hc2 : w2.cell? ⟨g, 7, none⟩ = some (.slice (some ⟨q, 0, none⟩) l.length c) := (HGR.out.cell HC.out (HGN.out)); have hf2 : w2.frozen? ⟨g, 7, none⟩ = false := HFR.out w2 HGR.out; clear ho hgr hbl))
        all_goals
          refine bodyPost_end (results_none rfl _ _ _) rfl ?_
          exact ⟨rfl, HEND.out _ w2 HO.out HGR.out HBL.out⟩
      ·
        go_wp2_with fail
        go_region_with (first
          | (go_at_call 42; refine (HCL.out x _ HX.out).mono ?_; rintro e1 w1 ⟨rfl, hb⟩; have HB1 : Hid (Below wr.heap.size wr w1) := undrew hb; have hc1 := (HB1.out.cell (p := ⟨g, 7, none⟩) HG.out).trans HC.out; have hc1a := fun o => (cell_alloc o hc1); clear hb)
          | (go_at_call 41; refine (HINS2.out w1 HB1.out).mono ?_; rintro e2 w2 ⟨nv', rfl, ho, hgr, hbl⟩; obtain ⟨A9, c9, rfl, _, _⟩ := ho.form; have HO := Lib.hid ho; have HGR := Lib.hid hgr; have HBL := Lib.hid hbl; have hc2 : w2.cell? ⟨g, 7, none⟩ = some (.slice (A) l.length c) := (HGR.out.cell HC.out (HGN.out)); have hf2 : w2.frozen? ⟨g, 7, none⟩ = false := HFR.out w2 HGR.out; clear ho hgr hbl))
        all_goals
          refine bodyPost_end (results_none rfl _ _ _) rfl ?_
          exact ⟨rfl, HEND.out _ w2 HO.out HGR.out HBL.out⟩

end Tm
end Go.Proofs.Ytpblhdpnmnfieaa
