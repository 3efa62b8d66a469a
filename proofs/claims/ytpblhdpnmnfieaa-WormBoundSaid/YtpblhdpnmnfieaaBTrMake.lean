/-
  OWN WORK. The program's tree: Make.
-/
import Derived.Test.YtpblhdpnmnfieaaBTrFile
import Derived.Test.YtpblhdpnmnfieaaBTrStr
namespace Go.Proofs.Ytpblhdpnmnfieaa
open Go.RowKit Rc
open Tr (Nm En T)
namespace Tm
variable {p : Nat} {av : Value} {gs : List Nat} {S : Nat → Prop} {t : T} {w : World}
theorem insE_take {t : T} {n : En} {k : Nat} (hk : k ≤ t.length) (h1 : ∀ j e, j < k → t[j]? = some e → e.nd.id < n.nd.id) (h2 : ∀ e, t[k]? = some e → ¬ e.nd.id < n.nd.id) : Tr.insE t n = t.take k ++ n :: t.drop k := by
  induction k generalizing t with
  | zero =>
    cases t with
    | nil => rfl
    | cons e t =>
      unfold Tr.insE
      rw [if_neg (h2 e rfl)]; rfl
  | succ k ih =>
    cases t with
    | nil => simp at hk
    | cons e t =>
      unfold Tr.insE
      rw [if_pos (h1 0 e (by omega) rfl), ih (by simpa using hk) (fun j m hj hm => h1 (j + 1) m (by omega) (by simpa using hm)) (fun m hm => h2 m (by simpa using hm))]
      rfl
theorem ptrOf_ins : ∀ {ga gb : List Nat} {g : Nat} {A B : T} {e : En} {i : Int}, ga.length = A.length → e.nd.id ≠ i → ptrOf (ga ++ g :: gb) (A ++ e :: B) i = ptrOf (ga ++ gb) (A ++ B) i
  | [], gb, g, [], B, e, i, _, he => by
    show (if _ then _ else _) = _
    rw [if_neg he]; rfl
  | x :: ga, gb, g, a :: A, B, e, i, hl, he => by
    show (if _ then _ else _) = (if _ then _ else _)
    by_cases hi : a.nd.id = i
    · rw [if_pos hi, if_pos hi]
    · rw [if_neg hi, if_neg hi]
      exact ptrOf_ins (by simpa using hl) he
/-- A node is put in. -/
theorem TIn.insert (h : TIn p av gs S t w) {g : Nat} {e : En} {S1 : Nat → Prop} {k : Nat} {av' : Value} {w1 : World} (he : EAt g e S1 w) (hk : k ≤ t.length) (hd : ∀ b, TrS p av S b → ¬ S1 b)
    (ho : w1.ownsRow 0 50 1 av' (gs.take k ++ g :: gs.drop k).length (ptrCells (gs.take k ++ g :: gs.drop k))) (hg : w.grownBy w1 av.ownBlock) (hb : ∀ b, av'.ownBlock = some b → av.ownBlock = some b ∨ w.heap.size ≤ b) :
    ∃ S', TIn p av' (gs.take k ++ g :: gs.drop k) S' (t.take k ++ e :: t.drop k) (w1.setCell ⟨p, 0, none⟩ av') ∧ Mod w (w1.setCell ⟨p, 0, none⟩ av') (TrS p av S) ∧ ∀ b, TrS p av' S' b → TrS p av S b ∨ S1 b ∨ w.heap.size ≤ b := by
  have hap := h.apart
  have hpn : some p ≠ av.ownBlock := fun e2 => (hap.2 p e2.symm).2 rfl
  have hbox : Blk w1 p 54 [av] := (hg.block p h.box.lt hpn).trans h.box
  have hes0 : EsAt gs (t.take k ++ t.drop k) S w := by rw [List.take_append_drop]; exact h.each
  obtain ⟨ga, gb, S', h1, h2, h3, h4⟩ := hes0.into he fun b hb2 => hd b (.inr (.inr hb2))
  have hga : ga = gs.take k := by
    have : ga.length = k := by rw [h2, List.length_take]; omega
    rw [h1, ← this, List.take_left]
  have hgb : gb = gs.drop k := by
    have : ga.length = k := by rw [h2, List.length_take]; omega
    rw [h1, ← this, List.drop_left]
  rw [hga, hgb] at h3
  have hp1 : ¬ S1 p := hd p (.inl rfl)
  have hnp : ∀ b, av'.ownBlock = some b → b ≠ p := fun b hb2 e2 => by
    rcases hb b hb2 with h5 | h5
    · exact (hap.2 b h5).2 e2
    · have := h.box.lt; omega
  refine ⟨S', ⟨hbox.set_ 0 av', own_keep ho fun b hb2 => Below.heap_setCell _ _ _ _ (hnp b hb2), h3.keep fun b hb2 => ?_⟩, ⟨hg.os, hg.tape, hg.output, by simpa [World.setCell] using hg.size, fun j hj hn => ?_⟩, ?_⟩
  · have hbp : b ≠ p := fun e2 => by
      rcases (h4 b).1 hb2 with h5 | h5
      · exact hap.1 (e2 ▸ h5)
      · exact hp1 (e2 ▸ h5)
    rw [Below.heap_setCell _ _ _ _ hbp]
    rcases (h4 b).1 hb2 with h5 | h5
    · exact hg.block b (h.each.kind h5).1 fun e2 => (hap.2 b e2.symm).1 h5
    · exact hg.block b (he.kind h5).1 fun e2 => hd b (.inr (.inl e2.symm)) h5
  · rw [Below.heap_setCell _ _ _ _ (fun e2 => hn (.inl e2))]
    exact hg.block j hj fun e2 => hn (.inr (.inl e2.symm))
  · rintro b (rfl | hb2 | hb2)
    · exact .inl (.inl rfl)
    · exact (hb b hb2).elim (fun h5 => .inl (.inr (.inl h5))) (fun h5 => .inr (.inr h5))
    · exact ((h4 b).1 hb2).elim (fun h5 => .inl (.inr (.inr h5))) (fun h5 => .inr (.inl h5))
/-- One turn behind another. -/
theorem TTurn.trans {S0 S1 : Nat → Prop} {w0 w1 w2 : World} {t2 : T} {x y : Value} (hm : Mod w0 w1 S0) (hs : ∀ b, S1 b → S0 b ∨ w0.heap.size ≤ b) (h : TTurn p t2 x S1 w1 (.returned x) w2) : TTurn p t2 y S0 w0 (.returned y) w2 := by
  obtain ⟨_, S3, n1, n2, n3⟩ := h
  refine ⟨rfl, S3, n1, ?_, fun b hb => ?_⟩
  · refine ⟨n2.os.trans hm.os, n2.tape.trans hm.tape, n2.output.trans hm.output, Nat.le_trans hm.size n2.size, fun k hk hn => (n2.block k (Nat.lt_of_lt_of_le hk hm.size) fun h8 => ?_).trans (hm.block k hk hn)⟩
    rcases hs k h8 with h9 | h9
    · exact hn h9
    · omega
  · rcases n3 b hb with h8 | h8
    · exact hs b h8
    · exact .inr (Nat.le_trans hm.size h8)
theorem formed_one (w : World) (A : Option Addr) (q : List Bs) (cap : Nat) (hr : RdS w A q) (hc : q.length ≤ cap) (hl : q.length ≤ 1000000) (hs : ∀ s ∈ q, s.length ≤ 1000000) :
    Calls Try.prog 23 #[.slice (some ⟨w.heap.size, 0, none⟩) 1 1] (w.alloc (.cells #[.slice A q.length cap] 37)) fun e w' => e = .returned (.int .i64 (Tr.formed q : Nat)) ∧ w' = w.alloc (.cells #[.slice A q.length cap] 37) := by
  have h := formed_any _ _ [q] 1 (rdP_one w q A cap 37 hc hr) (by simp) (fun p hp => by
    obtain rfl : p = q := by simpa using hp
    exact ⟨hl, fun s h => by have := hs s h; omega⟩)
  have e : formedL [q] = Tr.formed q := by
    unfold formedL
    split
    · rfl
    · rename_i h1
      have h2 : Tr.formed q = 0 := Decidable.byContradiction h1
      rw [h2]; rfl
  rw [e] at h
  exact h
theorem formed_small {q : List Bs} (h : Tr.formed q = 0) : q.length ≤ 8 ∧ ∀ s ∈ q, Pa.good s = true := by
  unfold Tr.formed at h
  split at h
  · rename_i h1
    split at h
    · cases h
    · exact ⟨by omega, fun s hs => List.all_eq_true.1 h1 s hs⟩
  · cases h
theorem ptrOf_upd {f : En → En} (hf : ∀ e, (f e).nd.id = e.nd.id) (d i : Int) : ∀ {gs : List Nat} {t : T}, ptrOf gs (Tr.upd t d f) i = ptrOf gs t i
  | [], [] => rfl
  | [], _ :: _ => rfl
  | _ :: _, [] => rfl
  | g :: gs, e :: t => by
    have h1 : (if e.nd.id == d then f e else e).nd.id = e.nd.id := by split <;> simp [hf]
    show (if (if e.nd.id == d then f e else e).nd.id = i then _ else _) = (if _ then _ else _)
    rw [h1]
    by_cases hi : e.nd.id = i
    · rw [if_pos hi, if_pos hi]
    · rw [if_neg hi, if_neg hi]
      exact ptrOf_upd hf d i (gs := gs) (t := t)
theorem ptr_inj {a b : Nat} (h : Value.pointer (some ⟨a, 0, none⟩) = .pointer (some ⟨b, 0, none⟩)) : a = b := by
  injection h with h; injection h with h; injection h
/-- A new node, and its name. -/
theorem make_put (h6 : TIn p av gs S t w) (hr : Tr.Ris t) {g : Nat} {kn : Nat} {kind : Int} (hE : EIn g (.slice none 0 0) (.slice none 0 0) (Tr.fresh (kn : Int) kind) w) (hgS : ∀ b, TrS p av S b → b ≠ g) (hk : kn ≤ t.length)
    (hins : Tr.insE t (Tr.fresh (kn : Int) kind) = t.take kn ++ Tr.fresh (kn : Int) kind :: t.drop kn) (hnew : ∀ e ∈ t, e.nd.id ≠ (kn : Int)) {d : Int} {en : En} (hfd : Tr.find t d = some en) {gd : Nat} (hpd : ptrOf gs t d = .pointer (some ⟨gd, 0, none⟩)) (x : Bs)
    {av' : Value} {w7 : World} (ho : w7.ownsRow 0 50 1 av' (gs.take kn ++ g :: gs.drop kn).length (ptrCells (gs.take kn ++ g :: gs.drop kn))) (hg : w.grownBy w7 av.ownBlock) (hb : ∀ b, av'.ownBlock = some b → av.ownBlock = some b ∨ w.heap.size ≤ b) :
    (w7.setCell ⟨p, 0, none⟩ av').cell? ⟨g, 0, none⟩ = some (.int .i64 (kn : Int)) ∧ ∃ S1, EAt gd en S1 (w7.setCell ⟨p, 0, none⟩ av') ∧
      ∀ w9, ETurn gd { en with names := Tr.ins en.names x (kn : Int) } S1 (w7.setCell ⟨p, 0, none⟩ av') (.returned (.tuple #[])) w9 → w9.cell? ⟨g, 0, none⟩ = some (.int .i64 (kn : Int)) ∧
        ∃ S2, TAt (.pointer (some ⟨p, 0, none⟩)) (Tr.put (Tr.insE t (Tr.fresh (kn : Int) kind)) d x (kn : Int)) S2 w9 ∧ Mod w w9 (fun b => TrS p av S b ∨ b = g) ∧ ∀ b, S2 b → TrS p av S b ∨ b = g ∨ w.heap.size ≤ b := by
  have hS1 : ∀ b, EnS g (.slice none 0 0) (.slice none 0 0) b → b = g := by
    rintro b (rfl | h | h)
    · rfl
    · cases h
    · cases h
  obtain ⟨S', h8, hm8, hs8⟩ := h6.insert hE.at_ hk (fun b hb1 hb2 => hgS b hb1 (hS1 b hb2)) ho hg hb
  have hris : Tr.Ris (Tr.insE t (Tr.fresh (kn : Int) kind)) := Tr.insE_ris hr hnew
  have hfi := Tr.find_insE hr (n := Tr.fresh (kn : Int) kind) hnew
  rw [← hins] at h8
  have hl : (gs.take kn).length = (t.take kn).length := by rw [List.length_take, List.length_take, h6.each.len]
  have hfk : Tr.find (Tr.insE t (Tr.fresh (kn : Int) kind)) (kn : Int) = some (Tr.fresh (kn : Int) kind) := by rw [hfi]; exact if_pos rfl
  have hdk : d ≠ (kn : Int) := fun e => hnew en (Tr.find_some hfd).1 (by rw [(Tr.find_some hfd).2, e])
  have hfdd : Tr.find (Tr.insE t (Tr.fresh (kn : Int) kind)) d = some en := by rw [hfi]; exact (if_neg hdk).trans hfd
  have hpk : ptrOf (gs.take kn ++ g :: gs.drop kn) (Tr.insE t (Tr.fresh (kn : Int) kind)) (kn : Int) = .pointer (some ⟨g, 0, none⟩) := by
    rw [hins]
    exact ptrOf_mid hl (fun a ha => hnew a (List.mem_of_mem_take ha)) rfl
  have hpd2 : ptrOf (gs.take kn ++ g :: gs.drop kn) (Tr.insE t (Tr.fresh (kn : Int) kind)) d = .pointer (some ⟨gd, 0, none⟩) := by
    rw [hins, ptrOf_ins hl (fun e => hdk e.symm), List.take_append_drop, List.take_append_drop, hpd]
  obtain ⟨g1, _, hp1, hE1, _, _⟩ := h8.turnAt hris hfk
  obtain rfl : g1 = g := ptr_inj (hp1.symm.trans hpk)
  obtain ⟨gd1, Sd, hp2, hEd, _, hto⟩ := h8.turnAt hris hfdd
  obtain rfl : gd1 = gd := ptr_inj (hp2.symm.trans hpd2)
  refine ⟨hE1.cells.1, Sd, hEd, ?_⟩
  rintro w9 ⟨_, Sd', k1, k2, k3⟩
  have hfid : ∀ e : En, ({ e with names := Tr.ins e.names x (kn : Int) } : En).nd.id = e.nd.id := fun _ => rfl
  obtain ⟨S'', m1, m2, m3⟩ := hto w9 (fun e => { e with names := Tr.ins e.names x (kn : Int) }) Sd' k1 k2 k3
  have hfk9 : Tr.find (Tr.upd (Tr.insE t (Tr.fresh (kn : Int) kind)) d fun e => { e with names := Tr.ins e.names x (kn : Int) }) (kn : Int) = some (Tr.fresh (kn : Int) kind) := by
    rw [Tr.find_upd hfid, hfk]
    simp only [Option.map_some, if_neg (fun e : (kn : Int) = d => hdk e.symm)]
  obtain ⟨g2, _, hp3, hE3, _, _⟩ := m1.turnAt (Tr.upd_ris hris hfid) hfk9
  obtain rfl : g2 = g1 := by
    rw [ptrOf_upd hfid] at hp3
    exact ptr_inj (hp3.symm.trans hpk)
  refine ⟨hE3.cells.1, _, m1.at_, ?_, fun b hb2 => ?_⟩
  · refine ⟨m2.os.trans hm8.os, m2.tape.trans hm8.tape, m2.output.trans hm8.output, Nat.le_trans hm8.size m2.size, fun k hk2 hn => (m2.block k (Nat.lt_of_lt_of_le hk2 hm8.size) fun h9 => ?_).trans (hm8.block k hk2 fun h9 => hn (.inl h9))⟩
    rcases hs8 k h9 with h10 | h10 | h10
    · exact hn (.inl h10)
    · exact hn (.inr (hS1 k h10))
    · omega
  · rcases m3 b hb2 with h9 | h9
    · rcases hs8 b h9 with h10 | h10 | h10
      · exact .inl h10
      · exact .inr (.inl (hS1 b h10))
      · exact .inr (.inr h10)
    · exact .inr (.inr (Nat.le_trans hm8.size h9))

set_option maxHeartbeats 4000000 in
set_option maxRecDepth 100000 in
theorem make_any (h : TIn p av gs S t w) (hG : Tr.Good t) (A : Option Addr) (q : List Bs) (cap : Nat) (kind : Int) (hr : RdS w A q) (hc : q.length ≤ cap) (hl : q.length ≤ 1000000) (hs : ∀ s ∈ q, s.length ≤ 1000000) :
    Calls Try.prog 13 #[.pointer (some ⟨p, 0, none⟩), .slice A q.length cap, .int .i64 kind] w (TTurn p (Tr.make t q kind).2 (.tuple #[.int .i64 (Tr.make t q kind).1.1, .int .i64 ((Tr.make t q kind).1.2 : Nat)]) (TrS p av S) w) := by
  obtain ⟨wa, hwa⟩ : ∃ wa, wa = w.alloc (.cells #[.slice A q.length cap] 37) := ⟨_, rfl⟩
  have hba : Below w.heap.size w wa := by rw [hwa]; exact below_new w _
  have HFM := Lib.hid (formed_one w A q cap hr hc hl hs)
  rw [← hwa] at HFM
  have HS : Hid (∀ x W, Below w.heap.size w W → TTurn p t x (TrS p av S) w (.returned x) W) := fun x W hW => TTurn.stay h hW
  have HPL := Lib.hid (place_any (h.below hba) hG A q cap (hr.below hba) hc hl)
  have HBA := Lib.hid hba
  have H := Lib.hid h
  have HG := Lib.hid hG
  have HWA := Lib.hid hwa
  obtain ⟨fm, hfm⟩ : ∃ fm, fm = Tr.formed q := ⟨_, rfl⟩
  rw [← hfm] at HFM
  have HFMV := Lib.hid hfm
  have HSM := Lib.hid hs
  obtain ⟨R, hR⟩ : ∃ R, R = Tr.make t q kind := ⟨_, rfl⟩
  rw [← hR]
  have HR := Lib.hid hR
  clear h hG hr hba hfm hs hR
  go_enter Try.func13, Try.ntmps13
  go_wp2_with fail
  rw [← hwa]
  clear hwa
  refine HFM.out.mono ?_
  rintro e w1 ⟨rfl, rfl⟩
  by_cases hf : fm = 0
  case neg =>
    have hfi : ((fm : Int) == 0) = false := by rw [beq_eq_false_iff_ne]; omega
    have HN : Hid (R = ((0, fm), t)) := by
      have := HFMV.out
      show _ = _
      rw [HR.out]
      unfold Tr.make
      rw [← this, if_pos hf]
    clear hf
    go_wp2_with fail
    go_ret2
    rw [HN.out]
    exact HS.out _ _ HBA.out
  subst hf
  by_cases hk : kind = 1 ∨ kind = 2
  case neg =>
    have hk1 : (kind != 1) = true := by rw [bne_iff_ne]; omega
    have hk2 : (kind != 2) = true := by rw [bne_iff_ne]; omega
    have HN : Hid (R = ((0, 30), t)) := by
      have := HFMV.out
      show _ = _
      rw [HR.out]
      unfold Tr.make
      rw [← this, if_neg (by simp), if_pos (by omega)]
    clear hk
    go_wp2_with fail
    go_ret2
    rw [HN.out]
    exact HS.out _ _ HBA.out
  have hmake1 : R = if (Tr.place t q).2.2 ≠ 0 then ((0, (Tr.place t q).2.2), t) else if (Tr.get (Tr.kids t (Tr.place t q).1) (Tr.place t q).2.1).isSome then ((0, 21), t) else if 64 ≤ t.length then ((0, 4), t) else ((Tr.free t, 0), Tr.put (Tr.insE t (Tr.fresh (Tr.free t) kind)) (Tr.place t q).1 (Tr.place t q).2.1 (Tr.free t)) := by
    have := HFMV.out
    rw [HR.out]
    conv => lhs; unfold Tr.make
    rw [← this, if_neg (by simp), if_neg (by omega)]
  have HK1 := Lib.hid hmake1
  clear hmake1 HR
  rcases hk with rfl | rfl
  all_goals
    go_wp2_with fail
    refine HPL.out.mono ?_
    rintro e w2 ⟨rfl, hb2⟩
    have HB2 : Hid (Below w.heap.size w w2) := HBA.out.trans (hb2.mono HBA.out.size)
    clear hb2
    by_cases hp0 : (Tr.place t q).2.2 = 0
    case neg =>
      obtain ⟨pn, hpn⟩ : ∃ pn, pn = (Tr.place t q).2.2 := ⟨_, rfl⟩
      have HN : Hid (R = ((0, pn), t)) := by
        have := HK1.out
        rw [if_pos hp0, ← hpn] at this
        exact this
      have hpi : ((pn : Int) == 0) = false := by rw [beq_eq_false_iff_ne]; omega
      unfold placeV
      rw [if_neg hp0, ← hpn]
      obtain ⟨px, hpx⟩ : ∃ px, px = (Tr.place t q).2.1 := ⟨_, rfl⟩
      rw [← hpx]
      clear hp0 hpn hpx
      go_wp2_with fail
      go_ret2
      rw [HN.out]
      exact HS.out _ _ HB2.out
    obtain ⟨r, x, en, hq, hlk, hx, hfd, hkd, hplace⟩ := Tr.place_is HG.out hp0
    obtain ⟨d, hd⟩ : ∃ d, d = en.nd.id := ⟨_, rfl⟩
    rw [hplace] at hfd
    rw [← hd] at hplace hfd
    simp only at hfd
    have H2 := Lib.hid (H.out.below HB2.out)
    obtain ⟨gd, Sd, hpd, hEd, _, hnl⟩ := H2.out.ptr HG.out hfd
    have HHAS := Lib.hid (has_any hEd x (by omega))
    have HPV : Hid (placeV gs t q = .tuple #[.pointer (some ⟨gd, 0, none⟩), .string (strOf x), .int .i64 0]) := by
      show _ = _
      unfold placeV
      rw [hplace]
      simp only [if_true, hpd]; rfl
    have hxl : x.length ≤ 1000000 := HSM.out x (by rw [hq]; simp)
    have hK2 := HK1.out
    rw [hplace] at hK2
    simp only [ne_eq, not_true_eq_false, if_false] at hK2
    rw [Tr.kids_of hfd] at hK2
    have HK2 := Lib.hid hK2
    have HFD := Lib.hid hfd
    have HPD := Lib.hid hpd
    have HNL := Lib.hid hnl
    have HXL := Lib.hid hxl
    rw [HPV.out]
    obtain ⟨o, ho⟩ : ∃ o, o = (Tr.get en.names x).isSome := ⟨_, rfl⟩
    rw [← ho] at HHAS HK2
    have HO := Lib.hid ho
    clear hp0 hq hlk hx hfd hkd hplace hpd hEd hK2 hnl hxl ho hd
    go_wp2_with fail
    refine HHAS.out.mono ?_
    rintro e w3 ⟨rfl, hb3⟩
    have HB3 : Hid (Below w.heap.size w w3) := HB2.out.trans (hb3.mono HB2.out.size)
    clear hb3
    cases o
    case true =>
      have HN : Hid (R = ((0, 21), t)) := HK2.out
      go_wp2_with fail
      go_ret2
      rw [HN.out]
      exact HS.out _ _ HB3.out
    have HCN := Lib.hid (count_any (H.out.below HB3.out))
    go_wp2_with fail
    refine HCN.out.mono ?_
    rintro e w4 ⟨rfl, rfl⟩
    by_cases h64 : (64 : Int) ≤ (t.length : Int)
    case pos =>
      have HN : Hid (R = ((0, 4), t)) := by
        have := HK2.out
        rw [if_neg (by simp), if_pos (by omega)] at this
        exact this
      go_wp2_with fail
      go_ret2
      rw [HN.out]
      exact HS.out _ _ HB3.out
    have hN := HK2.out
    rw [if_neg (by simp), if_neg (by omega)] at hN
    obtain ⟨kn, hkn, hknl, hkfree, hklo, hkhi⟩ := Tr.freeFrom_spec t HG.out.ris 0 (fun e he => (HG.out.each e he).nd.1)
    rw [Int.zero_add] at hkn
    have hfree : Tr.free t = (kn : Int) := hkn
    rw [hfree] at hN
    have HN := Lib.hid hN
    have H3 := Lib.hid (H.out.below HB3.out)
    have HFR := Lib.hid (free_any H3.out (by omega))
    rw [hfree] at HFR
    have HFS := Lib.hid (fun W k => fresh_any W (kn : Int) k)
    have HINS : Hid ((∀ kind, Tr.insE t (Tr.fresh (kn : Int) kind) = t.take kn ++ Tr.fresh (kn : Int) kind :: t.drop kn) ∧ kn ≤ t.length ∧ (∀ e ∈ t, e.nd.id ≠ (kn : Int))) := by
      refine ⟨fun kind => insE_take hknl (fun j e hj he => ?_) (fun e he => ?_), hknl, fun e he => by have := hkfree e he; omega⟩
      · have h1 := hklo j hj
        rw [he] at h1
        simp only [Option.map_some, Option.some.injEq, Int.zero_add] at h1
        show e.nd.id < (kn : Int)
        omega
      · have h1 := hkhi kn (Nat.le_refl _) e he
        show ¬ e.nd.id < (kn : Int)
        omega
    clear hkn hknl hkfree hklo hkhi hfree hN
    go_wp2_with fail
    refine HFR.out.mono ?_
    rintro e w5 ⟨rfl, rfl⟩
    go_wp2_with fail
    refine (HFS.out w5 _).mono ?_
    rintro e w6 ⟨g, rfl, hE, hg, hb6⟩
    have HB6 : Hid (Below w.heap.size w w6) := HB3.out.trans (hb6.mono HB3.out.size)
    have HE := Lib.hid hE
    have HGN : Hid (w.heap.size ≤ g) := by show _ ≤ _; have := HB3.out.size; omega
    clear hE hb6 hg
    have H6 := H.out.below HB6.out
    have h6 := H6.box.cell 0
    have hap := H6.apart
    obtain ⟨A0, c0, hav, hc0, _⟩ := own_form H6.row
    obtain ⟨gs', hgs'⟩ : ∃ gs', gs' = gs.take kn ++ g :: gs.drop kn := ⟨_, rfl⟩
    have hHI : ∀ W, Below w6.heap.size w6 W → W.heap.size = w6.heap.size → Calls Try.prog 27 #[av, .int .i64 (kn : Nat), .slice (some ⟨w6.heap.size, 0, none⟩) 1 1] (W.alloc (.cells #[.pointer (some ⟨g, 0, none⟩)] 50)) fun r w' => ∃ v', r = .returned v' ∧ w'.ownsRow 0 50 1 v' gs'.length (ptrCells gs') ∧ w6.grownBy w' av.ownBlock ∧ ∀ b, v'.ownBlock = some b → av.ownBlock = some b ∨ w6.heap.size ≤ b := fun W hW hsz => by
      have hb2 : Below w6.heap.size w6 (W.alloc (.cells #[.pointer (some ⟨g, 0, none⟩)] 50)) := hW.alloc hW.size _
      have hblk : Blk (W.alloc (.cells #[.pointer (some ⟨g, 0, none⟩)] 50)) w6.heap.size 50 [.pointer (some ⟨g, 0, none⟩)] := by rw [← hsz]; exact Blk.new W _ _
      have hlen := H6.each.len
      refine (insPt_any _ 0 av gs.length kn (ptrCells gs) [.pointer (some ⟨g, 0, none⟩)] (own_keep H6.row fun b hb3 => hb2.block b (own_blk H6.row hb3).2.1) (Nat.zero_le _) (by have := HINS.out.2.1; omega) (by have := HG.out.few; omega) (fun u hu => by obtain ⟨y, _, rfl⟩ := List.mem_map.1 hu; rfl) w6.heap.size hblk (fun e2 => by have := (own_blk H6.row e2).2.1; omega) rfl (fun u hu => by simp at hu; rw [hu]; rfl)).mono ?_
      rintro r w' ⟨v', rfl, h1, h2, h3⟩
      refine ⟨v', rfl, ?_, ⟨h2.os.trans hb2.os, h2.tape.trans hb2.tape, h2.output.trans hb2.output, Nat.le_trans hb2.size h2.size, fun b hlt hne => (h2.block b (Nat.lt_of_lt_of_le hlt hb2.size) hne).trans (hb2.block b hlt)⟩, fun b hb3 => (h3 b hb3).imp id fun h4 => Nat.le_trans hb2.size h4⟩
      have e1 : ptrCells (gs.take kn ++ g :: gs.drop kn) = (ptrCells gs).take kn ++ ([.pointer (some ⟨g, 0, none⟩)] ++ (ptrCells gs).drop kn) := by
        rw [ptrCells_append, ptrCells_take, ← ptrCells_drop]; rfl
      have e2 : (gs.take kn ++ g :: gs.drop kn).length = gs.length + 1 := by
        rw [List.length_append, List.length_cons, List.length_take, List.length_drop]
        have := HINS.out.2.1; omega
      rw [hgs', e1, e2]
      simpa using h1
    have hfr : ∀ w7, w6.grownBy w7 av.ownBlock → w7.cell? ⟨p, 0, none⟩ = some av ∧ w7.frozen? ⟨p, 0, none⟩ = false := fun w7 hg7 => by
      have h7 : Blk w7 p 54 [av] := (hg7.block p H6.box.lt fun e2 => (hap.2 p e2.symm).2 rfl).trans H6.box
      exact ⟨h7.cell 0, h7.frozen 0⟩
    have hmp := fun (av' : Value) (w7 : World) (ho : w7.ownsRow 0 50 1 av' gs'.length (ptrCells gs')) (hg : w6.grownBy w7 av.ownBlock) (hb : ∀ b, av'.ownBlock = some b → av.ownBlock = some b ∨ w6.heap.size ≤ b) => make_put H6 HG.out.ris HE.out (fun b hb2 e2 => by have := H.out.lt hb2; have := HGN.out; omega) HINS.out.2.1 (HINS.out.1 _) HINS.out.2.2 HFD.out HPD.out x (av' := av') (w7 := w7) (by rw [← hgs']; exact ho) hg hb
    have hHI2 : ∀ W, Below w6.heap.size w6 W → W.heap.size = w6.heap.size → Calls Try.prog 27 #[.slice A0 gs.length c0, .int .i64 (kn : Nat), .slice (some ⟨w6.heap.size, 0, none⟩) 1 1] (W.alloc (.cells #[.pointer (some ⟨g, 0, none⟩)] 50)) fun r w' => ∃ v', r = .returned v' ∧ w'.ownsRow 0 50 1 v' gs'.length (ptrCells gs') ∧ w6.grownBy w' av.ownBlock ∧ ∀ b, v'.ownBlock = some b → av.ownBlock = some b ∨ w6.heap.size ≤ b := by
      rw [← hav]; exact hHI
    have HHI := Lib.hid hHI2
    have HMP := Lib.hid hmp
    rw [hav] at h6
    have e0 := HE.out.at_.cells.1
    have e0' : w6.cell? ⟨g, 0, none⟩ = some (.int .i64 (kn : Int)) := e0
    have HAV := Lib.hid hav
    have h6a := fun o => cell_alloc o h6
    have e0a := fun o => cell_alloc o e0'
    have hfr2 : ∀ w7, w6.grownBy w7 av.ownBlock → w7.cell? ⟨p, 0, none⟩ = some (.slice A0 gs.length c0) ∧ w7.frozen? ⟨p, 0, none⟩ = false := by rw [← hav]; exact hfr
    have HFRZ := Lib.hid hfr2
    clear hHI hHI2 hfr hfr2 hmp hap H6 e0 hav hgs'
    go_wp2_with fail
    go_region_with (go_at_call 27; refine (HHI.out w6.drew (by exact ⟨rfl, rfl, rfl, Nat.le_refl _, fun _ _ => rfl⟩) (by rfl)).mono ?_; rintro e2 w7 ⟨v7, rfl, ho, hgr, hbl⟩; obtain ⟨A9, c9, hv9, _, _⟩ := own_form ho; subst hv9; have HO7 := Lib.hid ho; have HG7 := Lib.hid hgr; have HB7 := Lib.hid hbl; obtain ⟨hc7, hf7⟩ := HFRZ.out w7 hgr; clear ho hgr hbl)
    all_goals
      obtain ⟨k1, S1, k2, k3⟩ := HMP.out _ w7 HO7.out HG7.out HB7.out
      have HPUT := Lib.hid (put_any cloneSaid k2 x (kn : Int) (by have := HNL.out; omega) HXL.out)
      have K3 := Lib.hid k3
      clear k2 k3
      go_wp2_with fail
      refine HPUT.out.mono ?_
      rintro e w9 hT
      have hTe := hT.1
      subst hTe
      obtain ⟨k4, S2, k5, k6, k7⟩ := K3.out w9 hT
      have K5 := Lib.hid k5
      have K6 := Lib.hid k6
      have K7 := Lib.hid k7
      clear k5 k6 k7 hT
      go_wp2_with fail
      go_ret2
      rw [HN.out]
      refine ⟨rfl, S2, K5.out, ?_, fun b hb => ?_⟩
      · have hb6 := HB6.out
        have hm := K6.out
        refine ⟨hm.os.trans hb6.os, hm.tape.trans hb6.tape, hm.output.trans hb6.output, Nat.le_trans hb6.size hm.size, fun k hk hn => (hm.block k (Nat.lt_of_lt_of_le hk hb6.size) fun h9 => ?_).trans (hb6.block k hk)⟩
        rcases h9 with h9 | h9
        · exact hn h9
        · have := HGN.out; omega
      · rcases K7.out b hb with h9 | h9 | h9
        · exact .inl h9
        · exact .inr (by rw [h9]; exact HGN.out)
        · exact .inr (Nat.le_trans HB6.out.size h9)
end Tm
end Go.Proofs.Ytpblhdpnmnfieaa
