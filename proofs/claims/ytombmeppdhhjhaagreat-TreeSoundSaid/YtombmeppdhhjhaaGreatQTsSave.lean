/-
  OWN WORK. The program's tree: Save.
-/
import Derived.Test.YtombmeppdhhjhaaGreatQ04
import Derived.Test.YtombmeppdhhjhaaGreatQNoAs
import Derived.Test.YtombmeppdhhjhaaGreatQCpWCode
import Derived.Lib.ConvBytes
namespace Go.Proofs.YtombmeppdhhjhaaGreat
open Go.RowKit Rc
open Tr (Nm En T)
namespace Tr
theorem wBytes_length (x : Bs) : (Co.wBytes x).length ≤ 65537 := by
  unfold Co.wBytes Co.wShort
  simp only [List.length_append, List.length_cons, List.length_nil, List.length_take]
  omega
theorem nameBytes_length (n : Nm) : (nameBytes n).length ≤ 65539 := by
  have := wBytes_length n.1
  unfold nameBytes
  rw [List.length_append]
  unfold Co.wShort
  simp only [List.length_cons, List.length_nil]
  omega
theorem names_bytes : ∀ l : List Nm, (l.flatMap nameBytes).length ≤ l.length * 65539
  | [] => Nat.zero_le _
  | n :: l => by
    have h1 := names_bytes l
    have h2 := nameBytes_length n
    rw [List.flatMap_cons, List.length_append, List.length_cons]
    omega
theorem enBytes_length (e : En) : (enBytes e).length ≤ 140000 + e.names.length * 65539 := by
  have h1 := wBytes_length e.nd.bytes
  have h2 := wBytes_length e.data
  have h3 := names_bytes e.names
  unfold enBytes
  simp only [List.length_append]
  have : (Co.wShort e.names.length).length = 2 := rfl
  omega
theorem ens_length : ∀ t : T, (t.flatMap enBytes).length ≤ t.length * 140000 + (flat t).length * 65539
  | [] => Nat.zero_le _
  | e :: t => by
    have h1 := ens_length t
    have h2 := enBytes_length e
    have h3 : (flat (e :: t)).length = e.names.length + (flat t).length := by simp [flat]
    rw [List.flatMap_cons, List.length_append, List.length_cons, h3]
    omega
theorem flat_take (t : T) (j : Nat) : (flat (t.take j)).length ≤ (flat t).length := by
  conv => rhs; rw [← List.take_append_drop j t]
  unfold flat
  rw [List.flatMap_append, List.length_append]
  omega
theorem take_bytes {t : T} {j : Nat} {e : En} (he : t[j]? = some e) : (t.take (j + 1)).flatMap enBytes = (t.take j).flatMap enBytes ++ enBytes e := by
  obtain ⟨h, rfl⟩ := List.getElem?_eq_some_iff.1 he
  rw [List.take_succ_eq_append_getElem h, List.flatMap_append, List.flatMap_cons, List.flatMap_nil, List.append_nil]
theorem take_names {l : List Nm} {j : Nat} {n : Nm} (he : l[j]? = some n) : (l.take (j + 1)).flatMap nameBytes = (l.take j).flatMap nameBytes ++ Co.wBytes n.1 ++ Co.wShort (Nd.lo16 n.2) := by
  obtain ⟨h, rfl⟩ := List.getElem?_eq_some_iff.1 he
  rw [List.take_succ_eq_append_getElem h, List.flatMap_append, List.flatMap_cons, List.flatMap_nil, List.append_nil, List.append_assoc]
  rfl
theorem Good.save_few {t : T} (h : Good t) (j : Nat) {e : En} (he : e ∈ t) (k : Nat) : (Co.wShort t.length ++ (t.take j).flatMap enBytes ++ Co.wBytes e.nd.bytes ++ Co.wBytes e.data ++ Co.wShort e.names.length ++ (e.names.take k).flatMap nameBytes).length ≤ 1099511400000 := by
  have h1 := ens_length (t.take j)
  have h2 := flat_take t j
  have h3 := h.flat_le
  have h4 := h.few
  have h5 : (t.take j).length ≤ t.length := by rw [List.length_take]; omega
  have h6 := wBytes_length e.nd.bytes
  have h7 := wBytes_length e.data
  have h8 := names_bytes (e.names.take k)
  have h9 : (e.names.take k).length ≤ e.names.length := by rw [List.length_take]; omega
  have h10 := h.names_le he
  have h11 : (Co.wShort t.length).length = 2 := rfl
  have h12 : (Co.wShort e.names.length).length = 2 := rfl
  simp only [List.length_append]
  omega
end Tr
namespace Tm
variable {p : Nat} {av : Value} {gs : List Nat} {S : Nat → Prop} {t : T} {w : World}
theorem strOf_size (l : Bs) : (strOf l).size = l.length := rfl
theorem conv_any (x : Bs) (w : World) : ∃ (c : Nat) (w' : World), (convert 9 39 (.string (strOf x))).run Tryz.prog w = .ok (.slice (some ⟨w.heap.size, 0, none⟩) x.length c) w' ∧ x.length ≤ c ∧ Rd w' (some ⟨w.heap.size, 0, none⟩) x ∧ Below w.heap.size w w' := by
  have h := Lib.run_convert_string_bytes w 9 39 5 (strOf x) Tryz.underlying9 Tryz.underlying39 Tryz.underlying5
  rw [strOf_size] at h
  refine ⟨_, _, h, by rw [← strOf_size x]; exact grownCap_ge _ _ _ _, fun hl => ⟨w.heap.size, 0, rfl, by rw [Lib.bytesWorld_size]; omega, fun j y hj => ?_⟩, ?_⟩
  · obtain ⟨hj1, rfl⟩ := List.getElem?_eq_some_iff.1 hj
    rw [Nat.zero_add, Lib.bytesWorld_cell w _ (strOf x) j hj1]
    simp [strOf, List.getD, hj]
  · exact ⟨rfl, rfl, rfl, by rw [Lib.bytesWorld_size]; omega, fun b hb => Lib.bytesWorld_at_old w _ _ b hb⟩
def SvAns (b : Bs) (w : World) (e : Ending) (w' : World) : Prop := ∃ X c, e = .returned (.slice X b.length c) ∧ b.length ≤ c ∧ Rd w' X b ∧ w'.ownsRow w.heap.size 5 1 (.slice X b.length c) b.length (Lib.byteCells b) ∧ Below w.heap.size w w'
theorem bytes3 {C : WSaid} {v : Value} {w0 w w2 : World} {l : Bs} (h : WAt C v w0 l w) (hl : l.length ≤ 1099511500000) (hb2 : Below w.heap.size w w2) (A : Option Addr) (x : Bs) (c : Nat) (hr : Rd w2 A x) (hA : ∀ b, A.map (·.block) = some b → w.heap.size ≤ b) (hc : x.length ≤ c) (hx : x.length ≤ 1000000) :
    Calls Tryz.prog 87 #[v, .slice A x.length c] w2 fun e w' => (∃ x, e = .returned x) ∧ Hid (WAt C v w0 (l ++ Co.wBytes x) w') ∧ Hid (∀ b, w.heap.size ≤ b → b < w2.heap.size → w'.heap[b]? = w2.heap[b]?) := by
  obtain ⟨S, hat, hb, hS⟩ := h
  refine (C.bytes (C.keep hat hb2.size (fun b hB => hb2.block b (C.lt hat b hB))) hl A x c hr hc hx fun h0 b hA2 hB => ?_).mono fun e w' h => ?_
  · have := hA b hA2
    have := C.lt hat b hB
    omega
  · obtain ⟨k1, k2⟩ := WAt.out (v := v) (C := C) (hb.trans (hb2.mono hb.size)) hS h
    obtain ⟨_, S', _, hm, _⟩ := h
    exact ⟨k1, k2, fun b h1 h2 => hm.block b h2 fun h3 => by have := C.lt hat b h3; omega⟩
theorem wat_eq {C : WSaid} {v : Value} {w0 w : World} {l l' : Bs} (h : WAt C v w0 l w) (e : l = l') : WAt C v w0 l' w := e ▸ h
set_option maxHeartbeats 4000000 in
set_option maxRecDepth 100000 in
theorem save_any (h : TIn p av gs S t w) (hG : Tr.Good t) : Calls Tryz.prog 33 #[.pointer (some ⟨p, 0, none⟩)] w (SvAns (Tr.save t) w) := by
  have H := Lib.hid h
  have HG := Lib.hid hG
  have hgl := h.each.len
  obtain ⟨A, c, rfl, hc, hA⟩ := own_form h.row
  have HA := Lib.hid hA
  obtain ⟨n, hn⟩ : ∃ n, n = gs.length := ⟨_, rfl⟩
  have HGN : Hid (n = gs.length) := hn
  have HN : Hid (n = t.length) := hn.trans hgl
  have hn64 : n ≤ 64 := by have := hG.few; have := HN.out; omega
  have HEN : Hid (∀ (e : En), e ∈ t → ∀ j k, (Co.wShort n ++ (t.take j).flatMap Tr.enBytes ++ Co.wBytes e.nd.bytes ++ Co.wBytes e.data ++ Co.wShort e.names.length ++ (e.names.take k).flatMap Tr.nameBytes).length ≤ 1099511400000) := fun e he j k => by rw [HN.out]; exact hG.save_few j he k
  have HBX : ∀ W, Below w.heap.size w W → W.cell? ⟨p, 0, none⟩ = some (.slice A n c) := fun W hW => by rw [HGN.out]; exact (H.out.below hW).box.cell 0
  have HBX := Lib.hid HBX
  clear h hG hA hgl hn
  go_enter Tryz.func33, Tryz.ntmps33
  go_wp2_with fail
  refine (WAt.new wsaid w).mono ?_
  rintro e w1 ⟨a, rfl, HW1⟩
  have c0 : w1.cell? ⟨p, 0, none⟩ = some (.slice A n c) := HBX.out _ (WAt.low HW1.out)
  go_wp2_with fail
  refine (WAt.short HW1.out (by simp) n (by omega)).mono ?_
  rintro e w2 ⟨⟨x2, rfl⟩, HW2⟩
  clear c0
  have c0 : w2.cell? ⟨p, 0, none⟩ = some (.slice A n c) := HBX.out _ (WAt.low HW2.out)
  have HST : Hid (WAt wsaid (.pointer (some a)) w (Co.wShort n ++ (t.take 0).flatMap Tr.enBytes) w2) := wat_eq HW2.out (by simp)
  clear HW1 HW2
  go_wp2_with fail
  go_loopw [23] (fun t23 wr => ∃ j : Nat, t23 = .int .i64 j ∧ j ≤ n ∧ Hid (WAt wsaid (.pointer (some a)) w (Co.wShort n ++ (t.take j).flatMap Tr.enBytes) wr)) (fun t23 _ => n - (match t23 with | .int _ k => k.toNat | _ => 0))
  case atStart => exact ⟨0, rfl, Nat.zero_le _, HST⟩
  case round =>
    clear HST c0
    obtain ⟨j, rfl, hj, HW⟩ := hrel
    by_cases hk : j < n
    · obtain ⟨e, he⟩ : ∃ e, t[j]? = some e := ⟨_, List.getElem?_eq_getElem (by rw [← HN.out]; exact hk)⟩
      have hem : e ∈ t := List.mem_of_getElem? he
      obtain ⟨g, S1, hg, hE, _⟩ := (H.out.below (WAt.low HW.out)).each.get he
      obtain ⟨g0, _, hg0, hE0, _⟩ := H.out.each.get he
      obtain rfl : g = g0 := by rw [hg] at hg0; injection hg0
      obtain ⟨q, rfl, _, _, hql, hcell⟩ := HA.out (by rw [← HGN.out]; omega)
      have c1 : wr.cell? ⟨q, j, none⟩ = some (.pointer (some ⟨g, 0, none⟩)) := ((WAt.low HW.out).cell (p := ⟨q, j, none⟩) hql).trans (hcell j _ (by simp [ptrCells, hg]))
      have hlt2 : (j : Int) < (n : Int) := by omega
      have HR : Hid (e.nd.Right) := (HG.out.each e hem).nd
      have HLEN := Lib.hid (HEN.out e hem j)
      have HNX : Hid ((t.take (j + 1)).flatMap Tr.enBytes = (t.take j).flatMap Tr.enBytes ++ Tr.enBytes e) := Tr.take_bytes he
      have HEB : Hid (Tr.enBytes e = Co.wBytes e.nd.bytes ++ (Co.wBytes e.data ++ (Co.wShort e.names.length ++ e.names.flatMap Tr.nameBytes))) := rfl
      have hdl : e.data.length ≤ 4096 := by
        have h1 := (HG.out.each e hem).size
        have h2 := (HG.out.each e hem).nd.2.2.2.2.2.1
        omega
      have hnl : e.names.length ≤ 4194240 := HG.out.names_le hem
      have HID : Hid (∀ m ∈ e.names, ∃ k : Nat, m.2 = k ∧ k ≤ 65535 ∧ m.1.length ≤ 16) := fun m hm => by
        obtain ⟨_, h1⟩ := HG.out.leads e hem m hm
        obtain ⟨e2, h2, h3⟩ := Tr.find_isSome.1 h1
        have h4 := (HG.out.each e2 h2).nd
        have h5 := (HG.out.each e hem).good m hm
        refine ⟨m.2.toNat, ?_, ?_, ?_⟩
        · have := h4.1; omega
        · have := h4.1; have := h4.2.1; omega
        · simp only [Pa.good, Bool.and_eq_true, decide_eq_true_eq] at h5
          omega
      obtain ⟨dv, nv, hE0, rfl⟩ := hE0
      obtain ⟨dv2, nv2, hE, rfl⟩ := hE
      have hsame : dv2 = dv ∧ nv2 = nv := by
        have k1 := ((WAt.low HW.out).cell (p := ⟨g, 6, none⟩) hE0.box.lt).trans (hE0.box.cell 6)
        have k2 := ((WAt.low HW.out).cell (p := ⟨g, 7, none⟩) hE0.box.lt).trans (hE0.box.cell 7)
        have k3 := hE.box.cell 6
        have k4 := hE.box.cell 7
        rw [k1] at k3
        rw [k2] at k4
        injection k3 with k3
        injection k4 with k4
        exact ⟨k3.symm, k4.symm⟩
      obtain ⟨rfl, rfl⟩ := hsame
      clear hE
      obtain ⟨XD, cd, hdv, hcd, hrd⟩ := Go.Proofs.YtombmeppdhhjhaaGreat.own_form hE0.data
      obtain ⟨XN, cn, hnv, hcn, hNA⟩ := hE0.names.form
      subst hdv hnv
      have HD := Lib.hid hrd
      have HNA := Lib.hid hNA
      have HEB0 := Lib.hid hE0.box
      have HCD := Lib.hid hcd
      clear he hem hg hg0 hcell hE0 hrd hNA hcd hcn
      obtain ⟨⟨id, kind, links, size, till, shut⟩, data, names⟩ := e
      dsimp only at HR HLEN HNX HEB hdl hnl HID HD HNA HCD HEB0
      have hcells := HEB0.out.below (WAt.low HW.out) HEB0.out.lt
      have d0 : wr.cell? ⟨g, 0, none⟩ = some (.int .i64 id) := hcells.cell 0
      have d1 : wr.cell? ⟨g, 1, none⟩ = some (.int .i64 kind) := hcells.cell 1
      have d2 : wr.cell? ⟨g, 2, none⟩ = some (.int .i64 links) := hcells.cell 2
      have d3 : wr.cell? ⟨g, 3, none⟩ = some (.int .i64 size) := hcells.cell 3
      have d4 : wr.cell? ⟨g, 4, none⟩ = some (.int .u64 (till : Nat)) := hcells.cell 4
      have d5 : wr.cell? ⟨g, 5, none⟩ = some (.bool shut) := hcells.cell 5
      clear hcells
      go_wp2_with fail
      refine (enc_yes_as wsaid wr HR.out).mono ?_
      rintro e w3 ⟨X3, k3, rfl, hk3, HO3, HR3, HB3⟩
      clear d0 d1 d2 d3 d4 d5 c1
      have h16 : (Nd.bytes ⟨id, kind, links, size, till, shut⟩).length = 16 := Nd.bytes_length _
      have HP0 : Hid ((Co.wShort n ++ (t.take j).flatMap Tr.enBytes ++ Co.wBytes (Nd.bytes ⟨id, kind, links, size, till, shut⟩) ++ Co.wBytes data ++ Co.wShort names.length ++ (names.take 0).flatMap Tr.nameBytes).length ≤ 1099511400000) := HLEN.out 0
      have HC4 : Hid (Calls Tryz.prog 87 #[.pointer (some a), .slice X3 16 k3] w3 (WRet wsaid (.pointer (some a)) w (Co.wShort n ++ (t.take j).flatMap Tr.enBytes ++ Co.wBytes (Nd.bytes ⟨id, kind, links, size, till, shut⟩)))) := by
        have := WAt.bytes2 HW.out (by have := HP0.out; simp only [List.length_append] at this ⊢; omega) HB3.out X3 (Nd.bytes ⟨id, kind, links, size, till, shut⟩) k3 HR3.out (fun b hb => by
          have h1 := HO3.out
          rcases h1.2 with ⟨e1, e2⟩ | ⟨g9, cap, cur, e1, h2, _⟩
          · injection e1 with e1; subst e1; cases hb
          · injection e1 with e1; subst e1; injection hb with hb; have hb : g9 = b := hb; omega) (by rw [h16]; exact hk3) (by rw [h16]; omega)
        rw [h16] at this
        exact this
      clear hk3 HO3 HR3 h16
      go_wp2_with fail
      refine HC4.out.mono ?_
      rintro e w4 ⟨⟨x4, rfl⟩, HW4⟩
      clear HC4 HB3
      have d6 : w4.cell? ⟨g, 6, none⟩ = some (.slice XD data.length cd) := (HEB0.out.below (WAt.low HW4.out) HEB0.out.lt).cell 6
      go_wp2_with fail
      refine (WAt.bytes HW4.out (by have := HP0.out; simp only [List.length_append] at this ⊢; omega) XD data cd HD.out HCD.out (by omega)).mono ?_
      rintro e w5 ⟨⟨x5, rfl⟩, HW5⟩
      clear HW4 d6
      have d7 : w5.cell? ⟨g, 7, none⟩ = some (.slice XN names.length cn) := (HEB0.out.below (WAt.low HW5.out) HEB0.out.lt).cell 7
      go_wp2_with fail
      refine (WAt.short HW5.out (by have := HP0.out; simp only [List.length_append] at this ⊢; omega) names.length (by omega)).mono ?_
      rintro e w6 ⟨⟨x6, rfl⟩, HW6⟩
      clear HW5 d7
      have d7 : w6.cell? ⟨g, 7, none⟩ = some (.slice XN names.length cn) := (HEB0.out.below (WAt.low HW6.out) HEB0.out.lt).cell 7
      have HST : Hid (WAt wsaid (.pointer (some a)) w (Co.wShort n ++ (t.take j).flatMap Tr.enBytes ++ Co.wBytes (Nd.bytes ⟨id, kind, links, size, till, shut⟩) ++ Co.wBytes data ++ Co.wShort names.length ++ (names.take 0).flatMap Tr.nameBytes) w6) := wat_eq HW6.out (by simp)
      clear HW6 HP0 HW
      go_wp2_with fail
      clear d7
      go_loopw [56] (fun t56 wr => ∃ i : Nat, t56 = .int .i64 i ∧ i ≤ names.length ∧ Hid (WAt wsaid (.pointer (some a)) w (Co.wShort n ++ (t.take j).flatMap Tr.enBytes ++ Co.wBytes (Nd.bytes ⟨id, kind, links, size, till, shut⟩) ++ Co.wBytes data ++ Co.wShort names.length ++ (names.take i).flatMap Tr.nameBytes) wr)) (fun t56 _ => names.length - (match t56 with | .int _ k => k.toNat | _ => 0))
      case atStart => exact ⟨0, rfl, Nat.zero_le _, HST⟩
      case round =>
        clear HST
        obtain ⟨i, rfl, hi, HV⟩ := hrel
        by_cases hk2 : i < names.length
        · obtain ⟨⟨x, xi⟩, hm⟩ : ∃ m, names[i]? = some m := ⟨_, List.getElem?_eq_getElem hk2⟩
          obtain ⟨k, hxk, hk65, hx16⟩ := HID.out (x, xi) (List.mem_of_getElem? hm)
          dsimp only at hxk hx16
          subst hxk
          obtain ⟨q2, rfl, _, _, hql2, hcell2⟩ := HNA.out (by omega)
          have hlow := WAt.low HV.out
          have c1 : wr.cell? ⟨q2, i * 2, none⟩ = some (.string (strOf x)) := (hlow.cell (p := ⟨q2, i * 2, none⟩) hql2).trans (hcell2 i _ hm).1
          have c2 : wr.cell? ⟨q2, i * 2 + 1, none⟩ = some (.int .i64 (k : Nat)) := (hlow.cell (p := ⟨q2, i * 2 + 1, none⟩) hql2).trans (hcell2 i _ hm).2
          have hlt3 : (i : Int) < (names.length : Int) := by omega
          have HTK : Hid ((names.take (i + 1)).flatMap Tr.nameBytes = (names.take i).flatMap Tr.nameBytes ++ Co.wBytes x ++ Co.wShort k) := by
            have := Tr.take_names hm
            rw [show Nd.lo16 ((x, ((k : Nat) : Int)) : Nm).2 = k by unfold Nd.lo16; show ((k : Int) % 65536).toNat = k; omega] at this
            exact this
          have hP1 := HLEN.out (i + 1)
          rw [HTK.out] at hP1
          have HP1 := Lib.hid hP1
          obtain ⟨ca, wb, hcv, hca, hrb, hbb⟩ := conv_any x (wr.alloc (.cells #[.string (strOf x), .int .i64 (k : Nat)] 123))
          rw [World.size_alloc] at hcv hrb
          have HBB : Hid (Below wr.heap.size wr wb) := (below_new wr _).trans (hbb.mono (by rw [World.size_alloc]; omega))
          have HNB : Hid (Blk wb wr.heap.size 123 [.string (strOf x), .int .i64 (k : Nat)]) := (Blk.new wr _ _).below hbb (by rw [World.size_alloc]; omega)
          have HCB : Hid (Calls Tryz.prog 87 #[.pointer (some a), .slice (some ⟨wr.heap.size + 1, 0, none⟩) x.length ca] wb fun e w' => (∃ x, e = .returned x) ∧ Hid (WAt wsaid (.pointer (some a)) w (Co.wShort n ++ (t.take j).flatMap Tr.enBytes ++ Co.wBytes (Nd.bytes ⟨id, kind, links, size, till, shut⟩) ++ Co.wBytes data ++ Co.wShort names.length ++ (names.take i).flatMap Tr.nameBytes ++ Co.wBytes x) w') ∧ Hid (∀ b, wr.heap.size ≤ b → b < wb.heap.size → w'.heap[b]? = wb.heap[b]?)) :=
            bytes3 HV.out (by have := HP1.out; simp only [List.length_append] at this ⊢; omega) HBB.out (some ⟨wr.heap.size + 1, 0, none⟩) x ca hrb (fun b hb => by injection hb with hb; have hb : wr.heap.size + 1 = b := hb; omega) hca (by omega)
          clear hm hcell2 hlow hP1 hrb hbb hca
          go_wp2_with fail
          refine HCB.out.mono ?_
          rintro e wc ⟨⟨xc, rfl⟩, HWC, HKC⟩
          clear HCB hcv c1 c2
          have HNC : Hid (Blk wc wr.heap.size 123 [.string (strOf x), .int .i64 (k : Nat)]) := (HKC.out _ (Nat.le_refl _) HNB.out.lt).trans HNB.out
          have c3 : wc.cell? ⟨wr.heap.size, 1, none⟩ = some (.int .i64 (k : Nat)) := HNC.out.cell 1
          go_wp2_with fail
          refine (WAt.short HWC.out (by have := HP1.out; simp only [List.length_append] at this ⊢; omega) k (by omega)).mono ?_
          rintro e wd ⟨⟨xd, rfl⟩, HWD⟩
          have HNEXT : Hid (WAt wsaid (.pointer (some a)) w (Co.wShort n ++ (t.take j).flatMap Tr.enBytes ++ Co.wBytes (Nd.bytes ⟨id, kind, links, size, till, shut⟩) ++ Co.wBytes data ++ Co.wShort names.length ++ (names.take (i + 1)).flatMap Tr.nameBytes) wd) := wat_eq HWD.out (by rw [HTK.out]; simp only [List.append_assoc])
          clear HWC HWD HTK HP1 HNC HBB HNB c3
          go_wp2_with fail
          go_roundw
          case rel => exact ⟨i + 1, by go_num, by omega, HNEXT⟩
          case measure => simp; omega
        · obtain rfl : i = names.length := by omega
          have HNEXT : Hid (WAt wsaid (.pointer (some a)) w (Co.wShort n ++ (t.take (j + 1)).flatMap Tr.enBytes) wr) := wat_eq HV.out (by rw [HNX.out, HEB.out, List.take_length]; simp only [List.append_assoc])
          go_wp2_with fail
          go_roundw
          case rel => exact ⟨j + 1, by go_num, by omega, HNEXT⟩
          case measure => simp; omega
    · obtain rfl : j = n := by omega
      have HEND : Hid (WAt wsaid (.pointer (some a)) w (Tr.save t) wr) := wat_eq HW.out (by rw [HN.out, List.take_length]; rfl)
      go_wp2_with fail
      refine (WAt.done HEND.out).mono ?_
      rintro e w9 ⟨X, c9, rfl, hc9, HO9, HX9, HB9, HW9⟩
      have HANS : Hid (SvAns (Tr.save t) w (.returned (.slice X (Tr.save t).length c9)) w9) := by
        obtain ⟨X', c', e1, _, hr⟩ := Go.Proofs.YtombmeppdhhjhaaGreat.own_form HO9.out
        injection e1 with e1 e2 e3
        subst e1
        exact ⟨X, c9, rfl, hc9, hr, own_up HO9.out HX9.out, WAt.low HW9.out⟩
      clear HO9 HX9 HB9 HW9 hc9
      go_wp2_with fail
      go_ret
      exact HANS.out
end Tm
end Go.Proofs.YtombmeppdhhjhaaGreat
