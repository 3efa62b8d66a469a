/-
  OWN WORK. Law 11's TreeLists, walked: a directory lists what was made in it, rising, and nothing else; what is listed is looked up.
-/
import Derived.Test.YtombmeppdhhjhaaGreatQTwLinks
import Derived.Test.YtombmeppdhhjhaaGreatQArg
namespace Go.Proofs.YtombmeppdhhjhaaGreat
open Go.RowKit Rc
open Tr (Nm En T)
namespace Tw
open Tm (One1 Turn1)
theorem look_ns {t : T} (hG : Tr.Good t) (hS : Tr.Short t) {q : List Bs} {i : Int} {x : Bs} (hl : Tr.lookF t 0 q = (i, 0)) (hk : Tr.kindOf t i = 2) (h8 : q.length < 8) (hx : Pa.good x = true) (h1 : 1 < x.length) : (Tr.look t (q ++ [x])).2 = 20 := by
  have hf : Tr.formed (q ++ [x]) = 0 := by
    unfold Tr.formed
    rw [if_pos, if_neg]
    · rw [List.length_append, List.length_cons, List.length_nil]; omega
    · rw [List.all_append, Bool.and_eq_true]
      exact ⟨List.all_eq_true.2 (hG.path_good _ q i rfl hl), by simp [hx]⟩
  unfold Tr.look
  rw [if_neg (by rw [hf]; simp), Tr.lookF_snoc_no hl hk (hS.none i h1)]
set_option maxHeartbeats 16000000 in
set_option maxRecDepth 100000 in
theorem lists_any (w : World) (ps : List AskT) (A : Option Addr) (c1 : Nat) (hp : AsksT w A ps) (hl : ps.length ≤ 9223372036854775807) :
    Calls Tryz.prog 11 #[.slice A ps.length c1] w fun e w' => e = .returned (.bool true) ∧ Below w.heap.size w w' := by
  have HPL := Lib.hid (played_one w ps A c1 hp hl)
  obtain ⟨ns, hns⟩ : ∃ ns : Bs, ns = [110, 111, 110, 101, 45, 115, 117, 99, 104] := ⟨_, rfl⟩
  have HNS : Hid (strOf ns = ⟨#[110, 111, 110, 101, 45, 115, 117, 99, 104]⟩) := by show _ = _; rw [hns]; rfl
  have HNG : Hid (Pa.good ns = true ∧ 1 < ns.length ∧ ns.length ≤ 9) := by show _ ∧ _; rw [hns]; decide
  clear hp hl hns
  go_enter Tryz.func11, Tryz.ntmps11
  go_wp2_with fail
  refine HPL.out.mono ?_
  rintro e w1 ⟨p, p2, Tt, B, rfl, HG, HS, HO⟩
  clear HPL
  go_wp2_with fail
  go_loopw [5] (fun t5 wr => ∃ id : Nat, id ≤ 64 ∧ t5 = .int .i64 (id : Nat) ∧ Hid (One1 (.pointer (some ⟨p, 0, none⟩)) w Tt B wr)) (fun t5 _ => 64 - (intOf t5).toNat)
  case atStart => exact ⟨0, by omega, rfl, HO⟩
  case round =>
    clear HO
    obtain ⟨id, hid64, rfl, HO⟩ := hrel
    by_cases hlt : id < 64
    case neg =>
      obtain rfl : id = 64 := by omega
      go_wp2_with fail
      refine (Tm.o_known HO.out).mono ?_
      rintro e w9 ⟨rfl, HO9⟩
      go_wp2_with fail
      go_ret
      exact ⟨rfl, HO9.out.low⟩
    case pos =>
    obtain ⟨⟨⟨a1, a2, a3, a4, a5, a6⟩, fo⟩, hnv⟩ : ∃ z, Tr.node Tt (id : Nat) = z := ⟨_, rfl⟩
    have HNV := Lib.hid hnv
    have HND : Hid (Calls Tryz.prog 55 #[.pointer (some ⟨p, 0, none⟩), .int .i64 (id : Nat)] wr fun e w' => e = .returned (.tuple #[.agg #[.int .i64 a1, .int .i64 a2, .int .i64 a3, .int .i64 a4, .int .u64 (a5 : Nat), .bool a6], .bool fo]) ∧ Below wr.heap.size wr w') := by
      have h := Tm.o_node HO.out HG.out (id : Nat)
      rw [hnv] at h
      exact h
    clear hnv
    go_wp2_with fail
    refine HND.out.mono ?_
    rintro e w2 ⟨rfl, hb2⟩
    have HO2 : Hid (One1 (.pointer (some ⟨p, 0, none⟩)) w Tt B w2) := HO.out.later hb2
    have hbx := Blk.new w2 59 [.int .i64 a1, .int .i64 a2, .int .i64 a3, .int .i64 a4, .int .u64 (a5 : Nat), .bool a6]
    have HBX : Hid (Blk (w2.alloc (.cells #[.int .i64 a1, .int .i64 a2, .int .i64 a3, .int .i64 a4, .int .u64 (a5 : Nat), .bool a6] 59)) w2.heap.size 59 [.int .i64 a1, .int .i64 a2, .int .i64 a3, .int .i64 a4, .int .u64 (a5 : Nat), .bool a6]) := hbx
    have HOX : Hid (One1 (.pointer (some ⟨p, 0, none⟩)) w Tt B (w2.alloc (.cells #[.int .i64 a1, .int .i64 a2, .int .i64 a3, .int .i64 a4, .int .u64 (a5 : Nat), .bool a6] 59))) := HO2.out.later (below_new w2 _)
    clear hb2 HND hbx HO
    go_upto_region 8 with (fail)
    refine wp_world (fun W => Hid (Blk W w2.heap.size 59 [.int .i64 a1, .int .i64 a2, .int .i64 a3, .int .i64 a4, .int .u64 (a5 : Nat), .bool a6]) ∧ Hid (One1 (.pointer (some ⟨p, 0, none⟩)) w Tt B W)) ⟨HBX, HOX⟩ ?_
    clear HBX HOX HO2
    rintro w3 ⟨HBX, HO3⟩
    obtain ⟨⟨l, ln⟩, hlv⟩ : ∃ z, Tr.list Tt (id : Nat) = z := ⟨_, rfl⟩
    have HLV := Lib.hid hlv
    have HLI := Lib.hid (Tm.o_list HO3.out HG.out (id : Nat))
    rw [hlv] at HLI
    clear hlv
    go_wp2_with fail
    refine HLI.out.mono ?_
    rintro e w4 ⟨y4, rfl, hy4⟩
    have HB4 : Hid (Below w3.heap.size w3 w4) := hy4.later
    have HO4 : Hid (One1 (.pointer (some ⟨p, 0, none⟩)) w Tt B w4) := HO3.out.later HB4.out
    obtain ⟨AL, cl, rfl, hcl, hrl⟩ := hy4.form
    have HRL := Lib.hid hrl
    have HBX4 := HBX.out.below HB4.out HBX.out.lt
    have d1 : w4.cell? ⟨w2.heap.size, 1, none⟩ = some (.int .i64 a2) := HBX4.cell 1
    clear hy4 hrl hcl HLI HBX4 HBX HO3 HB4
    cases hf : Tr.find Tt (id : Nat) with
    | none =>
      have h1 : Tr.node Tt (id : Nat) = (Nd.zero, false) := by unfold Tr.node Tr.ndOf; rw [hf]; rfl
      have h2 : Tr.list Tt (id : Nat) = ([], 20) := by unfold Tr.list; rw [hf]; rfl
      have h3 := HNV.out.symm.trans h1
      have h4 := HLV.out.symm.trans h2
      injection h3 with _ h3
      injection h4 with h4 h5
      subst h3 h4 h5
      clear h1 h2 hf
      go_wp2_with fail
      go_roundw
      case rel => exact ⟨id + 1, by omega, by go_num, HO4⟩
      case measure => simp [intOf]; omega
    | some en =>
      have h1 : Tr.node Tt (id : Nat) = (en.nd, true) := by unfold Tr.node; rw [Tr.ndOf_of hf, hf]; rfl
      have h3 := HNV.out.symm.trans h1
      injection h3 with h3 h4
      subst h4
      have hkd : en.nd.kind = a2 := by rw [← h3]
      by_cases hk2 : a2 = 2
      case neg =>
        have h2 : Tr.list Tt (id : Nat) = ([], 23) := by unfold Tr.list; rw [hf, if_neg (by simp), Tr.kindOf_of hf, if_pos (by rw [hkd]; exact hk2)]
        have h5 := HLV.out.symm.trans h2
        injection h5 with h5 h6
        subst h5 h6
        have hkb : (a2 != 2) = true := by rw [bne_iff_ne]; exact hk2
        clear h1 h2 h3 hf hk2 hkd
        go_wp2_with fail
        go_roundw
        case rel => exact ⟨id + 1, by omega, by go_num, HO4⟩
        case measure => simp [intOf]; omega
      case pos =>
      subst hk2
      have h2 : Tr.list Tt (id : Nat) = (en.names.map (·.1), 0) := by unfold Tr.list; rw [hf, if_neg (by simp), Tr.kindOf_of hf, if_neg (by rw [hkd]; simp), Tr.kids_of hf]
      have h5 := HLV.out.symm.trans h2
      injection h5 with h5 h6
      subst h6
      have HEN : Hid (en ∈ Tt ∧ en.nd.id = (id : Nat) ∧ en.nd.kind = 2) := ⟨(Tr.find_some hf).1, (Tr.find_some hf).2, hkd⟩
      have HLN : Hid (l = en.names.map (·.1)) := h5
      clear h1 h2 h3 hf h5 hkd HLV HNV
      go_wp2_with fail
      refine (Tm.o_names HO4.out HG.out (id : Nat)).mono ?_
      rintro e w5 ⟨AN, cu, LL, rfl, HNM, HRN, HB5⟩
      have HO5a : Hid (One1 (.pointer (some ⟨p, 0, none⟩)) w Tt B w5) := HO4.out.later HB5.out
      have hl1 : LL.length = 1 := by
        have h1 := HG.out.pathsTo_length HEN.out.1
        rw [HEN.out.2.1, HG.out.dirs en HEN.out.1 HEN.out.2.2] at h1
        have h2 := HNM.out.perm.length_eq
        omega
      obtain ⟨q, rfl⟩ : ∃ q, LL = [q] := List.length_eq_one_iff.1 hl1
      have hqp : Tr.lookF Tt 0 q = (((id : Nat) : Int), 0) := HG.out.pathsTo_mem.1 (HNM.out.perm.mem_iff.1 (.head _))
      have HQP := Lib.hid hqp
      have HQ8 : Hid (q.length ≤ 8) := HG.out.path_le hqp
      obtain ⟨bu, ou, q', AU, ku, rfl, hq', hcu, hku, hru⟩ := HRN.out.2.at_ 0 (by simp)
      obtain rfl : q = q' := by simpa using hq'
      rw [Nat.add_zero] at hcu
      have hbu : bu < w5.heap.size := by
        unfold World.cell? at hcu
        cases hb9 : w5.heap[bu]? with
        | none => rw [show (⟨bu, ou, none⟩ : Addr).block = bu from rfl, hb9] at hcu; cases hcu
        | some o => exact (Array.getElem?_eq_some_iff.1 hb9).1
      have HBU0 := Lib.hid hbu
      have HCU0 := Lib.hid hcu
      have HRU0 := Lib.hid hru
      have HRL5 : Hid (RdS w5 AL l) := HRL.out.below HB5.out
      have hq8 : q.length ≤ 8 := HQ8.out
      have hll : l.length ≤ 4194240 := by rw [HLN.out, List.length_map]; exact HG.out.names_le HEN.out.1
      have HRS : Hid (∀ (m : Nat) (xa x : Bs), l[m]? = some xa → l[m + 1]? = some x → Tr.less xa x = true) := fun m xa x h1 h2 => by
        rw [HLN.out] at h1 h2
        obtain ⟨na, h3, rfl⟩ := List.getElem?_map .. ▸ h1 |> Option.map_eq_some_iff.1
        obtain ⟨nb, h4, rfl⟩ := List.getElem?_map .. ▸ h2 |> Option.map_eq_some_iff.1
        have hr := (HG.out.each en HEN.out.1).rise
        obtain ⟨ha, rfl⟩ := List.getElem?_eq_some_iff.1 h3
        obtain ⟨hb, rfl⟩ := List.getElem?_eq_some_iff.1 h4
        exact List.pairwise_iff_getElem.1 hr m (m + 1) ha hb (by omega)
      have HLK : Hid (∀ x ∈ l, ∃ xk, x.length ≤ 1 ∧ Tr.look Tt (q ++ [x]) = (xk, 0)) := fun x hx => by
        rw [HLN.out] at hx
        obtain ⟨nm, hm, rfl⟩ := List.mem_map.1 hx
        refine ⟨nm.2, HS.out en HEN.out.1 nm hm, HG.out.path_look (HG.out.look_on HEN.out.1 (by rw [HEN.out.2.1]; exact HQP.out) HEN.out.2.2 hm)⟩
      clear hl1 hqp hq' hcu hru hbu HNM HRN HRL hku HO4 HB5 d1
      go_wp2_with fail
      go_loopw [11] (fun t11 wr => ∃ i : Nat, t11 = .int .i64 (i : Nat) ∧ i ≤ l.length ∧ Hid (Below w5.heap.size w5 wr)) (fun t11 _ => l.length - (intOf t11).toNat)
      case atStart => exact ⟨0, rfl, Nat.zero_le _, Below.refl _ _⟩
      case round =>
        obtain ⟨i, rfl, hi, HBJ⟩ := hrel
        by_cases hk2 : i < l.length
        case neg =>
          obtain rfl : i = l.length := by omega
          have HO5b : Hid (One1 (.pointer (some ⟨p, 0, none⟩)) w Tt B wr) := HO5a.out.later HBJ.out
          have HRU : Hid (RdS wr AU q) := HRU0.out.below HBJ.out
          have cu1 : wr.cell? ⟨bu, ou, none⟩ = some (.slice AU q.length ku) := (HBJ.out.cell (p := ⟨bu, ou, none⟩) HBU0.out).trans HCU0.out
          have HBU : Hid (bu < wr.heap.size) := Nat.lt_of_lt_of_le HBU0.out HBJ.out.size
          have HCU : Hid (wr.cell? ⟨bu, ou, none⟩ = some (.slice AU q.length ku)) := cu1
          obtain ⟨z, hz⟩ : ∃ z, z = q ++ [ns] := ⟨_, rfl⟩
          have HZ := Lib.hid hz
          obtain ⟨⟨nsa, nse⟩, hnse⟩ : ∃ y, Tr.look Tt z = y := ⟨_, rfl⟩
          have HNSE : Hid (q.length < 8 → nse = 20) := fun h => by
            have h1 := look_ns HG.out HS.out HQP.out (by have h9 := HG.out.ris.find HEN.out.1; rw [HEN.out.2.1] at h9; rw [Tr.kindOf_of h9]; exact HEN.out.2.2) h HNG.out.1 HNG.out.2.1
            rw [← HZ.out, hnse] at h1
            exact h1
          have HLKN : Hid (∀ (W : World) (X : Option Addr) (c : Nat), One1 (.pointer (some ⟨p, 0, none⟩)) w Tt B W → RdS W X z → z.length ≤ c → Calls Tryz.prog 54 #[.pointer (some ⟨p, 0, none⟩), .slice X z.length c] W fun e w' => e = .returned (.tuple #[.int .i64 nsa, .int .i64 (nse : Nat)]) ∧ Below W.heap.size W w') := fun W X c h1 h2 h3 => by
            have := Tm.o_look h1 HG.out X z c h2 h3 (by have := HQ8.out; rw [HZ.out]; simp; omega) (fun s hs => by
              rw [HZ.out] at hs
              rcases List.mem_append.1 hs with hs | hs
              · have := good_le (HG.out.path_good _ q _ rfl HQP.out s hs); omega
              · rw [List.mem_singleton] at hs; subst hs; have := HNG.out.2.2; omega)
            rw [hnse] at this
            exact this
          clear hnse hz
          go_upto_region 23 with (fail)
          have hb0 := below_new wr (.cells #[] 9)
          have HT0 : Hid (Go.Proofs.YtombmeppdhhjhaaGreat.TAt wr.heap.size (.slice (some ⟨wr.heap.size, 0, none⟩) 0 0) [] wr (wr.alloc (.cells #[] 9))) := TAt.empty wr
          have HRU1 : Hid (RdS (wr.alloc (.cells #[] 9)) AU q) := HRU.out.below hb0
          have cu2 : (wr.alloc (.cells #[] 9)).cell? ⟨bu, ou, none⟩ = some (.slice AU q.length ku) := (hb0.cell (p := ⟨bu, ou, none⟩) HBU.out).trans cu1
          have HB00 := Lib.hid hb0
          have HN1 : Hid (([] : List Bs).length + q.length ≤ 68719476736) := by have := HQ8.out; show _ ≤ _; simp; omega
          have HN2 : Hid (([] ++ q : List Bs).length + [ns].length ≤ 68719476736) := by have := HQ8.out; show _ ≤ _; simp; omega
          have HRD1 : Hid (∀ W : World, RdS (W.alloc (.cells #[.string ⟨#[110, 111, 110, 101, 45, 115, 117, 99, 104]⟩] 9)) (some ⟨W.heap.size, 0, none⟩) [ns]) := fun W => by rw [← HNS.out]; exact rds_one W ns _
          clear hb0
          go_wp2_with (
            at_builtin
            refine wpList_append_txts rfl (.tmp 103) (.tmp 106) rfl rfl HT0.out (Below.refl _ _) AU q q.length ku rfl rfl HRU1.out HN1.out ?_
            intro v1 x1 HO1 HG1
            clear HG1
            go_wp2_with (
              at_builtin
              refine wpList_append_txts rfl (.tmp 107) (.tmp 108) rfl rfl HO1.out (below_new x1 _) (some ⟨x1.heap.size, 0, none⟩) [ns] 1 1 rfl rfl (HRD1.out x1) HN2.out ?_
              intro v2 x2 HO2 HG2
              clear HG2
              have HO3 : Hid (Go.Proofs.YtombmeppdhhjhaaGreat.TAt wr.heap.size v2 z wr x2) := by show Go.Proofs.YtombmeppdhhjhaaGreat.TAt _ _ _ _ _; rw [HZ.out]; exact HO2.out
              clear HO2
              obtain ⟨X2, k2, hv2, hc2, hr2⟩ := TAt.form HO3.out
              subst hv2
              go_wp2_with fail
              have HL2 : Hid (Below wr.heap.size wr x2) := HO3.out.later
              have HO7b : Hid (One1 (.pointer (some ⟨p, 0, none⟩)) w Tt B x2) := HO5b.out.later HL2.out
              refine (HLKN.out x2 X2 k2 HO7b.out hr2 hc2).mono ?_
              rintro e x3 ⟨rfl, hb3⟩
              have HO7 : Hid (One1 (.pointer (some ⟨p, 0, none⟩)) w Tt B x3) := HO7b.out.later hb3
              have cu3 : x3.cell? ⟨bu, ou, none⟩ = some (.slice AU q.length ku) := ((HL2.out.trans (hb3.mono HL2.out.size)).cell (p := ⟨bu, ou, none⟩) (Nat.lt_of_lt_of_le HBU0.out HBJ.out.size)).trans cu1
              clear HL2 cu1 cu2 hb3 hr2 hc2 HO1 HO3
              by_cases hq7 : q.length < 8
              · have hq7i : (q.length : Int) < 8 := by omega
                obtain rfl := HNSE.out hq7
                go_wp2_with fail
                go_roundw
                case rel => exact ⟨id + 1, by omega, by go_num, HO7⟩
                case measure => simp [intOf]; omega
              · have hq7i : ¬ (q.length : Int) < 8 := by omega
                go_wp2_with fail
                go_roundw
                case rel => exact ⟨id + 1, by omega, by go_num, HO7⟩
                case measure => simp [intOf]; omega))
        case pos =>
        obtain ⟨x, hx⟩ : ∃ x, l[i]? = some x := ⟨_, List.getElem?_eq_getElem hk2⟩
        obtain ⟨bn, on, hAL, hbn, hcs⟩ := HRL5.out (by omega)
        subst hAL
        obtain ⟨xk, hx1, hxk⟩ := HLK.out x (List.mem_of_getElem? hx)
        have HBN : Hid (bn < wr.heap.size) := Nat.lt_of_lt_of_le hbn HBJ.out.size
        have HCB : Hid (wr.cell? ⟨bn, on + i, none⟩ = some (.string (strOf x))) := (HBJ.out.cell (p := ⟨bn, on + i, none⟩) hbn).trans (hcs i x hx)
        have HCS : Hid (∀ m xa, l[m]? = some xa → wr.cell? ⟨bn, on + m, none⟩ = some (.string (strOf xa))) := fun m xa hm => (HBJ.out.cell (p := ⟨bn, on + m, none⟩) hbn).trans (hcs m xa hm)
        have HX := Lib.hid hx
        have HLKX : Hid (∀ (W : World) (X : Option Addr) (c : Nat), One1 (.pointer (some ⟨p, 0, none⟩)) w Tt B W → RdS W X (q ++ [x]) → (q ++ [x]).length ≤ c → Calls Tryz.prog 54 #[.pointer (some ⟨p, 0, none⟩), .slice X (q ++ [x]).length c] W fun e w' => e = .returned (.tuple #[.int .i64 xk, .int .i64 0]) ∧ Below W.heap.size W w') := fun W X c h1 h2 h3 => by
          have := Tm.o_look h1 HG.out X (q ++ [x]) c h2 h3 (by have := HQ8.out; simp; omega) (fun s hs => by
            rcases List.mem_append.1 hs with hs | hs
            · have := good_le (HG.out.path_good _ q _ rfl HQP.out s hs); omega
            · rw [List.mem_singleton] at hs; subst hs; omega)
          rw [hxk] at this
          exact this
        clear hx hbn hcs hxk hx1
        have hki : (i : Int) < (l.length : Int) := by omega
        go_upto_region 18 with (fail)
        go_cut [82] (fun t82 wx => ∃ WX, WX = wx ∧ t82 = .bool false ∧ Hid (Below wr.heap.size wr WX))
        case first =>
          rcases Nat.eq_zero_or_pos i with h0 | h0
          · subst h0
            refine Rc.wp_region (by kernel_rfl) (fun opn => List.getD [Rc.val (.int .i64 ((0 : Nat) : Int)), Rc.val (.bool false), Rc.val (.bool false), Rc.val (undef), Rc.val (undef), Rc.val (undef), Rc.val (undef), Rc.val (undef), Rc.val (undef), Rc.val (undef), Rc.val (undef), Rc.val (undef), Rc.val (undef), Rc.val (.bool false)] opn Rc.any) 0 [] [[], [(0, 69)], [(1, 70)], [(2, 71)], [(2, 71)], [(2, 71), (4, 73)], [(2, 71), (3, 72), (5, 74)], [(2, 71), (6, 75)], [(2, 71)], [(2, 71)], [(2, 71), (8, 77), (9, 78)], [(2, 71), (10, 79)], [(2, 71), (7, 76), (11, 80)], [(2, 71), (12, 81)]] [[], [0], [1], [2], [2], [2, 4], [2, 3, 5], [2, 6], [2], [2], [2, 8, 9], [2, 10], [2, 7, 11], [2, 12]] [[], [0], [1], [2], [2], [2, 4], [2, 3, 5], [2, 6], [2], [2], [2, 8, 9], [2, 10], [2, 7, 11], [2, 12]] [] (by kernel_rfl) (by rfl) (by kernel_rfl) (fun _ => False) (fun _ _ => False) Rc.Inv.none ?_ ?_
            · intro fr ha
              have hz : fr.tmps.size = 123 := by rw [ha]; rfl
              have y8 : fr.eval (.tmp 8) = .slice (some ⟨bn, on, none⟩) l.length cl := by rw [ha]; rfl
              have y11 : fr.eval (.tmp 11) = .int .i64 ((0 : Nat) : Int) := by rw [ha]; rfl
              clear ha
              refine .cons ?_ (.cons ?_ (.cons ?_ (.cons ?_ (.cons ?_ (.cons ?_ (.cons ?_ (.cons ?_ (.cons ?_ (.cons ?_ (.cons ?_ (.cons ?_ (.cons ?_ (.cons ?_ (.nil))))))))))))))
              · intro V S w2 HM HU HE
                have lw : Below wr.heap.size wr w2 := Rc.Mod.below HM (fun _ h => h.elim)
                have tb11 : (Rg.putUse V [] fr).eval (.tmp 11) = .int .i64 ((0 : Nat) : Int) := (Rg.use_eval V fr 11 [] (by simp only [hz]; decide)).trans y11
                show Rg.Does1 _ _ V (Rg.putUse V [] fr) w2 _
                exact Ob.rc_mv (.int .i64 ((0 : Nat) : Int)) (by simp only [execOp, tb11]; go_simp) rfl rfl True.intro
              · intro V S w2 HM HU HE
                have lw : Below wr.heap.size wr w2 := Rc.Mod.below HM (fun _ h => h.elim)
                have h0 : V 0 = .int .i64 ((0 : Nat) : Int) := HU.holds 0 (by decide)
                have tb69 : (Rg.putUse V [(0, 69)] fr).eval (.tmp 69) = .int .i64 ((0 : Nat) : Int) := (Rg.use_eval V fr 69 [(0, 69)] (by simp only [hz]; decide)).trans h0
                show Rg.Does1 _ _ V (Rg.putUse V [(0, 69)] fr) w2 _
                exact Ob.rc_mv (.bool false) (by simp only [execOp, tb69]; go_simp) rfl rfl True.intro
              · intro V S w2 HM HU HE
                have lw : Below wr.heap.size wr w2 := Rc.Mod.below HM (fun _ h => h.elim)
                have h1 : V 1 = .bool false := HU.holds 1 (by decide)
                have tb70 : (Rg.putUse V [(1, 70)] fr).eval (.tmp 70) = .bool false := (Rg.use_eval V fr 70 [(1, 70)] (by simp only [hz]; decide)).trans h1
                show Rg.Does1 _ _ V (Rg.putUse V [(1, 70)] fr) w2 _
                exact Ob.rc_mv (.bool false) (by simp only [execOp, tb70]; go_simp) rfl rfl True.intro
              · intro V S w2 HM HU HE
                have lw : Below wr.heap.size wr w2 := Rc.Mod.below HM (fun _ h => h.elim)
                have h2 : V 2 = .bool false := HU.holds 2 (by decide)
                exact Rc.step_not rfl h2 (Rg.alias_none rfl V _) rfl
              · intro V S w2 HM HU HE
                have lw : Below wr.heap.size wr w2 := Rc.Mod.below HM (fun _ h => h.elim)
                have h2 : V 2 = .bool false := HU.holds 2 (by decide)
                exact Rc.step_not rfl h2 (Rg.alias_none rfl V _) rfl
              · intro V S w2 HM HU HE
                have lw : Below wr.heap.size wr w2 := Rc.Mod.below HM (fun _ h => h.elim)
                have h2 : V 2 = .bool false := HU.holds 2 (by decide)
                have h4 : V 4 = undef := HU.holds 4 (by decide)
                have tb73 : (Rg.putUse V [(2, 71), (4, 73)] fr).eval (.tmp 73) = undef := (Rg.use_eval V fr 73 [(2, 71), (4, 73)] (by simp only [hz]; decide)).trans h4
                exact Rc.step_not rfl h2 (Rg.alias_none rfl V _) rfl
              · intro V S w2 HM HU HE
                have lw : Below wr.heap.size wr w2 := Rc.Mod.below HM (fun _ h => h.elim)
                have h2 : V 2 = .bool false := HU.holds 2 (by decide)
                have h3 : V 3 = undef := HU.holds 3 (by decide)
                have tb72 : (Rg.putUse V [(2, 71), (3, 72), (5, 74)] fr).eval (.tmp 72) = undef := (Rg.use_eval V fr 72 [(2, 71), (3, 72), (5, 74)] (by simp only [hz]; decide)).trans h3
                have h5 : V 5 = undef := HU.holds 5 (by decide)
                have tb74 : (Rg.putUse V [(2, 71), (3, 72), (5, 74)] fr).eval (.tmp 74) = undef := (Rg.use_eval V fr 74 [(2, 71), (3, 72), (5, 74)] (by simp only [hz]; decide)).trans h5
                exact Rc.step_not rfl h2 (Rg.alias_none rfl V _) rfl
              · intro V S w2 HM HU HE
                have lw : Below wr.heap.size wr w2 := Rc.Mod.below HM (fun _ h => h.elim)
                have h2 : V 2 = .bool false := HU.holds 2 (by decide)
                have h6 : V 6 = undef := HU.holds 6 (by decide)
                have tb75 : (Rg.putUse V [(2, 71), (6, 75)] fr).eval (.tmp 75) = undef := (Rg.use_eval V fr 75 [(2, 71), (6, 75)] (by simp only [hz]; decide)).trans h6
                exact Rc.step_not rfl h2 (Rg.alias_none rfl V _) rfl
              · intro V S w2 HM HU HE
                have lw : Below wr.heap.size wr w2 := Rc.Mod.below HM (fun _ h => h.elim)
                have h2 : V 2 = .bool false := HU.holds 2 (by decide)
                exact Rc.step_not rfl h2 (Rg.alias_none rfl V _) rfl
              · intro V S w2 HM HU HE
                have lw : Below wr.heap.size wr w2 := Rc.Mod.below HM (fun _ h => h.elim)
                have h2 : V 2 = .bool false := HU.holds 2 (by decide)
                exact Rc.step_not rfl h2 (Rg.alias_none rfl V _) rfl
              · intro V S w2 HM HU HE
                have lw : Below wr.heap.size wr w2 := Rc.Mod.below HM (fun _ h => h.elim)
                have h2 : V 2 = .bool false := HU.holds 2 (by decide)
                have h8 : V 8 = undef := HU.holds 8 (by decide)
                have tb77 : (Rg.putUse V [(2, 71), (8, 77), (9, 78)] fr).eval (.tmp 77) = undef := (Rg.use_eval V fr 77 [(2, 71), (8, 77), (9, 78)] (by simp only [hz]; decide)).trans h8
                have h9 : V 9 = undef := HU.holds 9 (by decide)
                have tb78 : (Rg.putUse V [(2, 71), (8, 77), (9, 78)] fr).eval (.tmp 78) = undef := (Rg.use_eval V fr 78 [(2, 71), (8, 77), (9, 78)] (by simp only [hz]; decide)).trans h9
                exact Rc.step_not rfl h2 (Rg.alias_none rfl V _) rfl
              · intro V S w2 HM HU HE
                have lw : Below wr.heap.size wr w2 := Rc.Mod.below HM (fun _ h => h.elim)
                have h2 : V 2 = .bool false := HU.holds 2 (by decide)
                have h10 : V 10 = undef := HU.holds 10 (by decide)
                have tb79 : (Rg.putUse V [(2, 71), (10, 79)] fr).eval (.tmp 79) = undef := (Rg.use_eval V fr 79 [(2, 71), (10, 79)] (by simp only [hz]; decide)).trans h10
                exact Rc.step_not rfl h2 (Rg.alias_none rfl V _) rfl
              · intro V S w2 HM HU HE
                have lw : Below wr.heap.size wr w2 := Rc.Mod.below HM (fun _ h => h.elim)
                have h2 : V 2 = .bool false := HU.holds 2 (by decide)
                have h7 : V 7 = undef := HU.holds 7 (by decide)
                have tb76 : (Rg.putUse V [(2, 71), (7, 76), (11, 80)] fr).eval (.tmp 76) = undef := (Rg.use_eval V fr 76 [(2, 71), (7, 76), (11, 80)] (by simp only [hz]; decide)).trans h7
                have h11 : V 11 = undef := HU.holds 11 (by decide)
                have tb80 : (Rg.putUse V [(2, 71), (7, 76), (11, 80)] fr).eval (.tmp 80) = undef := (Rg.use_eval V fr 80 [(2, 71), (7, 76), (11, 80)] (by simp only [hz]; decide)).trans h11
                exact Rc.step_not rfl h2 (Rg.alias_none rfl V _) rfl
              · intro V S w2 HM HU HE
                have lw : Below wr.heap.size wr w2 := Rc.Mod.below HM (fun _ h => h.elim)
                have h2 : V 2 = .bool false := HU.holds 2 (by decide)
                have tb71 : (Rg.putUse V [(2, 71), (12, 81)] fr).eval (.tmp 71) = .bool false := (Rg.use_eval V fr 71 [(2, 71), (12, 81)] (by simp only [hz]; decide)).trans h2
                have h12 : V 12 = undef := HU.holds 12 (by decide)
                have tb81 : (Rg.putUse V [(2, 71), (12, 81)] fr).eval (.tmp 81) = undef := (Rg.use_eval V fr 81 [(2, 71), (12, 81)] (by simp only [hz]; decide)).trans h12
                show Rg.Does1 _ _ V (Rg.putUse V [(2, 71), (12, 81)] fr) w2 _
                exact Ob.rc_mv (.bool false) (by simp only [execOp, tb71, tb81]; go_simp) rfl rfl True.intro
            · intro V S w2 HI
              have HL2 : Hid (Below wr.heap.size wr w2) := Rc.Mod.below HI.mod.undrew (fun _ h => h.elim)
              have hw13 : V 13 = .bool false := HI.get 13 (by decide) (by rfl)
              simp only [Rg.putList, Act.put, List.setIfInBounds_toArray, List.set_cons_zero, List.set_cons_succ, Nat.zero_add, Nat.reduceAdd]
              rw [hw13]
              clear HI hw13
              go_wp2_with fail
              go_meet
              case rel => exact ⟨_, rfl, rfl, HL2⟩
          · obtain ⟨m, hmi⟩ : ∃ m, i = m + 1 := ⟨i - 1, by omega⟩
            have HMI := Lib.hid hmi
            obtain ⟨xa, hxa⟩ : ∃ xa, l[m]? = some xa := ⟨_, List.getElem?_eq_getElem (by omega)⟩
            have HCA : Hid (wr.cell? ⟨bn, on + m, none⟩ = some (.string (strOf xa))) := HCS.out m xa hxa
            have HLS : Hid (Op.bytesLess (strOf xa).toList (strOf x).toList = true) := by
              show _ = _
              rw [strOf_list, strOf_list]
              exact HRS.out m xa x hxa (by have := HX.out; rw [hmi] at this; exact this)
            clear hxa hmi
            refine Rc.wp_region (by kernel_rfl) (fun opn => List.getD [Rc.val (.int .i64 (i : Nat)), Rc.val (.bool true), Rc.val (.bool true), Rc.val (.slice (some ⟨bn, on, none⟩) l.length cl), Rc.val (.int .i64 (i : Nat)), Rc.val (.int .i64 (m : Nat)), Rc.val (.pointer (some ⟨bn, on + m, none⟩)), Rc.val (.string (strOf xa)), Rc.val (.slice (some ⟨bn, on, none⟩) l.length cl), Rc.val (.int .i64 (i : Nat)), Rc.val (.pointer (some ⟨bn, on + i, none⟩)), Rc.val (.string (strOf x)), Rc.val (.bool false), Rc.val (.bool false)] opn Rc.any) 0 [] [[], [(0, 69)], [(1, 70)], [(2, 71)], [(2, 71)], [(2, 71), (4, 73)], [(2, 71), (3, 72), (5, 74)], [(2, 71), (6, 75)], [(2, 71)], [(2, 71)], [(2, 71), (8, 77), (9, 78)], [(2, 71), (10, 79)], [(2, 71), (7, 76), (11, 80)], [(2, 71), (12, 81)]] [[], [0], [1], [2], [2], [2, 4], [2, 3, 5], [2, 6], [2], [2], [2, 8, 9], [2, 10], [2, 7, 11], [2, 12]] [[], [0], [1], [2], [2], [2, 4], [2, 3, 5], [2, 6], [2], [2], [2, 8, 9], [2, 10], [2, 7, 11], [2, 12]] [] (by kernel_rfl) (by rfl) (by kernel_rfl) (fun _ => False) (fun _ _ => False) Rc.Inv.none ?_ ?_
            · intro fr ha
              have hz : fr.tmps.size = 123 := by rw [ha]; rfl
              have y8 : fr.eval (.tmp 8) = .slice (some ⟨bn, on, none⟩) l.length cl := by rw [ha]; rfl
              have y11 : fr.eval (.tmp 11) = .int .i64 (i : Nat) := by rw [ha]; rfl
              clear ha
              refine .cons ?_ (.cons ?_ (.cons ?_ (.cons ?_ (.cons ?_ (.cons ?_ (.cons ?_ (.cons ?_ (.cons ?_ (.cons ?_ (.cons ?_ (.cons ?_ (.cons ?_ (.cons ?_ (.nil))))))))))))))
              · intro V S w2 HM HU HE
                have lw : Below wr.heap.size wr w2 := Rc.Mod.below HM (fun _ h => h.elim)
                have tb11 : (Rg.putUse V [] fr).eval (.tmp 11) = .int .i64 (i : Nat) := (Rg.use_eval V fr 11 [] (by simp only [hz]; decide)).trans y11
                show Rg.Does1 _ _ V (Rg.putUse V [] fr) w2 _
                exact Ob.rc_mv (.int .i64 (i : Nat)) (by simp only [execOp, tb11]; go_simp) rfl rfl True.intro
              · intro V S w2 HM HU HE
                have lw : Below wr.heap.size wr w2 := Rc.Mod.below HM (fun _ h => h.elim)
                have h0 : V 0 = .int .i64 (i : Nat) := HU.holds 0 (by decide)
                have tb69 : (Rg.putUse V [(0, 69)] fr).eval (.tmp 69) = .int .i64 (i : Nat) := (Rg.use_eval V fr 69 [(0, 69)] (by simp only [hz]; decide)).trans h0
                show Rg.Does1 _ _ V (Rg.putUse V [(0, 69)] fr) w2 _
                have hgt : (0 : Int) < (i : Int) := by have := HMI.out; omega
                exact Ob.rc_mv (.bool true) (by simp only [execOp, tb69]; go_simp) rfl rfl True.intro
              · intro V S w2 HM HU HE
                have lw : Below wr.heap.size wr w2 := Rc.Mod.below HM (fun _ h => h.elim)
                have h1 : V 1 = .bool true := HU.holds 1 (by decide)
                have tb70 : (Rg.putUse V [(1, 70)] fr).eval (.tmp 70) = .bool true := (Rg.use_eval V fr 70 [(1, 70)] (by simp only [hz]; decide)).trans h1
                show Rg.Does1 _ _ V (Rg.putUse V [(1, 70)] fr) w2 _
                exact Ob.rc_mv (.bool true) (by simp only [execOp, tb70]; go_simp) rfl rfl True.intro
              · intro V S w2 HM HU HE
                have lw : Below wr.heap.size wr w2 := Rc.Mod.below HM (fun _ h => h.elim)
                have h2 : V 2 = .bool true := HU.holds 2 (by decide)
                have tb8 : (Rg.putUse V [(2, 71)] fr).eval (.tmp 8) = .slice (some ⟨bn, on, none⟩) l.length cl := (Rg.use_eval V fr 8 [(2, 71)] (by simp only [hz]; decide)).trans y8
                show Rg.Does1 _ _ V (Rg.putUse V [(2, 71)] fr) w2 _
                exact Ob.rc_mv (.slice (some ⟨bn, on, none⟩) l.length cl) (by simp only [execOp, tb8]; go_simp) rfl rfl h2
              · intro V S w2 HM HU HE
                have lw : Below wr.heap.size wr w2 := Rc.Mod.below HM (fun _ h => h.elim)
                have h2 : V 2 = .bool true := HU.holds 2 (by decide)
                have tb11 : (Rg.putUse V [(2, 71)] fr).eval (.tmp 11) = .int .i64 (i : Nat) := (Rg.use_eval V fr 11 [(2, 71)] (by simp only [hz]; decide)).trans y11
                show Rg.Does1 _ _ V (Rg.putUse V [(2, 71)] fr) w2 _
                exact Ob.rc_mv (.int .i64 (i : Nat)) (by simp only [execOp, tb11]; go_simp) rfl rfl h2
              · intro V S w2 HM HU HE
                have lw : Below wr.heap.size wr w2 := Rc.Mod.below HM (fun _ h => h.elim)
                have h2 : V 2 = .bool true := HU.holds 2 (by decide)
                have h4 : V 4 = .int .i64 (i : Nat) := HU.holds 4 (by decide)
                have tb73 : (Rg.putUse V [(2, 71), (4, 73)] fr).eval (.tmp 73) = .int .i64 (i : Nat) := (Rg.use_eval V fr 73 [(2, 71), (4, 73)] (by simp only [hz]; decide)).trans h4
                show Rg.Does1 _ _ V (Rg.putUse V [(2, 71), (4, 73)] fr) w2 _
                have hsb : IntKind.i64.wrap ((i : Int) - 1) = (m : Nat) := by have hmi := HMI.out; rw [show (i : Int) - 1 = (m : Nat) by omega]; exact IntWalk.i64_in _ (by omega)
                exact Ob.rc_mv (.int .i64 (m : Nat)) (by simp only [execOp, tb73]; go_simp) rfl rfl h2
              · intro V S w2 HM HU HE
                have lw : Below wr.heap.size wr w2 := Rc.Mod.below HM (fun _ h => h.elim)
                have h2 : V 2 = .bool true := HU.holds 2 (by decide)
                have h3 : V 3 = .slice (some ⟨bn, on, none⟩) l.length cl := HU.holds 3 (by decide)
                have tb72 : (Rg.putUse V [(2, 71), (3, 72), (5, 74)] fr).eval (.tmp 72) = .slice (some ⟨bn, on, none⟩) l.length cl := (Rg.use_eval V fr 72 [(2, 71), (3, 72), (5, 74)] (by simp only [hz]; decide)).trans h3
                have h5 : V 5 = .int .i64 (m : Nat) := HU.holds 5 (by decide)
                have tb74 : (Rg.putUse V [(2, 71), (3, 72), (5, 74)] fr).eval (.tmp 74) = .int .i64 (m : Nat) := (Rg.use_eval V fr 74 [(2, 71), (3, 72), (5, 74)] (by simp only [hz]; decide)).trans h5
                show Rg.Does1 _ _ V (Rg.putUse V [(2, 71), (3, 72), (5, 74)] fr) w2 _
                have hml : (m : Int) < (l.length : Int) := by have := HMI.out; omega
                exact Ob.rc_mv (.pointer (some ⟨bn, on + m, none⟩)) (by simp only [execOp, tb72, tb74]; go_simp) rfl rfl h2
              · intro V S w2 HM HU HE
                have lw : Below wr.heap.size wr w2 := Rc.Mod.below HM (fun _ h => h.elim)
                have h2 : V 2 = .bool true := HU.holds 2 (by decide)
                have h6 : V 6 = .pointer (some ⟨bn, on + m, none⟩) := HU.holds 6 (by decide)
                have tb75 : (Rg.putUse V [(2, 71), (6, 75)] fr).eval (.tmp 75) = .pointer (some ⟨bn, on + m, none⟩) := (Rg.use_eval V fr 75 [(2, 71), (6, 75)] (by simp only [hz]; decide)).trans h6
                show Rg.Does1 _ _ V (Rg.putUse V [(2, 71), (6, 75)] fr) w2 _
                have cl1 := (lw.cell (p := ⟨bn, on + m, none⟩) HBN.out).trans HCA.out
                exact Ob.rc_mv (.string (strOf xa)) (by simp only [execOp, tb75]; go_simp) rfl rfl h2
              · intro V S w2 HM HU HE
                have lw : Below wr.heap.size wr w2 := Rc.Mod.below HM (fun _ h => h.elim)
                have h2 : V 2 = .bool true := HU.holds 2 (by decide)
                have tb8 : (Rg.putUse V [(2, 71)] fr).eval (.tmp 8) = .slice (some ⟨bn, on, none⟩) l.length cl := (Rg.use_eval V fr 8 [(2, 71)] (by simp only [hz]; decide)).trans y8
                show Rg.Does1 _ _ V (Rg.putUse V [(2, 71)] fr) w2 _
                exact Ob.rc_mv (.slice (some ⟨bn, on, none⟩) l.length cl) (by simp only [execOp, tb8]; go_simp) rfl rfl h2
              · intro V S w2 HM HU HE
                have lw : Below wr.heap.size wr w2 := Rc.Mod.below HM (fun _ h => h.elim)
                have h2 : V 2 = .bool true := HU.holds 2 (by decide)
                have tb11 : (Rg.putUse V [(2, 71)] fr).eval (.tmp 11) = .int .i64 (i : Nat) := (Rg.use_eval V fr 11 [(2, 71)] (by simp only [hz]; decide)).trans y11
                show Rg.Does1 _ _ V (Rg.putUse V [(2, 71)] fr) w2 _
                exact Ob.rc_mv (.int .i64 (i : Nat)) (by simp only [execOp, tb11]; go_simp) rfl rfl h2
              · intro V S w2 HM HU HE
                have lw : Below wr.heap.size wr w2 := Rc.Mod.below HM (fun _ h => h.elim)
                have h2 : V 2 = .bool true := HU.holds 2 (by decide)
                have h8 : V 8 = .slice (some ⟨bn, on, none⟩) l.length cl := HU.holds 8 (by decide)
                have tb77 : (Rg.putUse V [(2, 71), (8, 77), (9, 78)] fr).eval (.tmp 77) = .slice (some ⟨bn, on, none⟩) l.length cl := (Rg.use_eval V fr 77 [(2, 71), (8, 77), (9, 78)] (by simp only [hz]; decide)).trans h8
                have h9 : V 9 = .int .i64 (i : Nat) := HU.holds 9 (by decide)
                have tb78 : (Rg.putUse V [(2, 71), (8, 77), (9, 78)] fr).eval (.tmp 78) = .int .i64 (i : Nat) := (Rg.use_eval V fr 78 [(2, 71), (8, 77), (9, 78)] (by simp only [hz]; decide)).trans h9
                show Rg.Does1 _ _ V (Rg.putUse V [(2, 71), (8, 77), (9, 78)] fr) w2 _
                have hml : (i : Int) < (l.length : Int) := by omega
                exact Ob.rc_mv (.pointer (some ⟨bn, on + i, none⟩)) (by simp only [execOp, tb77, tb78]; go_simp) rfl rfl h2
              · intro V S w2 HM HU HE
                have lw : Below wr.heap.size wr w2 := Rc.Mod.below HM (fun _ h => h.elim)
                have h2 : V 2 = .bool true := HU.holds 2 (by decide)
                have h10 : V 10 = .pointer (some ⟨bn, on + i, none⟩) := HU.holds 10 (by decide)
                have tb79 : (Rg.putUse V [(2, 71), (10, 79)] fr).eval (.tmp 79) = .pointer (some ⟨bn, on + i, none⟩) := (Rg.use_eval V fr 79 [(2, 71), (10, 79)] (by simp only [hz]; decide)).trans h10
                show Rg.Does1 _ _ V (Rg.putUse V [(2, 71), (10, 79)] fr) w2 _
                have cl1 := (lw.cell (p := ⟨bn, on + i, none⟩) HBN.out).trans HCB.out
                exact Ob.rc_mv (.string (strOf x)) (by simp only [execOp, tb79]; go_simp) rfl rfl h2
              · intro V S w2 HM HU HE
                have lw : Below wr.heap.size wr w2 := Rc.Mod.below HM (fun _ h => h.elim)
                have h2 : V 2 = .bool true := HU.holds 2 (by decide)
                have h7 : V 7 = .string (strOf xa) := HU.holds 7 (by decide)
                have tb76 : (Rg.putUse V [(2, 71), (7, 76), (11, 80)] fr).eval (.tmp 76) = .string (strOf xa) := (Rg.use_eval V fr 76 [(2, 71), (7, 76), (11, 80)] (by simp only [hz]; decide)).trans h7
                have h11 : V 11 = .string (strOf x) := HU.holds 11 (by decide)
                have tb80 : (Rg.putUse V [(2, 71), (7, 76), (11, 80)] fr).eval (.tmp 80) = .string (strOf x) := (Rg.use_eval V fr 80 [(2, 71), (7, 76), (11, 80)] (by simp only [hz]; decide)).trans h11
                show Rg.Does1 _ _ V (Rg.putUse V [(2, 71), (7, 76), (11, 80)] fr) w2 _
                have hls := HLS.out
                exact Ob.rc_mv (.bool false) (by simp only [execOp, tb76, tb80]; go_simp) rfl rfl h2
              · intro V S w2 HM HU HE
                have lw : Below wr.heap.size wr w2 := Rc.Mod.below HM (fun _ h => h.elim)
                have h2 : V 2 = .bool true := HU.holds 2 (by decide)
                have tb71 : (Rg.putUse V [(2, 71), (12, 81)] fr).eval (.tmp 71) = .bool true := (Rg.use_eval V fr 71 [(2, 71), (12, 81)] (by simp only [hz]; decide)).trans h2
                have h12 : V 12 = .bool false := HU.holds 12 (by decide)
                have tb81 : (Rg.putUse V [(2, 71), (12, 81)] fr).eval (.tmp 81) = .bool false := (Rg.use_eval V fr 81 [(2, 71), (12, 81)] (by simp only [hz]; decide)).trans h12
                show Rg.Does1 _ _ V (Rg.putUse V [(2, 71), (12, 81)] fr) w2 _
                exact Ob.rc_mv (.bool false) (by simp only [execOp, tb71, tb81]; go_simp) rfl rfl True.intro
            · intro V S w2 HI
              have HL2 : Hid (Below wr.heap.size wr w2) := Rc.Mod.below HI.mod.undrew (fun _ h => h.elim)
              have hw13 : V 13 = .bool false := HI.get 13 (by decide) (by rfl)
              simp only [Rg.putList, Act.put, List.setIfInBounds_toArray, List.set_cons_zero, List.set_cons_succ, Nat.zero_add, Nat.reduceAdd]
              rw [hw13]
              clear HI hw13
              go_wp2_with fail
              go_meet
              case rel => exact ⟨_, rfl, rfl, HL2⟩
        case rest =>
        obtain ⟨wr2, hWX, rfl, HB18⟩ := hcut
        subst hWX
        have HBJ2 : Hid (Below w5.heap.size w5 wr2) := HBJ.out.trans (HB18.out.mono HBJ.out.size)
        have HO5 : Hid (One1 (.pointer (some ⟨p, 0, none⟩)) w Tt B wr2) := HO5a.out.later HBJ2.out
        have HRU : Hid (RdS wr2 AU q) := HRU0.out.below HBJ2.out
        have HBU : Hid (bu < wr2.heap.size) := Nat.lt_of_lt_of_le HBU0.out HBJ2.out.size
        have HCU : Hid (wr2.cell? ⟨bu, ou, none⟩ = some (.slice AU q.length ku)) := (HBJ2.out.cell (p := ⟨bu, ou, none⟩) HBU0.out).trans HCU0.out
        have HCB2 : Hid (wr2.cell? ⟨bn, on + i, none⟩ = some (.string (strOf x))) := (HB18.out.cell (p := ⟨bn, on + i, none⟩) HBN.out).trans HCB.out
        have HBN2 : Hid (bn < wr2.heap.size) := Nat.lt_of_lt_of_le HBN.out HB18.out.size
        clear HBN HCB HCS
        go_upto_region 20 with (fail)
        refine Rc.wp_region (by kernel_rfl) (fun opn => List.getD [Rc.val (.pointer (some ⟨p, 0, none⟩)), Ag.srow ([]), Rc.val (.slice (some ⟨bu, ou, none⟩) 1 cu), Rc.val (.pointer (some ⟨bu, ou, none⟩)), Rc.val (.slice AU q.length ku), Ag.srow (q), Rc.val (.slice (some ⟨bn, on, none⟩) l.length cl), Rc.val (.int .i64 (i : Nat)), Rc.val (.pointer (some ⟨bn, on + i, none⟩)), Rc.val (.string (strOf x)), Ag.srow ([x]), Ag.srow (q ++ [x]), Rc.val (.tuple #[.int .i64 xk, .int .i64 0]), Rc.val (.tuple #[.int .i64 xk, .int .i64 0]), Rc.val (.int .i64 xk), Rc.val (.int .i64 0), Rc.val (.int .i64 xk), Rc.val (.int .i64 0)] opn Rc.any) 0 [] [[], [], [], [(2, 86)], [(3, 87)], [(1, 85), (4, 88)], [], [], [(6, 90), (7, 91)], [(8, 92)], [(9, 93)], [(5, 89), (10, 94)], [(0, 84), (11, 95)], [(12, 96)], [(13, 83)], [(13, 83)], [(14, 97)], [(15, 98)]] [[], [], [], [2], [3], [1, 4], [], [], [6, 7], [8], [9], [5, 10], [0, 11], [12], [13], [13], [14], [15]] [[], [], [], [2], [3], [1, 4], [], [], [6, 7], [8], [9], [5, 10], [0, 11], [12], [13], [13], [14], [15]] [(5, 1), (11, 5)] (by kernel_rfl) (by rfl) (by kernel_rfl) (fun _ => False) (fun _ _ => False) Rc.Inv.none ?_ ?_
        · intro fr ha
          have hz : fr.tmps.size = 123 := by rw [ha]; rfl
          have y3 : fr.eval (.tmp 3) = .pointer (some ⟨p, 0, none⟩) := by rw [ha]; rfl
          have y10 : fr.eval (.tmp 10) = .slice (some ⟨bu, ou, none⟩) 1 cu := by rw [ha]; rfl
          have y8 : fr.eval (.tmp 8) = .slice (some ⟨bn, on, none⟩) l.length cl := by rw [ha]; rfl
          have y11 : fr.eval (.tmp 11) = .int .i64 (i : Nat) := by rw [ha]; rfl
          clear ha
          refine .cons ?_ (.cons ?_ (.cons ?_ (.cons ?_ (.cons ?_ (.cons ?_ (.cons ?_ (.cons ?_ (.cons ?_ (.cons ?_ (.cons ?_ (.cons ?_ (.cons ?_ (.cons ?_ (.cons ?_ (.cons ?_ (.cons ?_ (.cons ?_ (.nil))))))))))))))))))
          · intro V S w2 HM HU HE
            have lw : Below wr2.heap.size wr2 w2 := Rc.Mod.below HM (fun _ h => h.elim)
            have tb3 : (Rg.putUse V [] fr).eval (.tmp 3) = .pointer (some ⟨p, 0, none⟩) := (Rg.use_eval V fr 3 [] (by simp only [hz]; decide)).trans y3
            show Rg.Does1 _ _ V (Rg.putUse V [] fr) w2 _
            exact Ob.rc_mv (.pointer (some ⟨p, 0, none⟩)) (by simp only [execOp, tb3]; go_simp) rfl rfl True.intro
          · intro V S w2 HM HU HE
            have lw : Below wr2.heap.size wr2 w2 := Rc.Mod.below HM (fun _ h => h.elim)
            show Rg.Does1 _ _ V (Rg.putUse V [] fr) w2 _
            exact Ag.step_snil rfl rfl (fun x => Rg.alias_none rfl V x) True.intro
          · intro V S w2 HM HU HE
            have lw : Below wr2.heap.size wr2 w2 := Rc.Mod.below HM (fun _ h => h.elim)
            have tb10 : (Rg.putUse V [] fr).eval (.tmp 10) = .slice (some ⟨bu, ou, none⟩) 1 cu := (Rg.use_eval V fr 10 [] (by simp only [hz]; decide)).trans y10
            show Rg.Does1 _ _ V (Rg.putUse V [] fr) w2 _
            exact Ob.rc_mv (.slice (some ⟨bu, ou, none⟩) 1 cu) (by simp only [execOp, tb10]; go_simp) rfl rfl True.intro
          · intro V S w2 HM HU HE
            have lw : Below wr2.heap.size wr2 w2 := Rc.Mod.below HM (fun _ h => h.elim)
            have h2 : V 2 = .slice (some ⟨bu, ou, none⟩) 1 cu := HU.holds 2 (by decide)
            have tb86 : (Rg.putUse V [(2, 86)] fr).eval (.tmp 86) = .slice (some ⟨bu, ou, none⟩) 1 cu := (Rg.use_eval V fr 86 [(2, 86)] (by simp only [hz]; decide)).trans h2
            show Rg.Does1 _ _ V (Rg.putUse V [(2, 86)] fr) w2 _
            exact Ob.rc_mv (.pointer (some ⟨bu, ou, none⟩)) (by simp only [execOp, tb86]; go_simp) rfl rfl True.intro
          · intro V S w2 HM HU HE
            have lw : Below wr2.heap.size wr2 w2 := Rc.Mod.below HM (fun _ h => h.elim)
            have h3 : V 3 = .pointer (some ⟨bu, ou, none⟩) := HU.holds 3 (by decide)
            have tb87 : (Rg.putUse V [(3, 87)] fr).eval (.tmp 87) = .pointer (some ⟨bu, ou, none⟩) := (Rg.use_eval V fr 87 [(3, 87)] (by simp only [hz]; decide)).trans h3
            show Rg.Does1 _ _ V (Rg.putUse V [(3, 87)] fr) w2 _
            have cl1 := (lw.cell (p := ⟨bu, ou, none⟩) HBU.out).trans HCU.out
            exact Ob.rc_mv (.slice AU q.length ku) (by simp only [execOp, tb87]; go_simp) rfl rfl True.intro
          · intro V S w2 HM HU HE
            have lw : Below wr2.heap.size wr2 w2 := Rc.Mod.below HM (fun _ h => h.elim)
            have tb85 : (Rg.putUse V [(1, 85), (4, 88)] fr).eval (.tmp 85) = V 1 := (Rg.use_eval V fr 85 [(1, 85), (4, 88)] (by simp only [hz]; decide)).trans rfl
            have h4 : V 4 = .slice AU q.length ku := HU.holds 4 (by decide)
            have tb88 : (Rg.putUse V [(1, 85), (4, 88)] fr).eval (.tmp 88) = .slice AU q.length ku := (Rg.use_eval V fr 88 [(1, 85), (4, 88)] (by simp only [hz]; decide)).trans h4
            show Rg.Does1 _ _ V (Rg.putUse V [(1, 85), (4, 88)] fr) w2 _
            exact Ag.step_sapp (i := 1) ([]) (q) (q) (rfl) rfl tb85 tb88 rfl (by decide) (HU.holds 1 (by decide)) (HRU.out.below lw) (HU.lt 1 (by decide)) (by have := HQ8.out; simp; omega) (fun x => Rg.alias_none rfl V x) True.intro
          · intro V S w2 HM HU HE
            have lw : Below wr2.heap.size wr2 w2 := Rc.Mod.below HM (fun _ h => h.elim)
            have tb8 : (Rg.putUse V [] fr).eval (.tmp 8) = .slice (some ⟨bn, on, none⟩) l.length cl := (Rg.use_eval V fr 8 [] (by simp only [hz]; decide)).trans y8
            show Rg.Does1 _ _ V (Rg.putUse V [] fr) w2 _
            exact Ob.rc_mv (.slice (some ⟨bn, on, none⟩) l.length cl) (by simp only [execOp, tb8]; go_simp) rfl rfl True.intro
          · intro V S w2 HM HU HE
            have lw : Below wr2.heap.size wr2 w2 := Rc.Mod.below HM (fun _ h => h.elim)
            have tb11 : (Rg.putUse V [] fr).eval (.tmp 11) = .int .i64 (i : Nat) := (Rg.use_eval V fr 11 [] (by simp only [hz]; decide)).trans y11
            show Rg.Does1 _ _ V (Rg.putUse V [] fr) w2 _
            exact Ob.rc_mv (.int .i64 (i : Nat)) (by simp only [execOp, tb11]; go_simp) rfl rfl True.intro
          · intro V S w2 HM HU HE
            have lw : Below wr2.heap.size wr2 w2 := Rc.Mod.below HM (fun _ h => h.elim)
            have h6 : V 6 = .slice (some ⟨bn, on, none⟩) l.length cl := HU.holds 6 (by decide)
            have tb90 : (Rg.putUse V [(6, 90), (7, 91)] fr).eval (.tmp 90) = .slice (some ⟨bn, on, none⟩) l.length cl := (Rg.use_eval V fr 90 [(6, 90), (7, 91)] (by simp only [hz]; decide)).trans h6
            have h7 : V 7 = .int .i64 (i : Nat) := HU.holds 7 (by decide)
            have tb91 : (Rg.putUse V [(6, 90), (7, 91)] fr).eval (.tmp 91) = .int .i64 (i : Nat) := (Rg.use_eval V fr 91 [(6, 90), (7, 91)] (by simp only [hz]; decide)).trans h7
            show Rg.Does1 _ _ V (Rg.putUse V [(6, 90), (7, 91)] fr) w2 _
            have hml : (i : Int) < (l.length : Int) := by omega
            exact Ob.rc_mv (.pointer (some ⟨bn, on + i, none⟩)) (by simp only [execOp, tb90, tb91]; go_simp) rfl rfl True.intro
          · intro V S w2 HM HU HE
            have lw : Below wr2.heap.size wr2 w2 := Rc.Mod.below HM (fun _ h => h.elim)
            have h8 : V 8 = .pointer (some ⟨bn, on + i, none⟩) := HU.holds 8 (by decide)
            have tb92 : (Rg.putUse V [(8, 92)] fr).eval (.tmp 92) = .pointer (some ⟨bn, on + i, none⟩) := (Rg.use_eval V fr 92 [(8, 92)] (by simp only [hz]; decide)).trans h8
            show Rg.Does1 _ _ V (Rg.putUse V [(8, 92)] fr) w2 _
            have cl1 := (lw.cell (p := ⟨bn, on + i, none⟩) HBN2.out).trans HCB2.out
            exact Ob.rc_mv (.string (strOf x)) (by simp only [execOp, tb92]; go_simp) rfl rfl True.intro
          · intro V S w2 HM HU HE
            have lw : Below wr2.heap.size wr2 w2 := Rc.Mod.below HM (fun _ h => h.elim)
            have h9 : V 9 = .string (strOf x) := HU.holds 9 (by decide)
            have tb93 : (Rg.putUse V [(9, 93)] fr).eval (.tmp 93) = .string (strOf x) := (Rg.use_eval V fr 93 [(9, 93)] (by simp only [hz]; decide)).trans h9
            show Rg.Does1 _ _ V (Rg.putUse V [(9, 93)] fr) w2 _
            exact Ag.step_sone (x) rfl tb93 rfl (fun x => Rg.alias_none rfl V x) True.intro
          · intro V S w2 HM HU HE
            have lw : Below wr2.heap.size wr2 w2 := Rc.Mod.below HM (fun _ h => h.elim)
            have tb89 : (Rg.putUse V [(5, 89), (10, 94)] fr).eval (.tmp 89) = V 5 := (Rg.use_eval V fr 89 [(5, 89), (10, 94)] (by simp only [hz]; decide)).trans rfl
            obtain ⟨X10, k10, e10, hc10, hr10, _⟩ := Tm.SOwn.form (show Tm.SOwn w2 (V 10) ([x]) from (HU.holds 10 (by decide)).1)
            have tb94 : (Rg.putUse V [(5, 89), (10, 94)] fr).eval (.tmp 94) = .slice X10 ([x]).length k10 := (Rg.use_eval V fr 94 [(5, 89), (10, 94)] (by simp only [hz]; decide)).trans e10
            show Rg.Does1 _ _ V (Rg.putUse V [(5, 89), (10, 94)] fr) w2 _
            exact Ag.step_sapp (i := 5) (q) ([x]) (q ++ [x]) (rfl) rfl tb89 tb94 rfl (by decide) (HU.holds 5 (by decide)) (hr10) (HU.lt 5 (by decide)) (by have := HQ8.out; simp; omega) (fun x => Rg.alias_none rfl V x) True.intro
          · intro V S w2 HM HU HE
            have lw : Below wr2.heap.size wr2 w2 := Rc.Mod.below HM (fun _ h => h.elim)
            have h0 : V 0 = .pointer (some ⟨p, 0, none⟩) := HU.holds 0 (by decide)
            have tb84 : (Rg.putUse V [(0, 84), (11, 95)] fr).eval (.tmp 84) = .pointer (some ⟨p, 0, none⟩) := (Rg.use_eval V fr 84 [(0, 84), (11, 95)] (by simp only [hz]; decide)).trans h0
            obtain ⟨X11, k11, e11, hc11, hr11, _⟩ := Tm.SOwn.form (show Tm.SOwn w2 (V 11) (q ++ [x]) from (HU.holds 11 (by decide)).1)
            have tb95 : (Rg.putUse V [(0, 84), (11, 95)] fr).eval (.tmp 95) = .slice X11 (q ++ [x]).length k11 := (Rg.use_eval V fr 95 [(0, 84), (11, 95)] (by simp only [hz]; decide)).trans e11
            show Rg.Does1 _ _ V (Rg.putUse V [(0, 84), (11, 95)] fr) w2 _
            exact Ob.step_tell (.tuple #[.int .i64 xk, .int .i64 0]) #[.pointer (some ⟨p, 0, none⟩), .slice X11 (q ++ [x]).length k11] (fun args w => Rg.call_enter Tryz.func54 (by kernel_rfl) (by kernel_rfl) args w) rfl (by simp only [List.map_toArray, List.map_cons, List.map_nil, tb84, tb95]) rfl (fun x => Rg.alias_none rfl V x) True.intro (HLKX.out w2 X11 k11 (HO5.out.later lw) hr11 hc11)
          · intro V S w2 HM HU HE
            have lw : Below wr2.heap.size wr2 w2 := Rc.Mod.below HM (fun _ h => h.elim)
            have h12 : V 12 = .tuple #[.int .i64 xk, .int .i64 0] := HU.holds 12 (by decide)
            have tb96 : (Rg.putUse V [(12, 96)] fr).eval (.tmp 96) = .tuple #[.int .i64 xk, .int .i64 0] := (Rg.use_eval V fr 96 [(12, 96)] (by simp only [hz]; decide)).trans h12
            show Rg.Does1 _ _ V (Rg.putUse V [(12, 96)] fr) w2 _
            exact Ob.rc_mv (.tuple #[.int .i64 xk, .int .i64 0]) (by simp only [execOp, tb96]; go_simp) rfl rfl True.intro
          · intro V S w2 HM HU HE
            have lw : Below wr2.heap.size wr2 w2 := Rc.Mod.below HM (fun _ h => h.elim)
            have h13 : V 13 = .tuple #[.int .i64 xk, .int .i64 0] := HU.holds 13 (by decide)
            have tb83 : (Rg.putUse V [(13, 83)] fr).eval (.tmp 83) = .tuple #[.int .i64 xk, .int .i64 0] := (Rg.use_eval V fr 83 [(13, 83)] (by simp only [hz]; decide)).trans h13
            show Rg.Does1 _ _ V (Rg.putUse V [(13, 83)] fr) w2 _
            exact Ob.rc_mv (.int .i64 xk) (by simp only [execOp, tb83]; go_simp) rfl rfl True.intro
          · intro V S w2 HM HU HE
            have lw : Below wr2.heap.size wr2 w2 := Rc.Mod.below HM (fun _ h => h.elim)
            have h13 : V 13 = .tuple #[.int .i64 xk, .int .i64 0] := HU.holds 13 (by decide)
            have tb83 : (Rg.putUse V [(13, 83)] fr).eval (.tmp 83) = .tuple #[.int .i64 xk, .int .i64 0] := (Rg.use_eval V fr 83 [(13, 83)] (by simp only [hz]; decide)).trans h13
            show Rg.Does1 _ _ V (Rg.putUse V [(13, 83)] fr) w2 _
            exact Ob.rc_mv (.int .i64 0) (by simp only [execOp, tb83]; go_simp) rfl rfl True.intro
          · intro V S w2 HM HU HE
            have lw : Below wr2.heap.size wr2 w2 := Rc.Mod.below HM (fun _ h => h.elim)
            have h14 : V 14 = .int .i64 xk := HU.holds 14 (by decide)
            have tb97 : (Rg.putUse V [(14, 97)] fr).eval (.tmp 97) = .int .i64 xk := (Rg.use_eval V fr 97 [(14, 97)] (by simp only [hz]; decide)).trans h14
            show Rg.Does1 _ _ V (Rg.putUse V [(14, 97)] fr) w2 _
            exact Ob.rc_mv (.int .i64 xk) (by simp only [execOp, tb97]; go_simp) rfl rfl True.intro
          · intro V S w2 HM HU HE
            have lw : Below wr2.heap.size wr2 w2 := Rc.Mod.below HM (fun _ h => h.elim)
            have h15 : V 15 = .int .i64 0 := HU.holds 15 (by decide)
            have tb98 : (Rg.putUse V [(15, 98)] fr).eval (.tmp 98) = .int .i64 0 := (Rg.use_eval V fr 98 [(15, 98)] (by simp only [hz]; decide)).trans h15
            show Rg.Does1 _ _ V (Rg.putUse V [(15, 98)] fr) w2 _
            exact Ob.rc_mv (.int .i64 0) (by simp only [execOp, tb98]; go_simp) rfl rfl True.intro
        · intro V S w2 HI
          have HL2 : Hid (Below wr2.heap.size wr2 w2) := Rc.Mod.below HI.mod.undrew (fun _ h => h.elim)
          have hw16 : V 16 = .int .i64 xk := HI.get 16 (by decide) (by rfl)
          have hw17 : V 17 = .int .i64 0 := HI.get 17 (by decide) (by rfl)
          simp only [Rg.putList, Act.put, List.setIfInBounds_toArray, List.set_cons_zero, List.set_cons_succ, Nat.zero_add, Nat.reduceAdd]
          rw [hw16, hw17]
          clear HI hw16 hw17
          have HO6 : Hid (One1 (.pointer (some ⟨p, 0, none⟩)) w Tt B w2) := HO5.out.later HL2.out
          have HB6 : Hid (Below w5.heap.size w5 w2) := HBJ2.out.trans (HL2.out.mono HBJ2.out.size)
          clear HL2
          go_wp2_with fail
          go_roundw
          case rel => exact ⟨i + 1, by go_num, hk2, HB6⟩
          case measure => simp [intOf]; omega
end Tw
end Go.Proofs.YtombmeppdhhjhaaGreat
