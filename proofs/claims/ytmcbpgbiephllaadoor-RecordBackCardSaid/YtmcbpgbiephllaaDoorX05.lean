/-
  OWN WORK. ReBack
-/
import Derived.Test.YtmcbpgbiephllaaDoorX04

namespace Go.Proofs.YtmcbpgbiephllaaDoor
open Go.RowKit Rc
namespace Re
set_option maxHeartbeats 8000000 in
set_option maxRecDepth 100000 in
theorem back_any (C : WSaid) (hS : SumSaid) (w : World) (A : Option Addr) (ps : List AskR) (c : Nat) (hps : AsksR w A ps) (hc : ps.length ≤ c) (hl : ps.length ≤ 9223372036854775807) (n1 : Int) (hn1 : -9223372036854775808 ≤ n1 ∧ n1 ≤ 9223372036854775807) (n2 : Int) (hn2 : -9223372036854775808 ≤ n2 ∧ n2 ≤ 9223372036854775807) (t : Int) (htb : 0 ≤ t ∧ t ≤ 255) (hE : Env w) :
    Calls Tryd.prog 5 #[.slice A ps.length c, .int .i64 n1, .int .i64 n2, .int .u8 t] w fun e w' => e = .returned (.bool true) ∧ Below w.heap.size w w' := by
  have HENC : Hid (∀ W (q : AskR), Below w.heap.size w W → q.body.length ≤ q.cbody → Rd W q.Xbody q.body → Calls Tryd.prog 14 #[.agg #[.int .i64 q.kind, .int .u64 (q.seq : Nat), .slice q.Xbody q.body.length q.cbody]] W (EAns (enc (recA q)).1 (enc (recA q)).2 W)) := fun W q h1 h2 h3 => re_encode_any C hS (recA q) W q.Xbody q.cbody h2 h3 (hE.under h1 hE.pos)
  have HDEC : Hid (∀ W (X : Option Addr) (L : List UInt8) (cap : Nat), Below w.heap.size w W → Rd W X L → L.length ≤ cap → L.length ≤ 65550 → Calls Tryd.prog 15 #[.slice X L.length cap] W (DAns L W)) := fun W X L cap h1 h2 h3 h4 => re_decode_any hS W X L cap h2 h3 h4 (hE.under h1 hE.pos)
  have HKN : Hid (∀ W, Below w.heap.size w W → Calls Tryd.prog 11 #[] W fun e w' => e = .returned (.bool true) ∧ Below W.heap.size W w') := fun W h => re_known_any hS W (hE.under h hE.pos)
  have HPS := Lib.hid hps
  have HC := Lib.hid hc
  have HL := Lib.hid hl
  have HN1 := Lib.hid hn1
  have HN2 := Lib.hid hn2
  have HTB := Lib.hid htb
  clear hps hc hl hn1 hn2 htb hS hE
  go_enter Tryd.func5, Tryd.ntmps5
  go_wp2_with fail
  go_loopw [9, 10, 11, 12] (fun t9 t10 t11 t12 wr => ∃ i : Nat, i ≤ ps.length ∧ i ≤ 12 ∧ t12 = .int .i64 (i : Nat) ∧ Hid (Three t9 t10 t11 (goods (ps.take i)) w wr)) (fun _ _ _ t12 _ => 12 - (intOf t12).toNat)
  case atStart => exact ⟨0, Nat.zero_le _, by decide, rfl, Three.nil w⟩
  case round =>
    obtain ⟨i, hi, hi12, rfl, HT⟩ := hrel
    by_cases hil : i < ps.length ∧ i < 12
    · obtain ⟨hil, hi2⟩ := hil
      have hx1 : (i : Int) < (ps.length : Int) := by omega
      have hx2 : (i : Int) < 12 := by omega
      have hx3 : (0 : Int) ≤ (i : Int) := by omega
      obtain ⟨b, off, rfl, hok⟩ := HPS.out.plain (by omega)
      obtain ⟨p, hp⟩ : ∃ p, ps[i]? = some p := ⟨_, List.getElem?_eq_getElem hil⟩
      have hpo := hok i p hp
      have HFT : Hid (p.Fits w) := hpo.fit
      have hlt := HT.out.b.2
      have c0 : wr.cell? ⟨b, off + i * 3, none⟩ = some (.int .i64 p.kind) := hpo.at_ hlt 0 _ rfl
      have c1 : wr.cell? ⟨b, off + i * 3 + 1, none⟩ = some (.int .u64 (p.seq : Nat)) := hpo.at_ hlt 1 _ rfl
      have c2 : wr.cell? ⟨b, off + i * 3 + 2, none⟩ = some (.slice p.Xbody p.body.length p.cbody) := hpo.at_ hlt 2 _ rfl
      have HTK : Hid (ps.take (i + 1) = ps.take i ++ [p]) := take_succ' hp
      clear hok hpo hlt hp
      obtain ⟨W1, hW1⟩ : ∃ W, W = wr.alloc (.cells #[.int .i64 p.kind, .int .u64 (p.seq : Nat), .slice p.Xbody p.body.length p.cbody] 27) := ⟨_, rfl⟩
      obtain ⟨gx, hgx⟩ : ∃ x, x = wr.heap.size := ⟨_, rfl⟩
      go_upto_region 8 with (fail)
      rw [← hW1, ← hgx]
      have hb1 : Below wr.heap.size wr W1 := by rw [hW1]; exact below_new wr _
      have HX1 : Hid (Blk W1 gx 27 [.int .i64 p.kind, .int .u64 (p.seq : Nat), .slice p.Xbody p.body.length p.cbody]) := by show Blk _ _ _ _; rw [hW1, hgx]; exact Blk.new wr _ _
      have HT1 : Hid (Three u9 u10 u11 (goods (ps.take i)) w W1) := HT.out.below hb1
      have HGX : Hid (w.heap.size ≤ gx ∧ gx < W1.heap.size) := ⟨by rw [hgx]; exact HT.out.b.2.size, HX1.out.lt⟩
      have hgw : wr.heap.size ≤ gx := Nat.le_of_eq hgx.symm
      clear c0 c1 c2 hW1 hgx
      have c2 := HX1.out.cell 2
      have f2 := HX1.out.frozen 2
      obtain ⟨bq, hbq⟩ : ∃ x, x = p.body.take 80 := ⟨_, rfl⟩
      have HCUT : Hid (∀ W, Calls Tryd.prog 12 #[.slice p.Xbody p.body.length p.cbody, .int .i64 80] W fun e w' => e = .returned (.slice p.Xbody bq.length p.cbody) ∧ W = w') := fun W => by rw [hbq]; exact cut_any p.Xbody p.body p.cbody 80 HFT.out.fbody (by omega) HFT.out.lbody W
      have HQ : Hid (cutA p = ⟨p.kind, p.seq, p.Xbody, bq, p.cbody⟩) := by show _ = _; rw [hbq]; rfl
      have HBQ : Hid (bq.length ≤ 80 ∧ bq.length ≤ p.cbody ∧ Rd w p.Xbody bq) := ⟨by rw [hbq]; exact List.length_take_le _ _, by rw [hbq, List.length_take]; have := HFT.out.fbody; omega, by rw [hbq]; exact HFT.out.rbody.take 80⟩
      clear hbq
      go_wp2_with fail
      refine (HCUT.out W1).mono ?_
      rintro e _ ⟨rfl, rfl⟩
      obtain ⟨W2, hW2⟩ : ∃ W, W = W1.setCell ⟨gx, 2, none⟩ (.slice p.Xbody bq.length p.cbody) := ⟨_, rfl⟩
      have hk2 : Keeps W1 W2 gx := by rw [hW2]; exact (Keeps.refl W1 gx).setCell 2 _
      have hb2 : Below wr.heap.size wr W2 := below_keeps hb1 hk2 hgw hb1.size
      have HX2 : Hid (Blk W2 gx 27 [.int .i64 p.kind, .int .u64 (p.seq : Nat), .slice p.Xbody bq.length p.cbody]) := by show Blk _ _ _ _; rw [hW2]; exact HX1.out.set_ 2 _
      have HT2 : Hid (Three u9 u10 u11 (goods (ps.take i)) w W2) := HT.out.below hb2
      go_upto_region 9 with (fail)
      rw [← hW2]
      clear hW2 hk2 hb1 hb2 c2 f2 HX1 HT1 hgw HCUT HT
      have a0 := HX2.out.cell 0
      have a1 := HX2.out.cell 1
      have a2 := HX2.out.cell 2
      have HEN := Lib.hid (HENC.out W2 ⟨p.kind, p.seq, p.Xbody, bq, p.cbody⟩ HT2.out.b.2 HBQ.out.2.1 (HBQ.out.2.2.below HT2.out.b.2))
      go_wp2_with fail
      by_cases hri : Right (recA ⟨p.kind, p.seq, p.Xbody, bq, p.cbody⟩)
      · have he : enc (recA ⟨p.kind, p.seq, p.Xbody, bq, p.cbody⟩) = (form (recA ⟨p.kind, p.seq, p.Xbody, bq, p.cbody⟩), 0) := if_pos hri
        rw [he] at HEN
        have HGO : Hid (goods (ps.take (i + 1)) = goods (ps.take i) ++ [⟨p.kind, p.seq, p.Xbody, bq, p.cbody⟩]) := by show _ = _; rw [HTK.out, goods_snoc, HQ.out, if_pos hri]
        have HFL : Hid ((form (recA ⟨p.kind, p.seq, p.Xbody, bq, p.cbody⟩)).length = 15 + bq.length) := form_length (by show bq.length ≤ _; have := HBQ.out.1; omega)
        obtain ⟨fo, hfo⟩ : ∃ x, x = form (recA ⟨p.kind, p.seq, p.Xbody, bq, p.cbody⟩) := ⟨_, rfl⟩
        have HFO := Lib.hid hfo
        rw [← hfo] at HEN HFL
        clear he hri hfo HQ HTK
        refine HEN.out.mono ?_
        rintro e w3 ⟨Y, cy, rfl, hcy, hry, hb3⟩
        dsimp only at hry hcy ⊢
        have HX3 : Hid (Blk w3 gx 27 [.int .i64 p.kind, .int .u64 (p.seq : Nat), .slice p.Xbody bq.length p.cbody]) := HX2.out.below hb3 HX2.out.lt
        have HT3 : Hid (Three u9 u10 u11 (goods (ps.take i)) w w3) := HT2.out.below hb3
        have HRY := Lib.hid hry
        clear hry hcy hb3 HX2 HT2 HEN a0 a1 a2
        obtain ⟨gs, hgs⟩ : ∃ x, x = goods (ps.take i) := ⟨_, rfl⟩
        have HGL : Hid (gs.length ≤ 12 ∧ (flat gs).length ≤ 95 * gs.length) := by
          have h1 := goods_length (ps.take i)
          rw [← hgs, List.length_take] at h1
          exact ⟨by omega, flat_length gs fun q hq => by rw [hgs] at hq; have := goods_mem hq; exact ⟨this.1, this.2.1⟩⟩
        rw [← hgs] at HT3 HGO
        clear hgs
        have hfp : (1 : Int) ≤ ((fo.length : Nat) : Int) := by have := HFL.out; omega
        have hfp2 : ((fo.length : Nat) : Int) ≤ 95 := by have := HFL.out; have := HBQ.out.1; omega
        go_upto_region 13 with (fail)
        have hgl := HGL.out.1
        have hgf := HGL.out.2
        have HNB : Hid ((flat gs ++ fo).length = (flat gs).length + fo.length) := List.length_append
        obtain ⟨nb, hnb⟩ : ∃ x, x = (flat gs).length + fo.length := ⟨_, rfl⟩
        rw [← hnb] at HNB
        have HNBE := Lib.hid hnb
        have hnb2 : ((nb : Nat) : Int) ≤ 1240 := by omega
        clear hnb
        go_wp2_with (first
          | (at_builtin; refine append_b rfl (.tmp 54) (.tmp 55) rfl rfl HT3.out Y fo cy rfl HRY.out (by omega) ?_; rw [← HNBE.out]; intro v9 w4 HB4' HR4' HE4' HK4; have HX4 := Lib.hid (HK4 gx _ _ (by decide) HX3.out); obtain ⟨A9, c9, e9, _⟩ := HB4'.form; subst e9; have HB4 : Hid (GAt 5 1 (.slice A9 nb c9) (flat gs ++ fo).length (Lib.byteCells (flat gs ++ fo)) w w4) := (by show GAt _ _ _ _ _ _ _; rw [HNB.out]; exact HB4'); have HR4 := Lib.hid HR4'; have HE4 := Lib.hid HE4'; clear HK4 HB4' HR4' HE4'; have a0 := HX4.out.cell 0; have a1 := HX4.out.cell 1; have a2 := HX4.out.cell 2)
          | (at_builtin; refine append_r rfl (.tmp 57) (.tmp 59) rfl ⟨p.kind, p.seq, p.Xbody, bq, p.cbody⟩ rfl HB4.out HR4.out HE4.out w4.heap.size rfl rfl rfl (by omega) ?_; intro v10 w5 HB5' HR5' HE5'; have HB5 := Lib.hid HB5'; have HR5 := Lib.hid HR5'; have HE5 := Lib.hid HE5'; clear HB5' HR5' HE5' a0 a1 a2)
          | (at_builtin; refine append_e rfl (.tmp 61) (.tmp 64) rfl (nb : Nat) rfl HB5.out HR5.out HE5.out w5.heap.size rfl rfl rfl (by omega) ?_; intro v11 w6 HB6' HR6' HE6'; have HB6 := Lib.hid HB6'; have HR6 := Lib.hid HR6'; have HE6 := Lib.hid HE6'; clear HB6' HR6' HE6'))
        have HT6 : Hid (Three (.slice A9 nb c9) v10 v11 (goods (ps.take (i + 1))) w w6) := by
          show Three _ _ _ _ _ _
          have hf : flat (gs ++ [⟨p.kind, p.seq, p.Xbody, bq, p.cbody⟩]) = flat gs ++ fo := by rw [flat_snoc, HFO.out]
          rw [HGO.out]
          refine ⟨?_, HR6.out, ?_⟩
          · rw [hf]; exact HB6.out
          · have h9 := HE6.out
            rw [ends_snoc, hf, HNB.out, List.length_append]
            exact h9
        clear HB4 HR4 HE4 HB5 HR5 HE5 HB6 HR6 HE6 HX3 HX4 HT3
        go_roundw
        case rel => exact ⟨i + 1, by omega, by omega, by simp, HT6.out⟩
        case measure => simp [intOf]; omega
      · have he : enc (recA ⟨p.kind, p.seq, p.Xbody, bq, p.cbody⟩) = ([], 12) := if_neg hri
        rw [he] at HEN
        have HGO : Hid (goods (ps.take (i + 1)) = goods (ps.take i)) := by show _ = _; rw [HTK.out, goods_snoc, HQ.out, if_neg hri, List.append_nil]
        clear he hri HQ HTK
        refine HEN.out.mono ?_
        rintro e w3 ⟨Y, cy, rfl, _, _, hb3⟩
        have HT3 : Hid (Three u9 u10 u11 (goods (ps.take (i + 1))) w w3) := by show Three _ _ _ _ _ _; rw [HGO.out]; exact HT2.out.below hb3
        clear hb3 HX2 HT2 HEN a0 a1 a2
        go_wp2_with fail
        go_roundw
        case rel => exact ⟨i + 1, by omega, by omega, by simp, HT3.out⟩
        case measure => simp [intOf]; omega
    · have hd : ((i : Int) < (ps.length : Int) ∧ ¬ ((i : Int) < 12)) ∨ (¬ ((i : Int) < (ps.length : Int)) ∧ decide ((i : Int) < (ps.length : Int)) = false) := by
        rcases Nat.lt_or_ge i ps.length with h | h
        · exact .inl ⟨by omega, by omega⟩
        · exact .inr ⟨by omega, by simp; omega⟩
      rcases hd with ⟨h1, h2⟩ | ⟨h1, h2⟩
      all_goals
        obtain ⟨gs, hgs⟩ : ∃ x, x = goods (ps.take i) := ⟨_, rfl⟩
        have HGA : Hid (∀ q ∈ gs, Right (recA q) ∧ q.body.length ≤ 80 ∧ Rd w q.Xbody q.body ∧ q.body.length ≤ q.cbody) := fun q hq => by
          rw [hgs] at hq
          obtain ⟨h1, h2, r, hr, rfl⟩ := goods_mem hq
          have hr2 := List.mem_of_mem_take hr
          obtain ⟨jj, hjj⟩ := List.getElem?_of_mem hr2
          obtain ⟨b, off, _, hok⟩ := HPS.out.plain (by have := (List.getElem?_eq_some_iff.1 hjj).1; omega)
          have hf := (hok jj r hjj).fit
          exact ⟨h1, h2, hf.rbody.take 80, by show (r.body.take 80).length ≤ r.cbody; rw [List.length_take]; have := hf.fbody; omega⟩
        have HGL : Hid (gs.length ≤ 12 ∧ (flat gs).length ≤ 1140) := by
          have h1 := goods_length (ps.take i)
          rw [← hgs, List.length_take] at h1
          have h2 := flat_length gs fun q hq => ⟨(HGA.out q hq).1, (HGA.out q hq).2.1⟩
          exact ⟨by omega, by omega⟩
        rw [← hgs] at HT
        clear hgs
        obtain ⟨A9, c9, rfl, hc9⟩ := HT.out.b.form
        obtain ⟨A10, c10, rfl, hc10⟩ := HT.out.r.form
        obtain ⟨A11, c11, rfl, hc11⟩ := HT.out.e.form
        have HC9 := Lib.hid hc9
        have HC10 := Lib.hid hc10
        have HC11 := Lib.hid hc11
        clear hc9 hc10 hc11
        go_wp2_with fail
        go_loopw [16, 17] (fun t16 t17 wr => ∃ j : Nat, j ≤ gs.length ∧ t17 = .int .i64 (j : Nat) ∧ t16 = .int .i64 ((flat (gs.take j)).length : Nat) ∧ Hid (Three (.slice A9 (flat gs).length c9) (.slice A10 gs.length c10) (.slice A11 gs.length c11) gs w wr)) (fun _ t17 _ => gs.length - (intOf t17).toNat)
        case atStart => exact ⟨0, Nat.zero_le _, rfl, rfl, HT.out⟩
        case round =>
          clear HT
          obtain ⟨j, hj, rfl, rfl, HT⟩ := hrel
          by_cases hjl : j < gs.length
          · have hjli : (j : Int) < (gs.length : Int) := by omega
            obtain ⟨q, hq⟩ : ∃ q, gs[j]? = some q := ⟨_, List.getElem?_eq_getElem hjl⟩
            have HQ := Lib.hid (HGA.out q (List.mem_of_getElem? hq))
            obtain ⟨fm, hfm⟩ : ∃ x, x = (flat (gs.take j)).length := ⟨_, rfl⟩
            have hsp := flat_split gs j q hq
            have hfq : (form (recA q)).length = 15 + q.body.length := form_length (by show q.body.length ≤ _; have := HQ.out.2.1; omega)
            obtain ⟨nx, hnx⟩ : ∃ x, x = (flat (gs.take (j + 1))).length := ⟨_, rfl⟩
            obtain ⟨sz, hsz⟩ : ∃ x, x = 15 + q.body.length := ⟨_, rfl⟩
            have hnx2 : nx = fm + sz := by rw [hnx, flat_take_succ gs j q hq, List.length_append, hfq, hfm, hsz]
            have hfrl : fm + sz ≤ (flat gs).length := by
              have := congrArg List.length hsp
              rw [List.length_append, List.length_append, hfq] at this
              omega
            obtain ⟨A', r, c', hsl, hrc, hrr, _, hrt, hrl⟩ := part_l A9 (flat gs) c9 fm (by omega) HC9.out
            have hreq : r = form (recA q) ++ flat (gs.drop (j + 1)) := by
              have h1 := hrt.out
              rw [hsp, hfm, List.take_left] at h1
              exact (List.append_cancel_left h1).symm
            have HDR : Hid (dec r = (recA q, sz, 0)) := by show _ = _; rw [hreq, dec_form _ HQ.out.1, hsz]; rfl
            obtain ⟨g11, rfl, _, hg11, hce⟩ := HT.out.e.addr (by omega)
            obtain ⟨g10, rfl, _, hg10, hcr⟩ := HT.out.r.addr (by omega)
            have HCE : Hid (wr.cell? ⟨g11, j, none⟩ = some (.int .i64 (nx : Nat))) := hce j _ (by unfold numC; rw [List.getElem?_map, ends_at gs j hjl, hnx]; rfl)
            have HCR : Hid (∀ k u, k < 3 → q.cells[k]? = some u → wr.cell? ⟨g10, j * 3 + k, none⟩ = some u) := fun k u hk hu => hcr _ _ (by rw [rcells_at gs j k q hq hk]; exact hu)
            have HRD : Hid (Rd wr A9 (flat gs)) := by
              obtain ⟨X9, k9, e9, _, h9⟩ := own_form HT.out.b.1
              injection e9 with e9
              subst e9
              exact h9
            have HRR : Hid (Rd wr A' r) := hrr.out wr HRD.out
            have HRL : Hid (r.length ≤ 1140) := by have := HGL.out.2; show _ ≤ _; omega
            have HRC : Hid (r.length ≤ c') := hrc
            have HFR : Hid (fm + sz = nx ∧ nx ≤ 1140 ∧ sz ≤ 1140) := by have := HGL.out.2; exact ⟨by omega, by omega, by omega⟩
            have HNXE : Hid (nx = (flat (gs.take (j + 1))).length) := hnx
            have HG11 : Hid (g11 < wr.heap.size) := hg11
            have HG10 : Hid (g10 < wr.heap.size) := hg10
            have HJL : Hid ((j : Int) < (gs.length : Int)) := hjli
            have HJ0 : Hid ((0 : Int) ≤ (j : Int)) := by show _ ≤ _; omega
            rw [← hfm]
            have hslr := hsl.out
            clear hsp hfq hnx hnx2 hfrl hsl hrc hrr hrt hrl hreq hg11 hg10 hce hcr hq hsz hfm HRD
            go_wp2_with fail
            clear hslr
            have HDE := Lib.hid (HDEC.out wr A' r c' HT.out.b.2 HRR.out HRC.out (by have := HRL.out; omega))
            unfold DAns at HDE
            rw [HDR.out] at HDE
            refine HDE.out.mono ?_
            rintro e w8 ⟨Z, cz, rfl, _, hz8, hb8⟩
            dsimp only at hz8 ⊢
            unfold val recA
            dsimp only
            obtain ⟨W9, hW9⟩ : ∃ W, W = w8.alloc (.cells #[.int .i64 q.kind, .int .u64 (q.seq : Nat), .slice Z q.body.length cz] 27) := ⟨_, rfl⟩
            obtain ⟨g18, hg18⟩ : ∃ x, x = w8.heap.size := ⟨_, rfl⟩
            have hb9 : Below w8.heap.size w8 W9 := by rw [hW9]; exact below_new w8 _
            have hbb : Below wr.heap.size wr W9 := Later.trans hb8 hb9
            have HG18 : Hid (Blk W9 g18 27 [.int .i64 q.kind, .int .u64 (q.seq : Nat), .slice Z q.body.length cz]) := by show Blk _ _ _ _; rw [hW9, hg18]; exact Blk.new w8 _ _
            have HZ9 : Hid (Rd W9 Z q.body) := (show Rd w8 Z q.body from hz8).below hb9
            have HT9 := Lib.hid (HT.out.below hbb)
            have HA9 : Hid (Rd W9 q.Xbody q.body) := HQ.out.2.2.1.below HT9.out.b.2
            have HE9 : Hid (W9.cell? ⟨g11, j, none⟩ = some (.int .i64 (nx : Nat))) := (hbb.cell (p := ⟨g11, j, none⟩) HG11.out).trans HCE.out
            have HC0 : Hid (W9.cell? ⟨g10, j * 3, none⟩ = some (.int .i64 q.kind)) := (hbb.cell (p := ⟨g10, j * 3, none⟩) HG10.out).trans (HCR.out 0 _ (by decide) rfl)
            have HC1 : Hid (W9.cell? ⟨g10, j * 3 + 1, none⟩ = some (.int .u64 (q.seq : Nat))) := (hbb.cell (p := ⟨g10, j * 3 + 1, none⟩) HG10.out).trans (HCR.out 1 _ (by decide) rfl)
            have HC2 : Hid (W9.cell? ⟨g10, j * 3 + 2, none⟩ = some (.slice q.Xbody q.body.length q.cbody)) := (hbb.cell (p := ⟨g10, j * 3 + 2, none⟩) HG10.out).trans (HCR.out 2 _ (by decide) rfl)
            have HG11 : Hid (g11 < W9.heap.size) := Nat.lt_of_lt_of_le HG11.out hbb.size
            have HG10 : Hid (g10 < W9.heap.size) := Nat.lt_of_lt_of_le HG10.out hbb.size
            have HNX : Hid (IntKind.i64.wrap ((fm : Int) + (sz : Int)) = ((nx : Nat) : Int)) := by have := HFR.out; show _ = _; rw [IntWalk.i64_in _ (by omega)]; omega
            have HSQ : Hid (((strOf q.body).toList == (strOf q.body).toList) = true) := by show _ = _; simp
            go_upto_region 21 with (fail)
            rw [← hW9, ← hg18]
            clear hW9 hg18 hb9 hbb hb8 hz8 HDE HT HCE HCR HRR
            refine Rc.wp_region (by kernel_rfl) (fun opn => List.getD [Rc.val (.int .i64 0), Rc.val (.bool false), Rc.val (.bool false), Rc.val (.int .i64 (fm : Nat)), Rc.val (.int .i64 (sz : Nat)), Rc.val (.int .i64 (nx : Nat)), Rc.val (.slice (some ⟨g11, 0, none⟩) gs.length c11), Rc.val (.int .i64 (j : Nat)), Rc.val (.pointer (some ⟨g11, j, none⟩)), Rc.val (.int .i64 (nx : Nat)), Rc.val (.bool false), Rc.val (.bool false), Rc.val (.bool false), Rc.val (.pointer (some ⟨g18, 0, none⟩)), Rc.val (.int .i64 q.kind), Rc.val (.slice (some ⟨g10, 0, none⟩) gs.length c10), Rc.val (.int .i64 (j : Nat)), Rc.val (.pointer (some ⟨g10, j * 3, none⟩)), Rc.val (.pointer (some ⟨g10, j * 3, none⟩)), Rc.val (.int .i64 q.kind), Rc.val (.bool false), Rc.val (.bool false), Rc.val (.bool false), Rc.val (.pointer (some ⟨g18, 1, none⟩)), Rc.val (.int .u64 (q.seq : Nat)), Rc.val (.slice (some ⟨g10, 0, none⟩) gs.length c10), Rc.val (.int .i64 (j : Nat)), Rc.val (.pointer (some ⟨g10, j * 3, none⟩)), Rc.val (.pointer (some ⟨g10, j * 3 + 1, none⟩)), Rc.val (.int .u64 (q.seq : Nat)), Rc.val (.bool false), Rc.val (.bool false), Rc.val (.bool false), Rc.val (.pointer (some ⟨g18, 2, none⟩)), Rc.val (.slice Z q.body.length cz), Rc.val (.string (strOf (q.body))), Rc.val (.slice (some ⟨g10, 0, none⟩) gs.length c10), Rc.val (.int .i64 (j : Nat)), Rc.val (.pointer (some ⟨g10, j * 3, none⟩)), Rc.val (.pointer (some ⟨g10, j * 3 + 2, none⟩)), Rc.val (.slice q.Xbody q.body.length q.cbody), Rc.val (.string (strOf (q.body))), Rc.val (.bool false), Rc.val (.bool false)] opn Rc.any) 0 [] [[], [(0, 80)], [(1, 81)], [(2, 82)], [(2, 82)], [(2, 82), (3, 83), (4, 84)], [(2, 82)], [(2, 82)], [(2, 82), (6, 86), (7, 87)], [(2, 82), (8, 88)], [(2, 82), (5, 85), (9, 89)], [(2, 82), (10, 90)], [(11, 91)], [(12, 92)], [(12, 92), (13, 93)], [(12, 92)], [(12, 92)], [(12, 92), (15, 95), (16, 96)], [(12, 92), (17, 97)], [(12, 92), (18, 98)], [(12, 92), (14, 94), (19, 99)], [(12, 92), (20, 100)], [(21, 101)], [(22, 102)], [(22, 102), (23, 103)], [(22, 102)], [(22, 102)], [(22, 102), (25, 105), (26, 106)], [(22, 102), (27, 107)], [(22, 102), (28, 108)], [(22, 102), (24, 104), (29, 109)], [(22, 102), (30, 110)], [(31, 111)], [(32, 112)], [(32, 112), (33, 113)], [(32, 112), (34, 114)], [(32, 112)], [(32, 112)], [(32, 112), (36, 116), (37, 117)], [(32, 112), (38, 118)], [(32, 112), (39, 119)], [(32, 112), (40, 120)], [(32, 112), (35, 115), (41, 121)], [(32, 112), (42, 122)]] [[], [0], [1], [2], [2], [2, 3, 4], [2], [2], [2, 6, 7], [2, 8], [2, 5, 9], [2, 10], [11], [12], [12, 13], [12], [12], [12, 15, 16], [12, 17], [12, 18], [12, 14, 19], [12, 20], [21], [22], [22, 23], [22], [22], [22, 25, 26], [22, 27], [22, 28], [22, 24, 29], [22, 30], [31], [32], [32, 33], [32, 34], [32], [32], [32, 36, 37], [32, 38], [32, 39], [32, 40], [32, 35, 41], [32, 42]] [[], [0], [1], [2], [2], [2, 3, 4], [2], [2], [2, 6, 7], [2, 8], [2, 5, 9], [2, 10], [11], [12], [12, 13], [12], [12], [12, 15, 16], [12, 17], [12, 18], [12, 14, 19], [12, 20], [21], [22], [22, 23], [22], [22], [22, 25, 26], [22, 27], [22, 28], [22, 24, 29], [22, 30], [31], [32], [32, 33], [32, 34], [32], [32], [32, 36, 37], [32, 38], [32, 39], [32, 40], [32, 35, 41], [32, 42]] [] (by kernel_rfl) (by rfl) (by kernel_rfl) (fun _ => False) (fun _ _ => False) Rc.Inv.none ?_ ?_
            · intro fr ha
              have hz : fr.tmps.size = 190 := by rw [ha]; rfl
              have y20 : fr.eval (.tmp 20) = .int .i64 0 := by rw [ha]; rfl
              have y16 : fr.eval (.tmp 16) = .int .i64 (fm : Nat) := by rw [ha]; rfl
              have y19 : fr.eval (.tmp 19) = .int .i64 (sz : Nat) := by rw [ha]; rfl
              have y11 : fr.eval (.tmp 11) = .slice (some ⟨g11, 0, none⟩) gs.length c11 := by rw [ha]; rfl
              have y17 : fr.eval (.tmp 17) = .int .i64 (j : Nat) := by rw [ha]; rfl
              have y18 : fr.eval (.tmp 18) = .pointer (some ⟨g18, 0, none⟩) := by rw [ha]; rfl
              have y10 : fr.eval (.tmp 10) = .slice (some ⟨g10, 0, none⟩) gs.length c10 := by rw [ha]; rfl
              clear ha
              refine .cons ?_ (.cons ?_ (.cons ?_ (.cons ?_ (.cons ?_ (.cons ?_ (.cons ?_ (.cons ?_ (.cons ?_ (.cons ?_ (.cons ?_ (.cons ?_ (.cons ?_ (.cons ?_ (.cons ?_ (.cons ?_ (.cons ?_ (.cons ?_ (.cons ?_ (.cons ?_ (.cons ?_ (.cons ?_ (.cons ?_ (.cons ?_ (.cons ?_ (.cons ?_ (.cons ?_ (.cons ?_ (.cons ?_ (.cons ?_ (.cons ?_ (.cons ?_ (.cons ?_ (.cons ?_ (.cons ?_ (.cons ?_ (.cons ?_ (.cons ?_ (.cons ?_ (.cons ?_ (.cons ?_ (.cons ?_ (.cons ?_ (.cons ?_ (.nil))))))))))))))))))))))))))))))))))))))))))))
              · intro V S w2 HM HU HE
                have lw : Below W9.heap.size W9 w2 := Rc.Mod.below HM (fun _ h => h.elim)
                have tb20 : (Rg.putUse V [] fr).eval (.tmp 20) = .int .i64 0 := (Rg.use_eval V fr 20 [] (by simp only [hz]; decide)).trans y20
                show Rg.Does1 _ _ V (Rg.putUse V [] fr) w2 _
                exact Ob.rc_mv (.int .i64 0) (by simp only [execOp, tb20]; go_simp) rfl rfl True.intro
              · intro V S w2 HM HU HE
                have lw : Below W9.heap.size W9 w2 := Rc.Mod.below HM (fun _ h => h.elim)
                have h0 : V 0 = .int .i64 0 := HU.holds 0 (by decide)
                have tb80 : (Rg.putUse V [(0, 80)] fr).eval (.tmp 80) = .int .i64 0 := (Rg.use_eval V fr 80 [(0, 80)] (by simp only [hz]; decide)).trans h0
                show Rg.Does1 _ _ V (Rg.putUse V [(0, 80)] fr) w2 _
                exact Ob.rc_mv (.bool false) (by simp only [execOp, tb80]; go_simp) rfl rfl True.intro
              · intro V S w2 HM HU HE
                have lw : Below W9.heap.size W9 w2 := Rc.Mod.below HM (fun _ h => h.elim)
                have h1 : V 1 = .bool false := HU.holds 1 (by decide)
                have tb81 : (Rg.putUse V [(1, 81)] fr).eval (.tmp 81) = .bool false := (Rg.use_eval V fr 81 [(1, 81)] (by simp only [hz]; decide)).trans h1
                show Rg.Does1 _ _ V (Rg.putUse V [(1, 81)] fr) w2 _
                exact Ob.rc_mv (.bool false) (by simp only [execOp, tb81]; go_simp) rfl rfl True.intro
              · intro V S w2 HM HU HE
                have lw : Below W9.heap.size W9 w2 := Rc.Mod.below HM (fun _ h => h.elim)
                have h2 : V 2 = .bool false := HU.holds 2 (by decide)
                have tb16 : (Rg.putUse V [(2, 82)] fr).eval (.tmp 16) = .int .i64 (fm : Nat) := (Rg.use_eval V fr 16 [(2, 82)] (by simp only [hz]; decide)).trans y16
                show Rg.Does1 _ _ V (Rg.putUse V [(2, 82)] fr) w2 _
                exact Ob.rc_mv (.int .i64 (fm : Nat)) (by simp only [execOp, tb16]; go_simp) rfl rfl h2
              · intro V S w2 HM HU HE
                have lw : Below W9.heap.size W9 w2 := Rc.Mod.below HM (fun _ h => h.elim)
                have h2 : V 2 = .bool false := HU.holds 2 (by decide)
                have tb19 : (Rg.putUse V [(2, 82)] fr).eval (.tmp 19) = .int .i64 (sz : Nat) := (Rg.use_eval V fr 19 [(2, 82)] (by simp only [hz]; decide)).trans y19
                show Rg.Does1 _ _ V (Rg.putUse V [(2, 82)] fr) w2 _
                exact Ob.rc_mv (.int .i64 (sz : Nat)) (by simp only [execOp, tb19]; go_simp) rfl rfl h2
              · intro V S w2 HM HU HE
                have lw : Below W9.heap.size W9 w2 := Rc.Mod.below HM (fun _ h => h.elim)
                have h2 : V 2 = .bool false := HU.holds 2 (by decide)
                have h3 : V 3 = .int .i64 (fm : Nat) := HU.holds 3 (by decide)
                have tb83 : (Rg.putUse V [(2, 82), (3, 83), (4, 84)] fr).eval (.tmp 83) = .int .i64 (fm : Nat) := (Rg.use_eval V fr 83 [(2, 82), (3, 83), (4, 84)] (by simp only [hz]; decide)).trans h3
                have h4 : V 4 = .int .i64 (sz : Nat) := HU.holds 4 (by decide)
                have tb84 : (Rg.putUse V [(2, 82), (3, 83), (4, 84)] fr).eval (.tmp 84) = .int .i64 (sz : Nat) := (Rg.use_eval V fr 84 [(2, 82), (3, 83), (4, 84)] (by simp only [hz]; decide)).trans h4
                show Rg.Does1 _ _ V (Rg.putUse V [(2, 82), (3, 83), (4, 84)] fr) w2 _
                have hnx := HNX.out
                exact Ob.rc_mv (.int .i64 (nx : Nat)) (by simp only [execOp, tb83, tb84]; go_simp) rfl rfl h2
              · intro V S w2 HM HU HE
                have lw : Below W9.heap.size W9 w2 := Rc.Mod.below HM (fun _ h => h.elim)
                have h2 : V 2 = .bool false := HU.holds 2 (by decide)
                have tb11 : (Rg.putUse V [(2, 82)] fr).eval (.tmp 11) = .slice (some ⟨g11, 0, none⟩) gs.length c11 := (Rg.use_eval V fr 11 [(2, 82)] (by simp only [hz]; decide)).trans y11
                show Rg.Does1 _ _ V (Rg.putUse V [(2, 82)] fr) w2 _
                exact Ob.rc_mv (.slice (some ⟨g11, 0, none⟩) gs.length c11) (by simp only [execOp, tb11]; go_simp) rfl rfl h2
              · intro V S w2 HM HU HE
                have lw : Below W9.heap.size W9 w2 := Rc.Mod.below HM (fun _ h => h.elim)
                have h2 : V 2 = .bool false := HU.holds 2 (by decide)
                have tb17 : (Rg.putUse V [(2, 82)] fr).eval (.tmp 17) = .int .i64 (j : Nat) := (Rg.use_eval V fr 17 [(2, 82)] (by simp only [hz]; decide)).trans y17
                show Rg.Does1 _ _ V (Rg.putUse V [(2, 82)] fr) w2 _
                exact Ob.rc_mv (.int .i64 (j : Nat)) (by simp only [execOp, tb17]; go_simp) rfl rfl h2
              · intro V S w2 HM HU HE
                have lw : Below W9.heap.size W9 w2 := Rc.Mod.below HM (fun _ h => h.elim)
                have h2 : V 2 = .bool false := HU.holds 2 (by decide)
                have h6 : V 6 = .slice (some ⟨g11, 0, none⟩) gs.length c11 := HU.holds 6 (by decide)
                have tb86 : (Rg.putUse V [(2, 82), (6, 86), (7, 87)] fr).eval (.tmp 86) = .slice (some ⟨g11, 0, none⟩) gs.length c11 := (Rg.use_eval V fr 86 [(2, 82), (6, 86), (7, 87)] (by simp only [hz]; decide)).trans h6
                have h7 : V 7 = .int .i64 (j : Nat) := HU.holds 7 (by decide)
                have tb87 : (Rg.putUse V [(2, 82), (6, 86), (7, 87)] fr).eval (.tmp 87) = .int .i64 (j : Nat) := (Rg.use_eval V fr 87 [(2, 82), (6, 86), (7, 87)] (by simp only [hz]; decide)).trans h7
                show Rg.Does1 _ _ V (Rg.putUse V [(2, 82), (6, 86), (7, 87)] fr) w2 _
                have hjl2 := HJL.out
                have hj0 := HJ0.out
                exact Ob.rc_mv (.pointer (some ⟨g11, j, none⟩)) (by simp only [execOp, tb86, tb87]; go_simp) rfl rfl h2
              · intro V S w2 HM HU HE
                have lw : Below W9.heap.size W9 w2 := Rc.Mod.below HM (fun _ h => h.elim)
                have h2 : V 2 = .bool false := HU.holds 2 (by decide)
                have h8 : V 8 = .pointer (some ⟨g11, j, none⟩) := HU.holds 8 (by decide)
                have tb88 : (Rg.putUse V [(2, 82), (8, 88)] fr).eval (.tmp 88) = .pointer (some ⟨g11, j, none⟩) := (Rg.use_eval V fr 88 [(2, 82), (8, 88)] (by simp only [hz]; decide)).trans h8
                show Rg.Does1 _ _ V (Rg.putUse V [(2, 82), (8, 88)] fr) w2 _
                have cl := (lw.cell (p := ⟨g11, j, none⟩) HG11.out).trans HE9.out
                exact Ob.rc_mv (.int .i64 (nx : Nat)) (by simp only [execOp, tb88]; go_simp) rfl rfl h2
              · intro V S w2 HM HU HE
                have lw : Below W9.heap.size W9 w2 := Rc.Mod.below HM (fun _ h => h.elim)
                have h2 : V 2 = .bool false := HU.holds 2 (by decide)
                have h5 : V 5 = .int .i64 (nx : Nat) := HU.holds 5 (by decide)
                have tb85 : (Rg.putUse V [(2, 82), (5, 85), (9, 89)] fr).eval (.tmp 85) = .int .i64 (nx : Nat) := (Rg.use_eval V fr 85 [(2, 82), (5, 85), (9, 89)] (by simp only [hz]; decide)).trans h5
                have h9 : V 9 = .int .i64 (nx : Nat) := HU.holds 9 (by decide)
                have tb89 : (Rg.putUse V [(2, 82), (5, 85), (9, 89)] fr).eval (.tmp 89) = .int .i64 (nx : Nat) := (Rg.use_eval V fr 89 [(2, 82), (5, 85), (9, 89)] (by simp only [hz]; decide)).trans h9
                show Rg.Does1 _ _ V (Rg.putUse V [(2, 82), (5, 85), (9, 89)] fr) w2 _
                exact Ob.rc_mv (.bool false) (by simp only [execOp, tb85, tb89]; go_simp) rfl rfl h2
              · intro V S w2 HM HU HE
                have lw : Below W9.heap.size W9 w2 := Rc.Mod.below HM (fun _ h => h.elim)
                have h2 : V 2 = .bool false := HU.holds 2 (by decide)
                have tb82 : (Rg.putUse V [(2, 82), (10, 90)] fr).eval (.tmp 82) = .bool false := (Rg.use_eval V fr 82 [(2, 82), (10, 90)] (by simp only [hz]; decide)).trans h2
                have h10 : V 10 = .bool false := HU.holds 10 (by decide)
                have tb90 : (Rg.putUse V [(2, 82), (10, 90)] fr).eval (.tmp 90) = .bool false := (Rg.use_eval V fr 90 [(2, 82), (10, 90)] (by simp only [hz]; decide)).trans h10
                show Rg.Does1 _ _ V (Rg.putUse V [(2, 82), (10, 90)] fr) w2 _
                exact Ob.rc_mv (.bool false) (by simp only [execOp, tb82, tb90]; go_simp) rfl rfl True.intro
              · intro V S w2 HM HU HE
                have lw : Below W9.heap.size W9 w2 := Rc.Mod.below HM (fun _ h => h.elim)
                have h11 : V 11 = .bool false := HU.holds 11 (by decide)
                have tb91 : (Rg.putUse V [(11, 91)] fr).eval (.tmp 91) = .bool false := (Rg.use_eval V fr 91 [(11, 91)] (by simp only [hz]; decide)).trans h11
                show Rg.Does1 _ _ V (Rg.putUse V [(11, 91)] fr) w2 _
                exact Ob.rc_mv (.bool false) (by simp only [execOp, tb91]; go_simp) rfl rfl True.intro
              · intro V S w2 HM HU HE
                have lw : Below W9.heap.size W9 w2 := Rc.Mod.below HM (fun _ h => h.elim)
                have h12 : V 12 = .bool false := HU.holds 12 (by decide)
                have tb18 : (Rg.putUse V [(12, 92)] fr).eval (.tmp 18) = .pointer (some ⟨g18, 0, none⟩) := (Rg.use_eval V fr 18 [(12, 92)] (by simp only [hz]; decide)).trans y18
                show Rg.Does1 _ _ V (Rg.putUse V [(12, 92)] fr) w2 _
                exact Ob.rc_mv (.pointer (some ⟨g18, 0, none⟩)) (by simp only [execOp, tb18]; go_simp) rfl rfl h12
              · intro V S w2 HM HU HE
                have lw : Below W9.heap.size W9 w2 := Rc.Mod.below HM (fun _ h => h.elim)
                have h12 : V 12 = .bool false := HU.holds 12 (by decide)
                have h13 : V 13 = .pointer (some ⟨g18, 0, none⟩) := HU.holds 13 (by decide)
                have tb93 : (Rg.putUse V [(12, 92), (13, 93)] fr).eval (.tmp 93) = .pointer (some ⟨g18, 0, none⟩) := (Rg.use_eval V fr 93 [(12, 92), (13, 93)] (by simp only [hz]; decide)).trans h13
                show Rg.Does1 _ _ V (Rg.putUse V [(12, 92), (13, 93)] fr) w2 _
                have cl := (lw.cell (p := ⟨g18, 0, none⟩) HG18.out.lt).trans (HG18.out.cell 0)
                exact Ob.rc_mv (.int .i64 q.kind) (by simp only [execOp, tb93]; go_simp) rfl rfl h12
              · intro V S w2 HM HU HE
                have lw : Below W9.heap.size W9 w2 := Rc.Mod.below HM (fun _ h => h.elim)
                have h12 : V 12 = .bool false := HU.holds 12 (by decide)
                have tb10 : (Rg.putUse V [(12, 92)] fr).eval (.tmp 10) = .slice (some ⟨g10, 0, none⟩) gs.length c10 := (Rg.use_eval V fr 10 [(12, 92)] (by simp only [hz]; decide)).trans y10
                show Rg.Does1 _ _ V (Rg.putUse V [(12, 92)] fr) w2 _
                exact Ob.rc_mv (.slice (some ⟨g10, 0, none⟩) gs.length c10) (by simp only [execOp, tb10]; go_simp) rfl rfl h12
              · intro V S w2 HM HU HE
                have lw : Below W9.heap.size W9 w2 := Rc.Mod.below HM (fun _ h => h.elim)
                have h12 : V 12 = .bool false := HU.holds 12 (by decide)
                have tb17 : (Rg.putUse V [(12, 92)] fr).eval (.tmp 17) = .int .i64 (j : Nat) := (Rg.use_eval V fr 17 [(12, 92)] (by simp only [hz]; decide)).trans y17
                show Rg.Does1 _ _ V (Rg.putUse V [(12, 92)] fr) w2 _
                exact Ob.rc_mv (.int .i64 (j : Nat)) (by simp only [execOp, tb17]; go_simp) rfl rfl h12
              · intro V S w2 HM HU HE
                have lw : Below W9.heap.size W9 w2 := Rc.Mod.below HM (fun _ h => h.elim)
                have h12 : V 12 = .bool false := HU.holds 12 (by decide)
                have h15 : V 15 = .slice (some ⟨g10, 0, none⟩) gs.length c10 := HU.holds 15 (by decide)
                have tb95 : (Rg.putUse V [(12, 92), (15, 95), (16, 96)] fr).eval (.tmp 95) = .slice (some ⟨g10, 0, none⟩) gs.length c10 := (Rg.use_eval V fr 95 [(12, 92), (15, 95), (16, 96)] (by simp only [hz]; decide)).trans h15
                have h16 : V 16 = .int .i64 (j : Nat) := HU.holds 16 (by decide)
                have tb96 : (Rg.putUse V [(12, 92), (15, 95), (16, 96)] fr).eval (.tmp 96) = .int .i64 (j : Nat) := (Rg.use_eval V fr 96 [(12, 92), (15, 95), (16, 96)] (by simp only [hz]; decide)).trans h16
                show Rg.Does1 _ _ V (Rg.putUse V [(12, 92), (15, 95), (16, 96)] fr) w2 _
                have hjl2 := HJL.out
                have hj0 := HJ0.out
                exact Ob.rc_mv (.pointer (some ⟨g10, j * 3, none⟩)) (by simp only [execOp, tb95, tb96]; go_simp) rfl rfl h12
              · intro V S w2 HM HU HE
                have lw : Below W9.heap.size W9 w2 := Rc.Mod.below HM (fun _ h => h.elim)
                have h12 : V 12 = .bool false := HU.holds 12 (by decide)
                have h17 : V 17 = .pointer (some ⟨g10, j * 3, none⟩) := HU.holds 17 (by decide)
                have tb97 : (Rg.putUse V [(12, 92), (17, 97)] fr).eval (.tmp 97) = .pointer (some ⟨g10, j * 3, none⟩) := (Rg.use_eval V fr 97 [(12, 92), (17, 97)] (by simp only [hz]; decide)).trans h17
                show Rg.Does1 _ _ V (Rg.putUse V [(12, 92), (17, 97)] fr) w2 _
                exact Ob.rc_mv (.pointer (some ⟨g10, j * 3, none⟩)) (by simp only [execOp, tb97]; go_simp) rfl rfl h12
              · intro V S w2 HM HU HE
                have lw : Below W9.heap.size W9 w2 := Rc.Mod.below HM (fun _ h => h.elim)
                have h12 : V 12 = .bool false := HU.holds 12 (by decide)
                have h18 : V 18 = .pointer (some ⟨g10, j * 3, none⟩) := HU.holds 18 (by decide)
                have tb98 : (Rg.putUse V [(12, 92), (18, 98)] fr).eval (.tmp 98) = .pointer (some ⟨g10, j * 3, none⟩) := (Rg.use_eval V fr 98 [(12, 92), (18, 98)] (by simp only [hz]; decide)).trans h18
                show Rg.Does1 _ _ V (Rg.putUse V [(12, 92), (18, 98)] fr) w2 _
                have cl := (lw.cell (p := ⟨g10, j * 3, none⟩) HG10.out).trans HC0.out
                exact Ob.rc_mv (.int .i64 q.kind) (by simp only [execOp, tb98]; go_simp) rfl rfl h12
              · intro V S w2 HM HU HE
                have lw : Below W9.heap.size W9 w2 := Rc.Mod.below HM (fun _ h => h.elim)
                have h12 : V 12 = .bool false := HU.holds 12 (by decide)
                have h14 : V 14 = .int .i64 q.kind := HU.holds 14 (by decide)
                have tb94 : (Rg.putUse V [(12, 92), (14, 94), (19, 99)] fr).eval (.tmp 94) = .int .i64 q.kind := (Rg.use_eval V fr 94 [(12, 92), (14, 94), (19, 99)] (by simp only [hz]; decide)).trans h14
                have h19 : V 19 = .int .i64 q.kind := HU.holds 19 (by decide)
                have tb99 : (Rg.putUse V [(12, 92), (14, 94), (19, 99)] fr).eval (.tmp 99) = .int .i64 q.kind := (Rg.use_eval V fr 99 [(12, 92), (14, 94), (19, 99)] (by simp only [hz]; decide)).trans h19
                show Rg.Does1 _ _ V (Rg.putUse V [(12, 92), (14, 94), (19, 99)] fr) w2 _
                exact Ob.rc_mv (.bool false) (by simp only [execOp, tb94, tb99]; go_simp) rfl rfl h12
              · intro V S w2 HM HU HE
                have lw : Below W9.heap.size W9 w2 := Rc.Mod.below HM (fun _ h => h.elim)
                have h12 : V 12 = .bool false := HU.holds 12 (by decide)
                have tb92 : (Rg.putUse V [(12, 92), (20, 100)] fr).eval (.tmp 92) = .bool false := (Rg.use_eval V fr 92 [(12, 92), (20, 100)] (by simp only [hz]; decide)).trans h12
                have h20 : V 20 = .bool false := HU.holds 20 (by decide)
                have tb100 : (Rg.putUse V [(12, 92), (20, 100)] fr).eval (.tmp 100) = .bool false := (Rg.use_eval V fr 100 [(12, 92), (20, 100)] (by simp only [hz]; decide)).trans h20
                show Rg.Does1 _ _ V (Rg.putUse V [(12, 92), (20, 100)] fr) w2 _
                exact Ob.rc_mv (.bool false) (by simp only [execOp, tb92, tb100]; go_simp) rfl rfl True.intro
              · intro V S w2 HM HU HE
                have lw : Below W9.heap.size W9 w2 := Rc.Mod.below HM (fun _ h => h.elim)
                have h21 : V 21 = .bool false := HU.holds 21 (by decide)
                have tb101 : (Rg.putUse V [(21, 101)] fr).eval (.tmp 101) = .bool false := (Rg.use_eval V fr 101 [(21, 101)] (by simp only [hz]; decide)).trans h21
                show Rg.Does1 _ _ V (Rg.putUse V [(21, 101)] fr) w2 _
                exact Ob.rc_mv (.bool false) (by simp only [execOp, tb101]; go_simp) rfl rfl True.intro
              · intro V S w2 HM HU HE
                have lw : Below W9.heap.size W9 w2 := Rc.Mod.below HM (fun _ h => h.elim)
                have h22 : V 22 = .bool false := HU.holds 22 (by decide)
                have tb18 : (Rg.putUse V [(22, 102)] fr).eval (.tmp 18) = .pointer (some ⟨g18, 0, none⟩) := (Rg.use_eval V fr 18 [(22, 102)] (by simp only [hz]; decide)).trans y18
                show Rg.Does1 _ _ V (Rg.putUse V [(22, 102)] fr) w2 _
                exact Ob.rc_mv (.pointer (some ⟨g18, 1, none⟩)) (by simp only [execOp, tb18]; go_simp) rfl rfl h22
              · intro V S w2 HM HU HE
                have lw : Below W9.heap.size W9 w2 := Rc.Mod.below HM (fun _ h => h.elim)
                have h22 : V 22 = .bool false := HU.holds 22 (by decide)
                have h23 : V 23 = .pointer (some ⟨g18, 1, none⟩) := HU.holds 23 (by decide)
                have tb103 : (Rg.putUse V [(22, 102), (23, 103)] fr).eval (.tmp 103) = .pointer (some ⟨g18, 1, none⟩) := (Rg.use_eval V fr 103 [(22, 102), (23, 103)] (by simp only [hz]; decide)).trans h23
                show Rg.Does1 _ _ V (Rg.putUse V [(22, 102), (23, 103)] fr) w2 _
                have cl := (lw.cell (p := ⟨g18, 1, none⟩) HG18.out.lt).trans (HG18.out.cell 1)
                exact Ob.rc_mv (.int .u64 (q.seq : Nat)) (by simp only [execOp, tb103]; go_simp) rfl rfl h22
              · intro V S w2 HM HU HE
                have lw : Below W9.heap.size W9 w2 := Rc.Mod.below HM (fun _ h => h.elim)
                have h22 : V 22 = .bool false := HU.holds 22 (by decide)
                have tb10 : (Rg.putUse V [(22, 102)] fr).eval (.tmp 10) = .slice (some ⟨g10, 0, none⟩) gs.length c10 := (Rg.use_eval V fr 10 [(22, 102)] (by simp only [hz]; decide)).trans y10
                show Rg.Does1 _ _ V (Rg.putUse V [(22, 102)] fr) w2 _
                exact Ob.rc_mv (.slice (some ⟨g10, 0, none⟩) gs.length c10) (by simp only [execOp, tb10]; go_simp) rfl rfl h22
              · intro V S w2 HM HU HE
                have lw : Below W9.heap.size W9 w2 := Rc.Mod.below HM (fun _ h => h.elim)
                have h22 : V 22 = .bool false := HU.holds 22 (by decide)
                have tb17 : (Rg.putUse V [(22, 102)] fr).eval (.tmp 17) = .int .i64 (j : Nat) := (Rg.use_eval V fr 17 [(22, 102)] (by simp only [hz]; decide)).trans y17
                show Rg.Does1 _ _ V (Rg.putUse V [(22, 102)] fr) w2 _
                exact Ob.rc_mv (.int .i64 (j : Nat)) (by simp only [execOp, tb17]; go_simp) rfl rfl h22
              · intro V S w2 HM HU HE
                have lw : Below W9.heap.size W9 w2 := Rc.Mod.below HM (fun _ h => h.elim)
                have h22 : V 22 = .bool false := HU.holds 22 (by decide)
                have h25 : V 25 = .slice (some ⟨g10, 0, none⟩) gs.length c10 := HU.holds 25 (by decide)
                have tb105 : (Rg.putUse V [(22, 102), (25, 105), (26, 106)] fr).eval (.tmp 105) = .slice (some ⟨g10, 0, none⟩) gs.length c10 := (Rg.use_eval V fr 105 [(22, 102), (25, 105), (26, 106)] (by simp only [hz]; decide)).trans h25
                have h26 : V 26 = .int .i64 (j : Nat) := HU.holds 26 (by decide)
                have tb106 : (Rg.putUse V [(22, 102), (25, 105), (26, 106)] fr).eval (.tmp 106) = .int .i64 (j : Nat) := (Rg.use_eval V fr 106 [(22, 102), (25, 105), (26, 106)] (by simp only [hz]; decide)).trans h26
                show Rg.Does1 _ _ V (Rg.putUse V [(22, 102), (25, 105), (26, 106)] fr) w2 _
                have hjl2 := HJL.out
                have hj0 := HJ0.out
                exact Ob.rc_mv (.pointer (some ⟨g10, j * 3, none⟩)) (by simp only [execOp, tb105, tb106]; go_simp) rfl rfl h22
              · intro V S w2 HM HU HE
                have lw : Below W9.heap.size W9 w2 := Rc.Mod.below HM (fun _ h => h.elim)
                have h22 : V 22 = .bool false := HU.holds 22 (by decide)
                have h27 : V 27 = .pointer (some ⟨g10, j * 3, none⟩) := HU.holds 27 (by decide)
                have tb107 : (Rg.putUse V [(22, 102), (27, 107)] fr).eval (.tmp 107) = .pointer (some ⟨g10, j * 3, none⟩) := (Rg.use_eval V fr 107 [(22, 102), (27, 107)] (by simp only [hz]; decide)).trans h27
                show Rg.Does1 _ _ V (Rg.putUse V [(22, 102), (27, 107)] fr) w2 _
                exact Ob.rc_mv (.pointer (some ⟨g10, j * 3 + 1, none⟩)) (by simp only [execOp, tb107]; go_simp) rfl rfl h22
              · intro V S w2 HM HU HE
                have lw : Below W9.heap.size W9 w2 := Rc.Mod.below HM (fun _ h => h.elim)
                have h22 : V 22 = .bool false := HU.holds 22 (by decide)
                have h28 : V 28 = .pointer (some ⟨g10, j * 3 + 1, none⟩) := HU.holds 28 (by decide)
                have tb108 : (Rg.putUse V [(22, 102), (28, 108)] fr).eval (.tmp 108) = .pointer (some ⟨g10, j * 3 + 1, none⟩) := (Rg.use_eval V fr 108 [(22, 102), (28, 108)] (by simp only [hz]; decide)).trans h28
                show Rg.Does1 _ _ V (Rg.putUse V [(22, 102), (28, 108)] fr) w2 _
                have cl := (lw.cell (p := ⟨g10, j * 3 + 1, none⟩) HG10.out).trans HC1.out
                exact Ob.rc_mv (.int .u64 (q.seq : Nat)) (by simp only [execOp, tb108]; go_simp) rfl rfl h22
              · intro V S w2 HM HU HE
                have lw : Below W9.heap.size W9 w2 := Rc.Mod.below HM (fun _ h => h.elim)
                have h22 : V 22 = .bool false := HU.holds 22 (by decide)
                have h24 : V 24 = .int .u64 (q.seq : Nat) := HU.holds 24 (by decide)
                have tb104 : (Rg.putUse V [(22, 102), (24, 104), (29, 109)] fr).eval (.tmp 104) = .int .u64 (q.seq : Nat) := (Rg.use_eval V fr 104 [(22, 102), (24, 104), (29, 109)] (by simp only [hz]; decide)).trans h24
                have h29 : V 29 = .int .u64 (q.seq : Nat) := HU.holds 29 (by decide)
                have tb109 : (Rg.putUse V [(22, 102), (24, 104), (29, 109)] fr).eval (.tmp 109) = .int .u64 (q.seq : Nat) := (Rg.use_eval V fr 109 [(22, 102), (24, 104), (29, 109)] (by simp only [hz]; decide)).trans h29
                show Rg.Does1 _ _ V (Rg.putUse V [(22, 102), (24, 104), (29, 109)] fr) w2 _
                exact Ob.rc_mv (.bool false) (by simp only [execOp, tb104, tb109]; go_simp) rfl rfl h22
              · intro V S w2 HM HU HE
                have lw : Below W9.heap.size W9 w2 := Rc.Mod.below HM (fun _ h => h.elim)
                have h22 : V 22 = .bool false := HU.holds 22 (by decide)
                have tb102 : (Rg.putUse V [(22, 102), (30, 110)] fr).eval (.tmp 102) = .bool false := (Rg.use_eval V fr 102 [(22, 102), (30, 110)] (by simp only [hz]; decide)).trans h22
                have h30 : V 30 = .bool false := HU.holds 30 (by decide)
                have tb110 : (Rg.putUse V [(22, 102), (30, 110)] fr).eval (.tmp 110) = .bool false := (Rg.use_eval V fr 110 [(22, 102), (30, 110)] (by simp only [hz]; decide)).trans h30
                show Rg.Does1 _ _ V (Rg.putUse V [(22, 102), (30, 110)] fr) w2 _
                exact Ob.rc_mv (.bool false) (by simp only [execOp, tb102, tb110]; go_simp) rfl rfl True.intro
              · intro V S w2 HM HU HE
                have lw : Below W9.heap.size W9 w2 := Rc.Mod.below HM (fun _ h => h.elim)
                have h31 : V 31 = .bool false := HU.holds 31 (by decide)
                have tb111 : (Rg.putUse V [(31, 111)] fr).eval (.tmp 111) = .bool false := (Rg.use_eval V fr 111 [(31, 111)] (by simp only [hz]; decide)).trans h31
                show Rg.Does1 _ _ V (Rg.putUse V [(31, 111)] fr) w2 _
                exact Ob.rc_mv (.bool false) (by simp only [execOp, tb111]; go_simp) rfl rfl True.intro
              · intro V S w2 HM HU HE
                have lw : Below W9.heap.size W9 w2 := Rc.Mod.below HM (fun _ h => h.elim)
                have h32 : V 32 = .bool false := HU.holds 32 (by decide)
                have tb18 : (Rg.putUse V [(32, 112)] fr).eval (.tmp 18) = .pointer (some ⟨g18, 0, none⟩) := (Rg.use_eval V fr 18 [(32, 112)] (by simp only [hz]; decide)).trans y18
                show Rg.Does1 _ _ V (Rg.putUse V [(32, 112)] fr) w2 _
                exact Ob.rc_mv (.pointer (some ⟨g18, 2, none⟩)) (by simp only [execOp, tb18]; go_simp) rfl rfl h32
              · intro V S w2 HM HU HE
                have lw : Below W9.heap.size W9 w2 := Rc.Mod.below HM (fun _ h => h.elim)
                have h32 : V 32 = .bool false := HU.holds 32 (by decide)
                have h33 : V 33 = .pointer (some ⟨g18, 2, none⟩) := HU.holds 33 (by decide)
                have tb113 : (Rg.putUse V [(32, 112), (33, 113)] fr).eval (.tmp 113) = .pointer (some ⟨g18, 2, none⟩) := (Rg.use_eval V fr 113 [(32, 112), (33, 113)] (by simp only [hz]; decide)).trans h33
                show Rg.Does1 _ _ V (Rg.putUse V [(32, 112), (33, 113)] fr) w2 _
                have cl := (lw.cell (p := ⟨g18, 2, none⟩) HG18.out.lt).trans (HG18.out.cell 2)
                exact Ob.rc_mv (.slice Z q.body.length cz) (by simp only [execOp, tb113]; go_simp) rfl rfl h32
              · intro V S w2 HM HU HE
                have lw : Below W9.heap.size W9 w2 := Rc.Mod.below HM (fun _ h => h.elim)
                have h32 : V 32 = .bool false := HU.holds 32 (by decide)
                have h34 : V 34 = .slice Z q.body.length cz := HU.holds 34 (by decide)
                have tb114 : (Rg.putUse V [(32, 112), (34, 114)] fr).eval (.tmp 114) = .slice Z q.body.length cz := (Rg.use_eval V fr 114 [(32, 112), (34, 114)] (by simp only [hz]; decide)).trans h34
                show Rg.Does1 _ _ V (Rg.putUse V [(32, 112), (34, 114)] fr) w2 _
                exact Ob.rc_str (q.body) rfl tb114 (by first | rfl | simp) (HZ9.out.below lw) rfl rfl h32
              · intro V S w2 HM HU HE
                have lw : Below W9.heap.size W9 w2 := Rc.Mod.below HM (fun _ h => h.elim)
                have h32 : V 32 = .bool false := HU.holds 32 (by decide)
                have tb10 : (Rg.putUse V [(32, 112)] fr).eval (.tmp 10) = .slice (some ⟨g10, 0, none⟩) gs.length c10 := (Rg.use_eval V fr 10 [(32, 112)] (by simp only [hz]; decide)).trans y10
                show Rg.Does1 _ _ V (Rg.putUse V [(32, 112)] fr) w2 _
                exact Ob.rc_mv (.slice (some ⟨g10, 0, none⟩) gs.length c10) (by simp only [execOp, tb10]; go_simp) rfl rfl h32
              · intro V S w2 HM HU HE
                have lw : Below W9.heap.size W9 w2 := Rc.Mod.below HM (fun _ h => h.elim)
                have h32 : V 32 = .bool false := HU.holds 32 (by decide)
                have tb17 : (Rg.putUse V [(32, 112)] fr).eval (.tmp 17) = .int .i64 (j : Nat) := (Rg.use_eval V fr 17 [(32, 112)] (by simp only [hz]; decide)).trans y17
                show Rg.Does1 _ _ V (Rg.putUse V [(32, 112)] fr) w2 _
                exact Ob.rc_mv (.int .i64 (j : Nat)) (by simp only [execOp, tb17]; go_simp) rfl rfl h32
              · intro V S w2 HM HU HE
                have lw : Below W9.heap.size W9 w2 := Rc.Mod.below HM (fun _ h => h.elim)
                have h32 : V 32 = .bool false := HU.holds 32 (by decide)
                have h36 : V 36 = .slice (some ⟨g10, 0, none⟩) gs.length c10 := HU.holds 36 (by decide)
                have tb116 : (Rg.putUse V [(32, 112), (36, 116), (37, 117)] fr).eval (.tmp 116) = .slice (some ⟨g10, 0, none⟩) gs.length c10 := (Rg.use_eval V fr 116 [(32, 112), (36, 116), (37, 117)] (by simp only [hz]; decide)).trans h36
                have h37 : V 37 = .int .i64 (j : Nat) := HU.holds 37 (by decide)
                have tb117 : (Rg.putUse V [(32, 112), (36, 116), (37, 117)] fr).eval (.tmp 117) = .int .i64 (j : Nat) := (Rg.use_eval V fr 117 [(32, 112), (36, 116), (37, 117)] (by simp only [hz]; decide)).trans h37
                show Rg.Does1 _ _ V (Rg.putUse V [(32, 112), (36, 116), (37, 117)] fr) w2 _
                have hjl2 := HJL.out
                have hj0 := HJ0.out
                exact Ob.rc_mv (.pointer (some ⟨g10, j * 3, none⟩)) (by simp only [execOp, tb116, tb117]; go_simp) rfl rfl h32
              · intro V S w2 HM HU HE
                have lw : Below W9.heap.size W9 w2 := Rc.Mod.below HM (fun _ h => h.elim)
                have h32 : V 32 = .bool false := HU.holds 32 (by decide)
                have h38 : V 38 = .pointer (some ⟨g10, j * 3, none⟩) := HU.holds 38 (by decide)
                have tb118 : (Rg.putUse V [(32, 112), (38, 118)] fr).eval (.tmp 118) = .pointer (some ⟨g10, j * 3, none⟩) := (Rg.use_eval V fr 118 [(32, 112), (38, 118)] (by simp only [hz]; decide)).trans h38
                show Rg.Does1 _ _ V (Rg.putUse V [(32, 112), (38, 118)] fr) w2 _
                exact Ob.rc_mv (.pointer (some ⟨g10, j * 3 + 2, none⟩)) (by simp only [execOp, tb118]; go_simp) rfl rfl h32
              · intro V S w2 HM HU HE
                have lw : Below W9.heap.size W9 w2 := Rc.Mod.below HM (fun _ h => h.elim)
                have h32 : V 32 = .bool false := HU.holds 32 (by decide)
                have h39 : V 39 = .pointer (some ⟨g10, j * 3 + 2, none⟩) := HU.holds 39 (by decide)
                have tb119 : (Rg.putUse V [(32, 112), (39, 119)] fr).eval (.tmp 119) = .pointer (some ⟨g10, j * 3 + 2, none⟩) := (Rg.use_eval V fr 119 [(32, 112), (39, 119)] (by simp only [hz]; decide)).trans h39
                show Rg.Does1 _ _ V (Rg.putUse V [(32, 112), (39, 119)] fr) w2 _
                have cl := (lw.cell (p := ⟨g10, j * 3 + 2, none⟩) HG10.out).trans HC2.out
                exact Ob.rc_mv (.slice q.Xbody q.body.length q.cbody) (by simp only [execOp, tb119]; go_simp) rfl rfl h32
              · intro V S w2 HM HU HE
                have lw : Below W9.heap.size W9 w2 := Rc.Mod.below HM (fun _ h => h.elim)
                have h32 : V 32 = .bool false := HU.holds 32 (by decide)
                have h40 : V 40 = .slice q.Xbody q.body.length q.cbody := HU.holds 40 (by decide)
                have tb120 : (Rg.putUse V [(32, 112), (40, 120)] fr).eval (.tmp 120) = .slice q.Xbody q.body.length q.cbody := (Rg.use_eval V fr 120 [(32, 112), (40, 120)] (by simp only [hz]; decide)).trans h40
                show Rg.Does1 _ _ V (Rg.putUse V [(32, 112), (40, 120)] fr) w2 _
                exact Ob.rc_str (q.body) rfl tb120 (by first | rfl | simp) (HA9.out.below lw) rfl rfl h32
              · intro V S w2 HM HU HE
                have lw : Below W9.heap.size W9 w2 := Rc.Mod.below HM (fun _ h => h.elim)
                have h32 : V 32 = .bool false := HU.holds 32 (by decide)
                have h35 : V 35 = .string (strOf (q.body)) := HU.holds 35 (by decide)
                have tb115 : (Rg.putUse V [(32, 112), (35, 115), (41, 121)] fr).eval (.tmp 115) = .string (strOf (q.body)) := (Rg.use_eval V fr 115 [(32, 112), (35, 115), (41, 121)] (by simp only [hz]; decide)).trans h35
                have h41 : V 41 = .string (strOf (q.body)) := HU.holds 41 (by decide)
                have tb121 : (Rg.putUse V [(32, 112), (35, 115), (41, 121)] fr).eval (.tmp 121) = .string (strOf (q.body)) := (Rg.use_eval V fr 121 [(32, 112), (35, 115), (41, 121)] (by simp only [hz]; decide)).trans h41
                show Rg.Does1 _ _ V (Rg.putUse V [(32, 112), (35, 115), (41, 121)] fr) w2 _
                have hsq := HSQ.out
                exact Ob.rc_mv (.bool false) (by simp only [execOp, tb115, tb121]; go_simp) rfl rfl h32
              · intro V S w2 HM HU HE
                have lw : Below W9.heap.size W9 w2 := Rc.Mod.below HM (fun _ h => h.elim)
                have h32 : V 32 = .bool false := HU.holds 32 (by decide)
                have tb112 : (Rg.putUse V [(32, 112), (42, 122)] fr).eval (.tmp 112) = .bool false := (Rg.use_eval V fr 112 [(32, 112), (42, 122)] (by simp only [hz]; decide)).trans h32
                have h42 : V 42 = .bool false := HU.holds 42 (by decide)
                have tb122 : (Rg.putUse V [(32, 112), (42, 122)] fr).eval (.tmp 122) = .bool false := (Rg.use_eval V fr 122 [(32, 112), (42, 122)] (by simp only [hz]; decide)).trans h42
                show Rg.Does1 _ _ V (Rg.putUse V [(32, 112), (42, 122)] fr) w2 _
                exact Ob.rc_mv (.bool false) (by simp only [execOp, tb112, tb122]; go_simp) rfl rfl True.intro
            intro V S w2 HI
            have HL2 : Hid (Below W9.heap.size W9 w2) := Rc.Mod.below HI.mod.undrew (fun _ h => h.elim)
            have hw43 : V 43 = .bool false := HI.get 43 (by decide) (by rfl)
            simp only [Rg.putList, Act.put, List.setIfInBounds_toArray, List.set_cons_zero, List.set_cons_succ, Nat.zero_add, Nat.reduceAdd]
            rw [hw43]
            clear HI hw43
            have HT2 := Lib.hid (HT9.out.below HL2.out)
            have HE2 : Hid (w2.cell? ⟨g11, j, none⟩ = some (.int .i64 (nx : Nat))) := (HL2.out.cell (p := ⟨g11, j, none⟩) HG11.out).trans HE9.out
            clear HL2 HT9 HE9 HC0 HC1 HC2 HG18 HZ9 HA9
            have hjl2 := HJL.out
            have ce := HE2.out
            have hj12 : (j : Int) ≤ 12 := by have := HGL.out.1; omega
            go_wp2_with fail
            go_roundw
            case rel => exact ⟨j + 1, by omega, by simp, by rw [HNXE.out], HT2.out⟩
            case measure => simp [intOf]; omega
          · obtain rfl : j = gs.length := by omega
            obtain ⟨tb, htb⟩ : ∃ x : UInt8, t = ((x.toNat : Nat) : Int) := ⟨UInt8.ofNat t.toNat, by rw [UInt8.toNat_ofNat']; have := HTB.out; omega⟩
            subst htb
            rcases Nat.eq_zero_or_pos gs.length with h0 | h0
            · have hb0 : (((gs.length : Nat) : Int) == 0) = true := by rw [beq_iff_eq]; omega
              go_wp2_with fail
              refine (HKN.out wr HT.out.b.2).mono ?_
              rintro e w1 ⟨rfl, hb⟩
              have HEND := Lib.hid (Later.trans HT.out.b.2 hb)
              clear hb
              go_wp2_with fail
              go_ret
              exact ⟨rfl, HEND.out⟩
            · have hb0 : (((gs.length : Nat) : Int) == 0) = false := by rw [beq_eq_false_iff_ne]; omega
              by_cases ht0 : tb = 0
              · have htz : (((tb.toNat : Nat) : Int) == 0) = true := by rw [ht0]; rfl
                go_wp2_with fail
                refine (HKN.out wr HT.out.b.2).mono ?_
                rintro e w1 ⟨rfl, hb⟩
                have HEND := Lib.hid (Later.trans HT.out.b.2 hb)
                clear hb
                go_wp2_with fail
                go_ret
                exact ⟨rfl, HEND.out⟩
              · have htz : (((tb.toNat : Nat) : Int) == 0) = false := by
                  rw [beq_eq_false_iff_ne]
                  intro h9
                  exact ht0 (UInt8.toNat_inj.1 (by simpa using h9))
                have HTN : Hid (tb ≠ 0) := ht0
                have hgi : (1 : Int) ≤ ((gs.length : Nat) : Int) := by omega
                have hgi2 : ((gs.length : Nat) : Int) ≤ 12 := by have := HGL.out.1; omega
                clear ht0
                go_wp2_with fail
                refine (within_nat n1 0 _ 0 (gs.length - 1) wr rfl (by omega) (by omega) (by omega) HN1.out.1 HN1.out.2).mono ?_
                rintro e _ ⟨k, _, hk, rfl, rfl⟩
                have hkl : k < gs.length := by omega
                obtain ⟨q, hq⟩ : ∃ q, gs[k]? = some q := ⟨_, List.getElem?_eq_getElem hkl⟩
                have HQ := Lib.hid (HGA.out q (List.mem_of_getElem? hq))
                have HSP := Lib.hid (flat_split gs k q hq)
                have HFQ : Hid ((form (recA q)).length = 15 + q.body.length) := form_length (by show q.body.length ≤ _; have := HQ.out.2.1; omega)
                obtain ⟨fm, hfm⟩ : ∃ x, x = (flat (gs.take k)).length := ⟨_, rfl⟩
                obtain ⟨nx, hnx⟩ : ∃ x, x = (flat (gs.take (k + 1))).length := ⟨_, rfl⟩
                obtain ⟨sz, hsz⟩ : ∃ x, x = 15 + q.body.length := ⟨_, rfl⟩
                have hnx2 : nx = fm + sz := by rw [hnx, flat_take_succ gs k q hq, List.length_append, HFQ.out, hfm, hsz]
                have hnl : nx ≤ (flat gs).length := by
                  have := congrArg List.length HSP.out
                  rw [List.length_append, List.length_append, HFQ.out] at this
                  omega
                obtain ⟨g11, rfl, _, _, hce⟩ := HT.out.e.addr (by omega)
                have ck : wr.cell? ⟨g11, k, none⟩ = some (.int .i64 (nx : Nat)) := hce k _ (by unfold numC; rw [List.getElem?_map, ends_at gs k hkl, hnx]; rfl)
                have HCP : Hid (∀ m, m + 1 = k → wr.cell? ⟨g11, m, none⟩ = some (.int .i64 (fm : Nat))) := fun m hm => hce m _ (by unfold numC; rw [List.getElem?_map, ends_at gs m (by omega), hfm, hm]; rfl)
                have HFZ : Hid (k = 0 → fm = 0) := fun h9 => by rw [hfm, h9]; rfl
                have HFM : Hid (fm = (flat (gs.take k)).length) := hfm
                have HNU : Hid (nx = fm + sz ∧ nx ≤ (flat gs).length ∧ sz = 15 + q.body.length ∧ 15 ≤ sz ∧ nx ≤ 1140) := ⟨hnx2, hnl, hsz, by omega, by have := HGL.out.2; omega⟩
                clear hq hfm hnx hsz hnx2 hnl hce
                have hkli : ((k : Nat) : Int) < ((gs.length : Nat) : Int) := by omega
                have hki0 : (0 : Int) ≤ ((k : Nat) : Int) := by omega
                have hnxi : ((nx : Nat) : Int) ≤ 1140 := by have := HNU.out.2.2.2.2; omega
                have hnxf : ((fm : Nat) : Int) + 15 ≤ ((nx : Nat) : Int) := by have := HNU.out; omega
                have hfm0 : (0 : Int) ≤ ((fm : Nat) : Int) := by omega
                go_upto_if 142 with (fail)
                go_cut [16] (fun t16 wx => ∃ WX : World, WX = wx ∧ t16 = .int .i64 (fm : Nat) ∧ Hid (WX = wr))
                case first =>
                  rcases Nat.eq_zero_or_pos k with hk0 | hk0
                  · subst hk0
                    have hf0 := HFZ.out rfl
                    go_wp2_with fail
                    go_meet
                    case rel => exact ⟨_, rfl, by rw [hf0]; rfl, rfl⟩
                  · obtain ⟨m, rfl⟩ : ∃ m, k = m + 1 := ⟨k - 1, by omega⟩
                    have cm := HCP.out m rfl
                    have hmi : ((m : Nat) : Int) < ((gs.length : Nat) : Int) := by omega
                    have hm0 : (0 : Int) ≤ ((m : Nat) : Int) := by omega
                    have hkp : (0 : Int) < ((m : Nat) : Int) + 1 := by omega
                    go_wp2_with fail
                    go_meet
                    case rel => exact ⟨_, rfl, rfl, rfl⟩
                case rest =>
                  obtain ⟨wb, e1, rfl, e2⟩ := hcut
                  have e2 := e2.out
                  subst e2
                  subst e1
                  go_wp2_with fail
                  refine (within_nat n2 0 (((nx : Nat) : Int) - ((fm : Nat) : Int) - 1) 0 (sz - 1) wb rfl (by have := HNU.out; omega) (by omega) (by have := HNU.out; omega) HN2.out.1 HN2.out.2).mono ?_
                  rintro e _ ⟨n, _, hn, rfl, rfl⟩
                  have hns : n < sz := by have := HNU.out; omega
                  by_cases hn9 : n = 9
                  · subst hn9
                    go_wp2_with fail
                    refine (HKN.out _ (HT.out.b.2)).mono ?_
                    rintro e w1 ⟨rfl, hb⟩
                    have HEND := Lib.hid (Later.trans (HT.out.b.2) hb)
                    clear hb
                    go_wp2_with fail
                    go_ret
                    exact ⟨rfl, HEND.out⟩
                  · by_cases hn10 : n = 10
                    · subst hn10
                      go_wp2_with fail
                      refine (HKN.out _ (HT.out.b.2)).mono ?_
                      rintro e w1 ⟨rfl, hb⟩
                      have HEND := Lib.hid (Later.trans (HT.out.b.2) hb)
                      clear hb
                      go_wp2_with fail
                      go_ret
                      exact ⟨rfl, HEND.out⟩
                    · have hb9 : (((n : Nat) : Int) == 9) = false := by rw [beq_eq_false_iff_ne]; omega
                      have hb10 : (((n : Nat) : Int) == 10) = false := by rw [beq_eq_false_iff_ne]; omega
                      obtain ⟨px, hpx⟩ : ∃ x, x = fm + n := ⟨_, rfl⟩
                      have hpl : px < (flat gs).length := by have := HNU.out; omega
                      have HO9 := HT.out.b.1
                      obtain ⟨g9, rfl⟩ := own_addr HO9 (by omega)
                      have HG9 : Hid (w.heap.size ≤ g9) := (own_lt HO9 rfl).1
                      have cx := own_byte HO9 px hpl
                      have fx := own_frozen HO9 px
                      obtain ⟨xb, hxb⟩ : ∃ x, x = ((flat gs).getD px 0).toNat := ⟨_, rfl⟩
                      rw [← hxb] at cx
                      have hx1 := Cr.bits_xor_u8 xb tb.toNat (by rw [hxb]; exact ((flat gs).getD px 0).toNat_lt) tb.toNat_lt
                      have hpxi : ((fm : Nat) : Int) + ((n : Nat) : Int) = ((px : Nat) : Int) := by omega
                      have hpli : ((px : Nat) : Int) < (((flat gs).length : Nat) : Int) := by omega
                      have hpx0 : (0 : Int) ≤ ((px : Nat) : Int) := by omega
                      have hpxb : ((px : Nat) : Int) ≤ 1140 := by have := HGL.out.2; omega
                      have hne : g11 ≠ g9 := fun h9 => own_ne HO9 HT.out.e.1 (by decide) g9 rfl (by rw [h9]; rfl)
                      obtain ⟨W5, hW5⟩ : ∃ W, W = wb.setCell ⟨g9, px, none⟩ (.int .u8 ((xb ^^^ tb.toNat : Nat) : Int)) := ⟨_, rfl⟩
                      have ck5 : W5.cell? ⟨g11, k, none⟩ = some (.int .i64 (nx : Nat)) := by
                        rw [← ck, hW5]
                        unfold World.cell?
                        rw [Below.heap_setCell wb ⟨g9, px, none⟩ _ g11 hne]
                      obtain ⟨L2, hL2⟩ : ∃ L, L = (flat gs).set px ((flat gs).getD px 0 ^^^ tb) := ⟨_, rfl⟩
                      have hL2l : L2.length = (flat gs).length := by rw [hL2, List.length_set]
                      have HO5 := own_set HO9 px hpl ((flat gs).getD px 0 ^^^ tb) ((xb ^^^ tb.toNat : Nat) : Int) (by rw [UInt8.toNat_xor, ← hxb])
                      rw [← hW5, ← hL2] at HO5
                      have HB5 : Hid (Below w.heap.size w W5) := by show Below _ _ _; rw [hW5]; exact below_set1 HT.out.b.2 HG9.out px _
                      have HR5 : Hid (Rd W5 (some ⟨g9, 0, none⟩) L2) := by
                        rw [← hL2l] at HO5
                        obtain ⟨X9, k9, e9, _, h9⟩ := own_form HO5
                        injection e9 with e9
                        subst e9
                        exact h9
                      obtain ⟨A', r, c', hsl, hrc, hrr, _, hrt, hrl, hrs⟩ := part_lh (some ⟨g9, 0, none⟩) L2 c9 fm nx (by have := HNU.out; omega) (by have := HNU.out; omega) (by have := HC9.out; omega)
                      have hnf : n < (form (recA q)).length := by have := HNU.out; have := HFQ.out; omega
                      have hreq : r = (form (recA q)).set n ((form (recA q)).getD n 0 ^^^ tb) := by
                        have h1 := hrt.out
                        have h2 : L2 = flat (gs.take k) ++ ((form (recA q)).set n ((form (recA q)).getD n 0 ^^^ tb) ++ flat (gs.drop (k + 1))) := by
                          rw [hL2, hpx, HFM.out]
                          conv => lhs; rw [HSP.out]
                          rw [getD_mid _ _ _ _ hnf, set_mid _ _ _ _ _ hnf]
                        have h3 : ((form (recA q)).set n ((form (recA q)).getD n 0 ^^^ tb)).length = sz := by rw [List.length_set]; have := HNU.out; have := HFQ.out; omega
                        have h4 : nx = (flat (gs.take k) ++ (form (recA q)).set n ((form (recA q)).getD n 0 ^^^ tb)).length := by rw [List.length_append, h3, ← HFM.out]; have := HNU.out; omega
                        rw [h2, ← List.append_assoc, h4, List.take_left, List.append_assoc, HFM.out, List.take_left] at h1
                        exact (List.append_cancel_left h1).symm
                      obtain ⟨⟨⟨k', q', b'⟩, n', m'⟩, hD⟩ : ∃ D, D = dec r := ⟨_, rfl⟩
                      have hm' : m' ≠ 0 := by
                        have := turn_read (recA q) HQ.out.1 n hnf hn9 hn10 tb HTN.out
                        rw [← hreq, ← hD] at this
                        exact this
                      have HDE := Lib.hid (HDEC.out W5 A' r c' HB5.out (hrr.out W5 HR5.out) hrc (by have := HGL.out.2; omega))
                      unfold DAns at HDE
                      rw [← hD] at HDE
                      have hslr := hsl.out
                      rw [hL2l] at hslr
                      have hmb : (((m' : Nat) : Int) != 0) = true := by simpa using hm'
                      have hmn : ((m' : Nat) : Int) ≠ 0 := by omega
                      clear hD hreq hsl hrc hrr hrt hrl hrs hL2 hL2l HO5 HO9 hxb hpx hm' HR5 HSP
                      go_upto_region 34 with (fail)
                      rw [← hW5]
                      clear hW5 cx fx hx1 ck
                      go_wp2_with fail
                      clear hslr
                      refine HDE.out.mono ?_
                      rintro e w8 ⟨Z, cz, rfl, _, _, hb8⟩
                      unfold val
                      dsimp only
                      have HB8 : Hid (Below w.heap.size w (w8.alloc (.cells #[.int .i64 k', .int .u64 (q' : Nat), .slice Z b'.length cz] 27))) := Later.trans (Later.trans HB5.out hb8) (below_new w8 _)
                      clear hb8 HDE
                      go_wp2_with fail
                      refine (HKN.out _ HB8.out).mono ?_
                      rintro e w1 ⟨rfl, hb⟩
                      have HEND := Lib.hid (Later.trans HB8.out hb)
                      clear hb
                      go_wp2_with fail
                      go_ret
                      exact ⟨rfl, HEND.out⟩
end Re
end Go.Proofs.YtmcbpgbiephllaaDoor
