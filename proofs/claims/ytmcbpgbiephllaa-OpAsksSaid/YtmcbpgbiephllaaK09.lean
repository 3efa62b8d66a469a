/-
  OWN WORK. OpAsks, OpFrame
-/
import Derived.Test.YtmcbpgbiephllaaK08
import Derived.Test.YtmcbpgbiephllaaK07
import Derived.Test.YtmcbpgbiephllaaK06
import Derived.Test.YtmcbpgbiephllaaK01

namespace Go.Proofs.Ytmcbpgbiephllaa
open Go.RowKit Rc
open St (Opn)
namespace Op
structure OpOk (W : World) (o : Opn) (A : Option Addr) (c : Nat) : Prop where
  kind : -9223372036854775808 ≤ o.kind ∧ o.kind ≤ 9223372036854775807
  path : o.path.length ≤ 9223372036854775807
  dest : o.dest.length ≤ 9223372036854775807
  fd : -9223372036854775808 ≤ o.fd ∧ o.fd ≤ 9223372036854775807
  at_ : -9223372036854775808 ≤ o.at_ ∧ o.at_ ≤ 9223372036854775807
  n : -9223372036854775808 ≤ o.n ∧ o.n ≤ 9223372036854775807
  till : o.till ≤ 18446744073709551615
  snap : -9223372036854775808 ≤ o.snap ∧ o.snap ≤ 9223372036854775807
  fit : o.data.length ≤ c
  len : o.data.length ≤ 9223372036854775807
  rd : Rd W A o.data
theorem tame_ok (o : Opn) (k : Nat) (hk : 1 ≤ k ∧ k ≤ 17) : err { St.tame o with kind := (k : Nat) } = 0 := by
  have h1 := St.name_short (IntKind.i64.wrap ((o.path.length : Nat) + o.at_.tmod 7))
  have h2 := St.name_short (IntKind.i64.wrap ((o.dest.length : Nat) + o.n.tmod 7))
  have h3 : (o.data.take 40).length ≤ 40 := List.length_take_le _ _
  refine err_of ⟨by show (1 : Int) ≤ (k : Nat); omega, by show ((k : Nat) : Int) ≤ 17; omega⟩ ?_ ?_
  · unfold Long asked St.tame
    dsimp only
    cases hasPath (k : Nat) <;> cases hasTo (k : Nat) <;> cases hasData (k : Nat) <;> simp <;> omega
  · unfold Shorts asked St.tame sh
    dsimp only
    refine ⟨?_, ?_, ?_, ?_⟩
    · split <;> omega
    · split <;> omega
    · split <;> omega
    · split
      · split <;> omega
      · omega
theorem form_small (o : Opn) : (form o).length ≤ 300000 := by
  have hp : ∀ (c : Bool) (b : Bs) (n : Nat), b.length ≤ n → (put c b).length ≤ n := fun c b n h => by
    cases c
    · simp [put]
    · exact h
  have hb : ∀ x : Bs, (Co.wBytes x).length ≤ 65537 := fun x => by
    unfold Co.wBytes
    rw [List.length_append, List.length_take]
    have : ∀ n, (Co.wShort n).length = 2 := fun _ => rfl
    rw [this]
    omega
  have h1 := hp (hasPath o.kind) _ _ (hb o.path)
  have h2 := hp (hasTo o.kind) _ _ (hb o.dest)
  have h3 := hp (hasFd o.kind) (Co.wShort o.fd.toNat) 2 (Nat.le_refl _)
  have h4 := hp (hasSpan o.kind) (Co.wShort o.at_.toNat) 2 (Nat.le_refl _)
  have h5 := hp (hasSpan o.kind) (Co.wShort o.n.toNat) 2 (Nat.le_refl _)
  have h6 := hp (hasTill o.kind) (Co.wLong o.till) 8 (by rw [Co.wLong_length]; omega)
  have h7 := hp (hasSnap o.kind) (Co.wShort o.snap.toNat) 2 (Nat.le_refl _)
  have h8 := hp (hasData o.kind) _ _ (hb o.data)
  have h9 : (Co.wByte o.kind.toNat).length = 1 := rfl
  unfold form
  simp only [List.length_append]
  omega
theorem ask_rd {W : World} {o : Opn} {A : Option Addr} (h : Rd W A o.data) : Rd W (askA o.kind A) (asked o).data := by
  unfold askA asked
  dsimp only
  cases hasData o.kind
  · exact Rd.nil _ _
  · exact h
theorem ask_len {o : Opn} {c : Nat} (h : o.data.length ≤ c) : (asked o).data.length ≤ askC o.kind c := by
  unfold askC asked
  dsimp only
  cases hasData o.kind
  · simp
  · exact h
set_option maxHeartbeats 8000000 in
set_option maxRecDepth 100000 in
theorem asks_any (C : WSaid) {R : RSaid codecFns} (hM : RMake R) (w : World) (o : Opn) (A : Option Addr) (c : Nat) (ok : OpOk w o A c) (p : Opn) (B : Option Addr) (d : Nat) (pk : OpOk w p B d) :
    Calls Try.prog 7 #[opV o (.slice A o.data.length c), opV p (.slice B p.data.length d)] w fun e w' => e = .returned (.bool true) ∧ Below w.heap.size w w' := by
  have HTA := Lib.hid (fun W => Kp.tame_any o ok.fd ok.at_ ok.n ok.snap ok.path ok.dest ok.len A c ok.fit W)
  have HTB := Lib.hid (fun W => Kp.tame_any p pk.fd pk.at_ pk.n pk.snap pk.path pk.dest pk.len B d pk.fit W)
  obtain ⟨k, hk, hk1⟩ : ∃ k : Nat, k = 1 + Wi.within0 o.kind 16 ∧ (1 ≤ k ∧ k ≤ 17) := ⟨_, rfl, by omega, by have := Wi.within0_le o.kind 16; omega⟩
  have HWI : Hid (∀ W, Calls Try.prog 18 #[.int .i64 o.kind, .int .i64 0, .int .i64 16] W fun e w' => e = .returned (.int .i64 (Wi.within0 o.kind 16)) ∧ W = w') := fun W => Wi.within_any o.kind 16 W (by decide) ok.kind.1 ok.kind.2
  have HEX := Lib.hid (tame_ok o k hk1)
  have HEY := Lib.hid (tame_ok p k hk1)
  have HKD : Hid (1 ≤ k ∧ k ≤ 17) := hk1
  have HXK : Hid ((St.tame o).kind = o.kind) := rfl
  have HXT : Hid ((St.tame o).till ≤ 18446744073709551615) := by show o.till % 12 ≤ _; omega
  have HYT : Hid ((St.tame p).till ≤ 18446744073709551615) := by show p.till % 12 ≤ _; omega
  have HXD : Hid (Rd w A (St.tame o).data ∧ (St.tame o).data.length ≤ c) := ⟨ok.rd.take 40, by show (o.data.take 40).length ≤ c; rw [List.length_take]; have := ok.fit; omega⟩
  have HYD : Hid (Rd w B (St.tame p).data ∧ (St.tame p).data.length ≤ d) := ⟨pk.rd.take 40, by show (p.data.take 40).length ≤ d; rw [List.length_take]; have := pk.fit; omega⟩
  obtain ⟨x, hx⟩ : ∃ x, x = St.tame o := ⟨_, rfl⟩
  obtain ⟨y, hy⟩ : ∃ y, y = St.tame p := ⟨_, rfl⟩
  rw [← hx] at HTA HEX HXK HXT HXD
  rw [← hy] at HTB HEY HYT HYD
  clear hx hy ok pk
  obtain ⟨ok, op, ot, of_, oa, on_, ou, os, od⟩ := o
  obtain ⟨pk, pp, pt, pf, pa, pn, pu, ps, pd⟩ := p
  obtain ⟨xk, xp, xt, xf, xa, xn, xu, xs, xd⟩ := x
  obtain ⟨yk, yp, yt, yf, ya, yn, yu, ys, yd⟩ := y
  dsimp only at hk HEX HEY HXK HXT HYT HXD HYD HWI HTA HTB
  unfold Kp.lit at HTA HTB
  dsimp only at HTA HTB
  obtain rfl : ok = xk := HXK.out.symm
  unfold opV
  dsimp only
  obtain ⟨W0, hW0⟩ : ∃ W, W = (w.alloc (.cells #[.int .i64 ok, .string (strOf op), .string (strOf ot), .int .i64 of_, .int .i64 oa, .int .i64 on_, .int .u64 (ou : Nat), .int .i64 os, .slice A od.length c] 25)).alloc (.cells #[.int .i64 pk, .string (strOf pp), .string (strOf pt), .int .i64 pf, .int .i64 pa, .int .i64 pn, .int .u64 (pu : Nat), .int .i64 ps, .slice B pd.length d] 25) := ⟨_, rfl⟩
  obtain ⟨g, hg⟩ : ∃ g, g = w.heap.size := ⟨_, rfl⟩
  obtain ⟨h, hh⟩ : ∃ h, h = g + 1 := ⟨_, rfl⟩
  have hg1 : (w.alloc (.cells #[.int .i64 ok, .string (strOf op), .string (strOf ot), .int .i64 of_, .int .i64 oa, .int .i64 on_, .int .u64 (ou : Nat), .int .i64 os, .slice A od.length c] 25)).heap.size = h := by rw [World.size_alloc, hh, hg]
  have hgA : Blk (w.alloc (.cells #[.int .i64 ok, .string (strOf op), .string (strOf ot), .int .i64 of_, .int .i64 oa, .int .i64 on_, .int .u64 (ou : Nat), .int .i64 os, .slice A od.length c] 25)) g 25 [.int .i64 ok, .string (strOf op), .string (strOf ot), .int .i64 of_, .int .i64 oa, .int .i64 on_, .int .u64 (ou : Nat), .int .i64 os, .slice A od.length c] := by rw [hg]; exact Blk.new w _ _
  have HG0 : Hid (Blk W0 g 25 [.int .i64 ok, .string (strOf op), .string (strOf ot), .int .i64 of_, .int .i64 oa, .int .i64 on_, .int .u64 (ou : Nat), .int .i64 os, .slice A od.length c]) := by show Blk _ _ _ _; rw [hW0]; exact hgA.alloc _
  have HH0 : Hid (Blk W0 h 25 [.int .i64 pk, .string (strOf pp), .string (strOf pt), .int .i64 pf, .int .i64 pa, .int .i64 pn, .int .u64 (pu : Nat), .int .i64 ps, .slice B pd.length d]) := by show Blk _ _ _ _; rw [hW0, ← hg1]; exact Blk.new _ _ _
  have HBW : Hid (Below w.heap.size w W0) := by show Below _ _ _; rw [hW0]; exact Later.trans (below_new w _) (below_new _ _)
  have HGG : Hid (w.heap.size ≤ g) := Nat.le_of_eq hg.symm
  have HGH : Hid (g < h) := by show _ < _; omega
  clear hgA hg1
  go_enter Try.func7, Try.ntmps7
  go_upto_region 1 with (fail)
  rw [← hW0, ← hg, ← hh]
  clear hW0 hg hh
  have n1 : g ≠ h := by have := HGH.out; omega
  have n2 : h ≠ g := by have := HGH.out; omega
  have HT : Hid (Ob.One (Ob.pair 25 h) (.pointer (some ⟨g, 0, none⟩)) w w (fun _ => False) ([.int .i64 ok, .string (strOf op), .string (strOf ot), .int .i64 of_, .int .i64 oa, .int .i64 on_, .int .u64 (ou : Nat), .int .i64 os, .slice A od.length c], [.int .i64 pk, .string (strOf pp), .string (strOf pt), .int .i64 pf, .int .i64 pa, .int .i64 pn, .int .u64 (pu : Nat), .int .i64 ps, .slice B pd.length d]) (Ob.pairB g h) W0) := Ob.pair_one HG0.out HH0.out HBW.out HGG.out (by have := HGG.out; have := HGH.out; omega)
  have one := HT.out
  refine Rc.wp_region (by kernel_rfl) (fun opn => List.getD [Rc.val (.agg #[.int .i64 ok, .string (strOf op), .string (strOf ot), .int .i64 of_, .int .i64 oa, .int .i64 on_, .int .u64 (ou : Nat), .int .i64 os, .slice A od.length c]), Rc.val (.agg #[.int .i64 ok, .string (strOf xp), .string (strOf xt), .int .i64 xf, .int .i64 xa, .int .i64 xn, .int .u64 (xu : Nat), .int .i64 xs, .slice A xd.length c]), Rc.val (.agg #[.int .i64 pk, .string (strOf pp), .string (strOf pt), .int .i64 pf, .int .i64 pa, .int .i64 pn, .int .u64 (pu : Nat), .int .i64 ps, .slice B pd.length d]), Rc.val (.agg #[.int .i64 yk, .string (strOf yp), .string (strOf yt), .int .i64 yf, .int .i64 ya, .int .i64 yn, .int .u64 (yu : Nat), .int .i64 ys, .slice B yd.length d]), Ob.turned (Ob.pair 25 h) (.pointer (some ⟨g, 0, none⟩)) (Ob.Ups (Ob.pairB g h) W0) (undef) ([.int .i64 ok, .string (strOf xp), .string (strOf xt), .int .i64 xf, .int .i64 xa, .int .i64 xn, .int .u64 (xu : Nat), .int .i64 xs, .slice A xd.length c], [.int .i64 pk, .string (strOf pp), .string (strOf pt), .int .i64 pf, .int .i64 pa, .int .i64 pn, .int .u64 (pu : Nat), .int .i64 ps, .slice B pd.length d]), Ob.turned (Ob.pair 25 h) (.pointer (some ⟨g, 0, none⟩)) (Ob.Ups (Ob.pairB g h) W0) (undef) ([.int .i64 ok, .string (strOf xp), .string (strOf xt), .int .i64 xf, .int .i64 xa, .int .i64 xn, .int .u64 (xu : Nat), .int .i64 xs, .slice A xd.length c], [.int .i64 yk, .string (strOf yp), .string (strOf yt), .int .i64 yf, .int .i64 ya, .int .i64 yn, .int .u64 (yu : Nat), .int .i64 ys, .slice B yd.length d]), Ob.turned (Ob.pair 25 h) (.pointer (some ⟨g, 0, none⟩)) (Ob.Ups (Ob.pairB g h) W0) undef ([.int .i64 ok, .string (strOf op), .string (strOf ot), .int .i64 of_, .int .i64 oa, .int .i64 on_, .int .u64 (ou : Nat), .int .i64 os, .slice A od.length c], [.int .i64 pk, .string (strOf pp), .string (strOf pt), .int .i64 pf, .int .i64 pa, .int .i64 pn, .int .u64 (pu : Nat), .int .i64 ps, .slice B pd.length d])] opn Rc.any) 1 [] [[], [(0, 13)], [], [(2, 15)], [(1, 14)], [(3, 16)]] [[], [0], [], [0, 1, 2], [0, 1, 2, 3], [0, 1, 2, 3, 4]] [[6], [0], [6], [2], [1, 6], [3, 4]] [(4, 6), (5, 4)] (by kernel_rfl) (by rfl) (by kernel_rfl) (Ob.pairB g h) (fun _ b => (Ob.pairB g h) b) (Ob.one_inv (Ob.pair 25 h) one.at_ _ _ 6 rfl) ?_ ?_
  · intro fr ha
    have hz : fr.tmps.size = 101 := by rw [ha]; rfl
    have y2 : fr.eval (.tmp 2) = .pointer (some ⟨g, 0, none⟩) := by rw [ha]; rfl
    have y3 : fr.eval (.tmp 3) = .pointer (some ⟨h, 0, none⟩) := by rw [ha]; rfl
    clear ha
    refine .cons ?_ (.cons ?_ (.cons ?_ (.cons ?_ (.cons ?_ (.cons ?_ (.nil))))))
    · intro V S w2 HM HU HE
      have HM : Mod W0 w2 (Ob.pairB g h) := HM
      have tb2 : (Rg.putUse V [] fr).eval (.tmp 2) = .pointer (some ⟨g, 0, none⟩) := (Rg.use_eval V fr 2 [] (by simp only [hz]; decide)).trans y2
      show Rg.Does1 _ _ V (Rg.putUse V [] fr) w2 _
      obtain ⟨S1, hat, _, _⟩ := (HU.holds 6 (by decide)).2
      have hbk := (Ob.pair_at hat).1
      have cl0 := hbk.1.cell 0
      have cl1 := hbk.1.cell 1
      have cl2 := hbk.1.cell 2
      have cl3 := hbk.1.cell 3
      have cl4 := hbk.1.cell 4
      have cl5 := hbk.1.cell 5
      have cl6 := hbk.1.cell 6
      have cl7 := hbk.1.cell 7
      have cl8 := hbk.1.cell 8
      exact Ob.rc_mv (.agg #[.int .i64 ok, .string (strOf op), .string (strOf ot), .int .i64 of_, .int .i64 oa, .int .i64 on_, .int .u64 (ou : Nat), .int .i64 os, .slice A od.length c]) (by simp only [execOp, tb2]; go_simp) rfl rfl True.intro
    · intro V S w2 HM HU HE
      have HM : Mod W0 w2 (Ob.pairB g h) := HM
      have h0 : V 0 = .agg #[.int .i64 ok, .string (strOf op), .string (strOf ot), .int .i64 of_, .int .i64 oa, .int .i64 on_, .int .u64 (ou : Nat), .int .i64 os, .slice A od.length c] := HU.holds 0 (by decide)
      have tb13 : (Rg.putUse V [(0, 13)] fr).eval (.tmp 13) = .agg #[.int .i64 ok, .string (strOf op), .string (strOf ot), .int .i64 of_, .int .i64 oa, .int .i64 on_, .int .u64 (ou : Nat), .int .i64 os, .slice A od.length c] := (Rg.use_eval V fr 13 [(0, 13)] (by simp only [hz]; decide)).trans h0
      show Rg.Does1 _ _ V (Rg.putUse V [(0, 13)] fr) w2 _
      exact Ob.step_tell (.agg #[.int .i64 ok, .string (strOf xp), .string (strOf xt), .int .i64 xf, .int .i64 xa, .int .i64 xn, .int .u64 (xu : Nat), .int .i64 xs, .slice A xd.length c]) #[.agg #[.int .i64 ok, .string (strOf op), .string (strOf ot), .int .i64 of_, .int .i64 oa, .int .i64 on_, .int .u64 (ou : Nat), .int .i64 os, .slice A od.length c]] (fun args w => Rg.call_enter Try.func17 (by kernel_rfl) (by kernel_rfl) args w) rfl (by simp only [List.map_toArray, List.map_cons, List.map_nil, tb13]) rfl (fun x => Rg.alias_none rfl V x) True.intro (HTA.out w2)
    · intro V S w2 HM HU HE
      have HM : Mod W0 w2 (Ob.pairB g h) := HM
      have tb3 : (Rg.putUse V [] fr).eval (.tmp 3) = .pointer (some ⟨h, 0, none⟩) := (Rg.use_eval V fr 3 [] (by simp only [hz]; decide)).trans y3
      show Rg.Does1 _ _ V (Rg.putUse V [] fr) w2 _
      obtain ⟨S1, hat, _, _⟩ := (HU.holds 6 (by decide)).2
      have hbk := (Ob.pair_at hat).1
      have cl0 := hbk.2.cell 0
      have cl1 := hbk.2.cell 1
      have cl2 := hbk.2.cell 2
      have cl3 := hbk.2.cell 3
      have cl4 := hbk.2.cell 4
      have cl5 := hbk.2.cell 5
      have cl6 := hbk.2.cell 6
      have cl7 := hbk.2.cell 7
      have cl8 := hbk.2.cell 8
      exact Ob.rc_mv (.agg #[.int .i64 pk, .string (strOf pp), .string (strOf pt), .int .i64 pf, .int .i64 pa, .int .i64 pn, .int .u64 (pu : Nat), .int .i64 ps, .slice B pd.length d]) (by simp only [execOp, tb3]; go_simp) rfl rfl True.intro
    · intro V S w2 HM HU HE
      have HM : Mod W0 w2 (Ob.pairB g h) := HM
      have h2 : V 2 = .agg #[.int .i64 pk, .string (strOf pp), .string (strOf pt), .int .i64 pf, .int .i64 pa, .int .i64 pn, .int .u64 (pu : Nat), .int .i64 ps, .slice B pd.length d] := HU.holds 2 (by decide)
      have tb15 : (Rg.putUse V [(2, 15)] fr).eval (.tmp 15) = .agg #[.int .i64 pk, .string (strOf pp), .string (strOf pt), .int .i64 pf, .int .i64 pa, .int .i64 pn, .int .u64 (pu : Nat), .int .i64 ps, .slice B pd.length d] := (Rg.use_eval V fr 15 [(2, 15)] (by simp only [hz]; decide)).trans h2
      show Rg.Does1 _ _ V (Rg.putUse V [(2, 15)] fr) w2 _
      exact Ob.step_tell (.agg #[.int .i64 yk, .string (strOf yp), .string (strOf yt), .int .i64 yf, .int .i64 ya, .int .i64 yn, .int .u64 (yu : Nat), .int .i64 ys, .slice B yd.length d]) #[.agg #[.int .i64 pk, .string (strOf pp), .string (strOf pt), .int .i64 pf, .int .i64 pa, .int .i64 pn, .int .u64 (pu : Nat), .int .i64 ps, .slice B pd.length d]] (fun args w => Rg.call_enter Try.func17 (by kernel_rfl) (by kernel_rfl) args w) rfl (by simp only [List.map_toArray, List.map_cons, List.map_nil, tb15]) rfl (fun x => Rg.alias_none rfl V x) True.intro (HTB.out w2)
    · intro V S w2 HM HU HE
      have HM : Mod W0 w2 (Ob.pairB g h) := HM
      have h1 : V 1 = .agg #[.int .i64 ok, .string (strOf xp), .string (strOf xt), .int .i64 xf, .int .i64 xa, .int .i64 xn, .int .u64 (xu : Nat), .int .i64 xs, .slice A xd.length c] := HU.holds 1 (by decide)
      have tb14 : (Rg.putUse V [(1, 14)] fr).eval (.tmp 14) = .agg #[.int .i64 ok, .string (strOf xp), .string (strOf xt), .int .i64 xf, .int .i64 xa, .int .i64 xn, .int .u64 (xu : Nat), .int .i64 xs, .slice A xd.length c] := (Rg.use_eval V fr 14 [(1, 14)] (by simp only [hz]; decide)).trans h1
      have tb2 : (Rg.putUse V [(1, 14)] fr).eval (.tmp 2) = .pointer (some ⟨g, 0, none⟩) := (Rg.use_eval V fr 2 [(1, 14)] (by simp only [hz]; decide)).trans y2
      show Rg.Does1 _ _ V (Rg.putUse V [(1, 14)] fr) w2 _
      obtain ⟨S1, hat, hsub, hup⟩ := (HU.holds 6 (by decide)).2
      have hbk := (Ob.pair_at hat).1
      have cl0 := hbk.1.cell 0
      have cl1 := hbk.1.cell 1
      have cl2 := hbk.1.cell 2
      have cl3 := hbk.1.cell 3
      have cl4 := hbk.1.cell 4
      have cl5 := hbk.1.cell 5
      have cl6 := hbk.1.cell 6
      have cl7 := hbk.1.cell 7
      have cl8 := hbk.1.cell 8
      have fl0 := hbk.1.frozen 0
      have fl1 := hbk.1.frozen 1
      have fl2 := hbk.1.frozen 2
      have fl3 := hbk.1.frozen 3
      have fl4 := hbk.1.frozen 4
      have fl5 := hbk.1.frozen 5
      have fl6 := hbk.1.frozen 6
      have fl7 := hbk.1.frozen 7
      have fl8 := hbk.1.frozen 8
      exact Ob.step_pair (s := ([.int .i64 ok, .string (strOf op), .string (strOf ot), .int .i64 of_, .int .i64 oa, .int .i64 on_, .int .u64 (ou : Nat), .int .i64 os, .slice A od.length c], [.int .i64 pk, .string (strOf pp), .string (strOf pt), .int .i64 pf, .int .i64 pa, .int .i64 pn, .int .u64 (pu : Nat), .int .i64 ps, .slice B pd.length d])) ([.int .i64 ok, .string (strOf xp), .string (strOf xt), .int .i64 xf, .int .i64 xa, .int .i64 xn, .int .u64 (xu : Nat), .int .i64 xs, .slice A xd.length c], [.int .i64 pk, .string (strOf pp), .string (strOf pt), .int .i64 pf, .int .i64 pa, .int .i64 pn, .int .u64 (pu : Nat), .int .i64 ps, .slice B pd.length d]) ((((((((((w2.setCell ⟨g, 0, none⟩ (.int .i64 ok)).setCell ⟨g, 1, none⟩ (.string (strOf xp))).setCell ⟨g, 2, none⟩ (.string (strOf xt))).setCell ⟨g, 3, none⟩ (.int .i64 xf)).setCell ⟨g, 4, none⟩ (.int .i64 xa)).setCell ⟨g, 5, none⟩ (.int .i64 xn)).setCell ⟨g, 6, none⟩ (.int .u64 (xu : Nat))).setCell ⟨g, 7, none⟩ (.int .i64 xs)).setCell ⟨g, 8, none⟩ (.slice A xd.length c))) rfl (by decide) ⟨S1, hat, hsub, hup⟩ (fun x => Rg.alias_none rfl V x) True.intro (by simp only [execOp, tb14, tb2]; go_simp) (⟨Kp.set9 hbk.1 _ _ _ _ _ _ _ _ _ , by have := hbk.2; exact (((((((((Blk.far this (by show h ≠ g; first | exact n1 | exact n2) _).far (by show h ≠ g; first | exact n1 | exact n2) _).far (by show h ≠ g; first | exact n1 | exact n2) _).far (by show h ≠ g; first | exact n1 | exact n2) _).far (by show h ≠ g; first | exact n1 | exact n2) _).far (by show h ≠ g; first | exact n1 | exact n2) _).far (by show h ≠ g; first | exact n1 | exact n2) _).far (by show h ≠ g; first | exact n1 | exact n2) _).far (by show h ≠ g; first | exact n1 | exact n2) _)⟩) (Ob.pair_mod1 ((((((((((Keeps.refl w2 g).setCell 0 _).setCell 1 _).setCell 2 _).setCell 3 _).setCell 4 _).setCell 5 _).setCell 6 _).setCell 7 _).setCell 8 _))
    · intro V S w2 HM HU HE
      have HM : Mod W0 w2 (Ob.pairB g h) := HM
      have h3 : V 3 = .agg #[.int .i64 yk, .string (strOf yp), .string (strOf yt), .int .i64 yf, .int .i64 ya, .int .i64 yn, .int .u64 (yu : Nat), .int .i64 ys, .slice B yd.length d] := HU.holds 3 (by decide)
      have tb16 : (Rg.putUse V [(3, 16)] fr).eval (.tmp 16) = .agg #[.int .i64 yk, .string (strOf yp), .string (strOf yt), .int .i64 yf, .int .i64 ya, .int .i64 yn, .int .u64 (yu : Nat), .int .i64 ys, .slice B yd.length d] := (Rg.use_eval V fr 16 [(3, 16)] (by simp only [hz]; decide)).trans h3
      have tb3 : (Rg.putUse V [(3, 16)] fr).eval (.tmp 3) = .pointer (some ⟨h, 0, none⟩) := (Rg.use_eval V fr 3 [(3, 16)] (by simp only [hz]; decide)).trans y3
      show Rg.Does1 _ _ V (Rg.putUse V [(3, 16)] fr) w2 _
      obtain ⟨S1, hat, hsub, hup⟩ := (HU.holds 4 (by decide)).2
      have hbk := (Ob.pair_at hat).1
      have cl0 := hbk.2.cell 0
      have cl1 := hbk.2.cell 1
      have cl2 := hbk.2.cell 2
      have cl3 := hbk.2.cell 3
      have cl4 := hbk.2.cell 4
      have cl5 := hbk.2.cell 5
      have cl6 := hbk.2.cell 6
      have cl7 := hbk.2.cell 7
      have cl8 := hbk.2.cell 8
      have fl0 := hbk.2.frozen 0
      have fl1 := hbk.2.frozen 1
      have fl2 := hbk.2.frozen 2
      have fl3 := hbk.2.frozen 3
      have fl4 := hbk.2.frozen 4
      have fl5 := hbk.2.frozen 5
      have fl6 := hbk.2.frozen 6
      have fl7 := hbk.2.frozen 7
      have fl8 := hbk.2.frozen 8
      exact Ob.step_pair (s := ([.int .i64 ok, .string (strOf xp), .string (strOf xt), .int .i64 xf, .int .i64 xa, .int .i64 xn, .int .u64 (xu : Nat), .int .i64 xs, .slice A xd.length c], [.int .i64 pk, .string (strOf pp), .string (strOf pt), .int .i64 pf, .int .i64 pa, .int .i64 pn, .int .u64 (pu : Nat), .int .i64 ps, .slice B pd.length d])) ([.int .i64 ok, .string (strOf xp), .string (strOf xt), .int .i64 xf, .int .i64 xa, .int .i64 xn, .int .u64 (xu : Nat), .int .i64 xs, .slice A xd.length c], [.int .i64 yk, .string (strOf yp), .string (strOf yt), .int .i64 yf, .int .i64 ya, .int .i64 yn, .int .u64 (yu : Nat), .int .i64 ys, .slice B yd.length d]) ((((((((((w2.setCell ⟨h, 0, none⟩ (.int .i64 yk)).setCell ⟨h, 1, none⟩ (.string (strOf yp))).setCell ⟨h, 2, none⟩ (.string (strOf yt))).setCell ⟨h, 3, none⟩ (.int .i64 yf)).setCell ⟨h, 4, none⟩ (.int .i64 ya)).setCell ⟨h, 5, none⟩ (.int .i64 yn)).setCell ⟨h, 6, none⟩ (.int .u64 (yu : Nat))).setCell ⟨h, 7, none⟩ (.int .i64 ys)).setCell ⟨h, 8, none⟩ (.slice B yd.length d))) rfl (by decide) ⟨S1, hat, hsub, hup⟩ (fun x => Rg.alias_none rfl V x) True.intro (by simp only [execOp, tb16, tb3]; go_simp) (⟨by have := hbk.1; exact (((((((((Blk.far this (by show g ≠ h; first | exact n1 | exact n2) _).far (by show g ≠ h; first | exact n1 | exact n2) _).far (by show g ≠ h; first | exact n1 | exact n2) _).far (by show g ≠ h; first | exact n1 | exact n2) _).far (by show g ≠ h; first | exact n1 | exact n2) _).far (by show g ≠ h; first | exact n1 | exact n2) _).far (by show g ≠ h; first | exact n1 | exact n2) _).far (by show g ≠ h; first | exact n1 | exact n2) _).far (by show g ≠ h; first | exact n1 | exact n2) _), Kp.set9 hbk.2 _ _ _ _ _ _ _ _ _ ⟩) (Ob.pair_mod2 ((((((((((Keeps.refl w2 h).setCell 0 _).setCell 1 _).setCell 2 _).setCell 3 _).setCell 4 _).setCell 5 _).setCell 6 _).setCell 7 _).setCell 8 _))
  · intro V S w2 HI
    have hb : V 5 = undef := (HI.get 5 (by decide) (by rfl)).1
    have HT2 := Lib.hid (one.after HI.mod.undrew (HI.get 5 (by decide) (by rfl)).2)
    have HM2 : Hid (Mod W0 w2 (Ob.pairB g h)) := HI.mod.undrew
    simp only [Rg.putList, Act.put, List.setIfInBounds_toArray, List.set_cons_zero, List.set_cons_succ, Nat.zero_add, Nat.reduceAdd]
    skip
    clear HI hb one HT
    obtain ⟨B9, h9⟩ := HT2.out
    have HXG : Hid (Blk w2 g 25 [.int .i64 ok, .string (strOf xp), .string (strOf xt), .int .i64 xf, .int .i64 xa, .int .i64 xn, .int .u64 (xu : Nat), .int .i64 xs, .slice A xd.length c]) := (Ob.pair_at h9.at_).1.1
    have HYH : Hid (Blk w2 h 25 [.int .i64 yk, .string (strOf yp), .string (strOf yt), .int .i64 yf, .int .i64 ya, .int .i64 yn, .int .u64 (yu : Nat), .int .i64 ys, .slice B yd.length d]) := (Ob.pair_at h9.at_).1.2
    have HB2 : Hid (Below w.heap.size w w2) := h9.low
    clear h9 HT2 HM2 HG0 HH0 HBW HTA HTB
    have a0 := HXG.out.cell 0
    have f0 := HXG.out.frozen 0
    have b0 := HYH.out.cell 0
    have z0 := HYH.out.frozen 0
    have hkk : (1 : Int) + (Wi.within0 ok 16 : Nat) = ((k : Nat) : Int) := by rw [hk]; omega
    have hk17 : ((Wi.within0 ok 16 : Nat) : Int) ≤ 16 := by have := Wi.within0_le ok 16; omega
    obtain ⟨q, hq⟩ : ∃ q, q = Wi.within0 ok 16 := ⟨_, rfl⟩
    rw [← hq] at HWI hkk hk17
    clear hq hk
    go_wp2_with fail
    refine (HWI.out w2).mono ?_
    rintro e _ ⟨rfl, rfl⟩
    go_upto_region 4 with (fail)
    obtain ⟨W3, hW3⟩ : ∃ W, W = (w2.setCell ⟨g, 0, none⟩ (.int .i64 (k : Nat))).setCell ⟨h, 0, none⟩ (.int .i64 (k : Nat)) := ⟨_, rfl⟩
    have HG3 : Hid (Blk W3 g 25 [.int .i64 (k : Nat), .string (strOf xp), .string (strOf xt), .int .i64 xf, .int .i64 xa, .int .i64 xn, .int .u64 (xu : Nat), .int .i64 xs, .slice A xd.length c]) := by show Blk _ _ _ _; rw [hW3]; exact (HXG.out.set_ 0 _).far (by show g ≠ h; exact n1) _
    have HH3 : Hid (Blk W3 h 25 [.int .i64 (k : Nat), .string (strOf yp), .string (strOf yt), .int .i64 yf, .int .i64 ya, .int .i64 yn, .int .u64 (yu : Nat), .int .i64 ys, .slice B yd.length d]) := by show Blk _ _ _ _; rw [hW3]; exact (HYH.out.far (by show h ≠ g; exact n2) _).set_ 0 _
    have HB3 : Hid (Below w.heap.size w W3) := by show Below _ _ _; rw [hW3]; exact below_set1 (below_set1 HB2.out HGG.out 0 _) (by have := HGG.out; have := HGH.out; omega) 0 _
    rw [← hW3]
    clear hW3 a0 f0 b0 z0 hkk hk17 HXG HYH HB2 HWI n1 n2
    have HENX : Hid (∀ W, Below w.heap.size w W → Calls Try.prog 21 #[.agg #[.int .i64 (k : Nat), .string (strOf xp), .string (strOf xt), .int .i64 xf, .int .i64 xa, .int .i64 xn, .int .u64 (xu : Nat), .int .i64 xs, .slice A xd.length c]] W (EAns (form ⟨(k : Nat), xp, xt, xf, xa, xn, xu, xs, xd⟩) 0 W)) := fun W h9 => by
      have := encode_any C ⟨(k : Nat), xp, xt, xf, xa, xn, xu, xs, xd⟩ HXT.out W A c HXD.out.2 (HXD.out.1.below h9)
      unfold enc at this
      rw [HEX.out] at this
      exact this
    have HENY : Hid (∀ W, Below w.heap.size w W → Calls Try.prog 21 #[.agg #[.int .i64 (k : Nat), .string (strOf yp), .string (strOf yt), .int .i64 yf, .int .i64 ya, .int .i64 yn, .int .u64 (yu : Nat), .int .i64 ys, .slice B yd.length d]] W (EAns (form ⟨(k : Nat), yp, yt, yf, ya, yn, yu, ys, yd⟩) 0 W)) := fun W h9 => by
      have := encode_any C ⟨(k : Nat), yp, yt, yf, ya, yn, yu, ys, yd⟩ HYT.out W B d HYD.out.2 (HYD.out.1.below h9)
      unfold enc at this
      rw [HEY.out] at this
      exact this
    have HKX : Hid (Kd ((k : Nat) : Int)) := ⟨by have := HKD.out; omega, by have := HKD.out; omega⟩
    have HASX : Hid (∀ W, Calls Try.prog 24 #[.agg #[.int .i64 (k : Nat), .string (strOf xp), .string (strOf xt), .int .i64 xf, .int .i64 xa, .int .i64 xn, .int .u64 (xu : Nat), .int .i64 xs, .slice A xd.length c]] W fun e w' => e = .returned (opV (asked ⟨(k : Nat), xp, xt, xf, xa, xn, xu, xs, xd⟩) (.slice (askA (k : Nat) A) (asked ⟨(k : Nat), xp, xt, xf, xa, xn, xu, xs, xd⟩).data.length (askC (k : Nat) c))) ∧ Below W.heap.size W w') := fun W => refAsked_det ⟨(k : Nat), xp, xt, xf, xa, xn, xu, xs, xd⟩ HKX.out A c W
    have HASY : Hid (∀ W, Calls Try.prog 24 #[.agg #[.int .i64 (k : Nat), .string (strOf yp), .string (strOf yt), .int .i64 yf, .int .i64 ya, .int .i64 yn, .int .u64 (yu : Nat), .int .i64 ys, .slice B yd.length d]] W fun e w' => e = .returned (opV (asked ⟨(k : Nat), yp, yt, yf, ya, yn, yu, ys, yd⟩) (.slice (askA (k : Nat) B) (asked ⟨(k : Nat), yp, yt, yf, ya, yn, yu, ys, yd⟩).data.length (askC (k : Nat) d))) ∧ Below W.heap.size W w') := fun W => refAsked_det ⟨(k : Nat), yp, yt, yf, ya, yn, yu, ys, yd⟩ HKX.out B d W
    have HADX : Hid (∀ W, Rd W A xd → Rd W (askA (k : Nat) A) (asked ⟨(k : Nat), xp, xt, xf, xa, xn, xu, xs, xd⟩).data) := fun W hr => ask_rd hr
    have HACX : Hid ((asked ⟨(k : Nat), xp, xt, xf, xa, xn, xu, xs, xd⟩).data.length ≤ askC (k : Nat) c) := ask_len HXD.out.2
    have HADY : Hid (∀ W, Rd W B yd → Rd W (askA (k : Nat) B) (asked ⟨(k : Nat), yp, yt, yf, ya, yn, yu, ys, yd⟩).data) := fun W hr => ask_rd hr
    have HIN : Hid (form ⟨(k : Nat), xp, xt, xf, xa, xn, xu, xs, xd⟩ = form ⟨(k : Nat), yp, yt, yf, ya, yn, yu, ys, yd⟩ ↔ asked ⟨(k : Nat), xp, xt, xf, xa, xn, xu, xs, xd⟩ = asked ⟨(k : Nat), yp, yt, yf, ya, yn, yu, ys, yd⟩) := form_inj HEX.out HEY.out HXT.out HYT.out
    have HDC : Hid (dec (form ⟨(k : Nat), xp, xt, xf, xa, xn, xu, xs, xd⟩) = (asked ⟨(k : Nat), xp, xt, xf, xa, xn, xu, xs, xd⟩, 0)) := dec_enc ⟨(k : Nat), xp, xt, xf, xa, xn, xu, xs, xd⟩ HEX.out HXT.out
    have HAA : Hid (asked (asked ⟨(k : Nat), xp, xt, xf, xa, xn, xu, xs, xd⟩) = asked ⟨(k : Nat), xp, xt, xf, xa, xn, xu, xs, xd⟩) := asked_asked _
    have HENA : Hid (err (asked ⟨(k : Nat), xp, xt, xf, xa, xn, xu, xs, xd⟩) = 0 ∧ form (asked ⟨(k : Nat), xp, xt, xf, xa, xn, xu, xs, xd⟩) = form ⟨(k : Nat), xp, xt, xf, xa, xn, xu, xs, xd⟩ ∧ (asked ⟨(k : Nat), xp, xt, xf, xa, xn, xu, xs, xd⟩).till ≤ 18446744073709551615 ∧ (asked ⟨(k : Nat), xp, xt, xf, xa, xn, xu, xs, xd⟩).kind = (k : Nat)) := ⟨by rw [err_asked]; exact HEX.out, form_asked _, by have := HXT.out; unfold asked; dsimp only at this ⊢; split <;> omega, rfl⟩
    have HAYK : Hid ((asked ⟨(k : Nat), yp, yt, yf, ya, yn, yu, ys, yd⟩).kind = (k : Nat)) := rfl
    have HFB : Hid (0 < (form ⟨(k : Nat), xp, xt, xf, xa, xn, xu, xs, xd⟩).length ∧ ((form ⟨(k : Nat), xp, xt, xf, xa, xn, xu, xs, xd⟩).getD 0 0).toNat = k) := ⟨form_pos _, by unfold form Co.wByte; show (UInt8.ofNat ((k : Nat) : Int).toNat).toNat = k; rw [UInt8.toNat_ofNat']; have := HKD.out; omega⟩
    have HFLN : Hid ((form ⟨(k : Nat), xp, xt, xf, xa, xn, xu, xs, xd⟩).length ≤ 140737488351232) := Nat.le_trans (form_small _) (by decide)
    obtain ⟨fx, hfx⟩ : ∃ x, x = form ⟨(k : Nat), xp, xt, xf, xa, xn, xu, xs, xd⟩ := ⟨_, rfl⟩
    obtain ⟨fy, hfy⟩ : ∃ x, x = form ⟨(k : Nat), yp, yt, yf, ya, yn, yu, ys, yd⟩ := ⟨_, rfl⟩
    obtain ⟨ax, hax⟩ : ∃ x, x = asked ⟨(k : Nat), xp, xt, xf, xa, xn, xu, xs, xd⟩ := ⟨_, rfl⟩
    obtain ⟨ay, hay⟩ : ∃ x, x = asked ⟨(k : Nat), yp, yt, yf, ya, yn, yu, ys, yd⟩ := ⟨_, rfl⟩
    rw [← hax] at HASX HADX HACX HIN HDC HAA HENA
    rw [← hay] at HASY HADY HIN HAYK
    rw [← hfx] at HENX HIN HDC HENA HFB HFLN
    rw [← hfy] at HENY HIN
    clear hfx hfy hax hay HEX HEY
    obtain ⟨ak, ap, at_, af, aa, an, au, as_, ad⟩ := ax
    obtain ⟨yk2, yp2, yt2, yf2, ya2, yn2, yu2, ys2, yd2⟩ := ay
    obtain rfl : ak = ((k : Nat) : Int) := HENA.out.2.2.2
    obtain rfl : yk2 = ((k : Nat) : Int) := HAYK.out
    dsimp only at HADX HACX HADY
    unfold opV at HASX HASY
    dsimp only at HASX HASY
    obtain ⟨A9, hA9⟩ : ∃ x, x = askA (k : Nat) A := ⟨_, rfl⟩
    obtain ⟨c9, hc9⟩ : ∃ x, x = askC (k : Nat) c := ⟨_, rfl⟩
    obtain ⟨B9', hB9⟩ : ∃ x, x = askA (k : Nat) B := ⟨_, rfl⟩
    obtain ⟨d9, hd9⟩ : ∃ x, x = askC (k : Nat) d := ⟨_, rfl⟩
    rw [← hA9, ← hc9] at HASX
    rw [← hB9, ← hd9] at HASY
    rw [← hA9] at HADX
    rw [← hc9] at HACX
    rw [← hB9] at HADY
    have HENZ : Hid (∀ W, Below w.heap.size w W → Calls Try.prog 21 #[.agg #[.int .i64 (k : Nat), .string (strOf ap), .string (strOf at_), .int .i64 af, .int .i64 aa, .int .i64 an, .int .u64 (au : Nat), .int .i64 as_, .slice A9 ad.length c9]] W (EAns fx 0 W)) := fun W h9 => by
      have := encode_any C ⟨(k : Nat), ap, at_, af, aa, an, au, as_, ad⟩ HENA.out.2.2.1 W A9 c9 HACX.out (HADX.out W (HXD.out.1.below h9))
      unfold enc at this
      rw [HENA.out.1, if_neg (by simp), HENA.out.2.1] at this
      exact this
    have HKN : Hid (∀ W, Calls Try.prog 15 #[] W fun e w' => e = .returned (.bool true) ∧ Below W.heap.size W w') := fun W => known_any W
    clear hA9 hc9 hB9 hd9 HAYK
    have a0 := HG3.out.cell 0
    have a1 := HG3.out.cell 1
    have a2 := HG3.out.cell 2
    have a3 := HG3.out.cell 3
    have a4 := HG3.out.cell 4
    have a5 := HG3.out.cell 5
    have a6 := HG3.out.cell 6
    have a7 := HG3.out.cell 7
    have a8 := HG3.out.cell 8
    go_wp2_with fail
    refine (HENX.out W3 HB3.out).mono ?_
    rintro e w4 ⟨X, cX, rfl, hcX, hrX, hb4⟩
    have HG4 : Hid (Blk w4 g 25 [.int .i64 (k : Nat), .string (strOf xp), .string (strOf xt), .int .i64 xf, .int .i64 xa, .int .i64 xn, .int .u64 (xu : Nat), .int .i64 xs, .slice A xd.length c]) := HG3.out.below hb4 HG3.out.lt
    have HH4 : Hid (Blk w4 h 25 [.int .i64 (k : Nat), .string (strOf yp), .string (strOf yt), .int .i64 yf, .int .i64 ya, .int .i64 yn, .int .u64 (yu : Nat), .int .i64 ys, .slice B yd.length d]) := HH3.out.below hb4 HH3.out.lt
    have HB4 : Hid (Below w.heap.size w w4) := Later.trans HB3.out hb4
    have HCX : Hid (fx.length ≤ cX) := hcX
    have HRX : Hid (Rd w4 X fx) := hrX
    clear hb4 hcX hrX HG3 HH3 HB3 a0 a1 a2 a3 a4 a5 a6 a7 a8 HENX
    have b0 := HH4.out.cell 0
    have b1 := HH4.out.cell 1
    have b2 := HH4.out.cell 2
    have b3 := HH4.out.cell 3
    have b4 := HH4.out.cell 4
    have b5 := HH4.out.cell 5
    have b6 := HH4.out.cell 6
    have b7 := HH4.out.cell 7
    have b8 := HH4.out.cell 8
    go_wp2_with fail
    refine (HENY.out w4 HB4.out).mono ?_
    rintro e w5 ⟨Y, cY, rfl, hcY, hrY, hb5⟩
    have HG5 : Hid (Blk w5 g 25 [.int .i64 (k : Nat), .string (strOf xp), .string (strOf xt), .int .i64 xf, .int .i64 xa, .int .i64 xn, .int .u64 (xu : Nat), .int .i64 xs, .slice A xd.length c]) := HG4.out.below hb5 HG4.out.lt
    have HH5 : Hid (Blk w5 h 25 [.int .i64 (k : Nat), .string (strOf yp), .string (strOf yt), .int .i64 yf, .int .i64 ya, .int .i64 yn, .int .u64 (yu : Nat), .int .i64 ys, .slice B yd.length d]) := HH4.out.below hb5 HH4.out.lt
    have HB5 : Hid (Below w.heap.size w w5) := Later.trans HB4.out hb5
    have HCY : Hid (fy.length ≤ cY) := hcY
    have HRY : Hid (Rd w5 Y fy) := hrY
    have HRX5 : Hid (Rd w5 X fx) := HRX.out.below hb5
    clear hb5 hcY hrY HG4 HH4 HB4 HRX b0 b1 b2 b3 b4 b5 b6 b7 b8 HENY
    have a0 := HG5.out.cell 0
    have a1 := HG5.out.cell 1
    have a2 := HG5.out.cell 2
    have a3 := HG5.out.cell 3
    have a4 := HG5.out.cell 4
    have a5 := HG5.out.cell 5
    have a6 := HG5.out.cell 6
    have a7 := HG5.out.cell 7
    have a8 := HG5.out.cell 8
    go_wp2_with fail
    refine (HASX.out w5).mono ?_
    rintro e w6 ⟨rfl, hb6⟩
    have HB6 : Hid (Below w.heap.size w w6) := Later.trans HB5.out hb6
    have HG6 : Hid (Blk w6 g 25 [.int .i64 (k : Nat), .string (strOf xp), .string (strOf xt), .int .i64 xf, .int .i64 xa, .int .i64 xn, .int .u64 (xu : Nat), .int .i64 xs, .slice A xd.length c]) := HG5.out.below hb6 HG5.out.lt
    have HH6 : Hid (Blk w6 h 25 [.int .i64 (k : Nat), .string (strOf yp), .string (strOf yt), .int .i64 yf, .int .i64 ya, .int .i64 yn, .int .u64 (yu : Nat), .int .i64 ys, .slice B yd.length d]) := HH5.out.below hb6 HH5.out.lt
    have HRX6 : Hid (Rd w6 X fx) := HRX5.out.below hb6
    have HRY6 : Hid (Rd w6 Y fy) := HRY.out.below hb6
    clear hb6 HG5 HH5 HB5 HRX5 HRY a0 a1 a2 a3 a4 a5 a6 a7 a8
    go_wp2_with fail
    refine (HENZ.out w6 HB6.out).mono ?_
    rintro e w7 ⟨Z, cZ, rfl, hcZ, hrZ, hb7⟩
    have HG7 : Hid (Blk w7 g 25 [.int .i64 (k : Nat), .string (strOf xp), .string (strOf xt), .int .i64 xf, .int .i64 xa, .int .i64 xn, .int .u64 (xu : Nat), .int .i64 xs, .slice A xd.length c]) := HG6.out.below hb7 HG6.out.lt
    have HH7 : Hid (Blk w7 h 25 [.int .i64 (k : Nat), .string (strOf yp), .string (strOf yt), .int .i64 yf, .int .i64 ya, .int .i64 yn, .int .u64 (yu : Nat), .int .i64 ys, .slice B yd.length d]) := HH6.out.below hb7 HH6.out.lt
    have HB7 : Hid (Below w.heap.size w w7) := Later.trans HB6.out hb7
    have HCZ : Hid (fx.length ≤ cZ) := hcZ
    have HRZ : Hid (Rd w7 Z fx) := hrZ
    have HRX7 : Hid (Rd w7 X fx) := HRX6.out.below hb7
    have HRY7 : Hid (Rd w7 Y fy) := HRY6.out.below hb7
    clear hb7 hcZ hrZ HG6 HH6 HB6 HRX6 HRY6 HENZ
    have s1 := str_any w7 X fx cX HRX7.out
    have s2 := str_any w7 Z fx cZ HRZ.out
    have hpos : ((fx.length : Nat) : Int) ≠ 0 := by have := HFB.out.1; omega
    have hposb : (((fx.length : Nat) : Int) == 0) = false := by rw [beq_eq_false_iff_ne]; have := HFB.out.1; omega
    go_wp2_with fail
    clear s1 s2 hpos hposb
    have HDE := Lib.hid (decode_any hM w7 X fx cX HRX7.out HCX.out HFLN.out)
    unfold DAns at HDE
    rw [HDC.out] at HDE
    refine HDE.out.mono ?_
    rintro e w8 ⟨D, cD, rfl, _, hrD, hb8⟩
    dsimp only at hrD ⊢
    unfold opV
    dsimp only
    obtain ⟨W9, hW9⟩ : ∃ W, W = w8.alloc (.cells #[.int .i64 (k : Nat), .string (strOf ap), .string (strOf at_), .int .i64 af, .int .i64 aa, .int .i64 an, .int .u64 (au : Nat), .int .i64 as_, .slice D ad.length cD] 25) := ⟨_, rfl⟩
    obtain ⟨gd, hgd⟩ : ∃ x, x = w8.heap.size := ⟨_, rfl⟩
    have hb9 : Below w7.heap.size w7 W9 := Later.trans hb8 (by rw [hW9]; exact below_new w8 _)
    have HD9 : Hid (Blk W9 gd 25 [.int .i64 (k : Nat), .string (strOf ap), .string (strOf at_), .int .i64 af, .int .i64 aa, .int .i64 an, .int .u64 (au : Nat), .int .i64 as_, .slice D ad.length cD]) := by show Blk _ _ _ _; rw [hW9, hgd]; exact Blk.new w8 _ _
    have HG9 : Hid (Blk W9 g 25 [.int .i64 (k : Nat), .string (strOf xp), .string (strOf xt), .int .i64 xf, .int .i64 xa, .int .i64 xn, .int .u64 (xu : Nat), .int .i64 xs, .slice A xd.length c]) := HG7.out.below hb9 HG7.out.lt
    have HH9 : Hid (Blk W9 h 25 [.int .i64 (k : Nat), .string (strOf yp), .string (strOf yt), .int .i64 yf, .int .i64 ya, .int .i64 yn, .int .u64 (yu : Nat), .int .i64 ys, .slice B yd.length d]) := HH7.out.below hb9 HH7.out.lt
    have HB9 : Hid (Below w.heap.size w W9) := Later.trans HB7.out hb9
    have HX9 : Hid (Rd W9 X fx) := HRX7.out.below hb9
    have HY9 : Hid (Rd W9 Y fy) := HRY7.out.below hb9
    have HRD9 : Hid (Rd W9 D ad) := hrD.below (by rw [hW9]; exact below_new w8 _)
    go_upto_region 10 with (fail)
    rw [← hW9, ← hgd]
    clear hW9 hgd hb8 hb9 hrD HG7 HH7 HB7 HRX7 HRY7 HRZ HDE HDC
    obtain ⟨DE, hDE⟩ : ∃ x, x = askA (k : Nat) D := ⟨_, rfl⟩
    obtain ⟨cE, hcE⟩ : ∃ x, x = askC (k : Nat) cD := ⟨_, rfl⟩
    have HASD : Hid (∀ W, Calls Try.prog 24 #[.agg #[.int .i64 (k : Nat), .string (strOf ap), .string (strOf at_), .int .i64 af, .int .i64 aa, .int .i64 an, .int .u64 (au : Nat), .int .i64 as_, .slice D ad.length cD]] W fun e w' => e = .returned (.agg #[.int .i64 (k : Nat), .string (strOf ap), .string (strOf at_), .int .i64 af, .int .i64 aa, .int .i64 an, .int .u64 (au : Nat), .int .i64 as_, .slice DE ad.length cE]) ∧ Below W.heap.size W w') := fun W => by
      have := refAsked_det ⟨(k : Nat), ap, at_, af, aa, an, au, as_, ad⟩ HKX.out D cD W
      rw [HAA.out] at this
      rw [hDE, hcE]
      exact this
    have HRE9 : Hid (Rd W9 DE ad) := by
      have := ask_rd (o := ⟨(k : Nat), ap, at_, af, aa, an, au, as_, ad⟩) HRD9.out
      rw [HAA.out] at this
      show Rd _ _ _
      rw [hDE]
      exact this
    obtain ⟨ev, hev⟩ : ∃ x, x = decide (fx = fy) := ⟨_, rfl⟩
    have HSQ : Hid (((strOf fx).toList == (strOf fy).toList) = ev) := by show _ = _; rw [strOf_beq, hev]
    have hae : decide ((⟨(k : Nat), ap, at_, af, aa, an, au, as_, ad⟩ : Opn) = ⟨(k : Nat), yp2, yt2, yf2, ya2, yn2, yu2, ys2, yd2⟩) = ev := by rw [hev]; exact decide_eq_decide.2 HIN.out.symm
    have HEQ1 : Hid (∀ W, Below W9.heap.size W9 W → Calls Try.prog 23 #[.agg #[.int .i64 (k : Nat), .string (strOf ap), .string (strOf at_), .int .i64 af, .int .i64 aa, .int .i64 an, .int .u64 (au : Nat), .int .i64 as_, .slice A9 ad.length c9], .agg #[.int .i64 (k : Nat), .string (strOf yp2), .string (strOf yt2), .int .i64 yf2, .int .i64 ya2, .int .i64 yn2, .int .u64 (yu2 : Nat), .int .i64 ys2, .slice B9' yd2.length d9]] W fun e w' => e = .returned (.bool ev) ∧ Below W.heap.size W w') := fun W h9 => by
      have := Kp.eq_any ⟨(k : Nat), ap, at_, af, aa, an, au, as_, ad⟩ ⟨(k : Nat), yp2, yt2, yf2, ya2, yn2, yu2, ys2, yd2⟩ A9 B9' c9 d9 W (HADX.out W (HXD.out.1.below (Later.trans HB9.out h9))) (HADY.out W (HYD.out.1.below (Later.trans HB9.out h9)))
      rw [hae] at this
      exact this
    have HEQ2 : Hid (∀ W, Below W9.heap.size W9 W → Calls Try.prog 23 #[.agg #[.int .i64 (k : Nat), .string (strOf ap), .string (strOf at_), .int .i64 af, .int .i64 aa, .int .i64 an, .int .u64 (au : Nat), .int .i64 as_, .slice D ad.length cD], .agg #[.int .i64 (k : Nat), .string (strOf ap), .string (strOf at_), .int .i64 af, .int .i64 aa, .int .i64 an, .int .u64 (au : Nat), .int .i64 as_, .slice DE ad.length cE]] W fun e w' => e = .returned (.bool true) ∧ Below W.heap.size W w') := fun W h9 => by
      have := Kp.eq_any ⟨(k : Nat), ap, at_, af, aa, an, au, as_, ad⟩ ⟨(k : Nat), ap, at_, af, aa, an, au, as_, ad⟩ D DE cD cE W (HRD9.out.below h9) (HRE9.out.below h9)
      rw [decide_eq_true rfl] at this
      exact this
    clear hDE hcE hev hae HAA HIN HADX HADY HENA HACX
    obtain ⟨bx, ofx, rfl, hblt, hcell⟩ := HX9.out HFB.out.1
    have hc0 : W9.cell? ⟨bx, ofx, none⟩ = some (.int .u8 (k : Nat)) := by
      have := HX9.out.byte 0 HFB.out.1
      rw [HFB.out.2, Nat.add_zero] at this
      exact this
    have HC0 := Lib.hid hc0
    have HBLT := Lib.hid hblt
    have HPOS : Hid ((0 : Int) < ((fx.length : Nat) : Int)) := by have := HFB.out.1; show _ < _; omega
    have HK17 : Hid (((k : Nat) : Int) ≤ 17) := by have := HKD.out; show _ ≤ _; omega
    clear hc0 hblt hcell
    refine Rc.wp_region (by kernel_rfl) (fun opn => List.getD [Rc.val (.int .i64 0), Rc.val (.bool true), Rc.val (.bool true), Rc.val (.slice (some ⟨bx, ofx, none⟩) fx.length cX), Rc.val (.string (strOf (fx))), Rc.val (.slice Y fy.length cY), Rc.val (.string (strOf (fy))), Rc.val (.bool ev), Rc.val (.agg #[.int .i64 (k : Nat), .string (strOf xp), .string (strOf xt), .int .i64 xf, .int .i64 xa, .int .i64 xn, .int .u64 (xu : Nat), .int .i64 xs, .slice A xd.length c]), Rc.val (.agg #[.int .i64 (k : Nat), .string (strOf ap), .string (strOf at_), .int .i64 af, .int .i64 aa, .int .i64 an, .int .u64 (au : Nat), .int .i64 as_, .slice A9 ad.length c9]), Rc.val (.agg #[.int .i64 (k : Nat), .string (strOf yp), .string (strOf yt), .int .i64 yf, .int .i64 ya, .int .i64 yn, .int .u64 (yu : Nat), .int .i64 ys, .slice B yd.length d]), Rc.val (.agg #[.int .i64 (k : Nat), .string (strOf yp2), .string (strOf yt2), .int .i64 yf2, .int .i64 ya2, .int .i64 yn2, .int .u64 (yu2 : Nat), .int .i64 ys2, .slice B9' yd2.length d9]), Rc.val (.bool ev), Rc.val (.bool true), Rc.val (.bool true), Rc.val (.bool true), Rc.val (.agg #[.int .i64 (k : Nat), .string (strOf ap), .string (strOf at_), .int .i64 af, .int .i64 aa, .int .i64 an, .int .u64 (au : Nat), .int .i64 as_, .slice D ad.length cD]), Rc.val (.agg #[.int .i64 (k : Nat), .string (strOf ap), .string (strOf at_), .int .i64 af, .int .i64 aa, .int .i64 an, .int .u64 (au : Nat), .int .i64 as_, .slice D ad.length cD]), Rc.val (.agg #[.int .i64 (k : Nat), .string (strOf ap), .string (strOf at_), .int .i64 af, .int .i64 aa, .int .i64 an, .int .u64 (au : Nat), .int .i64 as_, .slice DE ad.length cE]), Rc.val (.bool true), Rc.val (.bool true), Rc.val (.bool true), Rc.val (.slice (some ⟨bx, ofx, none⟩) fx.length cX), Rc.val (.pointer (some ⟨bx, ofx, none⟩)), Rc.val (.int .u8 (k : Nat)), Rc.val (.int .i64 (k : Nat)), Rc.val (.pointer (some ⟨g, 0, none⟩)), Rc.val (.int .i64 (k : Nat)), Rc.val (.bool true), Rc.val (.bool true), Rc.val (.bool true), Rc.val (.bool true), Rc.val (.bool true), Rc.val (.bool true)] opn Rc.any) 0 [] [[], [(0, 68)], [(1, 69)], [(2, 70)], [(2, 70), (3, 71)], [(2, 70)], [(2, 70), (5, 73)], [(2, 70), (4, 72), (6, 74)], [(2, 70)], [(2, 70), (8, 76)], [(2, 70)], [(2, 70), (10, 78)], [(2, 70), (9, 77), (11, 79)], [(2, 70), (7, 75), (12, 80)], [(2, 70), (13, 81)], [(14, 82)], [(15, 83)], [(15, 83)], [(15, 83), (17, 85)], [(15, 83), (16, 84), (18, 86)], [(15, 83), (19, 87)], [(20, 88)], [(21, 89)], [(21, 89), (22, 90)], [(21, 89), (23, 91)], [(21, 89), (24, 92)], [(21, 89)], [(21, 89), (26, 94)], [(21, 89), (25, 93), (27, 95)], [(21, 89), (28, 96)], [(29, 97)], [(30, 98)], [(30, 98), (31, 99)], [(32, 100)]] [[], [0], [1], [2], [2, 3], [2], [2, 5], [2, 4, 6], [2], [2, 8], [2], [2, 10], [2, 9, 11], [2, 7, 12], [2, 13], [14], [15], [15], [15, 17], [15, 16, 18], [15, 19], [20], [21], [21, 22], [21, 23], [21, 24], [21], [21, 26], [21, 25, 27], [21, 28], [29], [30], [30, 31], [32]] [[], [0], [1], [2], [2, 3], [2], [2, 5], [2, 4, 6], [2], [2, 8], [2], [2, 10], [2, 9, 11], [2, 7, 12], [2, 13], [14], [15], [15], [15, 17], [15, 16, 18], [15, 19], [20], [21], [21, 22], [21, 23], [21, 24], [21], [21, 26], [21, 25, 27], [21, 28], [29], [30], [30, 31], [32]] [] (by kernel_rfl) (by rfl) (by kernel_rfl) (fun _ => False) (fun _ _ => False) Rc.Inv.none ?_ ?_
    · intro fr ha
      have hz : fr.tmps.size = 101 := by rw [ha]; rfl
      have y12 : fr.eval (.tmp 12) = .int .i64 0 := by rw [ha]; rfl
      have y5 : fr.eval (.tmp 5) = .slice (some ⟨bx, ofx, none⟩) fx.length cX := by rw [ha]; rfl
      have y7 : fr.eval (.tmp 7) = .slice Y fy.length cY := by rw [ha]; rfl
      have y2 : fr.eval (.tmp 2) = .pointer (some ⟨g, 0, none⟩) := by rw [ha]; rfl
      have y3 : fr.eval (.tmp 3) = .pointer (some ⟨h, 0, none⟩) := by rw [ha]; rfl
      have y11 : fr.eval (.tmp 11) = .pointer (some ⟨gd, 0, none⟩) := by rw [ha]; rfl
      clear ha
      refine .cons ?_ (.cons ?_ (.cons ?_ (.cons ?_ (.cons ?_ (.cons ?_ (.cons ?_ (.cons ?_ (.cons ?_ (.cons ?_ (.cons ?_ (.cons ?_ (.cons ?_ (.cons ?_ (.cons ?_ (.cons ?_ (.cons ?_ (.cons ?_ (.cons ?_ (.cons ?_ (.cons ?_ (.cons ?_ (.cons ?_ (.cons ?_ (.cons ?_ (.cons ?_ (.cons ?_ (.cons ?_ (.cons ?_ (.cons ?_ (.cons ?_ (.cons ?_ (.cons ?_ (.cons ?_ (.nil))))))))))))))))))))))))))))))))))
      · intro V S w2 HM HU HE
        have lw : Below W9.heap.size W9 w2 := Rc.Mod.below HM (fun _ h => h.elim)
        have tb12 : (Rg.putUse V [] fr).eval (.tmp 12) = .int .i64 0 := (Rg.use_eval V fr 12 [] (by simp only [hz]; decide)).trans y12
        show Rg.Does1 _ _ V (Rg.putUse V [] fr) w2 _
        exact Ob.rc_mv (.int .i64 0) (by simp only [execOp, tb12]; go_simp) rfl rfl True.intro
      · intro V S w2 HM HU HE
        have lw : Below W9.heap.size W9 w2 := Rc.Mod.below HM (fun _ h => h.elim)
        have h0 : V 0 = .int .i64 0 := HU.holds 0 (by decide)
        have tb68 : (Rg.putUse V [(0, 68)] fr).eval (.tmp 68) = .int .i64 0 := (Rg.use_eval V fr 68 [(0, 68)] (by simp only [hz]; decide)).trans h0
        show Rg.Does1 _ _ V (Rg.putUse V [(0, 68)] fr) w2 _
        exact Ob.rc_mv (.bool true) (by simp only [execOp, tb68]; go_simp) rfl rfl True.intro
      · intro V S w2 HM HU HE
        have lw : Below W9.heap.size W9 w2 := Rc.Mod.below HM (fun _ h => h.elim)
        have h1 : V 1 = .bool true := HU.holds 1 (by decide)
        have tb69 : (Rg.putUse V [(1, 69)] fr).eval (.tmp 69) = .bool true := (Rg.use_eval V fr 69 [(1, 69)] (by simp only [hz]; decide)).trans h1
        show Rg.Does1 _ _ V (Rg.putUse V [(1, 69)] fr) w2 _
        exact Ob.rc_mv (.bool true) (by simp only [execOp, tb69]; go_simp) rfl rfl True.intro
      · intro V S w2 HM HU HE
        have lw : Below W9.heap.size W9 w2 := Rc.Mod.below HM (fun _ h => h.elim)
        have h2 : V 2 = .bool true := HU.holds 2 (by decide)
        have tb5 : (Rg.putUse V [(2, 70)] fr).eval (.tmp 5) = .slice (some ⟨bx, ofx, none⟩) fx.length cX := (Rg.use_eval V fr 5 [(2, 70)] (by simp only [hz]; decide)).trans y5
        show Rg.Does1 _ _ V (Rg.putUse V [(2, 70)] fr) w2 _
        exact Ob.rc_mv (.slice (some ⟨bx, ofx, none⟩) fx.length cX) (by simp only [execOp, tb5]; go_simp) rfl rfl h2
      · intro V S w2 HM HU HE
        have lw : Below W9.heap.size W9 w2 := Rc.Mod.below HM (fun _ h => h.elim)
        have h2 : V 2 = .bool true := HU.holds 2 (by decide)
        have h3 : V 3 = .slice (some ⟨bx, ofx, none⟩) fx.length cX := HU.holds 3 (by decide)
        have tb71 : (Rg.putUse V [(2, 70), (3, 71)] fr).eval (.tmp 71) = .slice (some ⟨bx, ofx, none⟩) fx.length cX := (Rg.use_eval V fr 71 [(2, 70), (3, 71)] (by simp only [hz]; decide)).trans h3
        show Rg.Does1 _ _ V (Rg.putUse V [(2, 70), (3, 71)] fr) w2 _
        exact Ob.rc_str (fx) rfl tb71 (by first | rfl | simp) (HX9.out.below lw) rfl rfl h2
      · intro V S w2 HM HU HE
        have lw : Below W9.heap.size W9 w2 := Rc.Mod.below HM (fun _ h => h.elim)
        have h2 : V 2 = .bool true := HU.holds 2 (by decide)
        have tb7 : (Rg.putUse V [(2, 70)] fr).eval (.tmp 7) = .slice Y fy.length cY := (Rg.use_eval V fr 7 [(2, 70)] (by simp only [hz]; decide)).trans y7
        show Rg.Does1 _ _ V (Rg.putUse V [(2, 70)] fr) w2 _
        exact Ob.rc_mv (.slice Y fy.length cY) (by simp only [execOp, tb7]; go_simp) rfl rfl h2
      · intro V S w2 HM HU HE
        have lw : Below W9.heap.size W9 w2 := Rc.Mod.below HM (fun _ h => h.elim)
        have h2 : V 2 = .bool true := HU.holds 2 (by decide)
        have h5 : V 5 = .slice Y fy.length cY := HU.holds 5 (by decide)
        have tb73 : (Rg.putUse V [(2, 70), (5, 73)] fr).eval (.tmp 73) = .slice Y fy.length cY := (Rg.use_eval V fr 73 [(2, 70), (5, 73)] (by simp only [hz]; decide)).trans h5
        show Rg.Does1 _ _ V (Rg.putUse V [(2, 70), (5, 73)] fr) w2 _
        exact Ob.rc_str (fy) rfl tb73 (by first | rfl | simp) (HY9.out.below lw) rfl rfl h2
      · intro V S w2 HM HU HE
        have lw : Below W9.heap.size W9 w2 := Rc.Mod.below HM (fun _ h => h.elim)
        have h2 : V 2 = .bool true := HU.holds 2 (by decide)
        have h4 : V 4 = .string (strOf (fx)) := HU.holds 4 (by decide)
        have tb72 : (Rg.putUse V [(2, 70), (4, 72), (6, 74)] fr).eval (.tmp 72) = .string (strOf (fx)) := (Rg.use_eval V fr 72 [(2, 70), (4, 72), (6, 74)] (by simp only [hz]; decide)).trans h4
        have h6 : V 6 = .string (strOf (fy)) := HU.holds 6 (by decide)
        have tb74 : (Rg.putUse V [(2, 70), (4, 72), (6, 74)] fr).eval (.tmp 74) = .string (strOf (fy)) := (Rg.use_eval V fr 74 [(2, 70), (4, 72), (6, 74)] (by simp only [hz]; decide)).trans h6
        show Rg.Does1 _ _ V (Rg.putUse V [(2, 70), (4, 72), (6, 74)] fr) w2 _
        have hsq := HSQ.out
        exact Ob.rc_mv (.bool ev) (by simp only [execOp, tb72, tb74]; go_simp) rfl rfl h2
      · intro V S w2 HM HU HE
        have lw : Below W9.heap.size W9 w2 := Rc.Mod.below HM (fun _ h => h.elim)
        have h2 : V 2 = .bool true := HU.holds 2 (by decide)
        have tb2 : (Rg.putUse V [(2, 70)] fr).eval (.tmp 2) = .pointer (some ⟨g, 0, none⟩) := (Rg.use_eval V fr 2 [(2, 70)] (by simp only [hz]; decide)).trans y2
        show Rg.Does1 _ _ V (Rg.putUse V [(2, 70)] fr) w2 _
        have cl0 := (lw.cell (p := ⟨g, 0, none⟩) HG9.out.lt).trans (HG9.out.cell 0)
        have cl1 := (lw.cell (p := ⟨g, 1, none⟩) HG9.out.lt).trans (HG9.out.cell 1)
        have cl2 := (lw.cell (p := ⟨g, 2, none⟩) HG9.out.lt).trans (HG9.out.cell 2)
        have cl3 := (lw.cell (p := ⟨g, 3, none⟩) HG9.out.lt).trans (HG9.out.cell 3)
        have cl4 := (lw.cell (p := ⟨g, 4, none⟩) HG9.out.lt).trans (HG9.out.cell 4)
        have cl5 := (lw.cell (p := ⟨g, 5, none⟩) HG9.out.lt).trans (HG9.out.cell 5)
        have cl6 := (lw.cell (p := ⟨g, 6, none⟩) HG9.out.lt).trans (HG9.out.cell 6)
        have cl7 := (lw.cell (p := ⟨g, 7, none⟩) HG9.out.lt).trans (HG9.out.cell 7)
        have cl8 := (lw.cell (p := ⟨g, 8, none⟩) HG9.out.lt).trans (HG9.out.cell 8)
        exact Ob.rc_mv (.agg #[.int .i64 (k : Nat), .string (strOf xp), .string (strOf xt), .int .i64 xf, .int .i64 xa, .int .i64 xn, .int .u64 (xu : Nat), .int .i64 xs, .slice A xd.length c]) (by simp only [execOp, tb2]; go_simp) rfl rfl h2
      · intro V S w2 HM HU HE
        have lw : Below W9.heap.size W9 w2 := Rc.Mod.below HM (fun _ h => h.elim)
        have h2 : V 2 = .bool true := HU.holds 2 (by decide)
        have h8 : V 8 = .agg #[.int .i64 (k : Nat), .string (strOf xp), .string (strOf xt), .int .i64 xf, .int .i64 xa, .int .i64 xn, .int .u64 (xu : Nat), .int .i64 xs, .slice A xd.length c] := HU.holds 8 (by decide)
        have tb76 : (Rg.putUse V [(2, 70), (8, 76)] fr).eval (.tmp 76) = .agg #[.int .i64 (k : Nat), .string (strOf xp), .string (strOf xt), .int .i64 xf, .int .i64 xa, .int .i64 xn, .int .u64 (xu : Nat), .int .i64 xs, .slice A xd.length c] := (Rg.use_eval V fr 76 [(2, 70), (8, 76)] (by simp only [hz]; decide)).trans h8
        show Rg.Does1 _ _ V (Rg.putUse V [(2, 70), (8, 76)] fr) w2 _
        exact Ob.step_tell (.agg #[.int .i64 (k : Nat), .string (strOf ap), .string (strOf at_), .int .i64 af, .int .i64 aa, .int .i64 an, .int .u64 (au : Nat), .int .i64 as_, .slice A9 ad.length c9]) #[.agg #[.int .i64 (k : Nat), .string (strOf xp), .string (strOf xt), .int .i64 xf, .int .i64 xa, .int .i64 xn, .int .u64 (xu : Nat), .int .i64 xs, .slice A xd.length c]] (fun args w => Rg.call_enter Try.func24 (by kernel_rfl) (by kernel_rfl) args w) rfl (by simp only [List.map_toArray, List.map_cons, List.map_nil, tb76]) rfl (fun x => Rg.alias_none rfl V x) h2 (HASX.out w2)
      · intro V S w2 HM HU HE
        have lw : Below W9.heap.size W9 w2 := Rc.Mod.below HM (fun _ h => h.elim)
        have h2 : V 2 = .bool true := HU.holds 2 (by decide)
        have tb3 : (Rg.putUse V [(2, 70)] fr).eval (.tmp 3) = .pointer (some ⟨h, 0, none⟩) := (Rg.use_eval V fr 3 [(2, 70)] (by simp only [hz]; decide)).trans y3
        show Rg.Does1 _ _ V (Rg.putUse V [(2, 70)] fr) w2 _
        have cl0 := (lw.cell (p := ⟨h, 0, none⟩) HH9.out.lt).trans (HH9.out.cell 0)
        have cl1 := (lw.cell (p := ⟨h, 1, none⟩) HH9.out.lt).trans (HH9.out.cell 1)
        have cl2 := (lw.cell (p := ⟨h, 2, none⟩) HH9.out.lt).trans (HH9.out.cell 2)
        have cl3 := (lw.cell (p := ⟨h, 3, none⟩) HH9.out.lt).trans (HH9.out.cell 3)
        have cl4 := (lw.cell (p := ⟨h, 4, none⟩) HH9.out.lt).trans (HH9.out.cell 4)
        have cl5 := (lw.cell (p := ⟨h, 5, none⟩) HH9.out.lt).trans (HH9.out.cell 5)
        have cl6 := (lw.cell (p := ⟨h, 6, none⟩) HH9.out.lt).trans (HH9.out.cell 6)
        have cl7 := (lw.cell (p := ⟨h, 7, none⟩) HH9.out.lt).trans (HH9.out.cell 7)
        have cl8 := (lw.cell (p := ⟨h, 8, none⟩) HH9.out.lt).trans (HH9.out.cell 8)
        exact Ob.rc_mv (.agg #[.int .i64 (k : Nat), .string (strOf yp), .string (strOf yt), .int .i64 yf, .int .i64 ya, .int .i64 yn, .int .u64 (yu : Nat), .int .i64 ys, .slice B yd.length d]) (by simp only [execOp, tb3]; go_simp) rfl rfl h2
      · intro V S w2 HM HU HE
        have lw : Below W9.heap.size W9 w2 := Rc.Mod.below HM (fun _ h => h.elim)
        have h2 : V 2 = .bool true := HU.holds 2 (by decide)
        have h10 : V 10 = .agg #[.int .i64 (k : Nat), .string (strOf yp), .string (strOf yt), .int .i64 yf, .int .i64 ya, .int .i64 yn, .int .u64 (yu : Nat), .int .i64 ys, .slice B yd.length d] := HU.holds 10 (by decide)
        have tb78 : (Rg.putUse V [(2, 70), (10, 78)] fr).eval (.tmp 78) = .agg #[.int .i64 (k : Nat), .string (strOf yp), .string (strOf yt), .int .i64 yf, .int .i64 ya, .int .i64 yn, .int .u64 (yu : Nat), .int .i64 ys, .slice B yd.length d] := (Rg.use_eval V fr 78 [(2, 70), (10, 78)] (by simp only [hz]; decide)).trans h10
        show Rg.Does1 _ _ V (Rg.putUse V [(2, 70), (10, 78)] fr) w2 _
        exact Ob.step_tell (.agg #[.int .i64 (k : Nat), .string (strOf yp2), .string (strOf yt2), .int .i64 yf2, .int .i64 ya2, .int .i64 yn2, .int .u64 (yu2 : Nat), .int .i64 ys2, .slice B9' yd2.length d9]) #[.agg #[.int .i64 (k : Nat), .string (strOf yp), .string (strOf yt), .int .i64 yf, .int .i64 ya, .int .i64 yn, .int .u64 (yu : Nat), .int .i64 ys, .slice B yd.length d]] (fun args w => Rg.call_enter Try.func24 (by kernel_rfl) (by kernel_rfl) args w) rfl (by simp only [List.map_toArray, List.map_cons, List.map_nil, tb78]) rfl (fun x => Rg.alias_none rfl V x) h2 (HASY.out w2)
      · intro V S w2 HM HU HE
        have lw : Below W9.heap.size W9 w2 := Rc.Mod.below HM (fun _ h => h.elim)
        have h2 : V 2 = .bool true := HU.holds 2 (by decide)
        have h9 : V 9 = .agg #[.int .i64 (k : Nat), .string (strOf ap), .string (strOf at_), .int .i64 af, .int .i64 aa, .int .i64 an, .int .u64 (au : Nat), .int .i64 as_, .slice A9 ad.length c9] := HU.holds 9 (by decide)
        have tb77 : (Rg.putUse V [(2, 70), (9, 77), (11, 79)] fr).eval (.tmp 77) = .agg #[.int .i64 (k : Nat), .string (strOf ap), .string (strOf at_), .int .i64 af, .int .i64 aa, .int .i64 an, .int .u64 (au : Nat), .int .i64 as_, .slice A9 ad.length c9] := (Rg.use_eval V fr 77 [(2, 70), (9, 77), (11, 79)] (by simp only [hz]; decide)).trans h9
        have h11 : V 11 = .agg #[.int .i64 (k : Nat), .string (strOf yp2), .string (strOf yt2), .int .i64 yf2, .int .i64 ya2, .int .i64 yn2, .int .u64 (yu2 : Nat), .int .i64 ys2, .slice B9' yd2.length d9] := HU.holds 11 (by decide)
        have tb79 : (Rg.putUse V [(2, 70), (9, 77), (11, 79)] fr).eval (.tmp 79) = .agg #[.int .i64 (k : Nat), .string (strOf yp2), .string (strOf yt2), .int .i64 yf2, .int .i64 ya2, .int .i64 yn2, .int .u64 (yu2 : Nat), .int .i64 ys2, .slice B9' yd2.length d9] := (Rg.use_eval V fr 79 [(2, 70), (9, 77), (11, 79)] (by simp only [hz]; decide)).trans h11
        show Rg.Does1 _ _ V (Rg.putUse V [(2, 70), (9, 77), (11, 79)] fr) w2 _
        exact Ob.step_tell (.bool ev) #[.agg #[.int .i64 (k : Nat), .string (strOf ap), .string (strOf at_), .int .i64 af, .int .i64 aa, .int .i64 an, .int .u64 (au : Nat), .int .i64 as_, .slice A9 ad.length c9], .agg #[.int .i64 (k : Nat), .string (strOf yp2), .string (strOf yt2), .int .i64 yf2, .int .i64 ya2, .int .i64 yn2, .int .u64 (yu2 : Nat), .int .i64 ys2, .slice B9' yd2.length d9]] (fun args w => Rg.call_enter Try.func23 (by kernel_rfl) (by kernel_rfl) args w) rfl (by simp only [List.map_toArray, List.map_cons, List.map_nil, tb77, tb79]) rfl (fun x => Rg.alias_none rfl V x) h2 (HEQ1.out w2 lw)
      · intro V S w2 HM HU HE
        have lw : Below W9.heap.size W9 w2 := Rc.Mod.below HM (fun _ h => h.elim)
        have h2 : V 2 = .bool true := HU.holds 2 (by decide)
        have h7 : V 7 = .bool ev := HU.holds 7 (by decide)
        have tb75 : (Rg.putUse V [(2, 70), (7, 75), (12, 80)] fr).eval (.tmp 75) = .bool ev := (Rg.use_eval V fr 75 [(2, 70), (7, 75), (12, 80)] (by simp only [hz]; decide)).trans h7
        have h12 : V 12 = .bool ev := HU.holds 12 (by decide)
        have tb80 : (Rg.putUse V [(2, 70), (7, 75), (12, 80)] fr).eval (.tmp 80) = .bool ev := (Rg.use_eval V fr 80 [(2, 70), (7, 75), (12, 80)] (by simp only [hz]; decide)).trans h12
        show Rg.Does1 _ _ V (Rg.putUse V [(2, 70), (7, 75), (12, 80)] fr) w2 _
        exact Ob.rc_mv (.bool true) (by simp only [execOp, tb75, tb80]; go_simp) rfl rfl h2
      · intro V S w2 HM HU HE
        have lw : Below W9.heap.size W9 w2 := Rc.Mod.below HM (fun _ h => h.elim)
        have h2 : V 2 = .bool true := HU.holds 2 (by decide)
        have tb70 : (Rg.putUse V [(2, 70), (13, 81)] fr).eval (.tmp 70) = .bool true := (Rg.use_eval V fr 70 [(2, 70), (13, 81)] (by simp only [hz]; decide)).trans h2
        have h13 : V 13 = .bool true := HU.holds 13 (by decide)
        have tb81 : (Rg.putUse V [(2, 70), (13, 81)] fr).eval (.tmp 81) = .bool true := (Rg.use_eval V fr 81 [(2, 70), (13, 81)] (by simp only [hz]; decide)).trans h13
        show Rg.Does1 _ _ V (Rg.putUse V [(2, 70), (13, 81)] fr) w2 _
        exact Ob.rc_mv (.bool true) (by simp only [execOp, tb70, tb81]; go_simp) rfl rfl True.intro
      · intro V S w2 HM HU HE
        have lw : Below W9.heap.size W9 w2 := Rc.Mod.below HM (fun _ h => h.elim)
        have h14 : V 14 = .bool true := HU.holds 14 (by decide)
        have tb82 : (Rg.putUse V [(14, 82)] fr).eval (.tmp 82) = .bool true := (Rg.use_eval V fr 82 [(14, 82)] (by simp only [hz]; decide)).trans h14
        show Rg.Does1 _ _ V (Rg.putUse V [(14, 82)] fr) w2 _
        exact Ob.rc_mv (.bool true) (by simp only [execOp, tb82]; go_simp) rfl rfl True.intro
      · intro V S w2 HM HU HE
        have lw : Below W9.heap.size W9 w2 := Rc.Mod.below HM (fun _ h => h.elim)
        have h15 : V 15 = .bool true := HU.holds 15 (by decide)
        have tb11 : (Rg.putUse V [(15, 83)] fr).eval (.tmp 11) = .pointer (some ⟨gd, 0, none⟩) := (Rg.use_eval V fr 11 [(15, 83)] (by simp only [hz]; decide)).trans y11
        show Rg.Does1 _ _ V (Rg.putUse V [(15, 83)] fr) w2 _
        have cl0 := (lw.cell (p := ⟨gd, 0, none⟩) HD9.out.lt).trans (HD9.out.cell 0)
        have cl1 := (lw.cell (p := ⟨gd, 1, none⟩) HD9.out.lt).trans (HD9.out.cell 1)
        have cl2 := (lw.cell (p := ⟨gd, 2, none⟩) HD9.out.lt).trans (HD9.out.cell 2)
        have cl3 := (lw.cell (p := ⟨gd, 3, none⟩) HD9.out.lt).trans (HD9.out.cell 3)
        have cl4 := (lw.cell (p := ⟨gd, 4, none⟩) HD9.out.lt).trans (HD9.out.cell 4)
        have cl5 := (lw.cell (p := ⟨gd, 5, none⟩) HD9.out.lt).trans (HD9.out.cell 5)
        have cl6 := (lw.cell (p := ⟨gd, 6, none⟩) HD9.out.lt).trans (HD9.out.cell 6)
        have cl7 := (lw.cell (p := ⟨gd, 7, none⟩) HD9.out.lt).trans (HD9.out.cell 7)
        have cl8 := (lw.cell (p := ⟨gd, 8, none⟩) HD9.out.lt).trans (HD9.out.cell 8)
        exact Ob.rc_mv (.agg #[.int .i64 (k : Nat), .string (strOf ap), .string (strOf at_), .int .i64 af, .int .i64 aa, .int .i64 an, .int .u64 (au : Nat), .int .i64 as_, .slice D ad.length cD]) (by simp only [execOp, tb11]; go_simp) rfl rfl h15
      · intro V S w2 HM HU HE
        have lw : Below W9.heap.size W9 w2 := Rc.Mod.below HM (fun _ h => h.elim)
        have h15 : V 15 = .bool true := HU.holds 15 (by decide)
        have tb11 : (Rg.putUse V [(15, 83)] fr).eval (.tmp 11) = .pointer (some ⟨gd, 0, none⟩) := (Rg.use_eval V fr 11 [(15, 83)] (by simp only [hz]; decide)).trans y11
        show Rg.Does1 _ _ V (Rg.putUse V [(15, 83)] fr) w2 _
        have cl0 := (lw.cell (p := ⟨gd, 0, none⟩) HD9.out.lt).trans (HD9.out.cell 0)
        have cl1 := (lw.cell (p := ⟨gd, 1, none⟩) HD9.out.lt).trans (HD9.out.cell 1)
        have cl2 := (lw.cell (p := ⟨gd, 2, none⟩) HD9.out.lt).trans (HD9.out.cell 2)
        have cl3 := (lw.cell (p := ⟨gd, 3, none⟩) HD9.out.lt).trans (HD9.out.cell 3)
        have cl4 := (lw.cell (p := ⟨gd, 4, none⟩) HD9.out.lt).trans (HD9.out.cell 4)
        have cl5 := (lw.cell (p := ⟨gd, 5, none⟩) HD9.out.lt).trans (HD9.out.cell 5)
        have cl6 := (lw.cell (p := ⟨gd, 6, none⟩) HD9.out.lt).trans (HD9.out.cell 6)
        have cl7 := (lw.cell (p := ⟨gd, 7, none⟩) HD9.out.lt).trans (HD9.out.cell 7)
        have cl8 := (lw.cell (p := ⟨gd, 8, none⟩) HD9.out.lt).trans (HD9.out.cell 8)
        exact Ob.rc_mv (.agg #[.int .i64 (k : Nat), .string (strOf ap), .string (strOf at_), .int .i64 af, .int .i64 aa, .int .i64 an, .int .u64 (au : Nat), .int .i64 as_, .slice D ad.length cD]) (by simp only [execOp, tb11]; go_simp) rfl rfl h15
      · intro V S w2 HM HU HE
        have lw : Below W9.heap.size W9 w2 := Rc.Mod.below HM (fun _ h => h.elim)
        have h15 : V 15 = .bool true := HU.holds 15 (by decide)
        have h17 : V 17 = .agg #[.int .i64 (k : Nat), .string (strOf ap), .string (strOf at_), .int .i64 af, .int .i64 aa, .int .i64 an, .int .u64 (au : Nat), .int .i64 as_, .slice D ad.length cD] := HU.holds 17 (by decide)
        have tb85 : (Rg.putUse V [(15, 83), (17, 85)] fr).eval (.tmp 85) = .agg #[.int .i64 (k : Nat), .string (strOf ap), .string (strOf at_), .int .i64 af, .int .i64 aa, .int .i64 an, .int .u64 (au : Nat), .int .i64 as_, .slice D ad.length cD] := (Rg.use_eval V fr 85 [(15, 83), (17, 85)] (by simp only [hz]; decide)).trans h17
        show Rg.Does1 _ _ V (Rg.putUse V [(15, 83), (17, 85)] fr) w2 _
        exact Ob.step_tell (.agg #[.int .i64 (k : Nat), .string (strOf ap), .string (strOf at_), .int .i64 af, .int .i64 aa, .int .i64 an, .int .u64 (au : Nat), .int .i64 as_, .slice DE ad.length cE]) #[.agg #[.int .i64 (k : Nat), .string (strOf ap), .string (strOf at_), .int .i64 af, .int .i64 aa, .int .i64 an, .int .u64 (au : Nat), .int .i64 as_, .slice D ad.length cD]] (fun args w => Rg.call_enter Try.func24 (by kernel_rfl) (by kernel_rfl) args w) rfl (by simp only [List.map_toArray, List.map_cons, List.map_nil, tb85]) rfl (fun x => Rg.alias_none rfl V x) h15 (HASD.out w2)
      · intro V S w2 HM HU HE
        have lw : Below W9.heap.size W9 w2 := Rc.Mod.below HM (fun _ h => h.elim)
        have h15 : V 15 = .bool true := HU.holds 15 (by decide)
        have h16 : V 16 = .agg #[.int .i64 (k : Nat), .string (strOf ap), .string (strOf at_), .int .i64 af, .int .i64 aa, .int .i64 an, .int .u64 (au : Nat), .int .i64 as_, .slice D ad.length cD] := HU.holds 16 (by decide)
        have tb84 : (Rg.putUse V [(15, 83), (16, 84), (18, 86)] fr).eval (.tmp 84) = .agg #[.int .i64 (k : Nat), .string (strOf ap), .string (strOf at_), .int .i64 af, .int .i64 aa, .int .i64 an, .int .u64 (au : Nat), .int .i64 as_, .slice D ad.length cD] := (Rg.use_eval V fr 84 [(15, 83), (16, 84), (18, 86)] (by simp only [hz]; decide)).trans h16
        have h18 : V 18 = .agg #[.int .i64 (k : Nat), .string (strOf ap), .string (strOf at_), .int .i64 af, .int .i64 aa, .int .i64 an, .int .u64 (au : Nat), .int .i64 as_, .slice DE ad.length cE] := HU.holds 18 (by decide)
        have tb86 : (Rg.putUse V [(15, 83), (16, 84), (18, 86)] fr).eval (.tmp 86) = .agg #[.int .i64 (k : Nat), .string (strOf ap), .string (strOf at_), .int .i64 af, .int .i64 aa, .int .i64 an, .int .u64 (au : Nat), .int .i64 as_, .slice DE ad.length cE] := (Rg.use_eval V fr 86 [(15, 83), (16, 84), (18, 86)] (by simp only [hz]; decide)).trans h18
        show Rg.Does1 _ _ V (Rg.putUse V [(15, 83), (16, 84), (18, 86)] fr) w2 _
        exact Ob.step_tell (.bool true) #[.agg #[.int .i64 (k : Nat), .string (strOf ap), .string (strOf at_), .int .i64 af, .int .i64 aa, .int .i64 an, .int .u64 (au : Nat), .int .i64 as_, .slice D ad.length cD], .agg #[.int .i64 (k : Nat), .string (strOf ap), .string (strOf at_), .int .i64 af, .int .i64 aa, .int .i64 an, .int .u64 (au : Nat), .int .i64 as_, .slice DE ad.length cE]] (fun args w => Rg.call_enter Try.func23 (by kernel_rfl) (by kernel_rfl) args w) rfl (by simp only [List.map_toArray, List.map_cons, List.map_nil, tb84, tb86]) rfl (fun x => Rg.alias_none rfl V x) h15 (HEQ2.out w2 lw)
      · intro V S w2 HM HU HE
        have lw : Below W9.heap.size W9 w2 := Rc.Mod.below HM (fun _ h => h.elim)
        have h15 : V 15 = .bool true := HU.holds 15 (by decide)
        have tb83 : (Rg.putUse V [(15, 83), (19, 87)] fr).eval (.tmp 83) = .bool true := (Rg.use_eval V fr 83 [(15, 83), (19, 87)] (by simp only [hz]; decide)).trans h15
        have h19 : V 19 = .bool true := HU.holds 19 (by decide)
        have tb87 : (Rg.putUse V [(15, 83), (19, 87)] fr).eval (.tmp 87) = .bool true := (Rg.use_eval V fr 87 [(15, 83), (19, 87)] (by simp only [hz]; decide)).trans h19
        show Rg.Does1 _ _ V (Rg.putUse V [(15, 83), (19, 87)] fr) w2 _
        exact Ob.rc_mv (.bool true) (by simp only [execOp, tb83, tb87]; go_simp) rfl rfl True.intro
      · intro V S w2 HM HU HE
        have lw : Below W9.heap.size W9 w2 := Rc.Mod.below HM (fun _ h => h.elim)
        have h20 : V 20 = .bool true := HU.holds 20 (by decide)
        have tb88 : (Rg.putUse V [(20, 88)] fr).eval (.tmp 88) = .bool true := (Rg.use_eval V fr 88 [(20, 88)] (by simp only [hz]; decide)).trans h20
        show Rg.Does1 _ _ V (Rg.putUse V [(20, 88)] fr) w2 _
        exact Ob.rc_mv (.bool true) (by simp only [execOp, tb88]; go_simp) rfl rfl True.intro
      · intro V S w2 HM HU HE
        have lw : Below W9.heap.size W9 w2 := Rc.Mod.below HM (fun _ h => h.elim)
        have h21 : V 21 = .bool true := HU.holds 21 (by decide)
        have tb5 : (Rg.putUse V [(21, 89)] fr).eval (.tmp 5) = .slice (some ⟨bx, ofx, none⟩) fx.length cX := (Rg.use_eval V fr 5 [(21, 89)] (by simp only [hz]; decide)).trans y5
        show Rg.Does1 _ _ V (Rg.putUse V [(21, 89)] fr) w2 _
        exact Ob.rc_mv (.slice (some ⟨bx, ofx, none⟩) fx.length cX) (by simp only [execOp, tb5]; go_simp) rfl rfl h21
      · intro V S w2 HM HU HE
        have lw : Below W9.heap.size W9 w2 := Rc.Mod.below HM (fun _ h => h.elim)
        have h21 : V 21 = .bool true := HU.holds 21 (by decide)
        have h22 : V 22 = .slice (some ⟨bx, ofx, none⟩) fx.length cX := HU.holds 22 (by decide)
        have tb90 : (Rg.putUse V [(21, 89), (22, 90)] fr).eval (.tmp 90) = .slice (some ⟨bx, ofx, none⟩) fx.length cX := (Rg.use_eval V fr 90 [(21, 89), (22, 90)] (by simp only [hz]; decide)).trans h22
        show Rg.Does1 _ _ V (Rg.putUse V [(21, 89), (22, 90)] fr) w2 _
        have hps := HPOS.out
        have hps2 : fx ≠ [] := fun e => by have := HFB.out.1; rw [e] at this; exact absurd this (by simp)
        exact Ob.rc_mv (.pointer (some ⟨bx, ofx, none⟩)) (by simp only [execOp, tb90]; go_simp) rfl rfl h21
      · intro V S w2 HM HU HE
        have lw : Below W9.heap.size W9 w2 := Rc.Mod.below HM (fun _ h => h.elim)
        have h21 : V 21 = .bool true := HU.holds 21 (by decide)
        have h23 : V 23 = .pointer (some ⟨bx, ofx, none⟩) := HU.holds 23 (by decide)
        have tb91 : (Rg.putUse V [(21, 89), (23, 91)] fr).eval (.tmp 91) = .pointer (some ⟨bx, ofx, none⟩) := (Rg.use_eval V fr 91 [(21, 89), (23, 91)] (by simp only [hz]; decide)).trans h23
        show Rg.Does1 _ _ V (Rg.putUse V [(21, 89), (23, 91)] fr) w2 _
        have cl := (lw.cell (p := ⟨bx, ofx, none⟩) HBLT.out).trans HC0.out
        exact Ob.rc_mv (.int .u8 (k : Nat)) (by simp only [execOp, tb91]; go_simp) rfl rfl h21
      · intro V S w2 HM HU HE
        have lw : Below W9.heap.size W9 w2 := Rc.Mod.below HM (fun _ h => h.elim)
        have h21 : V 21 = .bool true := HU.holds 21 (by decide)
        have h24 : V 24 = .int .u8 (k : Nat) := HU.holds 24 (by decide)
        have tb92 : (Rg.putUse V [(21, 89), (24, 92)] fr).eval (.tmp 92) = .int .u8 (k : Nat) := (Rg.use_eval V fr 92 [(21, 89), (24, 92)] (by simp only [hz]; decide)).trans h24
        show Rg.Does1 _ _ V (Rg.putUse V [(21, 89), (24, 92)] fr) w2 _
        have hwk : IntKind.i64.wrap ((k : Nat) : Int) = ((k : Nat) : Int) := IntWalk.i64_in _ (by have := HK17.out; omega)
        exact Ob.rc_mv (.int .i64 (k : Nat)) (by simp only [execOp, tb92]; go_simp) rfl rfl h21
      · intro V S w2 HM HU HE
        have lw : Below W9.heap.size W9 w2 := Rc.Mod.below HM (fun _ h => h.elim)
        have h21 : V 21 = .bool true := HU.holds 21 (by decide)
        have tb2 : (Rg.putUse V [(21, 89)] fr).eval (.tmp 2) = .pointer (some ⟨g, 0, none⟩) := (Rg.use_eval V fr 2 [(21, 89)] (by simp only [hz]; decide)).trans y2
        show Rg.Does1 _ _ V (Rg.putUse V [(21, 89)] fr) w2 _
        exact Ob.rc_mv (.pointer (some ⟨g, 0, none⟩)) (by simp only [execOp, tb2]; go_simp) rfl rfl h21
      · intro V S w2 HM HU HE
        have lw : Below W9.heap.size W9 w2 := Rc.Mod.below HM (fun _ h => h.elim)
        have h21 : V 21 = .bool true := HU.holds 21 (by decide)
        have h26 : V 26 = .pointer (some ⟨g, 0, none⟩) := HU.holds 26 (by decide)
        have tb94 : (Rg.putUse V [(21, 89), (26, 94)] fr).eval (.tmp 94) = .pointer (some ⟨g, 0, none⟩) := (Rg.use_eval V fr 94 [(21, 89), (26, 94)] (by simp only [hz]; decide)).trans h26
        show Rg.Does1 _ _ V (Rg.putUse V [(21, 89), (26, 94)] fr) w2 _
        have cl := (lw.cell (p := ⟨g, 0, none⟩) HG9.out.lt).trans (HG9.out.cell 0)
        exact Ob.rc_mv (.int .i64 (k : Nat)) (by simp only [execOp, tb94]; go_simp) rfl rfl h21
      · intro V S w2 HM HU HE
        have lw : Below W9.heap.size W9 w2 := Rc.Mod.below HM (fun _ h => h.elim)
        have h21 : V 21 = .bool true := HU.holds 21 (by decide)
        have h25 : V 25 = .int .i64 (k : Nat) := HU.holds 25 (by decide)
        have tb93 : (Rg.putUse V [(21, 89), (25, 93), (27, 95)] fr).eval (.tmp 93) = .int .i64 (k : Nat) := (Rg.use_eval V fr 93 [(21, 89), (25, 93), (27, 95)] (by simp only [hz]; decide)).trans h25
        have h27 : V 27 = .int .i64 (k : Nat) := HU.holds 27 (by decide)
        have tb95 : (Rg.putUse V [(21, 89), (25, 93), (27, 95)] fr).eval (.tmp 95) = .int .i64 (k : Nat) := (Rg.use_eval V fr 95 [(21, 89), (25, 93), (27, 95)] (by simp only [hz]; decide)).trans h27
        show Rg.Does1 _ _ V (Rg.putUse V [(21, 89), (25, 93), (27, 95)] fr) w2 _
        exact Ob.rc_mv (.bool true) (by simp only [execOp, tb93, tb95]; go_simp) rfl rfl h21
      · intro V S w2 HM HU HE
        have lw : Below W9.heap.size W9 w2 := Rc.Mod.below HM (fun _ h => h.elim)
        have h21 : V 21 = .bool true := HU.holds 21 (by decide)
        have tb89 : (Rg.putUse V [(21, 89), (28, 96)] fr).eval (.tmp 89) = .bool true := (Rg.use_eval V fr 89 [(21, 89), (28, 96)] (by simp only [hz]; decide)).trans h21
        have h28 : V 28 = .bool true := HU.holds 28 (by decide)
        have tb96 : (Rg.putUse V [(21, 89), (28, 96)] fr).eval (.tmp 96) = .bool true := (Rg.use_eval V fr 96 [(21, 89), (28, 96)] (by simp only [hz]; decide)).trans h28
        show Rg.Does1 _ _ V (Rg.putUse V [(21, 89), (28, 96)] fr) w2 _
        exact Ob.rc_mv (.bool true) (by simp only [execOp, tb89, tb96]; go_simp) rfl rfl True.intro
      · intro V S w2 HM HU HE
        have lw : Below W9.heap.size W9 w2 := Rc.Mod.below HM (fun _ h => h.elim)
        have h29 : V 29 = .bool true := HU.holds 29 (by decide)
        have tb97 : (Rg.putUse V [(29, 97)] fr).eval (.tmp 97) = .bool true := (Rg.use_eval V fr 97 [(29, 97)] (by simp only [hz]; decide)).trans h29
        show Rg.Does1 _ _ V (Rg.putUse V [(29, 97)] fr) w2 _
        exact Ob.rc_mv (.bool true) (by simp only [execOp, tb97]; go_simp) rfl rfl True.intro
      · intro V S w2 HM HU HE
        have lw : Below W9.heap.size W9 w2 := Rc.Mod.below HM (fun _ h => h.elim)
        have h30 : V 30 = .bool true := HU.holds 30 (by decide)
        show Rg.Does1 _ _ V (Rg.putUse V [(30, 98)] fr) w2 _
        exact Ob.step_tell (.bool true) #[] (fun args w => Rg.call_enter Try.func15 (by kernel_rfl) (by kernel_rfl) args w) rfl (by simp only [List.map_toArray, List.map_nil]) rfl (fun x => Rg.alias_none rfl V x) h30 (HKN.out w2)
      · intro V S w2 HM HU HE
        have lw : Below W9.heap.size W9 w2 := Rc.Mod.below HM (fun _ h => h.elim)
        have h30 : V 30 = .bool true := HU.holds 30 (by decide)
        have tb98 : (Rg.putUse V [(30, 98), (31, 99)] fr).eval (.tmp 98) = .bool true := (Rg.use_eval V fr 98 [(30, 98), (31, 99)] (by simp only [hz]; decide)).trans h30
        have h31 : V 31 = .bool true := HU.holds 31 (by decide)
        have tb99 : (Rg.putUse V [(30, 98), (31, 99)] fr).eval (.tmp 99) = .bool true := (Rg.use_eval V fr 99 [(30, 98), (31, 99)] (by simp only [hz]; decide)).trans h31
        show Rg.Does1 _ _ V (Rg.putUse V [(30, 98), (31, 99)] fr) w2 _
        exact Ob.rc_mv (.bool true) (by simp only [execOp, tb98, tb99]; go_simp) rfl rfl True.intro
      · intro V S w2 HM HU HE
        have lw : Below W9.heap.size W9 w2 := Rc.Mod.below HM (fun _ h => h.elim)
        have h32 : V 32 = .bool true := HU.holds 32 (by decide)
        have tb100 : (Rg.putUse V [(32, 100)] fr).eval (.tmp 100) = .bool true := (Rg.use_eval V fr 100 [(32, 100)] (by simp only [hz]; decide)).trans h32
        show Rg.Does1 _ _ V (Rg.putUse V [(32, 100)] fr) w2 _
        exact Ob.rc_mv (.bool true) (by simp only [execOp, tb100]; go_simp) rfl rfl True.intro
    intro V S w2 HI
    have HL2 : Hid (Below W9.heap.size W9 w2) := Rc.Mod.below HI.mod.undrew (fun _ h => h.elim)
    have hw33 : V 33 = .bool true := HI.get 33 (by decide) (by rfl)
    simp only [Rg.putList, Act.put, List.setIfInBounds_toArray, List.set_cons_zero, List.set_cons_succ, Nat.zero_add, Nat.reduceAdd]
    rw [hw33]
    clear HI hw33
    have HEND : Hid (Below w.heap.size w w2) := Later.trans HB9.out HL2.out
    clear HL2
    go_wp2_with fail
    go_ret
    exact ⟨rfl, HEND.out⟩
end Op
end Go.Proofs.Ytmcbpgbiephllaa

namespace Go.Proofs.Ytmcbpgbiephllaa
open Go.ChangeShapes Go.WideShapes Go.RowKit Go.Deep
namespace Op
theorem cellsOp : Try.prog.cellsOf 25 = 9 := by kernel_rfl
theorem cellsI : Try.prog.cellsOf 3 = 1 := by kernel_rfl
theorem cellsS : Try.prog.cellsOf 9 = 1 := by kernel_rfl
theorem cellsQ : Try.prog.cellsOf 22 = 1 := by kernel_rfl
theorem cellsB : Try.prog.cellsOf 23 = 1 := by kernel_rfl
set_option maxRecDepth 100000 in
set_option maxHeartbeats 1000000 in
theorem op_of {H : Type} {enc : TypeId × Value → H} {W : World} {r : Reach} {b0 : Nat} {v : Value} {d : DataW H} {p : List MemPlace} (hval : Value.okWide Try.prog W r b0 25 v)
    (h : DataW.Trod enc Try.prog W 0 (fun _ => true) true 25 v d p) : ∃ (x : St.Opn) (A : Option Addr) (c : Nat), OpOk W x A c ∧ v = opV x (.slice A x.data.length c) := by
  have hv : ∃ cs, v = .agg cs ∧ cs.size = Try.prog.cellsOf 25 ∧ Row.okWide Try.prog W r b0 25 cs := by
    have h1 := hval
    unfold Value.okWide at h1
    rw [Try.underlying25] at h1
    exact h1
  obtain ⟨⟨cs⟩, rfl, hsz, _⟩ := hv
  obtain ⟨fuel, hf⟩ := h
  have hf2 : DataW.trod enc Try.prog W 0 (fun _ => true) true fuel 25 cs = some (d, p) := by simpa [Value.cells] using hf
  rw [cellsOp] at hsz
  obtain ⟨ys, n', _, _, _, hyl, hfl⟩ := DataW.trod_struct Try.underlying25 hf2
  match cs, hsz, ys, hyl with
  | [v0, v1, v2, v3, v4, v5, v6, v7, v8], _, [y0, y1, y2, y3, y4, y5, y6, y7, y8], _ =>
    have h0 : DataW.trod enc Try.prog W 0 (fun _ => true) true n' 3 ((List.drop 0 [v0, v1, v2, v3, v4, v5, v6, v7, v8]).take (Try.prog.cellsOf 3)) = some y0 := hfl 0 _ rfl
    rw [cellsI] at h0
    have h1 : DataW.trod enc Try.prog W 0 (fun _ => true) true n' 9 ((List.drop 1 [v0, v1, v2, v3, v4, v5, v6, v7, v8]).take (Try.prog.cellsOf 9)) = some y1 := hfl 1 _ rfl
    rw [cellsS] at h1
    have h2 : DataW.trod enc Try.prog W 0 (fun _ => true) true n' 9 ((List.drop 2 [v0, v1, v2, v3, v4, v5, v6, v7, v8]).take (Try.prog.cellsOf 9)) = some y2 := hfl 2 _ rfl
    rw [cellsS] at h2
    have h3 : DataW.trod enc Try.prog W 0 (fun _ => true) true n' 3 ((List.drop 3 [v0, v1, v2, v3, v4, v5, v6, v7, v8]).take (Try.prog.cellsOf 3)) = some y3 := hfl 3 _ rfl
    rw [cellsI] at h3
    have h4 : DataW.trod enc Try.prog W 0 (fun _ => true) true n' 3 ((List.drop 4 [v0, v1, v2, v3, v4, v5, v6, v7, v8]).take (Try.prog.cellsOf 3)) = some y4 := hfl 4 _ rfl
    rw [cellsI] at h4
    have h5 : DataW.trod enc Try.prog W 0 (fun _ => true) true n' 3 ((List.drop 5 [v0, v1, v2, v3, v4, v5, v6, v7, v8]).take (Try.prog.cellsOf 3)) = some y5 := hfl 5 _ rfl
    rw [cellsI] at h5
    have h6 : DataW.trod enc Try.prog W 0 (fun _ => true) true n' 22 ((List.drop 6 [v0, v1, v2, v3, v4, v5, v6, v7, v8]).take (Try.prog.cellsOf 22)) = some y6 := hfl 6 _ rfl
    rw [cellsQ] at h6
    have h7 : DataW.trod enc Try.prog W 0 (fun _ => true) true n' 3 ((List.drop 7 [v0, v1, v2, v3, v4, v5, v6, v7, v8]).take (Try.prog.cellsOf 3)) = some y7 := hfl 7 _ rfl
    rw [cellsI] at h7
    have h8 : DataW.trod enc Try.prog W 0 (fun _ => true) true n' 23 ((List.drop 8 [v0, v1, v2, v3, v4, v5, v6, v7, v8]).take (Try.prog.cellsOf 23)) = some y8 := hfl 8 _ rfl
    rw [cellsB] at h8
    obtain ⟨k0, e0, _, w0⟩ := DataW.trod_int (cs := [v0]) Try.underlying3 h0
    obtain ⟨s1, e1, _, z1⟩ := DataW.trod_string (cs := [v1]) Try.underlying9 h1
    obtain ⟨s2, e2, _, z2⟩ := DataW.trod_string (cs := [v2]) Try.underlying9 h2
    obtain ⟨k3, e3, _, w3⟩ := DataW.trod_int (cs := [v3]) Try.underlying3 h3
    obtain ⟨k4, e4, _, w4⟩ := DataW.trod_int (cs := [v4]) Try.underlying3 h4
    obtain ⟨k5, e5, _, w5⟩ := DataW.trod_int (cs := [v5]) Try.underlying3 h5
    obtain ⟨k6, e6, _, w6⟩ := DataW.trod_int (cs := [v6]) Try.underlying22 h6
    obtain ⟨k7, e7, _, w7⟩ := DataW.trod_int (cs := [v7]) Try.underlying3 h7
    obtain ⟨l8, A, c, rfl, hc, hb, hr⟩ := bytes_of (v := v8) h8
    simp only [List.cons.injEq, and_true] at e0 e1 e2 e3 e4 e5 e6 e7
    obtain ⟨l1, rfl, hs1⟩ := strOf_of s1
    have hll1 : l1.length ≤ 9223372036854775807 := by rw [hs1]; exact max_le z1
    obtain ⟨l2, rfl, hs2⟩ := strOf_of s2
    have hll2 : l2.length ≤ 9223372036854775807 := by rw [hs2]; exact max_le z2
    subst e0 e1 e2 e3 e4 e5 e6 e7
    have b6 := bounds_u64 w6
    refine ⟨⟨k0, l1, l2, k3, k4, k5, k6.toNat, k7, l8⟩, A, c, ⟨bounds_i64 w0, hll1, hll2, bounds_i64 w3, bounds_i64 w4, bounds_i64 w5, by show k6.toNat ≤ _; omega, bounds_i64 w7, hc, hb, hr⟩, ?_⟩
    show Value.agg _ = Value.agg #[.int .i64 k0, .string (strOf l1), .string (strOf l2), .int .i64 k3, .int .i64 k4, .int .i64 k5, .int .u64 ((k6.toNat : Nat) : Int), .int .i64 k7, .slice A l8.length c]
    rw [Int.toNat_of_nonneg b6.1]
end Op
end Go.Proofs.Ytmcbpgbiephllaa
