/-
  OWN WORK. The law CodecTells, walked, given what the program's own writer and reader do.
-/
import Derived.Test.YtpnnikifaalkoaaCoPut
import Derived.Test.YtpnnikifaalkoaaCoGet
import Derived.Test.YtpnnikifaalkoaaCoKnown
import Derived.Test.YtpnnikifaalkoaaCoNew
import Derived.Test.YtpnnikifaalkoaaCoArgs
import Derived.Test.YtpnnikifaalkoaaBaWithin
import Derived.Test.YtpnnikifaalkoaaBaSet
import Derived.Test.YtpnnikifaalkoaaBaRoomy
namespace Go.Proofs.Ytpnnikifaalkoaa
open Go.RowKit Rc

def WLoop (C : WSaid) (v : Value) (w0 : World) (n : Nat) (t12 : Value) (w : World) : Prop :=
  ∃ l S, C.At v l S w ∧ w.ownsRow w0.heap.size 5 1 t12 l.length (Lib.byteCells l) ∧ (∀ b, t12.ownBlock = some b → ¬ S b) ∧ Below w0.heap.size w0 w ∧ (∀ b, S b → w0.heap.size ≤ b) ∧ l.length ≤ 102 * n
theorem WLoop.step {C : WSaid} {v : Value} {w0 w w' : World} {n m : Nat} {l : List UInt8} {S : Nat → Prop} {e : Ending} (h : PutOut C v S l.length w e w') (hb : Below w0.heap.size w0 w) (hS : ∀ b, S b → w0.heap.size ≤ b) (hl : l.length ≤ 102 * n) (hm : m = n + 1) : ∃ r, e = .returned r ∧ Hid (WLoop C v w0 m r w') := by
  subst hm
  obtain ⟨r, l', S', rfl, h1, h2, h3, h4, h5, h6⟩ := h
  exact ⟨r, rfl, l', S', h1, own_mono h2 hb.size, h3, wout_below hb hS h4, fun b hb2 => (h5 b hb2).elim (hS b) (fun h => Nat.le_trans hb.size h), by omega⟩

theorem Co.bits_xor_u8 (a b : Nat) (ha : a < 256) (hb : b < 256) : bits .xor .u8 (a : Int) (b : Int) = ((a ^^^ b : Nat) : Int) := by
  show IntKind.u8.wrap ((BitVec.ofInt 8 (a : Int) ^^^ BitVec.ofInt 8 (b : Int)).toNat : Int) = _
  rw [IntKind.wrap_u8', BitVec.toNat_xor, BitVec.ofInt_natCast, BitVec.ofInt_natCast, BitVec.toNat_ofNat, BitVec.toNat_ofNat, Nat.mod_eq_of_lt ha, Nat.mod_eq_of_lt hb]
  have : a ^^^ b < 2 ^ 8 := Nat.xor_lt_two_pow ha hb
  omega
/-- A writer, in a region that draws. -/
def WSaid.obj (C : WSaid) (v : Value) (l : List UInt8) (B : Nat → Prop) : Rc.Fact :=
  ⟨fun _ w S => C.At v l B w ∧ S = B, fun _ w w' S h hs hb => ⟨C.keep h.1 hs (by rw [← h.2]; exact hb), h.2⟩⟩
/-- What it hands out. -/
def wrow (l : List UInt8) : Rc.Fact :=
  ⟨fun x w S => ∃ X c, x = .slice X l.length c ∧ l.length ≤ c ∧ RowS none [] l X S w, fun _ w w' S h hs hb => by obtain ⟨X, c, h1, h2, h3⟩ := h; exact ⟨X, c, h1, h2, h3.keep hs hb⟩⟩
theorem winv (C : WSaid) {v : Value} {l : List UInt8} {B : Nat → Prop} {w : World} (h : C.At v l B w) (F : Nat → Rc.Fact) (cons : List (Nat × Nat)) (n : Nat) (hF : F n = C.obj v l B) :
    Rc.Inv F cons (Rg.alias []) w.drew B (fun i => n ≤ i ∧ i < n + 1) (fun _ => undef) (fun _ b => B b) w.drew := by
  refine ⟨Mod.refl _ _, fun i hi => ?_, fun i b hi hb => ⟨C.lt h b hb, .inl hb⟩, fun i k b hi hk hne _ => ?_, fun j _ => fun i f hm => by simp at hm⟩
  · obtain rfl : i = n := by have := hi.1; omega
    rw [hF]; exact ⟨C.keep h (Nat.le_refl _) (fun _ _ => rfl), rfl⟩
  · have := hi.1; have := hk.1; omega
theorem own_mod {w w' : World} {B n : Nat} {v : Value} {xs : List Value} {S : Nat → Prop} (h : w.ownsRow B 5 1 v n xs) (hm : Mod w w' S) (hv : ∀ b, v.ownBlock = some b → ¬ S b) : w'.ownsRow B 5 1 v n xs := by
  refine ⟨h.1, ?_⟩
  rcases h.2 with h2 | ⟨g, cap, cur, rfl, h4, h5, h6⟩
  · exact .inl h2
  · exact .inr ⟨g, cap, cur, rfl, h4, (hm.block g (Array.getElem?_eq_some_iff.1 h5).1 (hv g rfl)).trans h5, h6⟩
section
variable {F : Nat → Rc.Fact} {cons : List (Nat × Nat)} {E : Nat → (Nat → Value) → Value → Prop} {V : Nat → Value} {S : Nat → Nat → Prop} {j : Nat} {o : Oper} {b : Act} {w : World}
theorem step_done (C : WSaid) {v : Value} {l : List UInt8} {B : Nat → Prop} {i : Nat} {xs : Array Operand} {ts : Array TypeId} (hent : ∀ args w, (callFunc 12 args).run Try.prog w = .ok (.enter 12 args) w)
    (hop : o.op = .call { callee := .value (.func 12), args := xs, argTypes := ts }) (hargs : xs.map b.eval = #[v]) (hF : F j = wrow l) (hi : (j, i) ∈ cons) (hu : (C.obj v l B).holds (V i) w (S i)) (hE : ∀ v, E j V v) (hg : Rg.Open o V) :
    Rg.Does1 Try.prog o V b w (Rc.Good F cons E V S j w) := by
  obtain ⟨hat, hS⟩ := hu
  refine Rc.step_call #[v] hent hop hargs hE hg ((C.done hat).mono ?_)
  rintro e w' ⟨x, rfl, hown, hb, ho⟩
  obtain ⟨X, c, hx, hc, hrow, hlt⟩ := RowS.of_own none [] hown rfl
  refine ⟨x, fun b => x.ownBlock = some b, rfl, Mod.of_below hb _, ?_, fun k hk => ⟨?_, (hlt k hk).2⟩⟩
  · rw [hF]; exact ⟨X, c, hx, hc, hrow⟩
  · rcases ho k hk with h | h
    · exact .inl ⟨i, hi, by rw [hS]; exact h⟩
    · exact .inr h
end

set_option maxHeartbeats 8000000 in
set_option maxRecDepth 100000 in
theorem tells_any (C : WSaid) (R : RSaid codecFns) (hM : RMake R) (w : World) (ps qs : List PartD) (A1 A2 A3 : Option Addr) (c1 c2 c3 : Nat) (hp : PartsIn w A1 ps) (hq : PartsIn w A2 qs) (mo : List UInt8) (hmo : Rd w A3 mo) (hmc : mo.length ≤ c3) (hml : mo.length ≤ 9223372036854775807)
    (hpl : ps.length ≤ 9223372036854775807) (hql : qs.length ≤ 9223372036854775807) (at_ : Int) (hat0 : -9223372036854775808 ≤ at_) (hat1 : at_ ≤ 9223372036854775807) (tu : UInt8) :
    Calls Try.prog 4 #[.slice A1 ps.length c1, .slice A2 qs.length c2, .slice A3 mo.length c3, .int .i64 at_, .int .u8 tu.toNat] w fun e w' => e = .returned (.bool true) ∧ Below w.heap.size w w' := by
  have HP := Lib.hid hp
  have HQ := Lib.hid hq
  have HM := Lib.hid hmo
  have HMC := Lib.hid hmc
  have HML := Lib.hid hml
  have HA0 := Lib.hid hat0
  have HA1 := Lib.hid hat1
  have HQL := Lib.hid hql
  clear hp hq hmo hmc hml hat0 hat1 hql
  go_enter Try.func4, Try.ntmps4
  go_wp2_with fail
  refine (C.new w).mono ?_
  rintro e w1 ⟨v, S, rfl, hat, hb, hS⟩
  obtain ⟨a, rfl⟩ := C.ptr hat
  have HW : Hid (WLoop C (.pointer (some a)) w 0 (.slice none 0 0) w1) := ⟨[], S, hat, own_nil _ _, fun b hb => by simp [Value.ownBlock] at hb, hb, hS, by simp⟩
  clear hat hb hS
  go_wp2_with fail
  go_loopw [12, 13] (fun t12 t13 wr => ∃ j : Nat, j ≤ ps.length ∧ j ≤ 20 ∧ t13 = .int .i64 (j : Nat) ∧ Hid (WLoop C (.pointer (some a)) w j t12 wr)) (fun _ t13 _ => 20 - (intOf t13).toNat)
  case atStart => exact ⟨0, by omega, by omega, rfl, HW⟩
  case round =>
    obtain ⟨j, hj, hj20, rfl, HL⟩ := hrel
    by_cases hlt : j < ps.length
    · by_cases hlt2 : j < 20
      · obtain ⟨ad, rfl, hok⟩ := HP.out (by omega)
        obtain ⟨p, hpj⟩ : ∃ p, ps[j]? = some p := ⟨_, List.getElem?_eq_getElem hlt⟩
        have hk := hok j p hpj
        have HK := Lib.hid hk
        obtain ⟨l, S1, hat, hown, hno, hbl, hS1, hl⟩ := HL.out
        obtain ⟨X, c, rfl, hc, hr⟩ := own_form hown
        have hcells : Hid (∀ k v, [Value.int .i64 p.kd, Value.int .u64 (p.n : Nat), Value.slice p.A p.x.length p.c][k]? = some v → wr.cell? ((ad.add (j * 3)).add k) = some v) := by
          intro k v hv
          rw [add_of_add, hbl.cell (by rw [block_of_add]; exact hk.lt)]
          match k, hv with
          | 0, hv => simp at hv; rw [← hv]; exact hk.c0
          | 1, hv => simp at hv; rw [← hv]; exact hk.c1
          | 2, hv => simp at hv; rw [← hv]; exact hk.c2
          | k + 3, hv => simp at hv
        have HAT := Lib.hid hat
        have HR := Lib.hid hr
        have HNO : Hid (0 < l.length → ∀ b, X.map (·.block) = some b → ¬ S1 b) := fun _ b hb => hno b (by cases X with | none => simp at hb | some y => exact hb)
        have HXR := Lib.hid (hk.rd.below hbl)
        have HXS : Hid (0 < p.x.length → ∀ b, p.A.map (·.block) = some b → ¬ S1 b) := fun hx b hb hs => by
          obtain ⟨b', off, he, hlt3, _⟩ := hk.rd hx
          rw [he] at hb
          simp at hb
          have := hS1 b hs
          omega
        have HBL := Lib.hid hbl
        have HS1 := Lib.hid hS1
        have HLL := Lib.hid hl
        clear hpj hok hk hat hown hno hbl hS1 hc hr hl HL
        go_wp2_with (refine wpList_load_part rfl 32 (.tmp 35) rfl (ad.add (j * 3)) rfl _ _ hcells.out rfl rfl rfl ?_)
        refine (put_any C wr _ l S1 HAT.out X c HR.out HNO.out (by have := HLL.out; omega) p.kd p.n HK.out.small p.x p.A p.c HXR.out HXS.out HK.out.fits HK.out.long).mono ?_
        intro e w2 hput
        obtain ⟨r, rfl, HL2⟩ := WLoop.step (m := j + 1) hput HBL.out HS1.out HLL.out rfl
        clear hput
        go_wp2_with fail
        go_roundw
        case rel => exact ⟨j + 1, by omega, by omega, by go_num, HL2⟩
        case measure => simp [intOf]; omega
      · go_upto_region 9 with (fail)
        obtain ⟨l, S1, hat, hown, hno, hbl, hS1, hl⟩ := HL.out
        obtain ⟨X, c, rfl, hc, hr⟩ := own_form hown
        have HAT := Lib.hid hat
        have HO := Lib.hid hown
        have HR := Lib.hid hr
        have HNB := Lib.hid hno
        have HNO : Hid (0 < l.length → ∀ b, X.map (·.block) = some b → ¬ S1 b) := fun _ b hb => hno b (by cases X with | none => simp at hb | some y => exact hb)
        have HBL := Lib.hid hbl
        have HS1 := Lib.hid hS1
        have HLL := Lib.hid hl
        clear hat hown hno hbl hS1 hc hr hl HL
        refine Rc.wp_region (by kernel_rfl) (fun opn => List.getD [Rc.val (.pointer (some a)), wrow l, Rc.val (.string (strOf l)), Rc.val (.slice X l.length c), Rc.val (.string (strOf l)), Rc.val (.bool false), C.obj (.pointer (some a)) l S1] opn Rc.any) 1 [] [[], [(0, 38)], [(1, 39)], [], [(3, 41)], [(2, 40), (4, 42)]] [[], [0], [1], [], [3], [2, 4]] [[], [0, 6], [1], [], [3], [2, 4]] [(1, 6)] (by kernel_rfl) (by rfl) (by kernel_rfl) S1 (fun _ b => S1 b) (winv C HAT.out _ _ 6 rfl) ?_ ?_
        · intro fr ha
          have hz : fr.tmps.size = 98 := by rw [ha]; rfl
          have y11 : fr.eval (.tmp 11) = .pointer (some a) := by rw [ha]; rfl
          have y12 : fr.eval (.tmp 12) = .slice X l.length c := by rw [ha]; rfl
          clear ha
          refine .cons ?_ (.cons ?_ (.cons ?_ (.cons ?_ (.cons ?_ (.cons ?_ (.nil))))))
          · intro V S w2 HM HU HE
            have tb11 : (Rg.putUse V [] fr).eval (.tmp 11) = .pointer (some a) := (Rg.use_eval V fr 11 [] (by simp only [hz]; decide)).trans y11
            show Rg.Does1 _ _ V (Rg.putUse V [] fr) w2 _
            exact rc_mv (.pointer (some a)) (by simp only [execOp, tb11]; go_simp) rfl rfl True.intro
          · intro V S w2 HM HU HE
            have h0 : V 0 = .pointer (some a) := HU.holds 0 (by decide)
            have tb38 : (Rg.putUse V [(0, 38)] fr).eval (.tmp 38) = .pointer (some a) := (Rg.use_eval V fr 38 [(0, 38)] (by simp only [hz]; decide)).trans h0
            show Rg.Does1 _ _ V (Rg.putUse V [(0, 38)] fr) w2 _
            exact step_done C (fun args w => Rg.call_enter Try.func12 (by kernel_rfl) (by kernel_rfl) args w) rfl (by simp only [List.map_toArray, List.map_cons, List.map_nil, tb38]) rfl (by decide) (HU.holds 6 (by decide)) (fun x => Rg.alias_none rfl V x) True.intro
          · intro V S w2 HM HU HE
            obtain ⟨X1, k1, e1, hc1, hw1⟩ := HU.holds 1 (by decide)
            have tb39 : (Rg.putUse V [(1, 39)] fr).eval (.tmp 39) = .slice X1 l.length k1 := (Rg.use_eval V fr 39 [(1, 39)] (by simp only [hz]; decide)).trans e1
            show Rg.Does1 _ _ V (Rg.putUse V [(1, 39)] fr) w2 _
            exact rc_str l rfl tb39 rfl (hw1.now (Rd.nil _ _)) rfl rfl True.intro
          · intro V S w2 HM HU HE
            have tb12 : (Rg.putUse V [] fr).eval (.tmp 12) = .slice X l.length c := (Rg.use_eval V fr 12 [] (by simp only [hz]; decide)).trans y12
            show Rg.Does1 _ _ V (Rg.putUse V [] fr) w2 _
            exact rc_mv (.slice X l.length c) (by simp only [execOp, tb12]; go_simp) rfl rfl True.intro
          · intro V S w2 HM HU HE
            have h3 : V 3 = .slice X l.length c := HU.holds 3 (by decide)
            have tb41 : (Rg.putUse V [(3, 41)] fr).eval (.tmp 41) = .slice X l.length c := (Rg.use_eval V fr 41 [(3, 41)] (by simp only [hz]; decide)).trans h3
            show Rg.Does1 _ _ V (Rg.putUse V [(3, 41)] fr) w2 _
            exact rc_str l rfl tb41 rfl (HR.out.mod HM HNO.out) rfl rfl True.intro
          · intro V S w2 HM HU HE
            have h2 : V 2 = .string (strOf l) := HU.holds 2 (by decide)
            have h4 : V 4 = .string (strOf l) := HU.holds 4 (by decide)
            have tb40 : (Rg.putUse V [(2, 40), (4, 42)] fr).eval (.tmp 40) = .string (strOf l) := (Rg.use_eval V fr 40 [(2, 40), (4, 42)] (by simp only [hz]; decide)).trans h2
            have tb42 : (Rg.putUse V [(2, 40), (4, 42)] fr).eval (.tmp 42) = .string (strOf l) := (Rg.use_eval V fr 42 [(2, 40), (4, 42)] (by simp only [hz]; decide)).trans h4
            show Rg.Does1 _ _ V (Rg.putUse V [(2, 40), (4, 42)] fr) w2 _
            exact rc_mv (.bool false) (by simp only [execOp, tb40, tb42]; go_simp) rfl rfl True.intro
        · intro V S w2 HI
          have hb : V 5 = .bool false := HI.get 5 (by decide) (by rfl)
          have HM2 := Lib.hid HI.mod.undrew
          simp only [Rg.putList, Act.put, List.setIfInBounds_toArray, List.set_cons_zero, List.set_cons_succ, Nat.zero_add, Nat.reduceAdd]
          rw [hb]
          have HO2 : Hid (w2.ownsRow w.heap.size 5 1 (.slice X l.length c) l.length (Lib.byteCells l)) := own_mod HO.out HM2.out HNB.out
          have HB2 := Lib.hid (wout_below HBL.out HS1.out HM2.out)
          clear HI hb HM2 HO HR HNO HNB HAT
          by_cases hl0 : 0 < l.length
          · have hl20 : l.length ≤ 2040 := by have := HLL.out; omega
            obtain ⟨g, rfl⟩ := own_addr HO2.out hl0
            have hgw : w.heap.size ≤ g := (own_lt HO2.out rfl).1
            go_wp2_with fail
            refine (within_to at_ _ (l.length - 1) _ (by omega) (by omega) HA0.out HA1.out).mono ?_
            rintro e w3 ⟨q, hq, rfl, rfl⟩
            have hq3 : q < l.length := by omega
            have cx := own_byte HO2.out q hq3
            have fx := own_frozen HO2.out q
            obtain ⟨xb, hxb⟩ : ∃ y : Nat, y = (l.getD q 0).toNat := ⟨_, rfl⟩
            have lb : xb < 256 := by rw [hxb]; exact (l.getD q 0).toNat_lt
            obtain ⟨z, hz⟩ : ∃ z : Nat, z = xb ^^^ tu.toNat := ⟨_, rfl⟩
            have hx1 := Co.bits_xor_u8 xb tu.toNat lb tu.toNat_lt
            rw [← hxb] at cx
            rw [← hz] at hx1
            have HNEW : Hid ((w2.setCell ⟨g, q, none⟩ (.int .u8 ((z : Nat) : Int))).ownsRow w.heap.size 5 1 (.slice (some ⟨g, 0, none⟩) l.length c) l.length (Lib.byteCells (l.set q (l.getD q 0 ^^^ tu)))) :=
              own_set HO2.out q hq3 (l.getD q 0 ^^^ tu) ((z : Nat) : Int) (by rw [UInt8.toNat_xor, ← hxb, hz])
            have b2 : (q : Int) < (l.length : Int) := by omega
            have b4 : (0 : Int) ≤ (q : Int) := by omega
            have HB3 : Hid (Below w.heap.size w (w2.setCell ⟨g, q, none⟩ (.int .u8 ((z : Nat) : Int)))) := Below.setCell HB2.out hgw _
            clear hxb hz lb hq
            obtain ⟨l2, hl2⟩ : ∃ l2, l2 = l.set q (l.getD q 0 ^^^ tu) := ⟨_, rfl⟩
            have hlen : l2.length = l.length := by rw [hl2]; rw [List.length_set]
            have HN2 : Hid ((w2.setCell ⟨g, q, none⟩ (.int .u8 ((z : Nat) : Int))).ownsRow w.heap.size 5 1 (.slice (some ⟨g, 0, none⟩) l2.length c) l2.length (Lib.byteCells l2)) := by show (w2.setCell ⟨g, q, none⟩ (.int .u8 ((z : Nat) : Int))).ownsRow _ _ _ _ _ _; rw [hlen, hl2]; exact HNEW.out
            have HLN := Lib.hid hlen
            have hl22 : l2.length ≤ 2040 := by have := HLL.out; omega
            clear hl2 hlen
            obtain ⟨W, hW⟩ : ∃ W, W = (w2.setCell ⟨g, q, none⟩ (.int .u8 ((z : Nat) : Int))) := ⟨_, rfl⟩
            have HB4 : Hid (Below w.heap.size w W) := by rw [hW]; exact HB3.out
            rw [← hW] at HN2
            go_wp2_with fail
            rw [← hW]
            clear hW HNEW HB3 HO2 HB2
            refine (cut_any A3 mo c3 100 HMC.out (by omega) HML.out W).mono ?_
            rintro e w5 ⟨rfl, rfl⟩
            obtain ⟨m2, hm2⟩ : ∃ y, y = mo.take 100 := ⟨_, rfl⟩
            rw [← hm2]
            have hm100 : m2.length ≤ 100 := by rw [hm2, List.length_take]; omega
            have HRM : Hid (Rd W A3 m2) := by show Rd _ _ _; rw [hm2]; exact (HM.out.below HB4.out).take _
            obtain ⟨i0, hi, hz0, hz1, hz2⟩ := info_parts Try.infoU8
            have HI0 := Lib.hid hi
            have HZ0 := Lib.hid hz0
            have HZ1 := Lib.hid hz1
            have HZ2 := Lib.hid hz2
            clear hi hz0 hz1 hz2 hm2
            rw [← HLN.out]
            go_wp2_with (at_builtin; refine wpList_append_rd rfl (.tmp 58) (.tmp 60) 22 rfl w.heap.size 5 i0 Try.underlying22 HI0.out HZ0.out HZ1.out HZ2.out _ l2.length (Lib.byteCells l2) rfl HN2.out A3 m2 m2.length c3 rfl rfl HRM.out (by omega) HB4.out.size ?_; intro v3 w3 HO3 HG3)
            obtain ⟨b, hb⟩ : ∃ b, b = l2 ++ m2 := ⟨_, rfl⟩
            have hbl : b.length = l2.length + m2.length := by rw [hb, List.length_append]
            have hO4 : w3.ownsRow w.heap.size 5 1 v3 b.length (Lib.byteCells b) := by rw [hbl, hb, Lib.byteCells_append]; exact HO3.out
            have HB5 : Hid (Below w.heap.size w w3) := Later.grown HB4.out HG3.out HN2.out
            obtain ⟨X3, c4, rfl, hc4, hr4⟩ := own_form hO4
            have HR4 := Lib.hid hr4
            have hb2k : b.length ≤ 2140 := by omega
            clear hb hbl hO4 hr4 HO3 HG3 HN2 HB4
            refine (roomy_any b X3 c4 _ HR4.out (by omega)).mono ?_
            rintro e w6 ⟨gr, rfl, hroom⟩
            have HRO := Lib.hid (room_rd hroom)
            have HB6 := Lib.hid (HB5.out.trans (hroom.2.1.mono HB5.out.size))
            have HR5 := Lib.hid (HR4.out.below hroom.2.1)
            have hfull := fun W => sl_h W (some ⟨gr, 0, none⟩) (b.length + 80) (b.length + 80) b.length (by omega)
            clear hroom HB5 HR4
            go_wp2_with fail
            refine (hM.new _ (some ⟨gr, 0, none⟩) b (b.length + 80) (by have := HRO.out.take b.length; rwa [take_app] at this) (by omega) (by omega)).mono ?_
            rintro e w7 ⟨vr, S7, rfl, hat7, hb7, hS7⟩
            obtain ⟨ar, rfl⟩ := R.ptr hat7
            have HTW := Lib.hid (two_new R (c4 := c4) hat7 hb7 hS7 (by have := HRO.out.take b.length; rwa [take_app] at this) HR5.out hc4 (by omega))
            have HB7 := Lib.hid (HB6.out.trans (hb7.mono HB6.out.size))
            have HQ7 : Hid (PartsIn w A2 qs) := HQ.out
            have HRO7 := Lib.hid (HRO.out.below hb7)
            have HAPF := Lib.hid (apart_new hb7 hS7 HRO.out)
            have HX8 := Lib.hid (fun k (hk : S7 k ∨ k = w7.heap.size) => (show w.heap.size ≤ k from hk.elim (fun h => Nat.le_trans HB6.out.size (hS7 k h)) (fun h => by have := HB7.out.size; omega)))
            have HRO8 := Lib.hid (HRO7.out.below (below_new w7 (.cells #[.slice X3 b.length c4, .int .i64 0, .int .i64 0] 28)))
            have HB8 := Lib.hid (HB7.out.trans ((below_new w7 (.cells #[.slice X3 b.length c4, .int .i64 0, .int .i64 0] 28)).mono HB7.out.size))
            have HT8 : Hid (∃ s B1 B2, Two R (.pointer (some ar)) (.pointer (some ⟨w7.heap.size, 0, none⟩)) (some ⟨gr, 0, none⟩) X3 b (w7.alloc (.cells #[.slice X3 b.length c4, .int .i64 0, .int .i64 0] 28)) (fun k => S7 k ∨ k = w7.heap.size) s s B1 B2 (w7.alloc (.cells #[.slice X3 b.length c4, .int .i64 0, .int .i64 0] 28))) := ⟨_, _, _, HTW.out⟩
            have hc4' : b.length ≤ c4 := hc4
            clear hat7 hb7 hS7 hfull HRO HR5 HB6 hc4 HTW HRO7 HB7
            go_wp2_with fail
            go_loopw [17] (fun t17 wr => ∃ i : Nat, i ≤ qs.length ∧ i ≤ 30 ∧ t17 = .int .i64 (i : Nat) ∧ Hid (∃ s B1 B2, Two R (.pointer (some ar)) (.pointer (some ⟨w7.heap.size, 0, none⟩)) (some ⟨gr, 0, none⟩) X3 b (w7.alloc (.cells #[.slice X3 b.length c4, .int .i64 0, .int .i64 0] 28)) (fun k => S7 k ∨ k = w7.heap.size) s s B1 B2 wr)) (fun t17 _ => 30 - (intOf t17).toNat)
            case atStart => exact ⟨0, by omega, by omega, rfl, HT8⟩
            case round =>
              obtain ⟨i, hi, hi30, rfl, HT⟩ := hrel
              by_cases hq1 : i < qs.length
              · by_cases hq2 : i < 30
                · obtain ⟨ad, rfl, hok⟩ := HQ.out (by omega)
                  obtain ⟨p, hpj⟩ : ∃ p, qs[i]? = some p := ⟨_, List.getElem?_eq_getElem hq1⟩
                  have hk := hok i p hpj
                  obtain ⟨s, D1, D2, htw⟩ := HT.out
                  have hbl : Below w.heap.size w wr := wout_below HB8.out HX8.out htw.mod
                  have hcells : Hid (∀ k v, [Value.int .i64 p.kd, Value.int .u64 (p.n : Nat), Value.slice p.A p.x.length p.c][k]? = some v → wr.cell? ((ad.add (i * 3)).add k) = some v) := by
                    intro k v hv
                    rw [add_of_add, hbl.cell (by rw [block_of_add]; exact hk.lt)]
                    match k, hv with
                    | 0, hv => simp at hv; rw [← hv]; exact hk.c0
                    | 1, hv => simp at hv; rw [← hv]; exact hk.c1
                    | 2, hv => simp at hv; rw [← hv]; exact hk.c2
                    | k + 3, hv => simp at hv
                  have HK := Lib.hid hk
                  have HTW := Lib.hid htw
                  clear hpj hok hk hbl htw HT
                  go_wp2_with (refine wpList_load_part rfl 32 (.tmp 88) rfl (ad.add (i * 3)) rfl _ _ hcells.out rfl rfl rfl ?_)
                  refine (get_any R _ _ _ _ b _ _ s D1 D2 wr HTW.out p.kd p.n HK.out.small p.A p.x.length p.c).mono ?_
                  intro e w9 hget
                  obtain ⟨rfl, HT2⟩ := hget.to
                  clear hget
                  go_wp2_with fail
                  go_roundw
                  case rel => exact ⟨i + 1, by omega, by omega, by go_num, HT2⟩
                  case measure => simp [intOf]; omega
                · skip
                  obtain ⟨s, D1, D2, htw⟩ := HT.out
                  have HRF := Lib.hid (HRO8.out.mod htw.mod HAPF.out)
                  have HRB := Lib.hid htw.r2
                  have HBL := Lib.hid (wout_below HB8.out HX8.out htw.mod)
                  clear htw HT
                  go_wp2_with fail
                  refine (intact_any b (some ⟨gr, 0, none⟩) X3 (b.length + 80) c4 wr HRF.out (by omega) HRB.out (by omega)).mono ?_
                  rintro e w9 ⟨rfl, nd, rfl⟩
                  go_wp2_with fail
                  refine (known4_any C _).mono ?_
                  rintro e w10 ⟨rfl, hb10⟩
                  have HF : Hid (Below w.heap.size w w10) := (HBL.out.trans ((below_drewN wr nd).mono HBL.out.size)).trans (hb10.mono HBL.out.size)
                  clear hb10
                  go_wp2_with fail
                  go_ret
                  exact ⟨rfl, HF.out⟩
              · skip
                obtain ⟨s, D1, D2, htw⟩ := HT.out
                have HRF := Lib.hid (HRO8.out.mod htw.mod HAPF.out)
                have HRB := Lib.hid htw.r2
                have HBL := Lib.hid (wout_below HB8.out HX8.out htw.mod)
                clear htw HT
                go_wp2_with fail
                refine (intact_any b (some ⟨gr, 0, none⟩) X3 (b.length + 80) c4 wr HRF.out (by omega) HRB.out (by omega)).mono ?_
                rintro e w9 ⟨rfl, nd, rfl⟩
                go_wp2_with fail
                refine (known4_any C _).mono ?_
                rintro e w10 ⟨rfl, hb10⟩
                have HF : Hid (Below w.heap.size w w10) := (HBL.out.trans ((below_drewN wr nd).mono HBL.out.size)).trans (hb10.mono HBL.out.size)
                clear hb10
                go_wp2_with fail
                go_ret
                exact ⟨rfl, HF.out⟩
          · have hl20 : l.length ≤ 2040 := by omega
            have hl0i : ¬ (0 : Int) < (l.length : Int) := by omega
            obtain ⟨l2, hl2⟩ : ∃ l2, l2 = l := ⟨_, rfl⟩
            have hlen : l2.length = l.length := by rw [hl2]
            have HN2 : Hid (w2.ownsRow w.heap.size 5 1 (.slice X l2.length c) l2.length (Lib.byteCells l2)) := by show w2.ownsRow _ _ _ _ _ _; rw [hlen, hl2]; exact HO2.out
            have HLN := Lib.hid hlen
            have hl22 : l2.length ≤ 2040 := by have := HLL.out; omega
            clear hl2 hlen
            obtain ⟨W, hW⟩ : ∃ W, W = w2 := ⟨_, rfl⟩
            have HB4 : Hid (Below w.heap.size w W) := by rw [hW]; exact HB2.out
            rw [← hW] at HN2
            go_wp2_with fail
            rw [← hW]
            clear hW HO2 HB2
            refine (cut_any A3 mo c3 100 HMC.out (by omega) HML.out W).mono ?_
            rintro e w5 ⟨rfl, rfl⟩
            obtain ⟨m2, hm2⟩ : ∃ y, y = mo.take 100 := ⟨_, rfl⟩
            rw [← hm2]
            have hm100 : m2.length ≤ 100 := by rw [hm2, List.length_take]; omega
            have HRM : Hid (Rd W A3 m2) := by show Rd _ _ _; rw [hm2]; exact (HM.out.below HB4.out).take _
            obtain ⟨i0, hi, hz0, hz1, hz2⟩ := info_parts Try.infoU8
            have HI0 := Lib.hid hi
            have HZ0 := Lib.hid hz0
            have HZ1 := Lib.hid hz1
            have HZ2 := Lib.hid hz2
            clear hi hz0 hz1 hz2 hm2
            rw [← HLN.out]
            go_wp2_with (at_builtin; refine wpList_append_rd rfl (.tmp 58) (.tmp 60) 22 rfl w.heap.size 5 i0 Try.underlying22 HI0.out HZ0.out HZ1.out HZ2.out _ l2.length (Lib.byteCells l2) rfl HN2.out A3 m2 m2.length c3 rfl rfl HRM.out (by omega) HB4.out.size ?_; intro v3 w3 HO3 HG3)
            obtain ⟨b, hb⟩ : ∃ b, b = l2 ++ m2 := ⟨_, rfl⟩
            have hbl : b.length = l2.length + m2.length := by rw [hb, List.length_append]
            have hO4 : w3.ownsRow w.heap.size 5 1 v3 b.length (Lib.byteCells b) := by rw [hbl, hb, Lib.byteCells_append]; exact HO3.out
            have HB5 : Hid (Below w.heap.size w w3) := Later.grown HB4.out HG3.out HN2.out
            obtain ⟨X3, c4, rfl, hc4, hr4⟩ := own_form hO4
            have HR4 := Lib.hid hr4
            have hb2k : b.length ≤ 2140 := by omega
            clear hb hbl hO4 hr4 HO3 HG3 HN2 HB4
            refine (roomy_any b X3 c4 _ HR4.out (by omega)).mono ?_
            rintro e w6 ⟨gr, rfl, hroom⟩
            have HRO := Lib.hid (room_rd hroom)
            have HB6 := Lib.hid (HB5.out.trans (hroom.2.1.mono HB5.out.size))
            have HR5 := Lib.hid (HR4.out.below hroom.2.1)
            have hfull := fun W => sl_h W (some ⟨gr, 0, none⟩) (b.length + 80) (b.length + 80) b.length (by omega)
            clear hroom HB5 HR4
            go_wp2_with fail
            refine (hM.new _ (some ⟨gr, 0, none⟩) b (b.length + 80) (by have := HRO.out.take b.length; rwa [take_app] at this) (by omega) (by omega)).mono ?_
            rintro e w7 ⟨vr, S7, rfl, hat7, hb7, hS7⟩
            obtain ⟨ar, rfl⟩ := R.ptr hat7
            have HTW := Lib.hid (two_new R (c4 := c4) hat7 hb7 hS7 (by have := HRO.out.take b.length; rwa [take_app] at this) HR5.out hc4 (by omega))
            have HB7 := Lib.hid (HB6.out.trans (hb7.mono HB6.out.size))
            have HQ7 : Hid (PartsIn w A2 qs) := HQ.out
            have HRO7 := Lib.hid (HRO.out.below hb7)
            have HAPF := Lib.hid (apart_new hb7 hS7 HRO.out)
            have HX8 := Lib.hid (fun k (hk : S7 k ∨ k = w7.heap.size) => (show w.heap.size ≤ k from hk.elim (fun h => Nat.le_trans HB6.out.size (hS7 k h)) (fun h => by have := HB7.out.size; omega)))
            have HRO8 := Lib.hid (HRO7.out.below (below_new w7 (.cells #[.slice X3 b.length c4, .int .i64 0, .int .i64 0] 28)))
            have HB8 := Lib.hid (HB7.out.trans ((below_new w7 (.cells #[.slice X3 b.length c4, .int .i64 0, .int .i64 0] 28)).mono HB7.out.size))
            have HT8 : Hid (∃ s B1 B2, Two R (.pointer (some ar)) (.pointer (some ⟨w7.heap.size, 0, none⟩)) (some ⟨gr, 0, none⟩) X3 b (w7.alloc (.cells #[.slice X3 b.length c4, .int .i64 0, .int .i64 0] 28)) (fun k => S7 k ∨ k = w7.heap.size) s s B1 B2 (w7.alloc (.cells #[.slice X3 b.length c4, .int .i64 0, .int .i64 0] 28))) := ⟨_, _, _, HTW.out⟩
            have hc4' : b.length ≤ c4 := hc4
            clear hat7 hb7 hS7 hfull HRO HR5 HB6 hc4 HTW HRO7 HB7
            go_wp2_with fail
            go_loopw [17] (fun t17 wr => ∃ i : Nat, i ≤ qs.length ∧ i ≤ 30 ∧ t17 = .int .i64 (i : Nat) ∧ Hid (∃ s B1 B2, Two R (.pointer (some ar)) (.pointer (some ⟨w7.heap.size, 0, none⟩)) (some ⟨gr, 0, none⟩) X3 b (w7.alloc (.cells #[.slice X3 b.length c4, .int .i64 0, .int .i64 0] 28)) (fun k => S7 k ∨ k = w7.heap.size) s s B1 B2 wr)) (fun t17 _ => 30 - (intOf t17).toNat)
            case atStart => exact ⟨0, by omega, by omega, rfl, HT8⟩
            case round =>
              obtain ⟨i, hi, hi30, rfl, HT⟩ := hrel
              by_cases hq1 : i < qs.length
              · by_cases hq2 : i < 30
                · obtain ⟨ad, rfl, hok⟩ := HQ.out (by omega)
                  obtain ⟨p, hpj⟩ : ∃ p, qs[i]? = some p := ⟨_, List.getElem?_eq_getElem hq1⟩
                  have hk := hok i p hpj
                  obtain ⟨s, D1, D2, htw⟩ := HT.out
                  have hbl : Below w.heap.size w wr := wout_below HB8.out HX8.out htw.mod
                  have hcells : Hid (∀ k v, [Value.int .i64 p.kd, Value.int .u64 (p.n : Nat), Value.slice p.A p.x.length p.c][k]? = some v → wr.cell? ((ad.add (i * 3)).add k) = some v) := by
                    intro k v hv
                    rw [add_of_add, hbl.cell (by rw [block_of_add]; exact hk.lt)]
                    match k, hv with
                    | 0, hv => simp at hv; rw [← hv]; exact hk.c0
                    | 1, hv => simp at hv; rw [← hv]; exact hk.c1
                    | 2, hv => simp at hv; rw [← hv]; exact hk.c2
                    | k + 3, hv => simp at hv
                  have HK := Lib.hid hk
                  have HTW := Lib.hid htw
                  clear hpj hok hk hbl htw HT
                  go_wp2_with (refine wpList_load_part rfl 32 (.tmp 88) rfl (ad.add (i * 3)) rfl _ _ hcells.out rfl rfl rfl ?_)
                  refine (get_any R _ _ _ _ b _ _ s D1 D2 wr HTW.out p.kd p.n HK.out.small p.A p.x.length p.c).mono ?_
                  intro e w9 hget
                  obtain ⟨rfl, HT2⟩ := hget.to
                  clear hget
                  go_wp2_with fail
                  go_roundw
                  case rel => exact ⟨i + 1, by omega, by omega, by go_num, HT2⟩
                  case measure => simp [intOf]; omega
                · skip
                  obtain ⟨s, D1, D2, htw⟩ := HT.out
                  have HRF := Lib.hid (HRO8.out.mod htw.mod HAPF.out)
                  have HRB := Lib.hid htw.r2
                  have HBL := Lib.hid (wout_below HB8.out HX8.out htw.mod)
                  clear htw HT
                  go_wp2_with fail
                  refine (intact_any b (some ⟨gr, 0, none⟩) X3 (b.length + 80) c4 wr HRF.out (by omega) HRB.out (by omega)).mono ?_
                  rintro e w9 ⟨rfl, nd, rfl⟩
                  go_wp2_with fail
                  refine (known4_any C _).mono ?_
                  rintro e w10 ⟨rfl, hb10⟩
                  have HF : Hid (Below w.heap.size w w10) := (HBL.out.trans ((below_drewN wr nd).mono HBL.out.size)).trans (hb10.mono HBL.out.size)
                  clear hb10
                  go_wp2_with fail
                  go_ret
                  exact ⟨rfl, HF.out⟩
              · skip
                obtain ⟨s, D1, D2, htw⟩ := HT.out
                have HRF := Lib.hid (HRO8.out.mod htw.mod HAPF.out)
                have HRB := Lib.hid htw.r2
                have HBL := Lib.hid (wout_below HB8.out HX8.out htw.mod)
                clear htw HT
                go_wp2_with fail
                refine (intact_any b (some ⟨gr, 0, none⟩) X3 (b.length + 80) c4 wr HRF.out (by omega) HRB.out (by omega)).mono ?_
                rintro e w9 ⟨rfl, nd, rfl⟩
                go_wp2_with fail
                refine (known4_any C _).mono ?_
                rintro e w10 ⟨rfl, hb10⟩
                have HF : Hid (Below w.heap.size w w10) := (HBL.out.trans ((below_drewN wr nd).mono HBL.out.size)).trans (hb10.mono HBL.out.size)
                clear hb10
                go_wp2_with fail
                go_ret
                exact ⟨rfl, HF.out⟩
    · go_upto_region 9 with (fail)
      obtain ⟨l, S1, hat, hown, hno, hbl, hS1, hl⟩ := HL.out
      obtain ⟨X, c, rfl, hc, hr⟩ := own_form hown
      have HAT := Lib.hid hat
      have HO := Lib.hid hown
      have HR := Lib.hid hr
      have HNB := Lib.hid hno
      have HNO : Hid (0 < l.length → ∀ b, X.map (·.block) = some b → ¬ S1 b) := fun _ b hb => hno b (by cases X with | none => simp at hb | some y => exact hb)
      have HBL := Lib.hid hbl
      have HS1 := Lib.hid hS1
      have HLL := Lib.hid hl
      clear hat hown hno hbl hS1 hc hr hl HL
      refine Rc.wp_region (by kernel_rfl) (fun opn => List.getD [Rc.val (.pointer (some a)), wrow l, Rc.val (.string (strOf l)), Rc.val (.slice X l.length c), Rc.val (.string (strOf l)), Rc.val (.bool false), C.obj (.pointer (some a)) l S1] opn Rc.any) 1 [] [[], [(0, 38)], [(1, 39)], [], [(3, 41)], [(2, 40), (4, 42)]] [[], [0], [1], [], [3], [2, 4]] [[], [0, 6], [1], [], [3], [2, 4]] [(1, 6)] (by kernel_rfl) (by rfl) (by kernel_rfl) S1 (fun _ b => S1 b) (winv C HAT.out _ _ 6 rfl) ?_ ?_
      · intro fr ha
        have hz : fr.tmps.size = 98 := by rw [ha]; rfl
        have y11 : fr.eval (.tmp 11) = .pointer (some a) := by rw [ha]; rfl
        have y12 : fr.eval (.tmp 12) = .slice X l.length c := by rw [ha]; rfl
        clear ha
        refine .cons ?_ (.cons ?_ (.cons ?_ (.cons ?_ (.cons ?_ (.cons ?_ (.nil))))))
        · intro V S w2 HM HU HE
          have tb11 : (Rg.putUse V [] fr).eval (.tmp 11) = .pointer (some a) := (Rg.use_eval V fr 11 [] (by simp only [hz]; decide)).trans y11
          show Rg.Does1 _ _ V (Rg.putUse V [] fr) w2 _
          exact rc_mv (.pointer (some a)) (by simp only [execOp, tb11]; go_simp) rfl rfl True.intro
        · intro V S w2 HM HU HE
          have h0 : V 0 = .pointer (some a) := HU.holds 0 (by decide)
          have tb38 : (Rg.putUse V [(0, 38)] fr).eval (.tmp 38) = .pointer (some a) := (Rg.use_eval V fr 38 [(0, 38)] (by simp only [hz]; decide)).trans h0
          show Rg.Does1 _ _ V (Rg.putUse V [(0, 38)] fr) w2 _
          exact step_done C (fun args w => Rg.call_enter Try.func12 (by kernel_rfl) (by kernel_rfl) args w) rfl (by simp only [List.map_toArray, List.map_cons, List.map_nil, tb38]) rfl (by decide) (HU.holds 6 (by decide)) (fun x => Rg.alias_none rfl V x) True.intro
        · intro V S w2 HM HU HE
          obtain ⟨X1, k1, e1, hc1, hw1⟩ := HU.holds 1 (by decide)
          have tb39 : (Rg.putUse V [(1, 39)] fr).eval (.tmp 39) = .slice X1 l.length k1 := (Rg.use_eval V fr 39 [(1, 39)] (by simp only [hz]; decide)).trans e1
          show Rg.Does1 _ _ V (Rg.putUse V [(1, 39)] fr) w2 _
          exact rc_str l rfl tb39 rfl (hw1.now (Rd.nil _ _)) rfl rfl True.intro
        · intro V S w2 HM HU HE
          have tb12 : (Rg.putUse V [] fr).eval (.tmp 12) = .slice X l.length c := (Rg.use_eval V fr 12 [] (by simp only [hz]; decide)).trans y12
          show Rg.Does1 _ _ V (Rg.putUse V [] fr) w2 _
          exact rc_mv (.slice X l.length c) (by simp only [execOp, tb12]; go_simp) rfl rfl True.intro
        · intro V S w2 HM HU HE
          have h3 : V 3 = .slice X l.length c := HU.holds 3 (by decide)
          have tb41 : (Rg.putUse V [(3, 41)] fr).eval (.tmp 41) = .slice X l.length c := (Rg.use_eval V fr 41 [(3, 41)] (by simp only [hz]; decide)).trans h3
          show Rg.Does1 _ _ V (Rg.putUse V [(3, 41)] fr) w2 _
          exact rc_str l rfl tb41 rfl (HR.out.mod HM HNO.out) rfl rfl True.intro
        · intro V S w2 HM HU HE
          have h2 : V 2 = .string (strOf l) := HU.holds 2 (by decide)
          have h4 : V 4 = .string (strOf l) := HU.holds 4 (by decide)
          have tb40 : (Rg.putUse V [(2, 40), (4, 42)] fr).eval (.tmp 40) = .string (strOf l) := (Rg.use_eval V fr 40 [(2, 40), (4, 42)] (by simp only [hz]; decide)).trans h2
          have tb42 : (Rg.putUse V [(2, 40), (4, 42)] fr).eval (.tmp 42) = .string (strOf l) := (Rg.use_eval V fr 42 [(2, 40), (4, 42)] (by simp only [hz]; decide)).trans h4
          show Rg.Does1 _ _ V (Rg.putUse V [(2, 40), (4, 42)] fr) w2 _
          exact rc_mv (.bool false) (by simp only [execOp, tb40, tb42]; go_simp) rfl rfl True.intro
      · intro V S w2 HI
        have hb : V 5 = .bool false := HI.get 5 (by decide) (by rfl)
        have HM2 := Lib.hid HI.mod.undrew
        simp only [Rg.putList, Act.put, List.setIfInBounds_toArray, List.set_cons_zero, List.set_cons_succ, Nat.zero_add, Nat.reduceAdd]
        rw [hb]
        have HO2 : Hid (w2.ownsRow w.heap.size 5 1 (.slice X l.length c) l.length (Lib.byteCells l)) := own_mod HO.out HM2.out HNB.out
        have HB2 := Lib.hid (wout_below HBL.out HS1.out HM2.out)
        clear HI hb HM2 HO HR HNO HNB HAT
        by_cases hl0 : 0 < l.length
        · have hl20 : l.length ≤ 2040 := by have := HLL.out; omega
          obtain ⟨g, rfl⟩ := own_addr HO2.out hl0
          have hgw : w.heap.size ≤ g := (own_lt HO2.out rfl).1
          go_wp2_with fail
          refine (within_to at_ _ (l.length - 1) _ (by omega) (by omega) HA0.out HA1.out).mono ?_
          rintro e w3 ⟨q, hq, rfl, rfl⟩
          have hq3 : q < l.length := by omega
          have cx := own_byte HO2.out q hq3
          have fx := own_frozen HO2.out q
          obtain ⟨xb, hxb⟩ : ∃ y : Nat, y = (l.getD q 0).toNat := ⟨_, rfl⟩
          have lb : xb < 256 := by rw [hxb]; exact (l.getD q 0).toNat_lt
          obtain ⟨z, hz⟩ : ∃ z : Nat, z = xb ^^^ tu.toNat := ⟨_, rfl⟩
          have hx1 := Co.bits_xor_u8 xb tu.toNat lb tu.toNat_lt
          rw [← hxb] at cx
          rw [← hz] at hx1
          have HNEW : Hid ((w2.setCell ⟨g, q, none⟩ (.int .u8 ((z : Nat) : Int))).ownsRow w.heap.size 5 1 (.slice (some ⟨g, 0, none⟩) l.length c) l.length (Lib.byteCells (l.set q (l.getD q 0 ^^^ tu)))) :=
            own_set HO2.out q hq3 (l.getD q 0 ^^^ tu) ((z : Nat) : Int) (by rw [UInt8.toNat_xor, ← hxb, hz])
          have b2 : (q : Int) < (l.length : Int) := by omega
          have b4 : (0 : Int) ≤ (q : Int) := by omega
          have HB3 : Hid (Below w.heap.size w (w2.setCell ⟨g, q, none⟩ (.int .u8 ((z : Nat) : Int)))) := Below.setCell HB2.out hgw _
          clear hxb hz lb hq
          obtain ⟨l2, hl2⟩ : ∃ l2, l2 = l.set q (l.getD q 0 ^^^ tu) := ⟨_, rfl⟩
          have hlen : l2.length = l.length := by rw [hl2]; rw [List.length_set]
          have HN2 : Hid ((w2.setCell ⟨g, q, none⟩ (.int .u8 ((z : Nat) : Int))).ownsRow w.heap.size 5 1 (.slice (some ⟨g, 0, none⟩) l2.length c) l2.length (Lib.byteCells l2)) := by show (w2.setCell ⟨g, q, none⟩ (.int .u8 ((z : Nat) : Int))).ownsRow _ _ _ _ _ _; rw [hlen, hl2]; exact HNEW.out
          have HLN := Lib.hid hlen
          have hl22 : l2.length ≤ 2040 := by have := HLL.out; omega
          clear hl2 hlen
          obtain ⟨W, hW⟩ : ∃ W, W = (w2.setCell ⟨g, q, none⟩ (.int .u8 ((z : Nat) : Int))) := ⟨_, rfl⟩
          have HB4 : Hid (Below w.heap.size w W) := by rw [hW]; exact HB3.out
          rw [← hW] at HN2
          go_wp2_with fail
          rw [← hW]
          clear hW HNEW HB3 HO2 HB2
          refine (cut_any A3 mo c3 100 HMC.out (by omega) HML.out W).mono ?_
          rintro e w5 ⟨rfl, rfl⟩
          obtain ⟨m2, hm2⟩ : ∃ y, y = mo.take 100 := ⟨_, rfl⟩
          rw [← hm2]
          have hm100 : m2.length ≤ 100 := by rw [hm2, List.length_take]; omega
          have HRM : Hid (Rd W A3 m2) := by show Rd _ _ _; rw [hm2]; exact (HM.out.below HB4.out).take _
          obtain ⟨i0, hi, hz0, hz1, hz2⟩ := info_parts Try.infoU8
          have HI0 := Lib.hid hi
          have HZ0 := Lib.hid hz0
          have HZ1 := Lib.hid hz1
          have HZ2 := Lib.hid hz2
          clear hi hz0 hz1 hz2 hm2
          rw [← HLN.out]
          go_wp2_with (at_builtin; refine wpList_append_rd rfl (.tmp 58) (.tmp 60) 22 rfl w.heap.size 5 i0 Try.underlying22 HI0.out HZ0.out HZ1.out HZ2.out _ l2.length (Lib.byteCells l2) rfl HN2.out A3 m2 m2.length c3 rfl rfl HRM.out (by omega) HB4.out.size ?_; intro v3 w3 HO3 HG3)
          obtain ⟨b, hb⟩ : ∃ b, b = l2 ++ m2 := ⟨_, rfl⟩
          have hbl : b.length = l2.length + m2.length := by rw [hb, List.length_append]
          have hO4 : w3.ownsRow w.heap.size 5 1 v3 b.length (Lib.byteCells b) := by rw [hbl, hb, Lib.byteCells_append]; exact HO3.out
          have HB5 : Hid (Below w.heap.size w w3) := Later.grown HB4.out HG3.out HN2.out
          obtain ⟨X3, c4, rfl, hc4, hr4⟩ := own_form hO4
          have HR4 := Lib.hid hr4
          have hb2k : b.length ≤ 2140 := by omega
          clear hb hbl hO4 hr4 HO3 HG3 HN2 HB4
          refine (roomy_any b X3 c4 _ HR4.out (by omega)).mono ?_
          rintro e w6 ⟨gr, rfl, hroom⟩
          have HRO := Lib.hid (room_rd hroom)
          have HB6 := Lib.hid (HB5.out.trans (hroom.2.1.mono HB5.out.size))
          have HR5 := Lib.hid (HR4.out.below hroom.2.1)
          have hfull := fun W => sl_h W (some ⟨gr, 0, none⟩) (b.length + 80) (b.length + 80) b.length (by omega)
          clear hroom HB5 HR4
          go_wp2_with fail
          refine (hM.new _ (some ⟨gr, 0, none⟩) b (b.length + 80) (by have := HRO.out.take b.length; rwa [take_app] at this) (by omega) (by omega)).mono ?_
          rintro e w7 ⟨vr, S7, rfl, hat7, hb7, hS7⟩
          obtain ⟨ar, rfl⟩ := R.ptr hat7
          have HTW := Lib.hid (two_new R (c4 := c4) hat7 hb7 hS7 (by have := HRO.out.take b.length; rwa [take_app] at this) HR5.out hc4 (by omega))
          have HB7 := Lib.hid (HB6.out.trans (hb7.mono HB6.out.size))
          have HQ7 : Hid (PartsIn w A2 qs) := HQ.out
          have HRO7 := Lib.hid (HRO.out.below hb7)
          have HAPF := Lib.hid (apart_new hb7 hS7 HRO.out)
          have HX8 := Lib.hid (fun k (hk : S7 k ∨ k = w7.heap.size) => (show w.heap.size ≤ k from hk.elim (fun h => Nat.le_trans HB6.out.size (hS7 k h)) (fun h => by have := HB7.out.size; omega)))
          have HRO8 := Lib.hid (HRO7.out.below (below_new w7 (.cells #[.slice X3 b.length c4, .int .i64 0, .int .i64 0] 28)))
          have HB8 := Lib.hid (HB7.out.trans ((below_new w7 (.cells #[.slice X3 b.length c4, .int .i64 0, .int .i64 0] 28)).mono HB7.out.size))
          have HT8 : Hid (∃ s B1 B2, Two R (.pointer (some ar)) (.pointer (some ⟨w7.heap.size, 0, none⟩)) (some ⟨gr, 0, none⟩) X3 b (w7.alloc (.cells #[.slice X3 b.length c4, .int .i64 0, .int .i64 0] 28)) (fun k => S7 k ∨ k = w7.heap.size) s s B1 B2 (w7.alloc (.cells #[.slice X3 b.length c4, .int .i64 0, .int .i64 0] 28))) := ⟨_, _, _, HTW.out⟩
          have hc4' : b.length ≤ c4 := hc4
          clear hat7 hb7 hS7 hfull HRO HR5 HB6 hc4 HTW HRO7 HB7
          go_wp2_with fail
          go_loopw [17] (fun t17 wr => ∃ i : Nat, i ≤ qs.length ∧ i ≤ 30 ∧ t17 = .int .i64 (i : Nat) ∧ Hid (∃ s B1 B2, Two R (.pointer (some ar)) (.pointer (some ⟨w7.heap.size, 0, none⟩)) (some ⟨gr, 0, none⟩) X3 b (w7.alloc (.cells #[.slice X3 b.length c4, .int .i64 0, .int .i64 0] 28)) (fun k => S7 k ∨ k = w7.heap.size) s s B1 B2 wr)) (fun t17 _ => 30 - (intOf t17).toNat)
          case atStart => exact ⟨0, by omega, by omega, rfl, HT8⟩
          case round =>
            obtain ⟨i, hi, hi30, rfl, HT⟩ := hrel
            by_cases hq1 : i < qs.length
            · by_cases hq2 : i < 30
              · obtain ⟨ad, rfl, hok⟩ := HQ.out (by omega)
                obtain ⟨p, hpj⟩ : ∃ p, qs[i]? = some p := ⟨_, List.getElem?_eq_getElem hq1⟩
                have hk := hok i p hpj
                obtain ⟨s, D1, D2, htw⟩ := HT.out
                have hbl : Below w.heap.size w wr := wout_below HB8.out HX8.out htw.mod
                have hcells : Hid (∀ k v, [Value.int .i64 p.kd, Value.int .u64 (p.n : Nat), Value.slice p.A p.x.length p.c][k]? = some v → wr.cell? ((ad.add (i * 3)).add k) = some v) := by
                  intro k v hv
                  rw [add_of_add, hbl.cell (by rw [block_of_add]; exact hk.lt)]
                  match k, hv with
                  | 0, hv => simp at hv; rw [← hv]; exact hk.c0
                  | 1, hv => simp at hv; rw [← hv]; exact hk.c1
                  | 2, hv => simp at hv; rw [← hv]; exact hk.c2
                  | k + 3, hv => simp at hv
                have HK := Lib.hid hk
                have HTW := Lib.hid htw
                clear hpj hok hk hbl htw HT
                go_wp2_with (refine wpList_load_part rfl 32 (.tmp 88) rfl (ad.add (i * 3)) rfl _ _ hcells.out rfl rfl rfl ?_)
                refine (get_any R _ _ _ _ b _ _ s D1 D2 wr HTW.out p.kd p.n HK.out.small p.A p.x.length p.c).mono ?_
                intro e w9 hget
                obtain ⟨rfl, HT2⟩ := hget.to
                clear hget
                go_wp2_with fail
                go_roundw
                case rel => exact ⟨i + 1, by omega, by omega, by go_num, HT2⟩
                case measure => simp [intOf]; omega
              · skip
                obtain ⟨s, D1, D2, htw⟩ := HT.out
                have HRF := Lib.hid (HRO8.out.mod htw.mod HAPF.out)
                have HRB := Lib.hid htw.r2
                have HBL := Lib.hid (wout_below HB8.out HX8.out htw.mod)
                clear htw HT
                go_wp2_with fail
                refine (intact_any b (some ⟨gr, 0, none⟩) X3 (b.length + 80) c4 wr HRF.out (by omega) HRB.out (by omega)).mono ?_
                rintro e w9 ⟨rfl, nd, rfl⟩
                go_wp2_with fail
                refine (known4_any C _).mono ?_
                rintro e w10 ⟨rfl, hb10⟩
                have HF : Hid (Below w.heap.size w w10) := (HBL.out.trans ((below_drewN wr nd).mono HBL.out.size)).trans (hb10.mono HBL.out.size)
                clear hb10
                go_wp2_with fail
                go_ret
                exact ⟨rfl, HF.out⟩
            · skip
              obtain ⟨s, D1, D2, htw⟩ := HT.out
              have HRF := Lib.hid (HRO8.out.mod htw.mod HAPF.out)
              have HRB := Lib.hid htw.r2
              have HBL := Lib.hid (wout_below HB8.out HX8.out htw.mod)
              clear htw HT
              go_wp2_with fail
              refine (intact_any b (some ⟨gr, 0, none⟩) X3 (b.length + 80) c4 wr HRF.out (by omega) HRB.out (by omega)).mono ?_
              rintro e w9 ⟨rfl, nd, rfl⟩
              go_wp2_with fail
              refine (known4_any C _).mono ?_
              rintro e w10 ⟨rfl, hb10⟩
              have HF : Hid (Below w.heap.size w w10) := (HBL.out.trans ((below_drewN wr nd).mono HBL.out.size)).trans (hb10.mono HBL.out.size)
              clear hb10
              go_wp2_with fail
              go_ret
              exact ⟨rfl, HF.out⟩
        · have hl20 : l.length ≤ 2040 := by omega
          have hl0i : ¬ (0 : Int) < (l.length : Int) := by omega
          obtain ⟨l2, hl2⟩ : ∃ l2, l2 = l := ⟨_, rfl⟩
          have hlen : l2.length = l.length := by rw [hl2]
          have HN2 : Hid (w2.ownsRow w.heap.size 5 1 (.slice X l2.length c) l2.length (Lib.byteCells l2)) := by show w2.ownsRow _ _ _ _ _ _; rw [hlen, hl2]; exact HO2.out
          have HLN := Lib.hid hlen
          have hl22 : l2.length ≤ 2040 := by have := HLL.out; omega
          clear hl2 hlen
          obtain ⟨W, hW⟩ : ∃ W, W = w2 := ⟨_, rfl⟩
          have HB4 : Hid (Below w.heap.size w W) := by rw [hW]; exact HB2.out
          rw [← hW] at HN2
          go_wp2_with fail
          rw [← hW]
          clear hW HO2 HB2
          refine (cut_any A3 mo c3 100 HMC.out (by omega) HML.out W).mono ?_
          rintro e w5 ⟨rfl, rfl⟩
          obtain ⟨m2, hm2⟩ : ∃ y, y = mo.take 100 := ⟨_, rfl⟩
          rw [← hm2]
          have hm100 : m2.length ≤ 100 := by rw [hm2, List.length_take]; omega
          have HRM : Hid (Rd W A3 m2) := by show Rd _ _ _; rw [hm2]; exact (HM.out.below HB4.out).take _
          obtain ⟨i0, hi, hz0, hz1, hz2⟩ := info_parts Try.infoU8
          have HI0 := Lib.hid hi
          have HZ0 := Lib.hid hz0
          have HZ1 := Lib.hid hz1
          have HZ2 := Lib.hid hz2
          clear hi hz0 hz1 hz2 hm2
          rw [← HLN.out]
          go_wp2_with (at_builtin; refine wpList_append_rd rfl (.tmp 58) (.tmp 60) 22 rfl w.heap.size 5 i0 Try.underlying22 HI0.out HZ0.out HZ1.out HZ2.out _ l2.length (Lib.byteCells l2) rfl HN2.out A3 m2 m2.length c3 rfl rfl HRM.out (by omega) HB4.out.size ?_; intro v3 w3 HO3 HG3)
          obtain ⟨b, hb⟩ : ∃ b, b = l2 ++ m2 := ⟨_, rfl⟩
          have hbl : b.length = l2.length + m2.length := by rw [hb, List.length_append]
          have hO4 : w3.ownsRow w.heap.size 5 1 v3 b.length (Lib.byteCells b) := by rw [hbl, hb, Lib.byteCells_append]; exact HO3.out
          have HB5 : Hid (Below w.heap.size w w3) := Later.grown HB4.out HG3.out HN2.out
          obtain ⟨X3, c4, rfl, hc4, hr4⟩ := own_form hO4
          have HR4 := Lib.hid hr4
          have hb2k : b.length ≤ 2140 := by omega
          clear hb hbl hO4 hr4 HO3 HG3 HN2 HB4
          refine (roomy_any b X3 c4 _ HR4.out (by omega)).mono ?_
          rintro e w6 ⟨gr, rfl, hroom⟩
          have HRO := Lib.hid (room_rd hroom)
          have HB6 := Lib.hid (HB5.out.trans (hroom.2.1.mono HB5.out.size))
          have HR5 := Lib.hid (HR4.out.below hroom.2.1)
          have hfull := fun W => sl_h W (some ⟨gr, 0, none⟩) (b.length + 80) (b.length + 80) b.length (by omega)
          clear hroom HB5 HR4
          go_wp2_with fail
          refine (hM.new _ (some ⟨gr, 0, none⟩) b (b.length + 80) (by have := HRO.out.take b.length; rwa [take_app] at this) (by omega) (by omega)).mono ?_
          rintro e w7 ⟨vr, S7, rfl, hat7, hb7, hS7⟩
          obtain ⟨ar, rfl⟩ := R.ptr hat7
          have HTW := Lib.hid (two_new R (c4 := c4) hat7 hb7 hS7 (by have := HRO.out.take b.length; rwa [take_app] at this) HR5.out hc4 (by omega))
          have HB7 := Lib.hid (HB6.out.trans (hb7.mono HB6.out.size))
          have HQ7 : Hid (PartsIn w A2 qs) := HQ.out
          have HRO7 := Lib.hid (HRO.out.below hb7)
          have HAPF := Lib.hid (apart_new hb7 hS7 HRO.out)
          have HX8 := Lib.hid (fun k (hk : S7 k ∨ k = w7.heap.size) => (show w.heap.size ≤ k from hk.elim (fun h => Nat.le_trans HB6.out.size (hS7 k h)) (fun h => by have := HB7.out.size; omega)))
          have HRO8 := Lib.hid (HRO7.out.below (below_new w7 (.cells #[.slice X3 b.length c4, .int .i64 0, .int .i64 0] 28)))
          have HB8 := Lib.hid (HB7.out.trans ((below_new w7 (.cells #[.slice X3 b.length c4, .int .i64 0, .int .i64 0] 28)).mono HB7.out.size))
          have HT8 : Hid (∃ s B1 B2, Two R (.pointer (some ar)) (.pointer (some ⟨w7.heap.size, 0, none⟩)) (some ⟨gr, 0, none⟩) X3 b (w7.alloc (.cells #[.slice X3 b.length c4, .int .i64 0, .int .i64 0] 28)) (fun k => S7 k ∨ k = w7.heap.size) s s B1 B2 (w7.alloc (.cells #[.slice X3 b.length c4, .int .i64 0, .int .i64 0] 28))) := ⟨_, _, _, HTW.out⟩
          have hc4' : b.length ≤ c4 := hc4
          clear hat7 hb7 hS7 hfull HRO HR5 HB6 hc4 HTW HRO7 HB7
          go_wp2_with fail
          go_loopw [17] (fun t17 wr => ∃ i : Nat, i ≤ qs.length ∧ i ≤ 30 ∧ t17 = .int .i64 (i : Nat) ∧ Hid (∃ s B1 B2, Two R (.pointer (some ar)) (.pointer (some ⟨w7.heap.size, 0, none⟩)) (some ⟨gr, 0, none⟩) X3 b (w7.alloc (.cells #[.slice X3 b.length c4, .int .i64 0, .int .i64 0] 28)) (fun k => S7 k ∨ k = w7.heap.size) s s B1 B2 wr)) (fun t17 _ => 30 - (intOf t17).toNat)
          case atStart => exact ⟨0, by omega, by omega, rfl, HT8⟩
          case round =>
            obtain ⟨i, hi, hi30, rfl, HT⟩ := hrel
            by_cases hq1 : i < qs.length
            · by_cases hq2 : i < 30
              · obtain ⟨ad, rfl, hok⟩ := HQ.out (by omega)
                obtain ⟨p, hpj⟩ : ∃ p, qs[i]? = some p := ⟨_, List.getElem?_eq_getElem hq1⟩
                have hk := hok i p hpj
                obtain ⟨s, D1, D2, htw⟩ := HT.out
                have hbl : Below w.heap.size w wr := wout_below HB8.out HX8.out htw.mod
                have hcells : Hid (∀ k v, [Value.int .i64 p.kd, Value.int .u64 (p.n : Nat), Value.slice p.A p.x.length p.c][k]? = some v → wr.cell? ((ad.add (i * 3)).add k) = some v) := by
                  intro k v hv
                  rw [add_of_add, hbl.cell (by rw [block_of_add]; exact hk.lt)]
                  match k, hv with
                  | 0, hv => simp at hv; rw [← hv]; exact hk.c0
                  | 1, hv => simp at hv; rw [← hv]; exact hk.c1
                  | 2, hv => simp at hv; rw [← hv]; exact hk.c2
                  | k + 3, hv => simp at hv
                have HK := Lib.hid hk
                have HTW := Lib.hid htw
                clear hpj hok hk hbl htw HT
                go_wp2_with (refine wpList_load_part rfl 32 (.tmp 88) rfl (ad.add (i * 3)) rfl _ _ hcells.out rfl rfl rfl ?_)
                refine (get_any R _ _ _ _ b _ _ s D1 D2 wr HTW.out p.kd p.n HK.out.small p.A p.x.length p.c).mono ?_
                intro e w9 hget
                obtain ⟨rfl, HT2⟩ := hget.to
                clear hget
                go_wp2_with fail
                go_roundw
                case rel => exact ⟨i + 1, by omega, by omega, by go_num, HT2⟩
                case measure => simp [intOf]; omega
              · skip
                obtain ⟨s, D1, D2, htw⟩ := HT.out
                have HRF := Lib.hid (HRO8.out.mod htw.mod HAPF.out)
                have HRB := Lib.hid htw.r2
                have HBL := Lib.hid (wout_below HB8.out HX8.out htw.mod)
                clear htw HT
                go_wp2_with fail
                refine (intact_any b (some ⟨gr, 0, none⟩) X3 (b.length + 80) c4 wr HRF.out (by omega) HRB.out (by omega)).mono ?_
                rintro e w9 ⟨rfl, nd, rfl⟩
                go_wp2_with fail
                refine (known4_any C _).mono ?_
                rintro e w10 ⟨rfl, hb10⟩
                have HF : Hid (Below w.heap.size w w10) := (HBL.out.trans ((below_drewN wr nd).mono HBL.out.size)).trans (hb10.mono HBL.out.size)
                clear hb10
                go_wp2_with fail
                go_ret
                exact ⟨rfl, HF.out⟩
            · skip
              obtain ⟨s, D1, D2, htw⟩ := HT.out
              have HRF := Lib.hid (HRO8.out.mod htw.mod HAPF.out)
              have HRB := Lib.hid htw.r2
              have HBL := Lib.hid (wout_below HB8.out HX8.out htw.mod)
              clear htw HT
              go_wp2_with fail
              refine (intact_any b (some ⟨gr, 0, none⟩) X3 (b.length + 80) c4 wr HRF.out (by omega) HRB.out (by omega)).mono ?_
              rintro e w9 ⟨rfl, nd, rfl⟩
              go_wp2_with fail
              refine (known4_any C _).mono ?_
              rintro e w10 ⟨rfl, hb10⟩
              have HF : Hid (Below w.heap.size w w10) := (HBL.out.trans ((below_drewN wr nd).mono HBL.out.size)).trans (hb10.mono HBL.out.size)
              clear hb10
              go_wp2_with fail
              go_ret
              exact ⟨rfl, HF.out⟩
theorem tells_int (C : WSaid) (R : RSaid codecFns) (hM : RMake R) (w : World) (ps qs : List PartD) (A1 A2 A3 : Option Addr) (c1 c2 c3 : Nat) (hp : PartsIn w A1 ps) (hq : PartsIn w A2 qs) (mo : List UInt8) (hmo : Rd w A3 mo) (hmc : mo.length ≤ c3) (hml : mo.length ≤ 9223372036854775807)
    (hpl : ps.length ≤ 9223372036854775807) (hql : qs.length ≤ 9223372036854775807) (at_ : Int) (hat0 : -9223372036854775808 ≤ at_) (hat1 : at_ ≤ 9223372036854775807) (tu : Int) (htu : 0 ≤ tu ∧ tu ≤ 255) :
    Calls Try.prog 4 #[.slice A1 ps.length c1, .slice A2 qs.length c2, .slice A3 mo.length c3, .int .i64 at_, .int .u8 tu] w fun e w' => e = .returned (.bool true) ∧ Below w.heap.size w w' := by
  obtain ⟨t, rfl⟩ := u8_of tu htu
  exact tells_any C R hM w ps qs A1 A2 A3 c1 c2 c3 hp hq mo hmo hmc hml hpl hql at_ hat0 hat1 t
end Go.Proofs.Ytpnnikifaalkoaa
