/-
  OWN WORK. Law 4's put, by its contract, given what the program's own writer does.
-/
import Derived.Test.YtpnnikifaalkoaaCoSaid
import Derived.Test.YtpnnikifaalkoaaBaCut
namespace Go.Proofs.Ytpnnikifaalkoaa
open Go.RowKit Rc

def PutOut (C : WSaid) (v : Value) (S : Nat → Prop) (n : Nat) (w : World) (e : Ending) (w' : World) : Prop :=
  ∃ r l' S', e = .returned r ∧ C.At v l' S' w' ∧ w'.ownsRow w.heap.size 5 1 r l'.length (Lib.byteCells l') ∧ (∀ b, r.ownBlock = some b → ¬ S' b) ∧ Mod w w' S ∧ (∀ b, S' b → S b ∨ w.heap.size ≤ b) ∧ l'.length ≤ n + 102
theorem put_end {C : WSaid} {v : Value} {l' : List UInt8} {S S' : Nat → Prop} {n : Nat} {w w1 w2 w3 : World} {r : Value} (h0 : Below w.heap.size w w1) (hm : Mod w1 w2 S) (hC : C.At v l' S' w2) (hS : ∀ b, S' b → S b ∨ w1.heap.size ≤ b) (hown : w3.ownsRow w2.heap.size 5 1 r l'.length (Lib.byteCells l')) (hb : Below w2.heap.size w2 w3)
    (hn : l'.length ≤ n + 102) : PutOut C v S n w (.returned r) w3 := by
  refine ⟨r, l', S', rfl, C.keep hC hb.size (fun b hb2 => hb.block b (C.lt hC b hb2)), own_mono hown (Nat.le_trans h0.size hm.size), fun b hb2 hs => ?_, ?_, fun b hs => ?_, hn⟩
  · have := (own_lt hown hb2).1
    have := C.lt hC b hs
    omega
  · exact ((Mod.of_below h0 S).trans hm).trans (Mod.of_below hb S)
  · rcases hS b hs with h | h
    · exact .inl h
    · exact .inr (Nat.le_trans h0.size h)

set_option maxHeartbeats 4000000 in
set_option maxRecDepth 100000 in
theorem put_any (C : WSaid) (w : World) (v : Value) (l : List UInt8) (S : Nat → Prop) (hW : C.At v l S w) (A : Option Addr) (cap : Nat) (hr : Rd w A l) (hA : 0 < l.length → ∀ b, A.map (·.block) = some b → ¬ S b) (hl : l.length ≤ 1099511400000)
    (kd : Int) (N : Nat) (hN : N ≤ 18446744073709551615) (x : List UInt8) (AX : Option Addr) (cx : Nat) (hx : Rd w AX x) (hX : 0 < x.length → ∀ b, AX.map (·.block) = some b → ¬ S b) (hcx : x.length ≤ cx) (hxl : x.length ≤ 9223372036854775807) :
    Calls Try.prog 14 #[v, .slice A l.length cap, .agg #[.int .i64 kd, .int .u64 (N : Nat), .slice AX x.length cx]] w (PutOut C v S l.length w) := by
  have HW := Lib.hid hW
  have HR := Lib.hid hr
  have HA := Lib.hid hA
  have HX := Lib.hid hx
  have HXS := Lib.hid hX
  have HCX := Lib.hid hcx
  have HXL := Lib.hid hxl
  obtain ⟨m, hm⟩ : ∃ m : Nat, m = N % 1099511627776 := ⟨_, rfl⟩
  have hm2 : ((N : Nat) : Int) % 1099511627776 = ((m : Nat) : Int) := by omega
  have hm3 : m < 1099511627776 := by omega
  clear hW hr hA hx hX hcx hxl hm
  go_enter Try.func14, Try.ntmps14
  go_wp2_with fail
  refine (cut_any AX x cx 100 HCX.out (by omega) HXL.out _).mono ?_
  rintro e w1 ⟨rfl, rfl⟩
  obtain ⟨y, hy⟩ : ∃ y, y = x.take 100 := ⟨_, rfl⟩
  rw [← hy]
  have hy1 : y.length ≤ 100 := by rw [hy, List.length_take]; omega
  have hy2 : y.length ≤ cx := by have := HCX.out; rw [hy, List.length_take]; omega
  have HY : Hid (Rd w AX y) := by show Rd _ _ _; rw [hy]; exact HX.out.take _
  have HYS : Hid (0 < y.length → ∀ b, AX.map (·.block) = some b → ¬ S b) := fun h => HXS.out (by rw [hy, List.length_take] at h; omega)
  clear hy HX HXS HCX HXL
  have HB0 := Lib.hid (below_new w (.cells #[Value.int .i64 kd, Value.int .u64 (N : Nat), Value.slice AX x.length cx] 32))
  have HW0 : Hid (C.At v l S (w.alloc (.cells #[Value.int .i64 kd, Value.int .u64 (N : Nat), Value.slice AX x.length cx] 32))) := C.keep HW.out HB0.out.size fun b hb => HB0.out.block b (C.lt HW.out b hb)
  have HR0 := Lib.hid (HR.out.below HB0.out)
  have HY0 := Lib.hid (HY.out.below HB0.out)
  clear HR HY
  by_cases h1 : kd = 1
  · subst h1
    go_wp2_with fail
    refine (C.byte HW0.out (by omega) m (by omega)).mono ?_
    rintro e w2 ⟨⟨r0, rfl⟩, S', hC, hM, hS⟩
    have HC := Lib.hid hC
    have HM := Lib.hid hM
    have HS := Lib.hid hS
    have HR2 := Lib.hid (HR0.out.mod hM HA.out)
    have hlen : Hid ((l ++ Co.wByte m).length = l.length + 1) := by show _ = _; (simp [Co.wByte] <;> omega)
    clear hC hM hS
    go_wp2_with fail
    refine (refByte_any w2 l A cap m HR2.out (by omega) (by omega)).mono ?_
    rintro e w3 ⟨r, rfl, hown, hb⟩
    have HF : Hid (PutOut C v S l.length w (.returned r) w3) := put_end HB0.out HM.out HC.out HS.out (by rw [hlen.out]; exact hown) hb (by rw [hlen.out]; omega)
    clear hown hb
    go_wp2_with fail
    go_ret
    exact HF.out
  · have e1 : (kd == 1) = false := by simpa using h1
    clear h1
    by_cases h2 : kd = 2
    · subst h2
      go_wp2_with fail
      refine (C.short HW0.out (by omega) m (by omega)).mono ?_
      rintro e w2 ⟨⟨r0, rfl⟩, S', hC, hM, hS⟩
      have HC := Lib.hid hC
      have HM := Lib.hid hM
      have HS := Lib.hid hS
      have HR2 := Lib.hid (HR0.out.mod hM HA.out)
      have hlen : Hid ((l ++ Co.wShort m).length = l.length + 2) := by show _ = _; (simp [Co.wShort] <;> omega)
      clear hC hM hS
      go_wp2_with fail
      refine (refShort_any w2 l A cap m HR2.out (by omega) (by omega)).mono ?_
      rintro e w3 ⟨r, rfl, hown, hb⟩
      have HF : Hid (PutOut C v S l.length w (.returned r) w3) := put_end HB0.out HM.out HC.out HS.out (by rw [hlen.out]; exact hown) hb (by rw [hlen.out]; omega)
      clear hown hb
      go_wp2_with fail
      go_ret
      exact HF.out
    · have e2 : (kd == 2) = false := by simpa using h2
      clear h2
      by_cases h3 : kd = 3
      · subst h3
        go_wp2_with fail
        refine (C.long HW0.out (by omega) N (by omega)).mono ?_
        rintro e w2 ⟨⟨r0, rfl⟩, S', hC, hM, hS⟩
        have HC := Lib.hid hC
        have HM := Lib.hid hM
        have HS := Lib.hid hS
        have HR2 := Lib.hid (HR0.out.mod hM HA.out)
        have hlen : Hid ((l ++ Co.wLong N).length = l.length + 8) := by show _ = _; (simp [Co.wLong] <;> omega)
        have c1 : w2.cell? ⟨w.heap.size, 1, none⟩ = some (.int .u64 (N : Nat)) := by
          have hb1 := hM.block w.heap.size (by rw [World.size_alloc]; omega) (fun h => Nat.lt_irrefl _ (C.lt HW.out _ h))
          unfold World.cell?; rw [hb1, heap_alloc_new]; rfl
        clear hC hM hS
        go_wp2_with fail
        refine (refLong_any w2 l A cap N HR2.out (by omega) (by omega)).mono ?_
        rintro e w3 ⟨r, rfl, hown, hb⟩
        have HF : Hid (PutOut C v S l.length w (.returned r) w3) := put_end HB0.out HM.out HC.out HS.out (by rw [hlen.out]; exact hown) hb (by rw [hlen.out]; omega)
        clear hown hb
        go_wp2_with fail
        go_ret
        exact HF.out
      · have e3 : (kd == 3) = false := by simpa using h3
        clear h3
        by_cases h4 : kd = 4
        · subst h4
          obtain ⟨f, hf⟩ : ∃ f : Bool, ((m : Int) % 2 == 1) = f := ⟨_, rfl⟩
          go_wp2_with fail
          refine (C.flag HW0.out (by omega) f).mono ?_
          rintro e w2 ⟨⟨r0, rfl⟩, S', hC, hM, hS⟩
          have HC := Lib.hid hC
          have HM := Lib.hid hM
          have HS := Lib.hid hS
          have HR2 := Lib.hid (HR0.out.mod hM HA.out)
          have hlen : Hid ((l ++ Co.wFlag f).length = l.length + 1) := by show _ = _; (simp [Co.wFlag] <;> omega)
          clear hC hM hS
          go_wp2_with fail
          refine (refFlag_any w2 l A cap f HR2.out (by omega)).mono ?_
          rintro e w3 ⟨r, rfl, hown, hb⟩
          have HF : Hid (PutOut C v S l.length w (.returned r) w3) := put_end HB0.out HM.out HC.out HS.out (by rw [hlen.out]; exact hown) hb (by rw [hlen.out]; omega)
          clear hown hb
          go_wp2_with fail
          go_ret
          exact HF.out
        · have e4 : (kd == 4) = false := by simpa using h4
          clear h4
          by_cases h5 : kd = 5
          · subst h5
            go_wp2_with fail
            refine (C.bytes HW0.out (by omega) AX y cx HY0.out hy2 (by omega) HYS.out).mono ?_
            rintro e w2 ⟨⟨r0, rfl⟩, S', hC, hM, hS⟩
            have HC := Lib.hid hC
            have HM := Lib.hid hM
            have HS := Lib.hid hS
            have HR2 := Lib.hid (HR0.out.mod hM HA.out)
            have hlen : Hid ((l ++ Co.wBytes y).length = l.length + 2 + y.length) := by show _ = _; (simp [Co.wBytes, Co.wShort, List.take_of_length_le (show y.length ≤ 65535 by omega)] <;> omega)
            have HY2 := Lib.hid (HY0.out.mod hM HYS.out)
            clear hC hM hS
            go_wp2_with fail
            refine (refBytes_any w2 l y A AX cap cx HR2.out HY2.out (by omega) (by omega)).mono ?_
            rintro e w3 ⟨r, rfl, hown, hb⟩
            have HF : Hid (PutOut C v S l.length w (.returned r) w3) := put_end HB0.out HM.out HC.out HS.out (by rw [hlen.out]; exact hown) hb (by rw [hlen.out]; omega)
            clear hown hb
            go_wp2_with fail
            go_ret
            exact HF.out
          · have e5 : (kd == 5) = false := by simpa using h5
            clear h5
            go_wp2_with fail
            refine (C.raw HW0.out AX y cx HY0.out hy2 (by omega) HYS.out).mono ?_
            rintro e w2 ⟨⟨r0, rfl⟩, S', hC, hM, hS⟩
            have HC := Lib.hid hC
            have HM := Lib.hid hM
            have HS := Lib.hid hS
            have HR2 := Lib.hid (HR0.out.mod hM HA.out)
            have HY2 := Lib.hid (HY0.out.mod hM HYS.out)
            clear hC hM hS
            obtain ⟨i0, hi, hz0, hz1, hz2⟩ := info_parts Try.infoU8
            have HI0 := Lib.hid hi
            have HZ0 := Lib.hid hz0
            have HZ1 := Lib.hid hz1
            have HZ2 := Lib.hid hz2
            have H0 : Hid (MAt w2.heap.size (.slice (some ⟨w2.heap.size, 0, none⟩) 0 0) [] w2 (w2.alloc (.cells #[] 5))) := MAt.empty w2
            have HRW : Hid (Rd (w2.alloc (.cells #[] 5)) A l) := HR2.out.below (below_new w2 _)
            clear hi hz0 hz1 hz2
            go_wp2_with (first
              | (at_builtin; refine wpList_append_rd rfl (.tmp 67) (.tmp 68) 22 rfl w2.heap.size 5 i0 Try.underlying22 HI0.out HZ0.out HZ1.out HZ2.out _ 0 [] rfl H0.out.1 A l l.length cap rfl rfl HRW.out (by omega) (by rw [World.size_alloc]; omega) ?_; intro v1 w3 HO1 HG1; have H1 : Hid (MAt w2.heap.size v1 l w2 w3) := H0.out.push (Below.refl _ _) HO1.out HG1.out; have HY3 : Hid (Rd w3 AX y) := HY2.out.below H1.out.2.1)
              | (at_builtin; refine wpList_append_rd rfl (.tmp 69) (.tmp 70) 22 rfl w2.heap.size 5 i0 Try.underlying22 HI0.out HZ0.out HZ1.out HZ2.out v1 l.length (Lib.byteCells l) rfl H1.out.1 AX y y.length cx rfl rfl HY3.out (by omega) H1.out.2.1.size ?_; intro v2 w4 HO2 HG2; have H2 : Hid (MAt w2.heap.size v2 (l ++ y) w2 w4) := H1.out.push (Below.refl _ _) HO2.out HG2.out))
            clear HO1 HG1 HO2 HG2
            go_ret
            exact put_end HB0.out HM.out HC.out HS.out H2.out.1 H2.out.2.1 (by rw [List.length_append]; omega)
end Go.Proofs.Ytpnnikifaalkoaa
