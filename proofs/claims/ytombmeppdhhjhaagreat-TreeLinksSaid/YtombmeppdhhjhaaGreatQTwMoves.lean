/-
  OWN WORK. Law 11's TreeMoves, walked: what is renamed has all that was below it at the other place; renamed back all is as it was.
-/
import Derived.Test.YtombmeppdhhjhaaGreatQTwObj
import Derived.Test.YtombmeppdhhjhaaGreatQTrMoves
import Derived.Test.YtombmeppdhhjhaaGreatQTwRefP
namespace Go.Proofs.YtombmeppdhhjhaaGreat
open Go.RowKit Rc
open Tr (Nm En T)
namespace Tw
open Tm (One1 Turn1)
structure Nr (B : Nat → Prop) (A : Option Addr) (q : List Bs) (c : Nat) (w : World) : Prop where
  rd : RdS w A q
  far : 0 < q.length → ∀ k, A.map (·.block) = some k → k < w.heap.size ∧ ¬ B k
  fit : q.length ≤ c
  few : q.length ≤ 3
  short : ∀ s ∈ q, s.length ≤ 1
theorem Nr.later {B : Nat → Prop} {A : Option Addr} {q : List Bs} {c : Nat} {w w' : World} (h : Nr B A q c w) (hb : Below w.heap.size w w') : Nr B A q c w' :=
  ⟨h.rd.below hb, fun hl k hk => ⟨Nat.lt_of_lt_of_le (h.far hl k hk).1 hb.size, (h.far hl k hk).2⟩, h.fit, h.few, h.short⟩
theorem Nr.turn {B B' : Nat → Prop} {A : Option Addr} {q : List Bs} {c : Nat} {w w' : World} (h : Nr B A q c w) (hm : Mod w w' B) (hs : ∀ b, B' b → B b ∨ w.heap.size ≤ b) : Nr B' A q c w' :=
  ⟨rds_stay h.rd hm.size fun hl k hk => hm.block k (h.far hl k hk).1 (h.far hl k hk).2, fun hl k hk => ⟨Nat.lt_of_lt_of_le (h.far hl k hk).1 hm.size, fun hB => (hs k hB).elim (h.far hl k hk).2 fun h1 => by have := (h.far hl k hk).1; omega⟩, h.fit, h.few, h.short⟩
theorem Nr.len {B : Nat → Prop} {A : Option Addr} {q : List Bs} {c : Nat} {w : World} (h : Nr B A q c w) : q.length ≤ 1000000 := by have := h.few; omega
theorem Nr.each {B : Nat → Prop} {A : Option Addr} {q : List Bs} {c : Nat} {w : World} (h : Nr B A q c w) : ∀ s ∈ q, s.length ≤ 1000000 := fun s hs => by have := h.short s hs; omega
theorem nr_names {v : Value} {w0 w : World} {t : T} {B : Nat → Prop} (h : One1 v w0 t B w) (n : Int) (h0 : -9223372036854775808 ≤ n) (h1 : n ≤ 9223372036854775807) :
    Calls Tryz.prog 50 #[.int .i64 n] w fun e w' => ∃ (A : Option Addr) (q : List Bs) (c : Nat), e = .returned (.slice A q.length c) ∧ Hid (Nr B A q c w') ∧ Hid (Below w.heap.size w w') ∧ Hid (One1 v w0 t B w') := by
  refine (Tm.names_any w n h0 h1).mono ?_
  rintro e w' ⟨A, q, c, he, h2, h3, h4, h5, h6, h7⟩
  refine ⟨A, q, c, he, ⟨h5, fun hl k hk => ?_, h2, h3, h4⟩, h6, h.later h6⟩
  obtain ⟨b, off, hA, hlt, _⟩ := h5 hl
  have hk2 := h7 k hk
  rw [hA] at hk
  have hk : b = k := by simpa using hk
  exact ⟨by omega, fun hB => by have := Tm.tobj.lt h.at_ k hB; omega⟩
set_option maxHeartbeats 8000000 in
set_option maxRecDepth 100000 in
theorem moves_any (w : World) (ps : List AskT) (A : Option Addr) (c1 : Nat) (n1 n2 : Int) (hp : AsksT w A ps) (hl : ps.length ≤ 9223372036854775807) (h1 : -9223372036854775808 ≤ n1 ∧ n1 ≤ 9223372036854775807) (h2 : -9223372036854775808 ≤ n2 ∧ n2 ≤ 9223372036854775807) :
    Calls Tryz.prog 9 #[.slice A ps.length c1, .int .i64 n1, .int .i64 n2] w fun e w' => e = .returned (.bool true) ∧ Below w.heap.size w w' := by
  have HPL := Lib.hid (played_one w ps A c1 hp hl)
  have HI1 := Lib.hid h1
  have HI2 := Lib.hid h2
  clear hp hl h1 h2
  go_enter Tryz.func9, Tryz.ntmps9
  go_wp2_with fail
  refine HPL.out.mono ?_
  rintro e w1 ⟨p, p2, Tt, B, rfl, HG, HS, HO⟩
  clear HPL
  go_wp2_with fail
  refine (nr_names HO.out n1 HI1.out.1 HI1.out.2).mono ?_
  rintro e w2 ⟨AP, q, c, rfl, HQ, HB2, HO2⟩
  clear HO HB2
  go_wp2_with fail
  refine (nr_names HO2.out n2 HI2.out.1 HI2.out.2).mono ?_
  rintro e w3 ⟨AQ, r, c2, rfl, HR, HB3, HO3⟩
  have HQ3 : Hid (Nr B AP q c w3) := HQ.out.later HB3.out
  clear HO2 HB3 HQ HI1 HI2
  go_wp2_with fail
  refine (Tm.o_save HO3.out HG.out).mono ?_
  rintro e w4 ⟨Y, cy, rfl, hcy, hry, _, hb4⟩
  have st1 := Ob.str_run w4 Y (Tr.save Tt) cy hry
  have HO4 : Hid (One1 (.pointer (some ⟨p, 0, none⟩)) w Tt B w4) := HO3.out.later hb4
  have HQ4 : Hid (Nr B AP q c w4) := HQ3.out.later hb4
  have HR4 : Hid (Nr B AQ r c2 w4) := HR.out.later hb4
  clear hcy hry hb4 HO3 HQ3 HR
  go_wp2_with fail
  refine (Tm.o_look HO4.out HG.out AP q c HQ4.out.rd HQ4.out.fit HQ4.out.len HQ4.out.each).mono ?_
  rintro e w5 ⟨rfl, hb5⟩
  have HO5 : Hid (One1 (.pointer (some ⟨p, 0, none⟩)) w Tt B w5) := HO4.out.later hb5
  have HQ5 : Hid (Nr B AP q c w5) := HQ4.out.later hb5
  have HR5 : Hid (Nr B AQ r c2 w5) := HR4.out.later hb5
  clear hb5 HO4 HQ4 HR4 st1
  obtain ⟨lk, hlk⟩ : ∃ lk, lk = Tr.look Tt q := ⟨_, rfl⟩
  rw [← hlk]
  have HLK := Lib.hid hlk
  clear hlk
  go_wp2_with fail
  have HRN := Lib.hid (Tm.o_rename HO5.out HG.out AP AQ q r c c2 HQ5.out.rd HQ5.out.fit HQ5.out.len HQ5.out.each HR5.out.rd HR5.out.fit HR5.out.len HR5.out.each)
  obtain ⟨⟨n, T'⟩, hrn⟩ : ∃ z, Tr.rename Tt q r = z := ⟨_, rfl⟩
  have HG' : Hid (Tr.Good T') := by have := Tr.rename_good HG.out q r; rw [hrn] at this; exact this
  have HNO : Hid (n ≠ 0 → T' = Tt) := fun h => by have := Tr.rename_no (t := Tt) (p := q) (z := r); rw [hrn] at this; exact this h
  have HYES : Hid (n = 0 → ∃ i, Tr.look Tt q = (i, 0) ∧ Tr.look T' r = (i, 0) ∧ (T' = Tt ∨ ((Tr.look T' q).2 ≠ 0 ∧ Tr.rename T' r q = (0, Tt)))) := fun h => by have := HG.out.renamed (q := q) (r := r); rw [hrn] at this; exact this h
  rw [hrn] at HRN
  clear hrn
  refine HRN.out.mono ?_
  rintro e w6 ⟨rfl, B', ho6, hm6, hs6⟩
  have HO6 := Lib.hid ho6
  have HQ6 : Hid (Nr B' AP q c w6) := HQ5.out.turn hm6 hs6
  have HR6 : Hid (Nr B' AQ r c2 w6) := HR5.out.turn hm6 hs6
  clear ho6 hm6 hs6 HRN HO5 HQ5 HR5
  by_cases hn0 : n = 0
  case neg =>
    have hnb : ((n : Int) != 0) = true := by rw [bne_iff_ne]; omega
    obtain rfl := HNO.out hn0
    clear hn0 HNO HYES
    go_wp2_with fail
    refine (Tm.o_save HO6.out HG.out).mono ?_
    rintro e w7 ⟨Z, cz, rfl, hcz, hrz, _, hb7⟩
    have st2 := Ob.str_run w7 Z (Tr.save T') cz hrz
    have HO7 : Hid (One1 (.pointer (some ⟨p, 0, none⟩)) w T' B' w7) := HO6.out.later hb7
    have seq : ((strOf (Tr.save T')).toList == (strOf (Tr.save T')).toList) = true := by simp
    clear hrz hb7 hcz HO6
    go_wp2_with fail
    refine (Tm.o_known HO7.out).mono ?_
    rintro e w8 ⟨rfl, HO8⟩
    go_wp2_with fail
    go_ret
    exact ⟨rfl, HO8.out.low⟩
  case pos =>
    subst hn0
    obtain ⟨i, k1, k2, k3⟩ := HYES.out rfl
    obtain rfl : lk = (i, 0) := HLK.out.trans k1
    have HK2 := Lib.hid k2
    have HK3 := Lib.hid k3
    clear k1 k2 k3 HYES HNO HLK
    go_wp2_with fail
    have HL7 := Lib.hid (Tm.o_look HO6.out HG'.out AQ r c2 HR6.out.rd HR6.out.fit HR6.out.len HR6.out.each)
    rw [HK2.out] at HL7
    refine HL7.out.mono ?_
    rintro e w7 ⟨rfl, hb7⟩
    have HO7 : Hid (One1 (.pointer (some ⟨p, 0, none⟩)) w T' B' w7) := HO6.out.later hb7
    have HQ7 : Hid (Nr B' AP q c w7) := HQ6.out.later hb7
    have HR7 : Hid (Nr B' AQ r c2 w7) := HR6.out.later hb7
    have hii : (i != i) = false := by simp
    clear hb7 HO6 HQ6 HR6 HL7
    go_wp2_with fail
    refine (Tm.o_save HO7.out HG'.out).mono ?_
    rintro e w8 ⟨Z, cz, rfl, hcz, hrz, _, hb8⟩
    have st2 := Ob.str_run w8 Z (Tr.save T') cz hrz
    have HO8 : Hid (One1 (.pointer (some ⟨p, 0, none⟩)) w T' B' w8) := HO7.out.later hb8
    have HQ8 : Hid (Nr B' AP q c w8) := HQ7.out.later hb8
    have HR8 : Hid (Nr B' AQ r c2 w8) := HR7.out.later hb8
    clear hrz hb8 hcz HO7 HQ7 HR7 hii
    by_cases hse : Tr.save T' = Tr.save Tt
    · have seq : ((strOf (Tr.save T')).toList == (strOf (Tr.save Tt)).toList) = true := by rw [hse]; simp
      clear hse
      go_wp2_with fail
      refine (Tm.o_known HO8.out).mono ?_
      rintro e w9 ⟨rfl, HO9⟩
      go_wp2_with fail
      go_ret
      exact ⟨rfl, HO9.out.low⟩
    · have seq : ((strOf (Tr.save T')).toList == (strOf (Tr.save Tt)).toList) = false := by
        rw [strOf_beq]
        exact decide_eq_false hse
      have HK4 : Hid ((Tr.look T' q).2 ≠ 0 ∧ Tr.rename T' r q = (0, Tt)) := by
        rcases HK3.out with h | h
        · exact absurd (by rw [h]) hse
        · exact h
      clear hse HK3
      go_wp2_with fail
      refine (Tm.o_look HO8.out HG'.out AP q c HQ8.out.rd HQ8.out.fit HQ8.out.len HQ8.out.each).mono ?_
      rintro e w9 ⟨rfl, hb9⟩
      obtain ⟨⟨a9, m9⟩, hl9⟩ : ∃ z, z = Tr.look T' q := ⟨_, rfl⟩
      have hm9 : m9 ≠ 0 := by have := HK4.out.1; rw [← hl9] at this; exact this
      have hmb : ((m9 : Int) == 0) = false := by rw [beq_eq_false_iff_ne]; omega
      rw [← hl9]
      have HO9 : Hid (One1 (.pointer (some ⟨p, 0, none⟩)) w T' B' w9) := HO8.out.later hb9
      have HQ9 : Hid (Nr B' AP q c w9) := HQ8.out.later hb9
      have HR9 : Hid (Nr B' AQ r c2 w9) := HR8.out.later hb9
      clear hb9 HO8 HQ8 HR8 seq st2 hl9 hm9
      go_wp2_with fail
      refine (Tm.o_sound HO9.out HG'.out).mono ?_
      rintro e w10 ⟨rfl, hb10⟩
      have HO10 : Hid (One1 (.pointer (some ⟨p, 0, none⟩)) w T' B' w10) := HO9.out.later hb10
      have HQ10 : Hid (Nr B' AP q c w10) := HQ9.out.later hb10
      have HR10 : Hid (Nr B' AQ r c2 w10) := HR9.out.later hb10
      clear hb10 HO9 HQ9 HR9 hmb
      have HRB := Lib.hid (Tm.o_rename HO10.out HG'.out AQ AP r q c2 c HR10.out.rd HR10.out.fit HR10.out.len HR10.out.each HQ10.out.rd HQ10.out.fit HQ10.out.len HQ10.out.each)
      rw [HK4.out.2] at HRB
      go_wp2_with fail
      refine HRB.out.mono ?_
      rintro e w11 ⟨rfl, B3, ho11, _, _⟩
      have HO11 := Lib.hid ho11
      clear ho11 HRB HO10 HQ10 HR10 HK4
      go_wp2_with fail
      refine (Tm.o_save HO11.out HG.out).mono ?_
      rintro e w12 ⟨U, cu, rfl, hcu, hru, _, hb12⟩
      have st3 := Ob.str_run w12 U (Tr.save Tt) cu hru
      have HO12 : Hid (One1 (.pointer (some ⟨p, 0, none⟩)) w Tt B3 w12) := HO11.out.later hb12
      have seq3 : ((strOf (Tr.save Tt)).toList == (strOf (Tr.save Tt)).toList) = true := by simp
      clear hru hb12 hcu HO11
      go_wp2_with fail
      refine (Tm.o_known HO12.out).mono ?_
      rintro e w13 ⟨rfl, HO13⟩
      go_wp2_with fail
      go_ret
      exact ⟨rfl, HO13.out.low⟩
end Tw
end Go.Proofs.YtombmeppdhhjhaaGreat
