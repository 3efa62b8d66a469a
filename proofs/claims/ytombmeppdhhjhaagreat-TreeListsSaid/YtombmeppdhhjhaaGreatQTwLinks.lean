/-
  OWN WORK. Law 11's TreeLinks, walked: a link is the same file: what is read by one name is read by the other; unlinked, one name goes, the file stays till the last.
-/
import Derived.Test.YtombmeppdhhjhaaGreatQTwMoves
import Derived.Test.YtombmeppdhhjhaaGreatQTrLinks
import Derived.Test.YtombmeppdhhjhaaGreatQBaCut
namespace Go.Proofs.YtombmeppdhhjhaaGreat
open Go.RowKit Rc
open Tr (Nm En T)
namespace Tw
open Tm (One1 Turn1)
structure Nq (B : Nat → Prop) (A : Option Addr) (q : List Bs) (c : Nat) (w : World) : Prop where
  rd : RdS w A q
  far : 0 < q.length → ∀ k, A.map (·.block) = some k → k < w.heap.size ∧ ¬ B k
  fit : q.length ≤ c
  len : q.length ≤ 1000000
  each : ∀ s ∈ q, s.length ≤ 1000000
theorem Nr.q {B : Nat → Prop} {A : Option Addr} {q : List Bs} {c : Nat} {w : World} (h : Nr B A q c w) : Nq B A q c w := ⟨h.rd, h.far, h.fit, h.len, h.each⟩
theorem Nq.later {B : Nat → Prop} {A : Option Addr} {q : List Bs} {c : Nat} {w w' : World} (h : Nq B A q c w) (hb : Below w.heap.size w w') : Nq B A q c w' :=
  ⟨h.rd.below hb, fun hl k hk => ⟨Nat.lt_of_lt_of_le (h.far hl k hk).1 hb.size, (h.far hl k hk).2⟩, h.fit, h.len, h.each⟩
theorem Nq.turn {B B' : Nat → Prop} {A : Option Addr} {q : List Bs} {c : Nat} {w w' : World} (h : Nq B A q c w) (hm : Mod w w' B) (hs : ∀ b, B' b → B b ∨ w.heap.size ≤ b) : Nq B' A q c w' :=
  ⟨rds_stay h.rd hm.size fun hl k hk => hm.block k (h.far hl k hk).1 (h.far hl k hk).2, fun hl k hk => ⟨Nat.lt_of_lt_of_le (h.far hl k hk).1 hm.size, fun hB => (hs k hB).elim (h.far hl k hk).2 fun h1 => by have := (h.far hl k hk).1; omega⟩, h.fit, h.len, h.each⟩
structure Lk (v : Value) (w0 : World) (t : T) (A A2 : Option Addr) (q r : List Bs) (c c2 : Nat) (B : Nat → Prop) (w : World) : Prop where
  o : One1 v w0 t B w
  a : Nq B A q c w
  b : Nq B A2 r c2 w
variable {v : Value} {w0 w w' : World} {t t' : T} {A A2 : Option Addr} {q r : List Bs} {c c2 : Nat} {B : Nat → Prop}
theorem Lk.later (h : Lk v w0 t A A2 q r c c2 B w) (hb : Below w.heap.size w w') : Lk v w0 t A A2 q r c c2 B w' := ⟨h.o.later hb, h.a.later hb, h.b.later hb⟩
theorem Lk.turn (h : Lk v w0 t A A2 q r c c2 B w) {x : Value} {e : Ending} (ht : Turn1 v w0 t' B x w e w') : e = .returned x ∧ ∃ B', Hid (Lk v w0 t' A A2 q r c c2 B' w') := by
  obtain ⟨he, B', h1, h2, h3⟩ := ht
  exact ⟨he, B', h1, h.a.turn h2 h3, h.b.turn h2 h3⟩
def LkO (v : Value) (w0 : World) (t : T) (A A2 : Option Addr) (q r : List Bs) (c c2 : Nat) (x : Value) (e : Ending) (w' : World) : Prop := e = .returned x ∧ ∃ B', Hid (Lk v w0 t A A2 q r c c2 B' w')
theorem Lk.make (h : Lk v w0 t A A2 q r c c2 B w) (hG : Tr.Good t) (kind : Int) {i : Int} {n : Nat} (e : Tr.make t q kind = ((i, n), t')) : Calls Tryz.prog 14 #[v, .slice A q.length c, .int .i64 kind] w (LkO v w0 t' A A2 q r c c2 (.tuple #[.int .i64 i, .int .i64 (n : Nat)])) := by
  have h1 := Tm.o_make h.o hG A q c kind h.a.rd h.a.fit h.a.len h.a.each
  rw [e] at h1
  exact h1.mono fun e w' ht => h.turn ht
theorem Lk.append (h : Lk v w0 t A A2 q r c c2 B w) (hG : Tr.Good t) (i : Int) (X : Option Addr) (x : Bs) (cx : Nat) {n : Nat} (hr : Rd w X x) (hl : x.length ≤ 1000000000) (e : Tr.append t i x = (n, t')) : Calls Tryz.prog 22 #[v, .int .i64 i, .slice X x.length cx] w (LkO v w0 t' A A2 q r c c2 (.int .i64 (n : Nat))) := by
  have h1 := Tm.o_append h.o hG i X x cx hr hl
  rw [e] at h1
  exact h1.mono fun e w' ht => h.turn ht
theorem Lk.seal0 (h : Lk v w0 t A A2 q r c c2 B w) (hG : Tr.Good t) (i : Int) {n : Nat} (e : Tr.seal_ t i 0 = (n, t')) : Calls Tryz.prog 25 #[v, .int .i64 i, .int .u64 0] w (LkO v w0 t' A A2 q r c c2 (.int .i64 (n : Nat))) := by
  have h1 := Tm.o_seal h.o hG i 0 (by omega)
  rw [e] at h1
  exact h1.mono fun e w' ht => h.turn ht
theorem Lk.link (h : Lk v w0 t A A2 q r c c2 B w) (hG : Tr.Good t) : Calls Tryz.prog 18 #[v, .slice A q.length c, .slice A2 r.length c2] w (LkO v w0 (Tr.link t q r).2 A A2 q r c c2 (.int .i64 ((Tr.link t q r).1 : Nat))) :=
  (Tm.o_link h.o hG A A2 q r c c2 h.a.rd h.a.fit h.a.len h.a.each h.b.rd h.b.fit h.b.len h.b.each).mono fun _e _w' ht => h.turn ht
theorem Lk.unlinkA (h : Lk v w0 t A A2 q r c c2 B w) (hG : Tr.Good t) {n : Nat} (e : Tr.unlink t q = (n, t')) : Calls Tryz.prog 20 #[v, .slice A q.length c] w (LkO v w0 t' A A2 q r c c2 (.int .i64 (n : Nat))) := by
  have h1 := Tm.o_unlink h.o hG A q c h.a.rd h.a.fit h.a.len h.a.each
  rw [e] at h1
  exact h1.mono fun e w' ht => h.turn ht
theorem Lk.unlinkB (h : Lk v w0 t A A2 q r c c2 B w) (hG : Tr.Good t) {n : Nat} (e : Tr.unlink t r = (n, t')) : Calls Tryz.prog 20 #[v, .slice A2 r.length c2] w (LkO v w0 t' A A2 q r c c2 (.int .i64 (n : Nat))) := by
  have h1 := Tm.o_unlink h.o hG A2 r c2 h.b.rd h.b.fit h.b.len h.b.each
  rw [e] at h1
  exact h1.mono fun e w' ht => h.turn ht
theorem Lk.lookA (h : Lk v w0 t A A2 q r c c2 B w) (hG : Tr.Good t) {i : Int} {n : Nat} (e : Tr.look t q = (i, n)) : Calls Tryz.prog 54 #[v, .slice A q.length c] w fun e w' => e = .returned (.tuple #[.int .i64 i, .int .i64 (n : Nat)]) ∧ Hid (Below w.heap.size w w') ∧ Hid (Lk v w0 t A A2 q r c c2 B w') := by
  have h1 := Tm.o_look h.o hG A q c h.a.rd h.a.fit h.a.len h.a.each
  rw [e] at h1
  exact h1.mono fun e w' ⟨h2, h3⟩ => ⟨h2, h3, h.later h3⟩
theorem Lk.lookB (h : Lk v w0 t A A2 q r c c2 B w) (hG : Tr.Good t) {i : Int} {n : Nat} (e : Tr.look t r = (i, n)) : Calls Tryz.prog 54 #[v, .slice A2 r.length c2] w fun e w' => e = .returned (.tuple #[.int .i64 i, .int .i64 (n : Nat)]) ∧ Hid (Lk v w0 t A A2 q r c c2 B w') := by
  have h1 := Tm.o_look h.o hG A2 r c2 h.b.rd h.b.fit h.b.len h.b.each
  rw [e] at h1
  exact h1.mono fun e w' ⟨h2, h3⟩ => ⟨h2, h.later h3⟩
theorem Lk.read (h : Lk v w0 t A A2 q r c c2 B w) (hG : Tr.Good t) (i : Int) {b : Bs} {n : Nat} (e : Tr.read t i 0 4096 = (b, n)) : Calls Tryz.prog 29 #[v, .int .i64 i, .int .i64 0, .int .i64 4096] w fun e w' => ∃ Y cy, e = .returned (.tuple #[.slice Y b.length cy, .int .i64 (n : Nat)]) ∧ Hid (Rd w' Y b) ∧ Hid (Below w.heap.size w w') ∧ Hid (Lk v w0 t A A2 q r c c2 B w') := by
  have h1 := Tm.o_read h.o hG i 0 4096 (by omega) (by omega)
  rw [e] at h1
  refine h1.mono ?_
  rintro e w' ⟨y, rfl, hf, hb⟩
  obtain ⟨Y, cy, rfl, _, hr, _⟩ := hf.form
  exact ⟨Y, cy, rfl, hr, hb, h.later hb⟩
theorem Lk.node (h : Lk v w0 t A A2 q r c c2 B w) (hG : Tr.Good t) (i : Int) : Calls Tryz.prog 55 #[v, .int .i64 i] w fun e w' => e = .returned (.tuple #[(Tr.node t i).1.val, .bool (Tr.node t i).2]) ∧ Hid (Lk v w0 t A A2 q r c c2 B w') :=
  (Tm.o_node h.o hG i).mono fun _e _w' ⟨h1, h2⟩ => ⟨h1, h.later h2⟩
theorem Lk.names (h : Lk v w0 t A A2 q r c c2 B w) (hG : Tr.Good t) (i : Int) : Calls Tryz.prog 39 #[v, .int .i64 i] w fun e w' => ∃ N cn L, e = .returned (.slice N (List.length L) cn) ∧ Hid (NmOk t i L) ∧ Hid (Below w.heap.size w w') ∧ Hid (Lk v w0 t A A2 q r c c2 B w') :=
  (Tm.o_names h.o hG i).mono fun _e _w' ⟨N, cn, L, h1, h2, _, h4⟩ => ⟨N, cn, L, h1, h2, h4, h.later h4.out⟩
theorem Lk.known (h : Lk v w0 t A A2 q r c c2 B w) : Calls Tryz.prog 37 #[] w fun e w' => e = .returned (.bool true) ∧ Hid (Below w0.heap.size w0 w') :=
  (Tm.o_known h.o).mono fun _e _w' ⟨h1, h2⟩ => ⟨h1, h2.out.low⟩
set_option maxHeartbeats 8000000 in
set_option maxRecDepth 100000 in
theorem links_any (w : World) (ps : List AskT) (A : Option Addr) (c1 : Nat) (l : Bs) (X : Option Addr) (cb : Nat) (n2 : Int) (hp : AsksT w A ps) (hl : ps.length ≤ 9223372036854775807) (hr : Rd w X l) (hc : l.length ≤ cb) (hll : l.length ≤ 9223372036854775807) (h2 : -9223372036854775808 ≤ n2 ∧ n2 ≤ 9223372036854775807) :
    Calls Tryz.prog 10 #[.slice A ps.length c1, .slice X l.length cb, .int .i64 n2] w fun e w' => e = .returned (.bool true) ∧ Below w.heap.size w w' := by
  have HPL := Lib.hid (played_one w ps A c1 hp hl)
  have HI2 := Lib.hid h2
  obtain ⟨b, hb⟩ : ∃ b, b = l.take 200 := ⟨_, rfl⟩
  have HCUT : Hid (∀ W, Calls Tryz.prog 46 #[.slice X l.length cb, .int .i64 200] W fun e w9 => e = .returned (.slice X b.length cb) ∧ W = w9) := fun W => by rw [hb]; exact cut_any X l cb 200 hc (by omega) hll W
  have HRB : Hid (Rd w X b) := by show Rd _ _ _; rw [hb]; exact hr.take 200
  have hb200 : b.length ≤ 200 := by rw [hb, List.length_take]; omega
  obtain ⟨nw, hnw⟩ : ∃ nw : Bs, nw = [110, 101, 119] := ⟨_, rfl⟩
  have HNW : Hid (Tr.formed [nw] = 0) := by show _ = _; rw [hnw]; rfl
  have hnw1 : nw.length = 3 := by rw [hnw]; rfl
  have HN3 := Lib.hid hnw1
  have HLIT : Hid ((⟨#[110, 101, 119]⟩ : ByteArray) = strOf nw) := by show _ = _; rw [hnw]; rfl
  clear hp hl h2 hb hr hc hll hnw hnw1
  go_enter Tryz.func10, Tryz.ntmps10
  go_wp2_with fail
  refine HPL.out.mono ?_
  rintro e w1 ⟨p, p2, Tt, B, rfl, HG, HS, HO⟩
  clear HPL
  go_wp2_with fail
  refine (HCUT.out w1).mono ?_
  rintro e _ ⟨rfl, rfl⟩
  clear HCUT
  go_wp2_with fail
  rw [HLIT.out]
  obtain ⟨w2, hw2⟩ : ∃ w2, w2 = w1.alloc (.cells #[.string (strOf nw)] 9) := ⟨_, rfl⟩
  have hb2 : Below w1.heap.size w1 w2 := by rw [hw2]; exact below_new _ _
  have HQ2 : Hid (Nq B (some ⟨w1.heap.size, 0, none⟩) [nw] 1 w2) := by
    refine ⟨by rw [hw2]; exact rds_one w1 nw _, fun _ k hk => ?_, Nat.le_refl _, by simp, fun s hs => by rw [List.mem_singleton] at hs; subst hs; have := HN3.out; omega⟩
    have hk : w1.heap.size = k := by simpa using hk
    subst hk
    exact ⟨by rw [hw2, World.size_alloc]; omega, fun hB => Nat.lt_irrefl _ (Tm.tobj.lt HO.out.at_ _ hB)⟩
  have HO2 : Hid (One1 (.pointer (some ⟨p, 0, none⟩)) w Tt B w2) := HO.out.later hb2
  rw [← hw2]
  obtain ⟨a1, ha1⟩ : ∃ a1, a1 = w1.heap.size := ⟨_, rfl⟩
  rw [← ha1] at HQ2 ⊢
  clear hw2 hb2 HO ha1
  refine (nr_names HO2.out n2 HI2.out.1 HI2.out.2).mono ?_
  rintro e w3 ⟨AQ, r, c2, rfl, HR, HB3, HO3⟩
  have HSH : Hid (∀ s ∈ r, s.length ≤ 1) := HR.out.short
  have HK : Hid (Lk (.pointer (some ⟨p, 0, none⟩)) w Tt (some ⟨a1, 0, none⟩) AQ [nw] r 1 c2 B w3) := ⟨HO3.out, HQ2.out.later HB3.out, HR.out.q⟩
  clear HO2 HQ2 HR HB3 HO3 HI2
  rcases Tr.make_new HG.out HS.out (x := nw) (by have := HN3.out; omega) HNW.out with hmk | ⟨id, T1, hmk, hi0, hf1, hg1⟩
  · have HMK := Lib.hid (HK.out.make HG.out 1 hmk)
    clear hmk
    go_wp2_with fail
    refine HMK.out.mono ?_
    rintro e w4 ⟨rfl, B4, HK4⟩
    clear HK HMK
    go_wp2_with fail
    refine HK4.out.known.mono ?_
    rintro e w5 ⟨rfl, HE⟩
    go_wp2_with fail
    go_ret
    exact ⟨rfl, HE.out⟩
  · have HMK := Lib.hid (HK.out.make HG.out 1 hmk)
    have HG1 : Hid (Tr.Good T1) := by have := Tr.make_good HG.out [nw] 1; rw [hmk] at this; exact this
    obtain ⟨T2, hap, hf2, hg2⟩ := Tr.append_new (b := b) (by omega) hf1 hg1
    have HG2 : Hid (Tr.Good T2) := by have := Tr.append_good HG1.out id b; rw [hap] at this; exact this
    obtain ⟨T3, hsl, hf3, hg3⟩ := Tr.seal_new hf2 hg2
    have HG3 : Hid (Tr.Good T3) := by have := Tr.seal_good HG2.out id 0; rw [hsl] at this; exact this
    have HAP := Lib.hid hap
    have HSL := Lib.hid hsl
    have HLN := Lib.hid (Tr.link_new HG3.out hi0 (q := r) (by have := HN3.out; omega) HSH.out HNW.out hf3 hg3)
    clear hmk hf1 hg1 hap hf2 hg2 hsl hf3 hg3 hi0
    go_wp2_with fail
    refine HMK.out.mono ?_
    rintro e w4 ⟨rfl, B4, HK4⟩
    clear HK HMK
    go_wp2_with fail
    refine (HK4.out.append HG1.out id X b cb (HRB.out.below HK4.out.o.low) (by omega) HAP.out).mono ?_
    rintro e w5 ⟨rfl, B5, HK5⟩
    clear HK4 HAP
    go_wp2_with fail
    refine (HK5.out.seal0 HG2.out id HSL.out).mono ?_
    rintro e w6 ⟨rfl, B6, HK6⟩
    clear HK5 HSL
    go_wp2_with fail
    by_cases hn0 : (Tr.link T3 [nw] r).1 = 0
    case neg =>
      have HLK := Lib.hid (HK6.out.link HG3.out)
      obtain ⟨n, hn⟩ : ∃ n, n = (Tr.link T3 [nw] r).1 := ⟨_, rfl⟩
      rw [← hn] at hn0 HLK
      have hnb : ((n : Int) != 0) = true := by rw [bne_iff_ne]; omega
      clear hn hn0
      refine HLK.out.mono ?_
      rintro e w7 ⟨rfl, B7, HK7⟩
      clear HLK
      go_wp2_with fail
      refine HK7.out.known.mono ?_
      rintro e w8 ⟨rfl, HE⟩
      go_wp2_with fail
      go_ret
      exact ⟨rfl, HE.out⟩
    case pos =>
    rcases HLN.out with hx | ⟨T4, hln, hfr, hl4, hf4, hg4⟩
    · exact absurd hn0 hx
    have HLK := Lib.hid (HK6.out.link HG3.out)
    rw [hln] at HLK
    have HG4 : Hid (Tr.Good T4) := by have := Tr.link_good HG3.out [nw] r; rw [hln] at this; exact this
    obtain ⟨T5, hu5, hl5, hl5r, hf5⟩ := Tr.unlink_new HG4.out (x := nw) (q := r) (by have := HN3.out; omega) HSH.out HNW.out hfr hl4 hf4 hg4
    have HG5 : Hid (Tr.Good T5) := by have := Tr.unlink_good HG4.out [nw]; rw [hu5] at this; exact this
    obtain ⟨T6, hu6, hf6⟩ := Tr.unlink_last hfr hl5r hf5
    have HG6 : Hid (Tr.Good T6) := by have := Tr.unlink_good HG5.out r; rw [hu6] at this; exact this
    have HLOOK : Hid (Tr.look T4 r = (id, 0)) := HG4.out.path_look hl4
    have HLNO : Hid (Tr.look T5 [nw] = (0, 20)) := by show _ = _; unfold Tr.look; rw [if_neg (by rw [HNW.out]; simp), hl5]
    have HRD4 : Hid (Tr.read T4 id 0 4096 = (b, 0)) := Tr.read_all (by omega) hf4
    have HRD5 : Hid (Tr.read T5 id 0 4096 = (b, 0)) := Tr.read_all (by omega) hf5
    have HND4 : Hid (Tr.node T4 id = (⟨id, 1, 2, (b.length : Nat), 0, true⟩, true)) := by show _ = _; unfold Tr.node; rw [Tr.ndOf_of hf4, hf4]; rfl
    have HND6 : Hid (Tr.node T6 id = (Nd.zero, false)) := by show _ = _; unfold Tr.node Tr.ndOf; rw [hf6]; rfl
    have HPT : Hid (((Tr.pathsTo T4 id).length : Int) = 2) := by
      have := HG4.out.pathsTo_length (Tr.find_some hf4).1
      rw [show (Tr.fileN id 2 b true).nd.id = id from rfl] at this
      exact this
    have HU5 := Lib.hid hu5
    have HU6 := Lib.hid hu6
    clear hln hfr hl4 hf4 hg4 hu5 hl5 hl5r hf5 hu6 hf6 hn0 HLN
    refine HLK.out.mono ?_
    rintro e w7 ⟨rfl, B7, HK7⟩
    clear HLK HK6
    go_wp2_with fail
    refine (HK7.out.lookB HG4.out HLOOK.out).mono ?_
    rintro e w8 ⟨rfl, HK8⟩
    clear HK7
    have HND := Lib.hid (HK8.out.node HG4.out id)
    rw [HND4.out] at HND
    dsimp only [Nd.val] at HND
    go_wp2_with fail
    refine HND.out.mono ?_
    rintro e w9 ⟨rfl, HK9⟩
    clear HND HK8
    have HBX : Hid (Blk (w9.alloc (.cells #[.int .i64 id, .int .i64 1, .int .i64 2, .int .i64 (b.length : Nat), .int .u64 0, .bool true] 59)) w9.heap.size 59 [.int .i64 id, .int .i64 1, .int .i64 2, .int .i64 (b.length : Nat), .int .u64 0, .bool true]) := Blk.new w9 _ _
    have HKX : Hid (Lk (.pointer (some ⟨p, 0, none⟩)) w T4 (some ⟨a1, 0, none⟩) AQ [nw] r 1 c2 B7 (w9.alloc (.cells #[.int .i64 id, .int .i64 1, .int .i64 2, .int .i64 (b.length : Nat), .int .u64 0, .bool true] 59))) := HK9.out.later (below_new w9 _)
    go_upto_region 13 with (fail)
    refine wp_world (fun W => Hid (Blk W w9.heap.size 59 [.int .i64 id, .int .i64 1, .int .i64 2, .int .i64 (b.length : Nat), .int .u64 0, .bool true]) ∧ Hid (Lk (.pointer (some ⟨p, 0, none⟩)) w T4 (some ⟨a1, 0, none⟩) AQ [nw] r 1 c2 B7 W)) ⟨HBX, HKX⟩ ?_
    clear HBX HKX HK9
    rintro w10 ⟨HBX, HK10⟩
    go_wp2_with fail
    refine (HK10.out.read HG4.out id HRD4.out).mono ?_
    rintro e w11 ⟨Y, cy, rfl, HRY, HB11, HK11⟩
    have hbx := HBX.out.below HB11.out HBX.out.lt
    have d2 : w11.cell? ⟨w9.heap.size, 2, none⟩ = some (.int .i64 2) := hbx.cell 2
    have hii : (id != id) = false := by simp
    clear HK10 HBX HB11 hbx
    go_wp2_with fail
    refine (HK11.out.names HG4.out id).mono ?_
    rintro e w12 ⟨N, cn, L, rfl, HNM, HB12, HK12⟩
    have hL2 : L.length = 2 := by have h1 := HNM.out.perm.length_eq; have h2 := HPT.out; omega
    have HRY2 : Hid (Rd w12 Y b ∧ Rd w12 X b) := ⟨HRY.out.below HB12.out, HRB.out.below HK12.out.o.low⟩
    rw [hL2]
    have st1 := Ob.str_run w12 Y b cy HRY2.out.1
    have st2 := Ob.str_run w12 X b cb HRY2.out.2
    have seq : ((strOf b).toList == (strOf b).toList) = true := by simp
    clear hL2 HNM d2 HK11 HRY
    go_wp2_with fail
    refine (HK12.out.unlinkA HG4.out HU5.out).mono ?_
    rintro e w13 ⟨rfl, B13, HK13⟩
    clear HK12 HRY2 st1 st2
    go_wp2_with fail
    refine (HK13.out.read HG5.out id HRD5.out).mono ?_
    rintro e w14 ⟨Z, cz, rfl, HRZ, _, HK14⟩
    clear HK13
    go_wp2_with fail
    refine (HK14.out.lookA HG5.out HLNO.out).mono ?_
    rintro e w15 ⟨rfl, HB15, HK15⟩
    have HRZ2 : Hid (Rd w15 Z b ∧ Rd w15 X b) := ⟨HRZ.out.below HB15.out, HRB.out.below HK15.out.o.low⟩
    have st1 := Ob.str_run w15 Z b cz HRZ2.out.1
    have st2 := Ob.str_run w15 X b cb HRZ2.out.2
    clear HK14 HRZ
    go_wp2_with fail
    refine (HK15.out.unlinkB HG5.out HU6.out).mono ?_
    rintro e w16 ⟨rfl, B16, HK16⟩
    clear HK15 HRZ2 st1 st2
    have HND := Lib.hid (HK16.out.node HG6.out id)
    rw [HND6.out] at HND
    dsimp only [Nd.val, Nd.zero] at HND
    go_wp2_with fail
    refine HND.out.mono ?_
    rintro e w17 ⟨rfl, HK17⟩
    have HK18 : Hid (Lk (.pointer (some ⟨p, 0, none⟩)) w T6 (some ⟨a1, 0, none⟩) AQ [nw] r 1 c2 B16 (w17.alloc (.cells #[.int .i64 0, .int .i64 0, .int .i64 0, .int .i64 0, .int .u64 0, .bool false] 59))) := HK17.out.later (below_new w17 _)
    clear HND HK16 HK17
    go_wp2_with fail
    refine HK18.out.known.mono ?_
    rintro e w19 ⟨rfl, HE⟩
    go_wp2_with fail
    go_ret
    exact ⟨rfl, HE.out⟩
end Tw
end Go.Proofs.YtombmeppdhhjhaaGreat
