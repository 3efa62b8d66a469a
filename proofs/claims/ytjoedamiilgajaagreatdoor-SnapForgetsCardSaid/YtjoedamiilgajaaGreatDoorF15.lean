/-
  OWN WORK. WoFiles, TrKnown, BaCut, BaWithin, TrOneFile, SnForgets
-/
import Derived.Test.YtjoedamiilgajaaGreatDoorF13
import Derived.Test.YtjoedamiilgajaaGreatDoorF03
import Derived.Test.YtjoedamiilgajaaGreatDoorF01
import Derived.Test.YtjoedamiilgajaaGreatDoorF14
import Derived.Test.YtjoedamiilgajaaGreatDoorF02
import Derived.Deep.CutBlock
import Derived.Deep.RegionHeld3

namespace Go.Proofs.YtjoedamiilgajaaGreatDoor
open Go.RowKit Rc
open Tr (Nm En T)
namespace Wo
def nmOf (i : Nat) : Bs := [102, UInt8.ofNat (97 + i)]
def nms (n : Nat) : List Nm := (List.range n).map fun i => (nmOf i, (i : Int) + 1)
theorem nm_formed : ∀ n, n < 20 → Tr.formed [nmOf n] = 0 := by decide
theorem nm_get : ∀ n, n < 20 → Tr.get (nms n) (nmOf n) = none := by decide
theorem nm_ins : ∀ n, n < 20 → Tr.ins (nms n) (nmOf n) ((n : Int) + 1) = nms (n + 1) := by decide
def fe (i : Nat) (o : Option Nat) : En := ⟨⟨(i : Int) + 1, 1, 1, 0, o.getD 0, o.isSome⟩, [], []⟩
def fes : Nat → List (Option Nat) → T
  | _, [] => []
  | k, o :: L => fe k o :: fes (k + 1) L
def rt (n : Nat) : En := ⟨⟨0, 2, 1, 0, 0, true⟩, [], nms n⟩
def ft (L : List (Option Nat)) : T := rt L.length :: fes 0 L
theorem fes_append (k : Nat) (L : List (Option Nat)) (o : Option Nat) : fes k (L ++ [o]) = fes k L ++ [fe (k + L.length) o] := by
  induction L generalizing k with
  | nil => rfl
  | cons x L ih =>
    show fe k x :: fes (k + 1) (L ++ [o]) = fe k x :: fes (k + 1) L ++ [fe (k + (L.length + 1)) o]
    rw [ih, show k + 1 + L.length = k + (L.length + 1) by omega]; rfl
theorem fes_length (k : Nat) (L : List (Option Nat)) : (fes k L).length = L.length := by
  induction L generalizing k with
  | nil => rfl
  | cons x L ih => show (fes (k + 1) L).length + 1 = _; rw [ih]; rfl
theorem fes_in {k : Nat} {L : List (Option Nat)} {e : En} (h : e ∈ fes k L) : (k : Int) + 1 ≤ e.nd.id ∧ e.nd.id ≤ (k : Int) + (L.length : Nat) ∧ e.nd.links = 1 := by
  induction L generalizing k with
  | nil => cases h
  | cons x L ih =>
    rcases List.mem_cons.1 h with rfl | h
    · refine ⟨by show (k : Int) + 1 ≤ (k : Int) + 1; omega, ?_, rfl⟩
      show (k : Int) + 1 ≤ _
      rw [List.length_cons]; omega
    · have := ih h
      rw [List.length_cons]
      exact ⟨by omega, by omega, this.2.2⟩
theorem free_fes (k : Nat) (L : List (Option Nat)) : Tr.freeFrom ((k : Int) + 1) (fes k L) = (k : Int) + 1 + (L.length : Nat) := by
  induction L generalizing k with
  | nil => show (k : Int) + 1 = (k : Int) + 1 + ((0 : Nat) : Int); omega
  | cons x L ih =>
    show (if (k : Int) + 1 = (k : Int) + 1 then Tr.freeFrom ((k : Int) + 1 + 1) (fes (k + 1) L) else _) = _
    rw [if_pos rfl]
    have := ih (k + 1)
    rw [show (((k + 1 : Nat) : Int) + 1) = (k : Int) + 1 + 1 by omega] at this
    rw [this, List.length_cons]; omega
theorem free_ft (L : List (Option Nat)) : Tr.free (ft L) = (L.length : Int) + 1 := by
  show Tr.freeFrom (0 + 1) (fes 0 L) = _
  have := free_fes 0 L
  rw [show (((0 : Nat) : Int) + 1) = 0 + 1 by omega] at this
  rw [this]; omega
theorem insE_end {t : T} {n : En} (h : ∀ e ∈ t, e.nd.id < n.nd.id) : Tr.insE t n = t ++ [n] := by
  induction t with
  | nil => rfl
  | cons e t ih =>
    unfold Tr.insE
    rw [if_pos (h e (.head _)), ih fun a ha => h a (.tail _ ha)]; rfl
theorem upd_not {t : T} {i : Int} {f : En → En} (h : ∀ e ∈ t, e.nd.id ≠ i) : Tr.upd t i f = t := by
  unfold Tr.upd
  have : (t.map fun e => if e.nd.id == i then f e else e) = t.map id := List.map_congr_left fun a ha => by
    rw [if_neg (by simpa using h a ha)]; rfl
  rw [this, List.map_id]
theorem ft_ids {L : List (Option Nat)} {e : En} (h : e ∈ ft L) : e.nd.id ≤ (L.length : Nat) ∧ e.nd.links = 1 := by
  rcases List.mem_cons.1 h with rfl | h
  · exact ⟨by show (0 : Int) ≤ _; omega, rfl⟩
  · have := fes_in h; exact ⟨by omega, this.2.2⟩
theorem make_ft (L : List (Option Nat)) (h : L.length < 20) : Tr.make (ft L) [nmOf L.length] 1 = (((L.length : Int) + 1, 0), ft (L ++ [none])) := by
  have hp : Tr.place (ft L) [nmOf L.length] = (0, nmOf L.length, 0) := rfl
  have hk : Tr.kids (ft L) 0 = nms L.length := rfl
  have hl : (ft L).length = L.length + 1 := by show (fes 0 L).length + 1 = _; rw [fes_length]
  unfold Tr.make
  rw [if_neg (by rw [nm_formed _ h]; simp), if_neg (by simp), hp]
  show (if (0 : Nat) ≠ 0 then _ else if (Tr.get (Tr.kids (ft L) 0) (nmOf L.length)).isSome then _ else _) = _
  rw [if_neg (by simp), hk, nm_get _ h, if_neg (by simp), if_neg (by rw [hl]; omega), free_ft]
  refine Prod.ext rfl ?_
  show Tr.put (Tr.insE (ft L) (Tr.fresh ((L.length : Int) + 1) 1)) 0 (nmOf L.length) ((L.length : Int) + 1) = _
  rw [insE_end fun e he => by have := ft_ids he; show _ < (L.length : Int) + 1; omega]
  show Tr.upd (rt L.length :: (fes 0 L ++ [fe L.length none])) 0 _ = _
  unfold Tr.upd
  rw [List.map_cons]
  have h2 : ((fes 0 L ++ [fe L.length none]).map fun e => if (e.nd.id == 0) = true then ({ e with names := Tr.ins e.names (nmOf L.length) ((L.length : Int) + 1) } : En) else e) = fes 0 L ++ [fe L.length none] := by
    refine upd_not (i := 0) (f := fun e => { e with names := Tr.ins e.names (nmOf L.length) ((L.length : Int) + 1) }) fun e he => ?_
    rcases List.mem_append.1 he with he | he
    · have := fes_in he; omega
    · simp at he; subst he; show (L.length : Int) + 1 ≠ 0; omega
  rw [h2]
  show (⟨⟨0, 2, 1, 0, 0, true⟩, [], Tr.ins (nms L.length) (nmOf L.length) ((L.length : Int) + 1)⟩ : En) :: _ = ft (L ++ [none])
  rw [nm_ins _ h]
  unfold ft
  rw [fes_append, List.length_append, Nat.zero_add]; rfl
theorem seal_ft (L : List (Option Nat)) (u : Nat) (hu : u ≤ 1099511627776) : Tr.seal_ (ft (L ++ [none])) ((L.length : Int) + 1) u = (0, ft (L ++ [some u])) := by
  have hs : ft (L ++ [none]) = (rt (L.length + 1) :: fes 0 L) ++ [fe L.length none] := by
    unfold ft
    rw [fes_append, List.length_append, Nat.zero_add]; rfl
  have hs2 : ft (L ++ [some u]) = (rt (L.length + 1) :: fes 0 L) ++ [fe L.length (some u)] := by
    unfold ft
    rw [fes_append, List.length_append, Nat.zero_add]; rfl
  have hne : ∀ e ∈ rt (L.length + 1) :: fes 0 L, e.nd.id ≠ (L.length : Int) + 1 := by
    intro e he
    rcases List.mem_cons.1 he with rfl | he
    · show (0 : Int) ≠ _; omega
    · have := fes_in he; omega
  have hf : Tr.find (ft (L ++ [none])) ((L.length : Int) + 1) = some (fe L.length none) := by
    unfold Tr.find
    rw [hs, List.find?_append, List.find?_eq_none.2 (fun a ha => by simpa using hne a ha)]
    simp [fe]
  have hfile : Tr.file (ft (L ++ [none])) ((L.length : Int) + 1) = 0 := by
    unfold Tr.file Tr.kindOf Tr.ndOf
    rw [hf]; rfl
  have hnd : Tr.ndOf (ft (L ++ [none])) ((L.length : Int) + 1) = (fe L.length none).nd := by
    unfold Tr.ndOf; rw [hf]; rfl
  unfold Tr.seal_
  rw [hfile, hnd, if_neg (by simp), if_neg (by simp [fe]), if_neg (by omega), if_neg (by simp [fe])]
  refine Prod.ext rfl ?_
  show Tr.upd _ _ _ = _
  rw [hs, hs2]
  unfold Tr.upd
  rw [List.map_append]
  congr 1
  · exact upd_not hne
  · simp [fe, Tr.shutE]
theorem live_none {L : List (Option Nat)} {now : Nat} (h : ∀ u, some u ∈ L → u ≤ now) : live (ft L) now = [] := by
  unfold live
  rw [List.map_eq_nil_iff, List.filter_eq_nil_iff]
  intro e he hk
  rcases List.mem_cons.1 he with rfl | he
  · simp [kept, rt] at hk
  · have : ∀ (k : Nat) (L : List (Option Nat)), e ∈ fes k L → ∃ i o, o ∈ L ∧ e = fe i o := by
      intro k L
      induction L generalizing k with
      | nil => intro h; cases h
      | cons x L ih =>
        intro h
        rcases List.mem_cons.1 h with rfl | h
        · exact ⟨_, x, .head _, rfl⟩
        · obtain ⟨i, o, h1, h2⟩ := ih _ h
          exact ⟨i, o, .tail _ h1, h2⟩
    obtain ⟨i, o, ho, rfl⟩ := this 0 L he
    cases o with
    | none => simp [kept, fe] at hk
    | some u =>
      have h1 := h u ho
      have h2 : now < u := by
        have h3 : ((decide ((1 : Int) = 1)) && (true && decide (now < u))) = true := hk
        simpa using h3
      omega
/-! Both lists. -/
def liv (t : T) (now : Nat) : T := t.filter fun e => kept e.nd now
def seen (t : T) (now later i : Nat) : Nat := (((liv t now).take i).filter fun e => kept e.nd later).length
end Wo
end Go.Proofs.YtjoedamiilgajaaGreatDoor

namespace Go.Proofs.YtjoedamiilgajaaGreatDoor
open Go.RowKit Rc
open Tr (Nm En T)
namespace Tm
def k1 : T := (Tr.make Tr.new [[97]] 2).2
def k2 : T := (Tr.make k1 [[97], [98]] 1).2
def k3 : T := (Tr.link k2 [[97], [98]] [[99]]).2
variable {v : Value} {w0 w : World} {t : T} {B : Nat → Prop}
theorem make_lit (h : One1 v w0 t B w) (hG : Tr.Good t) (q : List Bs) (kind : Int) {t' : T} {i : Int} {n : Nat} (hq : Tr.make t q kind = ((i, n), t')) (hl : q.length ≤ 1000000) (hs : ∀ s ∈ q, s.length ≤ 1000000) :
    Calls Tryz.prog 26 #[v, .slice (some ⟨w.heap.size, 0, none⟩) q.length q.length, .int .i64 kind] (w.alloc (.cells (txtCells q).toArray 9)) (Turn1 v w0 t' B (.tuple #[.int .i64 i, .int .i64 (n : Nat)]) w) := by
  have h1 := o_make (h.later (below_new w (.cells (txtCells q).toArray 9))) hG (some ⟨w.heap.size, 0, none⟩) q q.length kind (rds_alloc w q 9 (0, 0)) (Nat.le_refl _) hl hs
  rw [hq] at h1
  refine h1.mono ?_
  rintro e w' ⟨he, B', k1, k2, k3⟩
  have hb := below_new w (.cells (txtCells q).toArray 9)
  exact ⟨he, B', k1, ⟨k2.os, k2.tape, k2.output, Nat.le_trans hb.size k2.size, fun b hb2 hn => (k2.block b (Nat.lt_of_lt_of_le hb2 hb.size) hn).trans (hb.block b hb2)⟩, fun b hb2 => (k3 b hb2).imp id fun h4 => Nat.le_trans hb.size h4⟩
end Tm
end Go.Proofs.YtjoedamiilgajaaGreatDoor

namespace Go.Proofs.YtjoedamiilgajaaGreatDoor
open Go.RowKit

end Go.Proofs.YtjoedamiilgajaaGreatDoor

namespace Go.Proofs.YtjoedamiilgajaaGreatDoor
open Go.RowKit

end Go.Proofs.YtjoedamiilgajaaGreatDoor

namespace Go.Proofs.YtjoedamiilgajaaGreatDoor
open Go.RowKit Rc
open Tr (Nm En T)
namespace Tm
def S1 (d : Bs) (u : Nat) (s : Bool) : T := [⟨⟨0, 2, 1, 0, 0, true⟩, [], [([102], 1)]⟩, ⟨⟨1, 1, 1, (d.length : Nat), u, s⟩, d, []⟩]
variable {v : Value} {w0 w : World} {t t' : T} {B : Nat → Prop}
theorem Turn1.to {F : FuncId} {args : Array Value} {P : Nat × T} (h : Calls Tryz.prog F args w (Turn1 v w0 P.2 B (.int .i64 (P.1 : Nat)) w)) {n : Nat} (hP : P = (n, t')) {k : Int} (hk : ((n : Nat) : Int) = k) : Calls Tryz.prog F args w (Turn1 v w0 t' B (.int .i64 k) w) := by
  rw [hP] at h
  subst hk
  exact h
end Tm
end Go.Proofs.YtjoedamiilgajaaGreatDoor

namespace Go.Proofs.YtjoedamiilgajaaGreatDoor
open Go.RowKit Rc
open Tr (Nm En T)
open Tm (tobj)
namespace Sn
open Wo (ft fes fe rt nmOf live kept make_ft seal_ft live_none)
set_option maxRecDepth 100000 in
theorem rune_run : ∀ i, i < 20 → ∀ w, (convert 21 9 (.int .i32 ((97 + i : Nat) : Int))).run Tryz.prog w = .ok (.string (strOf [UInt8.ofNat (97 + i)])) w := by
  intro i hi w
  match i, hi with
  | 0, _ => rfl
  | 1, _ => rfl
  | 2, _ => rfl
  | 3, _ => rfl
  | 4, _ => rfl
  | 5, _ => rfl
  | 6, _ => rfl
  | 7, _ => rfl
  | 8, _ => rfl
  | 9, _ => rfl
  | 10, _ => rfl
  | 11, _ => rfl
  | 12, _ => rfl
  | 13, _ => rfl
  | 14, _ => rfl
  | 15, _ => rfl
  | 16, _ => rfl
  | 17, _ => rfl
  | 18, _ => rfl
  | 19, _ => rfl
  | k + 20, h => exact absurd h (by omega)
theorem live_some {L : List (Option Nat)} {now m : Nat} (h : some m ∈ L) (hn : now < m) : 0 < (live (ft L) now).length := by
  have key : ∀ (k : Nat) (L : List (Option Nat)), some m ∈ L → ∃ i, fe i (some m) ∈ fes k L := by
    intro k L
    induction L generalizing k with
    | nil => intro h; cases h
    | cons x L ih =>
      intro h
      rcases List.mem_cons.1 h with h | h
      · exact ⟨k, by rw [h]; exact .head _⟩
      · obtain ⟨i, hi⟩ := ih (k + 1) h
        exact ⟨i, .tail _ hi⟩
  obtain ⟨i, hi⟩ := key 0 L h
  unfold live
  rw [List.length_map]
  refine List.length_pos_of_mem (List.mem_filter.2 ⟨.tail _ hi, ?_⟩)
  show (decide ((1 : Int) = 1) && (true && decide (now < m))) = true
  simpa using hn
theorem ft_shut {L : List (Option Nat)} (h : ∀ o ∈ L, o.isSome = true) : Tr.committed (ft L) = ft L := by
  have key : ∀ (k : Nat) (L : List (Option Nat)), (∀ o ∈ L, o.isSome = true) → ∀ e ∈ fes k L, e.nd.shut = true := by
    intro k L
    induction L generalizing k with
    | nil => intro _ e h; cases h
    | cons x L ih =>
      intro h e he
      rcases List.mem_cons.1 he with rfl | he
      · exact h x (.head _)
      · exact ih (k + 1) (fun o ho => h o (.tail _ ho)) e he
  unfold Tr.committed Tr.opens
  rw [List.filter_eq_nil_iff.2 fun e he => ?_]
  · rfl
  · rcases List.mem_cons.1 he with rfl | he
    · simp [rt]
    · simp [key 0 L h e he]
theorem ft_slim {L : List (Option Nat)} (h : L.length ≤ 20) : Tr.Slim (ft L) := by
  have key : ∀ (k : Nat) (L : List (Option Nat)), ∀ e ∈ fes k L, e.names = [] := by
    intro k L
    induction L generalizing k with
    | nil => intro e h; cases h
    | cons x L ih =>
      intro e he
      rcases List.mem_cons.1 he with rfl | he
      · rfl
      · exact ih (k + 1) e he
  intro e he
  rcases List.mem_cons.1 he with rfl | he
  · show (Wo.nms L.length).length ≤ _
    unfold Wo.nms
    rw [List.length_map, List.length_range]
    omega
  · rw [key 0 L e he]; decide
theorem ends {L : List (Option Nat)} {m : Nat} (hG : Tr.Good (ft L)) (hl : L.length ≤ 20) (hs : ∀ o ∈ L, o.isSome = true) (hm : ∀ u, some u ∈ L → u ≤ m) (hm2 : m = 0 ∨ some m ∈ L) :
    ∃ s1 s2, take new (ft L) = ((1, 0), s1) ∧ Ok s1 ∧ s1.all.map (·.id) = [1] ∧ (∀ n, n < m → forget s1 1 n = (28, s1)) ∧ (∀ n, m ≤ n → forget s1 1 n = (0, s2)) ∧ Ok s2 ∧ s2.all.map (·.id) = [] ∧ ∀ n, forget s2 1 n = (29, s2) := by
  have e1 := take_one (s := new) (t := ft L) (by decide)
  rw [ft_shut hs] at e1
  have o1 := take_ok new_ok (by decide) hG (ft_slim hl)
  rw [e1] at o1
  have live0 : ∀ n, m ≤ n → live (ft L) n = [] := fun n hn => live_none fun u hu => Nat.le_trans (hm u hu) hn
  have f2 : ∀ n, m ≤ n → forget ⟨[] ++ [⟨1, Sh.sum ([] ++ Tr.save (ft L)), ft L⟩], 1 + 1, Sh.sum ([] ++ Tr.save (ft L))⟩ 1 n = (0, ⟨[], 1 + 1, Sh.sum ([] ++ Tr.save (ft L))⟩) := fun n hn => by
    have := forget_gone o1.rise (j := 0) (x := ⟨1, Sh.sum ([] ++ Tr.save (ft L)), ft L⟩) rfl (now := n) (by show ¬ 0 < (live (ft L) n).length; rw [live0 n hn]; decide)
    exact this
  refine ⟨_, ⟨[], 1 + 1, Sh.sum ([] ++ Tr.save (ft L))⟩, e1, o1, rfl, fun n hn => ?_, f2, ?_, rfl, fun n => rfl⟩
  · rcases hm2 with h0 | h0
    · omega
    · exact forget_kept o1.rise (x := ⟨1, Sh.sum ([] ++ Tr.save (ft L)), ft L⟩) (.head _) (live_some h0 hn)
  · have h9 := forget_ok o1 1 m
    have h8 := f2 m (Nat.le_refl _)
    have h7 : Ok (forget ⟨[] ++ [⟨1, Sh.sum ([] ++ Tr.save (ft L)), ft L⟩], 1 + 1, Sh.sum ([] ++ Tr.save (ft L))⟩ 1 m).2 := h9
    rw [h8] at h7
    exact h7
theorem same_is (l : List Int) (w w1 : World) (v : Value) (h : IAt w.heap.size v l w w1) (hl : ∀ x ∈ l, -9223372036854775808 ≤ x ∧ x ≤ 9223372036854775807) : ∃ A c, v = .slice A l.length c ∧ l.length ≤ c ∧ RdI w1 A l ∧ Below w.heap.size w w1 := by
  obtain ⟨A, c, h1, h2, h3⟩ := h.rdi hl
  exact ⟨A, c, h1, h2, h3, h.2.1⟩
set_option maxHeartbeats 8000000 in
set_option maxRecDepth 100000 in
theorem forgets_any (w : World) (AU : Option Addr) (us : List Int) (cu nw : Nat) (hru : RdU w AU us) (hcu : us.length ≤ cu) (hlu : us.length ≤ 9223372036854775807) (hub : ∀ x ∈ us, 0 ≤ x) (hK : KAt w) :
    Calls Tryz.prog 7 #[.slice AU us.length cu, .int .u64 (nw : Nat)] w fun e w' => e = .returned (.bool true) ∧ Below w.heap.size w w' := by
  have HRU := Lib.hid hru
  have HUB := Lib.hid hub
  have HK := Lib.hid hK
  obtain ⟨nu, hnu⟩ : ∃ nu, nu = us.length := ⟨_, rfl⟩
  rw [← hnu] at hcu hlu ⊢
  have HNU := Lib.hid hnu
  obtain ⟨n, hn⟩ : ∃ n, n = nw % 50 := ⟨_, rfl⟩
  have hn1 : n < 50 := by omega
  have e1 : (nw : Int) % 50 = (n : Int) := by omega
  clear hn hru hub hnu hK
  go_enter Tryz.func7, Tryz.ntmps7
  go_wp2_with fail
  refine (begin_any w).mono ?_
  rintro e w1 ⟨pw, v1, v2, px, py, B1, B2, rfl, hw⟩
  obtain ⟨q1, hv1⟩ := sobj.ptr hw.pr.sn
  obtain ⟨q2, hv2⟩ := tobj.ptr hw.pr.tr
  subst hv1 hv2
  have HO : Hid (Wd pw (.pointer (some q1)) (.pointer (some q2)) px py w new (ft []) B1 B2 w1) := hw
  have HG0 : Hid (Tr.Good (ft [])) := Tr.new_good
  clear hw
  go_upto_block 0 with (fail)
  go_cut [6] (fun t6 wx => ∃ (WX : World) (L : List (Option Nat)) (B : Nat → Prop) (m : Nat), WX = wx ∧ m < 40 ∧ t6 = .int .u64 (m : Nat) ∧ Hid (L.length ≤ 20) ∧ Hid (Wd pw (.pointer (some q1)) (.pointer (some q2)) px py w new (ft L) B1 B WX) ∧ Hid (Tr.Good (ft L)) ∧ Hid ((∀ o ∈ L, o.isSome = true) ∧ (∀ u, some u ∈ L → u ≤ m) ∧ (m = 0 ∨ some m ∈ L)))
  case first =>
    go_wp2_with fail
    go_loopw [6, 7, 8, 9, 10] (fun t6 t7 t8 t9 t10 wr => ∃ (L : List (Option Nat)) (B : Nat → Prop) (m i : Nat) (v8 v9 v10 : Value), t6 = .int .u64 (m : Nat) ∧ t7 = .int .i64 (i : Nat) ∧ t8 = v8 ∧ t9 = v9 ∧ t10 = v10 ∧ m < 40 ∧ i ≤ 10 ∧ i ≤ nu ∧ Hid (i = L.length) ∧ Hid (Wd pw (.pointer (some q1)) (.pointer (some q2)) px py w new (ft L) B1 B wr) ∧ Hid (Tr.Good (ft L)) ∧ Hid ((∀ o ∈ L, o.isSome = true) ∧ (∀ u, some u ∈ L → u ≤ m) ∧ (m = 0 ∨ some m ∈ L))) (fun _ t7 _ _ _ _ => 10 - (match t7 with | .int _ k => k.toNat | _ => 0))
    case atStart => exact ⟨[], _, 0, 0, _, _, _, rfl, rfl, rfl, rfl, rfl, by omega, by omega, by omega, rfl, HO.out, HG0.out, by simp, by simp, .inl rfl⟩
    case round =>
      clear HO HG0
      obtain ⟨L, B, m, i, v8, v9, v10, rfl, rfl, rfl, rfl, rfl, hm40, hi10, hin, HIL, HOW, HGL, HUL⟩ := hrel
      by_cases hlt : i < nu
      · by_cases h10 : i < 10
        · have hi1 : (i : Int) < (nu : Int) := by omega
          have hi2 : (i : Int) < 10 := by omega
          obtain ⟨j, hj⟩ : ∃ j, j = i + 1 := ⟨_, rfl⟩
          have wj : IntKind.i64.wrap ((i : Int) + 1) = (j : Int) := by simp [IntKind.wrap, IntKind.bits, IntKind.signed]; omega
          obtain ⟨c, hc⟩ : ∃ c, c = 97 + i := ⟨_, rfl⟩
          have w1c : IntKind.i64.wrap (97 + (i : Int)) = (c : Int) := by simp [IntKind.wrap, IntKind.bits, IntKind.signed]; omega
          have w2c : IntKind.i32.wrap (c : Int) = (c : Int) := by simp [IntKind.wrap, IntKind.bits, IntKind.signed]; omega
          have HRR := Lib.hid (rune_run i (by omega))
          have hadd : Op.stringOp .add ⟨#[102]⟩ (strOf [UInt8.ofNat c]) = pure (.string (strOf (nmOf i))) := by
            rw [hc]
            exact str_add [102] [UInt8.ofNat (97 + i)] (by simp)
          have HMK : Hid (Tr.make (ft L) [nmOf i] 1 = (((j : Int), 0), ft (L ++ [none]))) := by
            show _ = _
            have h1 := make_ft L (by have := HIL.out; omega)
            rw [← HIL.out] at h1
            rw [h1, hj]; simp
          have HGN := Lib.hid (Tr.make_good HGL.out [nmOf i] 1)
          rw [HMK.out] at HGN
          rw [← hc] at HRR
          have hrr := HRR.out wr
          have d1 : wr.cell? ⟨pw, 1, none⟩ = some (.pointer (some q2)) := HOW.out.box.cell 1
          obtain ⟨x, hx⟩ : ∃ x, us[i]? = some x := ⟨_, List.getElem?_eq_getElem (by have := HNU.out; omega)⟩
          have hx0 := HUB.out x (List.mem_of_getElem? hx)
          obtain ⟨y, rfl⟩ : ∃ y : Nat, x = (y : Int) := ⟨x.toNat, by omega⟩
          obtain ⟨u, hu⟩ : ∃ u, u = y % 40 := ⟨_, rfl⟩
          have hu25 : u < 40 := by omega
          have eu : (y : Int) % 40 = (u : Int) := by omega
          have HSL : Hid (Tr.seal_ (ft (L ++ [none])) (j : Int) u = (0, ft (L ++ [some u]))) := by
            show _ = _
            have h1 := seal_ft L u (by omega)
            rw [← HIL.out] at h1
            rw [← h1, hj]; simp
          have HGS := Lib.hid (Tr.seal_good HGN.out (j : Int) u)
          rw [HSL.out] at HGS
          have HUS : Hid (∀ m2, m2 = max m u → (∀ o ∈ L ++ [some u], o.isSome = true) ∧ (∀ v, some v ∈ L ++ [some u] → v ≤ m2) ∧ (m2 = 0 ∨ some m2 ∈ L ++ [some u])) := by
            obtain ⟨k1, k2, k3⟩ := HUL.out
            show ∀ m2, _ → _
            rintro m2 rfl
            refine ⟨fun o ho => ?_, fun v hv => ?_, ?_⟩
            · rcases List.mem_append.1 ho with ho | ho
              · exact k1 o ho
              · obtain rfl := List.mem_singleton.1 ho; rfl
            · rcases List.mem_append.1 hv with hv | hv
              · have := k2 v hv; omega
              · simp at hv; omega
            · rcases Nat.lt_or_ge m u with h9 | h9
              · rw [Nat.max_eq_right (by omega)]
                exact .inr (List.mem_append.2 (.inr (.head _)))
              · rw [Nat.max_eq_left h9]
                rcases k3 with k3 | k3
                · exact .inl k3
                · exact .inr (List.mem_append.2 (.inl k3))
          have HJS : Hid (j = (L ++ [some u]).length) := by show _ = _; rw [List.length_append, ← HIL.out]; simp [hj]
          have HXX := Lib.hid hx
          have hj20 : j ≤ 10 := by omega
          have hjn : j ≤ nu := by omega
          have HJI := Lib.hid hj
          clear hx hx0 hu hc hj
          go_wp2_with fail
          refine (Tm.make_lit HOW.out.one HGL.out [nmOf i] 1 HMK.out (by simp) (by simp [nmOf])).mono ?_
          intro e w2 ht
          obtain ⟨rfl, B3, hw2⟩ := HOW.out.turn1 ht
          have H2 := Lib.hid hw2
          have d1' : w2.cell? ⟨pw, 1, none⟩ = some (.pointer (some q2)) := hw2.box.cell 1
          have HRX := Lib.hid (HRU.out.below H2.out.low (Nat.le_refl _))
          obtain ⟨b, off, hAU, hbl, hcell⟩ := HRX.out i (y : Int) HXX.out
          subst hAU
          have hcu2 : w2.cell? ⟨b, off + i, none⟩ = some (.int .u64 (y : Nat)) := hcell
          clear ht hw2 HOW hrr d1 hcell hbl HRX
          go_wp2_with fail
          refine (Tm.Turn1.to (t' := ft (L ++ [some u])) (Tm.o_seal H2.out.one HGN.out (j : Int) u (by omega)) HSL.out rfl).mono ?_
          intro e w3 ht
          obtain ⟨rfl, B4, hw3⟩ := H2.out.turn1 ht
          have H3 := Lib.hid hw3
          clear ht hw3 H2 hcu2 d1'
          by_cases hmu : m < u
          · have hmu2 : (m : Int) < (u : Int) := by omega
            go_wp2_with fail
            go_roundw
            case rel => exact ⟨L ++ [some u], B4, u, j, _, _, _, rfl, by go_num, rfl, rfl, rfl, hu25, hj20, hjn, HJS, H3, HGS, HUS.out u (by omega)⟩
            case measure => simp; have := HJI.out; omega
          · have hmu2 : ¬ (m : Int) < (u : Int) := by omega
            go_wp2_with fail
            go_roundw
            case rel => exact ⟨L ++ [some u], B4, m, j, _, _, _, rfl, by go_num, rfl, rfl, rfl, hm40, hj20, hjn, HJS, H3, HGS, HUS.out m (by omega)⟩
            case measure => simp; have := HJI.out; omega
        · have h9 : Hid (L.length ≤ 20) := by show _ ≤ _; rw [← HIL.out]; omega
          go_wp2_with fail
          go_meet
          case rel => exact ⟨_, L, B, m, rfl, hm40, rfl, h9, HOW, HGL, HUL⟩
      · have h9 : Hid (L.length ≤ 20) := by show _ ≤ _; rw [← HIL.out]; omega
        go_wp2_with fail
        go_meet
        case rel => exact ⟨_, L, B, m, rfl, hm40, rfl, h9, HOW, HGL, HUL⟩
  case rest =>
  obtain ⟨WX, L, B, m, hWX, hm40, rfl, HL20, HOW, HGL, HUL⟩ := hcut
  subst hWX
  clear HO HG0
  obtain ⟨s1, s2, f1, o1, i1, f28, f0, o2, i2, f29⟩ := ends HGL.out HL20.out HUL.out.1 HUL.out.2.1 HUL.out.2.2
  have HF : Hid ((∀ n, n < m → forget s1 1 n = (28, s1)) ∧ (∀ n, m ≤ n → forget s1 1 n = (0, s2)) ∧ ∀ n, forget s2 1 n = (29, s2)) := ⟨f28, f0, f29⟩
  have HOK : Hid (Ok s1 ∧ Ok s2 ∧ s1.all.map (·.id) = [1] ∧ s2.all.map (·.id) = []) := ⟨o1, o2, i1, i2⟩
  have HOW2 : Hid (Wd pw (.pointer (some q1)) (.pointer (some q2)) px py w new (ft L) B1 B WX.drew) := HOW.out.later (Below.drew (Below.refl _ _))
  have HTK : Hid (Calls Tryz.prog 9 #[.pointer (some q1), .pointer (some q2)] WX.drew (Ob.Turns sobj (.pointer (some q1)) s1 (.tuple #[.int .i64 1, .int .i64 0]) B1 WX.drew)) := by
    have h9 := so_take HOW2.out.pr.sn new_ok (by decide) HOW2.out.pr.tr HGL.out (ft_slim HL20.out) (HOW2.out.kat HK.out)
    rw [f1] at h9
    exact h9
  have d0 : WX.cell? ⟨pw, 0, none⟩ = some (.pointer (some q1)) := HOW.out.box.cell 0
  have d1 : WX.cell? ⟨pw, 1, none⟩ = some (.pointer (some q2)) := HOW.out.box.cell 1
  have HD : Hid (WX.cell? ⟨pw, 0, none⟩ = some (.pointer (some q1)) ∧ WX.cell? ⟨pw, 1, none⟩ = some (.pointer (some q2))) := ⟨d0, d1⟩
  clear f1 o1 i1 f28 f0 o2 i2 f29 d0 d1
  go_upto_region 14 with (fail)
  go_region_held3 (fun W => W.cell? ⟨pw, 0, none⟩ = some (.pointer (some q1)) ∧ W.cell? ⟨pw, 1, none⟩ = some (.pointer (some q2)))
    (first
      | exact ⟨H3.out.box.cell 0, H3.out.box.cell 1⟩
      | exact HD.out
      | fail)
    (first
      | (go_at_call 9; refine HTK.out.mono ?_; intro e w3 ht; obtain ⟨rfl, B3, hw3⟩ := HOW2.out.turnS ht; have H3 := Lib.hid hw3; clear ht hw3)
      | fail)
  obtain ⟨⟨r, sA⟩, hr⟩ : ∃ z, z = forget s1 1 n := ⟨_, rfl⟩
  have HRA : Hid ((n < m → r = 28 ∧ sA = s1) ∧ (m ≤ n → r = 0 ∧ sA = s2)) := ⟨fun h => by
    rw [HF.out.1 n h] at hr; injection hr with h1 h2; exact ⟨h1, h2⟩, fun h => by
    rw [HF.out.2.1 n h] at hr; injection hr with h1 h2; exact ⟨h1, h2⟩⟩
  have HFG : Hid (Calls Tryz.prog 28 #[.pointer (some q1), .int .i64 1, .int .u64 (n : Nat)] w3 (Ob.Turns sobj (.pointer (some q1)) sA (.int .i64 (r : Nat)) B3 w3)) := by
    have h9 := so_forget H3.out.pr.sn HOK.out.1 1 n
    rw [← hr] at h9
    exact h9
  have hrb : r ≤ 28 := by
    rcases Nat.lt_or_ge n m with h9 | h9
    · have := (HRA.out.1 h9).1; omega
    · have := (HRA.out.2 h9).1; omega
  clear hr
  go_wp2_with fail
  simp only [e1]
  refine HFG.out.mono ?_
  intro e w4 ht
  obtain ⟨rfl, B4, hw4⟩ := H3.out.turnS ht
  have H4 := Lib.hid hw4
  clear ht hw4 HFG
  go_upto_if 87 with (fail)
  go_cut [13] (fun t13 wx => ∃ WX, WX = wx ∧ t13 = .int .i64 0 ∧ Hid (∃ B5, Wd pw (.pointer (some q1)) (.pointer (some q2)) px py w s2 (ft L) B5 B WX))
  case first =>
    by_cases hnm : n < m
    · obtain ⟨h28, hs1⟩ := HRA.out.1 hnm
      subst h28 hs1
      have hlt3 : (n : Int) < (m : Int) := by omega
      have d0 : w4.cell? ⟨pw, 0, none⟩ = some (.pointer (some q1)) := H4.out.box.cell 0
      have HAL : Hid (Calls Tryz.prog 20 #[.pointer (some q1)] w4 fun r w' => ∃ x, r = .returned x ∧ IAt w4.heap.size x [1] w4 w') := by
        have h9 := so_all H4.out.pr.sn HOK.out.1
        rw [HOK.out.2.2.1] at h9
        exact h9
      go_wp2_with fail
      refine HAL.out.mono ?_
      rintro e w5 ⟨x, rfl, hI⟩
      obtain ⟨A5, c5, rfl, hc5, hr5, hb5⟩ := same_is [1] w4 w5 x hI (by intro y hy; simp at hy; omega)
      have H5 := Lib.hid (H4.out.later hb5)
      have HSM : Hid (Calls Tryz.prog 19 #[.slice A5 1 c5, .slice (some ⟨w5.heap.size, 0, none⟩) 1 1] (w5.alloc (.cells #[.int .i64 1] 3)) fun e w' => e = .returned (.bool true) ∧ ∃ n, w' = (w5.alloc (.cells #[.int .i64 1] 3)).drewN n) := by
        refine same_ints [1] A5 (some ⟨w5.heap.size, 0, none⟩) c5 1 _ (Later.rdi (below_new w5 _) hr5) ?_ (by decide)
        intro j y hj
        have hB : Blk (w5.alloc (.cells #[.int .i64 1] 3)) w5.heap.size 3 [.int .i64 1] := Blk.new w5 _ _
        refine ⟨by have := List.mem_of_getElem? hj; simp at this; omega, w5.heap.size, 0, rfl, hB.lt, ?_⟩
        rw [Nat.zero_add, hB.cell j]
        match j, hj with
        | 0, hj => simp at hj; subst hj; rfl
        | j + 1, hj => simp at hj
      clear hI hr5 hb5 hc5 HAL d0 H4
      go_wp2_with fail
      refine HSM.out.mono ?_
      rintro e _ ⟨rfl, n6, rfl⟩
      have H6 := Lib.hid ((H5.out.later (below_new w5 (.cells #[.int .i64 1] 3))).later (below_drewN _ n6))
      obtain ⟨w6, hw6⟩ : ∃ w6, w6 = (w5.alloc (.cells #[.int .i64 1] 3)).drewN n6 := ⟨_, rfl⟩
      rw [← hw6] at H6 ⊢
      have d0 : w6.cell? ⟨pw, 0, none⟩ = some (.pointer (some q1)) := H6.out.box.cell 0
      have HF6 : Hid (Calls Tryz.prog 28 #[.pointer (some q1), .int .i64 1, .int .u64 (m : Nat)] w6 (Ob.Turns sobj (.pointer (some q1)) s2 (.int .i64 0) B4 w6)) := by
        have h9 := so_forget H6.out.pr.sn HOK.out.1 1 m
        rw [HF.out.2.1 m (Nat.le_refl _)] at h9
        exact h9
      clear hw6 HSM H5
      go_wp2_with fail
      refine HF6.out.mono ?_
      intro e w7 ht
      obtain ⟨rfl, B7, hw7⟩ := H6.out.turnS ht
      have H7 := Lib.hid hw7
      clear ht hw7 HF6 H6 d0
      go_wp2_with fail
      go_meet
      case rel => exact ⟨_, rfl, rfl, B7, H7.out⟩
    · obtain ⟨h28, hs1⟩ := HRA.out.2 (by omega)
      subst h28 hs1
      have hlt3 : ¬ (n : Int) < (m : Int) := by omega
      go_wp2_with fail
      go_meet
      case rel => exact ⟨_, rfl, rfl, B4, H4.out⟩
  case rest =>
  obtain ⟨WY, hWY, rfl, HW⟩ := hcut
  subst hWY
  clear H4 H3 HRA
  obtain ⟨B5, hw5⟩ := HW.out
  have H5 := Lib.hid hw5
  have d0 : WY.cell? ⟨pw, 0, none⟩ = some (.pointer (some q1)) := hw5.box.cell 0
  have HAL : Hid (Calls Tryz.prog 20 #[.pointer (some q1)] WY fun r w' => ∃ x, r = .returned x ∧ IAt WY.heap.size x [] WY w') := by
    have h9 := so_all H5.out.pr.sn HOK.out.2.1
    rw [HOK.out.2.2.2] at h9
    exact h9
  clear hw5 HW
  go_wp2_with fail
  refine HAL.out.mono ?_
  rintro e w8 ⟨x, rfl, hI⟩
  obtain ⟨A8, c8, rfl, hc8, _, hb8⟩ := same_is [] WY w8 x hI (by intro y hy; cases hy)
  have H8 := Lib.hid (H5.out.later hb8)
  have d0' : w8.cell? ⟨pw, 0, none⟩ = some (.pointer (some q1)) := H8.out.box.cell 0
  have HF8 : Hid (Calls Tryz.prog 28 #[.pointer (some q1), .int .i64 1, .int .u64 99] w8 (Ob.Turns sobj (.pointer (some q1)) s2 (.int .i64 29) B5 w8)) := by
    have h9 := so_forget H8.out.pr.sn HOK.out.2.1 1 99
    rw [HF.out.2.2 99] at h9
    exact h9
  clear hI hb8 hc8 HAL d0 H5
  go_wp2_with fail
  refine HF8.out.mono ?_
  intro e w9 ht
  obtain ⟨rfl, B9, hw9⟩ := H8.out.turnS ht
  have H9 := Lib.hid hw9
  have HKN := Lib.hid (known_any w9 (H9.out.kat HK.out))
  clear ht hw9 HF8 H8 d0'
  go_wp2_with fail
  refine HKN.out.mono ?_
  rintro e w10 ⟨rfl, hb10⟩
  have HB10 : Hid (Below w.heap.size w w10) := H9.out.low.trans (hb10.mono H9.out.low.size)
  clear hb10
  go_wp2_with fail
  go_ret
  exact ⟨rfl, HB10.out⟩
theorem forgets_nat (W : World) (us : List Int) (AU : Option Addr) (cu : Nat) (a : Int) (hr : RdU W AU us ∧ ∀ x ∈ us, 0 ≤ x) (hcu : us.length ≤ cu) (hlu : us.length ≤ 9223372036854775807) (ha : 0 ≤ a ∧ a ≤ 18446744073709551615) (hK : KAt W) :
    Calls Tryz.prog 7 #[.slice AU us.length cu, .int .u64 a] W fun e w' => e = .returned (.bool true) ∧ Below W.heap.size W w' := by
  have := forgets_any W AU us cu a.toNat hr.1 hcu hlu hr.2 hK
  rw [Int.toNat_of_nonneg ha.1] at this
  exact this
end Sn
end Go.Proofs.YtjoedamiilgajaaGreatDoor
