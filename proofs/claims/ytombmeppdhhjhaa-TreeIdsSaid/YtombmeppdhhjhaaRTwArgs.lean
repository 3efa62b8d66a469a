/-
  OWN WORK. Law 11's list of calls, as it lies in memory, out of a law's arguments.
-/
import Derived.Test.YtombmeppdhhjhaaR01
import Derived.Test.YtombmeppdhhjhaaRTwPair
namespace Go.Proofs.Ytombmeppdhhjhaa
open Go.ChangeShapes Go.WideShapes Go.RowKit Go.Deep

structure AskT where
  kd : Int
  p : Int
  z : Int
  dir : Bool
  id : Int
  a : Int
  m : Int
  X : Option Addr
  b : List UInt8
  cb : Nat
  u : Nat
def In64T (i : Int) : Prop := -9223372036854775808 ≤ i ∧ i ≤ 9223372036854775807
def AskT.cells (p : AskT) : List Value := [.int .i64 p.kd, .int .i64 p.p, .int .i64 p.z, .bool p.dir, .int .i64 p.id, .int .i64 p.a, .int .i64 p.m, .slice p.X p.b.length p.cb, .int .u64 (p.u : Nat)]
def AskT.val (p : AskT) : Value := .agg p.cells.toArray
structure AskT.Fits (w : World) (p : AskT) : Prop where
  rd : Rd w p.X p.b
  fits : p.b.length ≤ p.cb
  long : p.b.length ≤ 9223372036854775807
  ip : In64T p.p
  ito : In64T p.z
  iid : In64T p.id
  ia : In64T p.a
  im : In64T p.m
  iu : p.u ≤ 18446744073709551615
structure AskT.Ok (w : World) (a : Addr) (j : Nat) (p : AskT) : Prop where
  cells : ∀ k u, p.cells[k]? = some u → w.cell? (a.add (j * 9 + k)) = some u
  fit : p.Fits w
  lt : a.block < w.heap.size
def AsksT (w : World) (A : Option Addr) (ps : List AskT) : Prop := 0 < ps.length → ∃ a, A = some a ∧ ∀ (j : Nat) (p : AskT), ps[j]? = some p → p.Ok w a j
theorem AsksT.plain {w : World} {A : Option Addr} {ps : List AskT} (h : AsksT w A ps) (h0 : 0 < ps.length) : ∃ b off, A = some ⟨b, off, none⟩ ∧ ∀ (i : Nat) (p : AskT), ps[i]? = some p → p.Ok w ⟨b, off, none⟩ i := by
  obtain ⟨a, rfl, hok⟩ := h h0
  have hs := World.cell?_spot ((hok 0 _ (List.getElem?_eq_getElem h0)).cells 0 _ rfl)
  obtain ⟨b, off, spot⟩ := a
  have : spot = none := by simpa [Addr.add] using hs
  subst this
  exact ⟨b, off, rfl, hok⟩
theorem AskT.Fits.later {w w' : World} {p : AskT} (h : p.Fits w) (hb : Below w.heap.size w w') : p.Fits w' := { h with rd := h.rd.below hb }
theorem AskT.Ok.at_ {w w' : World} {b off j : Nat} {p : AskT} (h : p.Ok w ⟨b, off, none⟩ j) (hb : Below w.heap.size w w') (k : Nat) (u : Value) (hu : p.cells[k]? = some u) : w'.cell? ⟨b, off + j * 9 + k, none⟩ = some u := by
  have c := h.cells k u hu
  simp only [add_plain] at c
  rw [Nat.add_assoc]
  exact (hb.cell (p := ⟨b, off + (j * 9 + k), none⟩) h.lt).trans c
theorem Try.cellsAskT : Try.prog.cellsOf 75 = 9 := by kernel_rfl
theorem Try.cellsIntT : Try.prog.cellsOf 3 = 1 := by kernel_rfl
theorem Try.cellsBoolT : Try.prog.cellsOf 4 = 1 := by kernel_rfl
theorem Try.cellsU64T : Try.prog.cellsOf 36 = 1 := by kernel_rfl
theorem Try.cellsBytesT : Try.prog.cellsOf 29 = 1 := by kernel_rfl
set_option maxRecDepth 100000 in
set_option maxHeartbeats 1000000 in
theorem asksT_of {H : Type} {enc : TypeId × Value → H} {W : World} {fuel : Nat} {v : Value} {x : DataW H × List MemPlace}
    (h : DataW.trod enc Try.prog W 0 (fun _ => true) true fuel 43 [v] = some x) :
    ∃ (ps : List AskT) (A : Option Addr) (cap : Nat), v = .slice A ps.length cap ∧ ps.length ≤ cap ∧ ps.length ≤ 9223372036854775807 ∧ AsksT W A ps := by
  rcases open_slice Try.underlying43 h with ⟨hcs, _⟩ | ⟨a, len, cap, m, n, D, Pl, hcs, _, hl, hm, hmm, hx, hi⟩
  · simp only [List.cons.injEq, and_true] at hcs
    exact ⟨[], none, 0, hcs, by simp, by simp, fun h0 => absurd h0 (by simp)⟩
  · simp only [List.cons.injEq, and_true] at hcs
    subst hcs
    simp only [if_true] at hmm
    have key : ∀ i : Fin len, ∃ p : AskT, p.Ok W a i := fun i => by
      obtain ⟨cs, hc, ht⟩ := hi i (by have := i.2; omega)
      rw [Try.cellsAskT] at hc
      obtain ⟨_, hlen, hat⟩ := World.cells?_some hc
      obtain ⟨ys, n', _, hys, _, hyl, hf⟩ := DataW.trod_struct Try.underlying75 ht
      match cs, hlen, ys, hyl with
      | [v0, v1, v2, v3, v4, v5, v6, v7, v8], _, [y0, y1, y2, y3, y4, y5, y6, y7, y8], _ =>
        have h0 : DataW.trod enc Try.prog W 0 (fun _ => true) true n' 3 ((List.drop 0 [v0, v1, v2, v3, v4, v5, v6, v7, v8]).take (Try.prog.cellsOf 3)) = some y0 := hf 0 _ rfl
        rw [Try.cellsIntT] at h0
        have h1 : DataW.trod enc Try.prog W 0 (fun _ => true) true n' 3 ((List.drop 1 [v0, v1, v2, v3, v4, v5, v6, v7, v8]).take (Try.prog.cellsOf 3)) = some y1 := hf 1 _ rfl
        rw [Try.cellsIntT] at h1
        have h2 : DataW.trod enc Try.prog W 0 (fun _ => true) true n' 3 ((List.drop 2 [v0, v1, v2, v3, v4, v5, v6, v7, v8]).take (Try.prog.cellsOf 3)) = some y2 := hf 2 _ rfl
        rw [Try.cellsIntT] at h2
        have h3 : DataW.trod enc Try.prog W 0 (fun _ => true) true n' 4 ((List.drop 3 [v0, v1, v2, v3, v4, v5, v6, v7, v8]).take (Try.prog.cellsOf 4)) = some y3 := hf 3 _ rfl
        rw [Try.cellsBoolT] at h3
        have h4 : DataW.trod enc Try.prog W 0 (fun _ => true) true n' 3 ((List.drop 4 [v0, v1, v2, v3, v4, v5, v6, v7, v8]).take (Try.prog.cellsOf 3)) = some y4 := hf 4 _ rfl
        rw [Try.cellsIntT] at h4
        have h5 : DataW.trod enc Try.prog W 0 (fun _ => true) true n' 3 ((List.drop 5 [v0, v1, v2, v3, v4, v5, v6, v7, v8]).take (Try.prog.cellsOf 3)) = some y5 := hf 5 _ rfl
        rw [Try.cellsIntT] at h5
        have h6 : DataW.trod enc Try.prog W 0 (fun _ => true) true n' 3 ((List.drop 6 [v0, v1, v2, v3, v4, v5, v6, v7, v8]).take (Try.prog.cellsOf 3)) = some y6 := hf 6 _ rfl
        rw [Try.cellsIntT] at h6
        have h7 : DataW.trod enc Try.prog W 0 (fun _ => true) true n' 29 ((List.drop 7 [v0, v1, v2, v3, v4, v5, v6, v7, v8]).take (Try.prog.cellsOf 29)) = some y7 := hf 7 _ rfl
        rw [Try.cellsBytesT] at h7
        have h8 : DataW.trod enc Try.prog W 0 (fun _ => true) true n' 36 ((List.drop 8 [v0, v1, v2, v3, v4, v5, v6, v7, v8]).take (Try.prog.cellsOf 36)) = some y8 := hf 8 _ rfl
        rw [Try.cellsU64T] at h8
        have at_ : ∀ k u, [v0, v1, v2, v3, v4, v5, v6, v7, v8][k]? = some u → W.cell? ((a.add (i * 9)).add k) = some u := fun k u hu => match k, hu with
          | 0, hu => (show W.cell? ((a.add (i * 9)).add 0) = some v0 from hat 0 (by omega)).trans hu
          | 1, hu => (show W.cell? ((a.add (i * 9)).add 1) = some v1 from hat 1 (by omega)).trans hu
          | 2, hu => (show W.cell? ((a.add (i * 9)).add 2) = some v2 from hat 2 (by omega)).trans hu
          | 3, hu => (show W.cell? ((a.add (i * 9)).add 3) = some v3 from hat 3 (by omega)).trans hu
          | 4, hu => (show W.cell? ((a.add (i * 9)).add 4) = some v4 from hat 4 (by omega)).trans hu
          | 5, hu => (show W.cell? ((a.add (i * 9)).add 5) = some v5 from hat 5 (by omega)).trans hu
          | 6, hu => (show W.cell? ((a.add (i * 9)).add 6) = some v6 from hat 6 (by omega)).trans hu
          | 7, hu => (show W.cell? ((a.add (i * 9)).add 7) = some v7 from hat 7 (by omega)).trans hu
          | 8, hu => (show W.cell? ((a.add (i * 9)).add 8) = some v8 from hat 8 (by omega)).trans hu
          | k + 9, hu => by simp at hu
        obtain ⟨k0, e0, _, w0⟩ := DataW.trod_int (cs := [v0]) Try.underlying3 h0
        obtain ⟨k1, e1, _, w1⟩ := DataW.trod_int (cs := [v1]) Try.underlying3 h1
        obtain ⟨k2, e2, _, w2⟩ := DataW.trod_int (cs := [v2]) Try.underlying3 h2
        obtain ⟨k3, e3, _⟩ := DataW.trod_bool (cs := [v3]) Try.underlying4 h3
        obtain ⟨k4, e4, _, w4⟩ := DataW.trod_int (cs := [v4]) Try.underlying3 h4
        obtain ⟨k5, e5, _, w5⟩ := DataW.trod_int (cs := [v5]) Try.underlying3 h5
        obtain ⟨k6, e6, _, w6⟩ := DataW.trod_int (cs := [v6]) Try.underlying3 h6
        obtain ⟨l, A, c, e7, hlc, hll, hr⟩ := bytes_of (v := v7) h7
        obtain ⟨k8, e8, _, w8⟩ := DataW.trod_int (cs := [v8]) Try.underlying36 h8
        simp only [List.cons.injEq, and_true] at e0 e1 e2 e3 e4 e5 e6 e8
        have hu : 0 ≤ k8 ∧ k8 ≤ 18446744073709551615 := bounds_u64 w8
        obtain ⟨u, rfl⟩ : ∃ u : Nat, k8 = (u : Int) := ⟨k8.toNat, by omega⟩
        subst e0 e1 e2 e3 e4 e5 e6 e7 e8
        have lt : a.block < W.heap.size := by
          have a0 := at_ 0 _ rfl
          rcases Nat.lt_or_ge ((a.add (i * 9)).add 0).block W.heap.size with h | h
          · rwa [block_of_add, block_of_add] at h
          · simp [World.cell?, Array.getElem?_eq_none h] at a0
        exact ⟨⟨k0, k1, k2, k3, k4, k5, k6, A, l, c, u⟩, ⟨fun k x hx => by rw [← add_of_add]; exact at_ k x hx, ⟨hr, hlc, hll, bounds_i64 w1, bounds_i64 w2, bounds_i64 w4, bounds_i64 w5, bounds_i64 w6, by show u ≤ 18446744073709551615; omega⟩, lt⟩⟩
    obtain ⟨f, hf⟩ := Classical.axiomOfChoice key
    refine ⟨List.ofFn f, some a, cap, by rw [List.length_ofFn], by rw [List.length_ofFn]; exact hl, by rw [List.length_ofFn]; exact max_le (Nat.le_trans hl hm), fun _ => ⟨a, rfl, fun i p hp => ?_⟩⟩
    have hjl : i < len := by
      have := (List.getElem?_eq_some_iff.1 hp).1
      simpa using this
    have e : p = f ⟨i, hjl⟩ := by
      rw [List.getElem?_ofFn, dif_pos hjl] at hp
      exact (Option.some.inj hp).symm
    subst e
    exact hf ⟨i, hjl⟩
end Go.Proofs.Ytombmeppdhhjhaa
