/-
  OWN WORK. SHA-256 on numbers, as plain mathematics.
-/
import Derived.Laws.BitsAllLaws
namespace Go.Proofs.YtjeclmbableacaaDoor
namespace Sh

def rot (k : Nat) (x : Int) : Int := bits .or .u32 (x * 2 ^ (32 - k) % 4294967296) (x / 2 ^ k)
def big0 (a : Int) : Int := bits .xor .u32 (bits .xor .u32 (rot 2 a) (rot 13 a)) (rot 22 a)
def big1 (e : Int) : Int := bits .xor .u32 (bits .xor .u32 (rot 6 e) (rot 11 e)) (rot 25 e)
def small0 (x : Int) : Int := bits .xor .u32 (bits .xor .u32 (rot 7 x) (rot 18 x)) (x / 8)
def small1 (x : Int) : Int := bits .xor .u32 (bits .xor .u32 (rot 17 x) (rot 19 x)) (x / 1024)
def cho (e f g : Int) : Int := bits .xor .u32 (bits .and .u32 e f) (bits .and .u32 (bits .xor .u32 IntKind.u32.max e) g)
def maj (a b c : Int) : Int := bits .xor .u32 (bits .xor .u32 (bits .and .u32 a b) (bits .and .u32 a c)) (bits .and .u32 b c)

/-- The words of the rounds. -/
def roundK : List Int := [1116352408, 1899447441, 3049323471, 3921009573, 961987163, 1508970993, 2453635748, 2870763221, 3624381080, 310598401, 607225278, 1426881987, 1925078388, 2162078206, 2614888103, 3248222580, 3835390401, 4022224774, 264347078, 604807628, 770255983, 1249150122, 1555081692, 1996064986, 2554220882, 2821834349, 2952996808, 3210313671, 3336571891, 3584528711, 113926993, 338241895, 666307205, 773529912, 1294757372, 1396182291, 1695183700, 1986661051, 2177026350, 2456956037, 2730485921, 2820302411, 3259730800, 3345764771, 3516065817, 3600352804, 4094571909, 275423344, 430227734, 506948616, 659060556, 883997877, 958139571, 1322822218, 1537002063, 1747873779, 1955562222, 2024104815, 2227730452, 2361852424, 2428436474, 2756734187, 3204031479, 3329325298]

def hash0 : List Int := [1779033703, 3144134277, 1013904242, 2773480762, 1359893119, 2600822924, 528734635, 1541459225]

/-- The eight words that a round turns. -/
structure Reg where
  a : Int
  b : Int
  c : Int
  d : Int
  e : Int
  f : Int
  g : Int
  h : Int

def Reg.one (r : Reg) (k w : Int) : Int := (r.h + big1 r.e + cho r.e r.f r.g + k + w) % 4294967296
def Reg.next (r : Reg) (k w : Int) : Reg := { a := (r.one k w + big0 r.a + maj r.a r.b r.c) % 4294967296, b := r.a, c := r.b, d := r.c, e := (r.d + r.one k w) % 4294967296, f := r.e, g := r.f, h := r.g }
theorem next_a (x0 x1 x2 x3 x4 x5 x6 x7 xk xw : Int) : ((x7 + big1 x4 + cho x4 x5 x6 + xk + xw + big0 x0) % 4294967296 + maj x0 x1 x2) % 4294967296 = (Reg.next ⟨x0, x1, x2, x3, x4, x5, x6, x7⟩ xk xw).a := by
  unfold Reg.next Reg.one
  generalize big1 x4 = p; generalize cho x4 x5 x6 = q; generalize big0 x0 = r; generalize maj x0 x1 x2 = s
  show _ = ((x7 + p + q + xk + xw) % 4294967296 + r + s) % 4294967296
  omega
def regs (ws : List Int) (r : Reg) : Nat → Reg
  | 0 => r
  | i + 1 => (regs ws r i).next (roundK.getD i 0) (ws.getD i 0)

/-- One word more for the rounds. -/
def more (ws : List Int) (i : Nat) : Int := (ws.getD (i - 16) 0 + small0 (ws.getD (i - 15) 0) + ws.getD (i - 7) 0 + small1 (ws.getD (i - 2) 0)) % 4294967296
def spreadTo (ws : List Int) : Nat → List Int
  | 0 => ws
  | n + 1 => spreadTo ws n ++ [more (spreadTo ws n) (16 + n)]
def spread (ws : List Int) : List Int := spreadTo ws 48

def Reg.of (l : List Int) : Reg := { a := l.getD 0 0, b := l.getD 1 0, c := l.getD 2 0, d := l.getD 3 0, e := l.getD 4 0, f := l.getD 5 0, g := l.getD 6 0, h := l.getD 7 0 }
def Reg.list (r : Reg) : List Int := [r.a, r.b, r.c, r.d, r.e, r.f, r.g, r.h]
def mix (h : List Int) (block : List Int) : List Int := List.zipWith (fun x y => (x + y) % 4294967296) h (regs (spread block) (Reg.of h) 64).list

/-- Words as they lie in memory. -/
def words32 (l : List Int) : List Value := l.map (Value.int .u32)
@[simp] theorem words32_length (l : List Int) : (words32 l).length = l.length := by simp [words32]
theorem words32_get (l : List Int) (i : Nat) (h : i < l.length) : (words32 l)[i]? = some (.int .u32 (l.getD i 0)) := by
  simp [words32, List.getElem?_eq_getElem h]
theorem words32_append (a b : List Int) : words32 (a ++ b) = words32 a ++ words32 b := by simp [words32]

theorem spreadTo_length (ws : List Int) (n : Nat) : (spreadTo ws n).length = ws.length + n := by
  induction n with
  | zero => rfl
  | succ n ih => simp [spreadTo, ih]; omega
theorem spread_length (ws : List Int) (h : ws.length = 16) : (spread ws).length = 64 := by simp [spread, spreadTo_length, h]
theorem mix_length (h b : List Int) (hh : h.length = 8) : (mix h b).length = 8 := by simp [mix, hh, Reg.list]
end Sh
end Go.Proofs.YtjeclmbableacaaDoor
