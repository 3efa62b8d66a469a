/-
  OWN WORK. The program's reader, its block alone turned by each call: for who reads into memory of his own.
-/
import Derived.Test.YtjoedamiilgajaaGreatWCpRCode
import Derived.Test.YtjoedamiilgajaaGreatW19
namespace Go.Proofs.YtjoedamiilgajaaGreat
open Go.RowKit Rc
namespace Ts
def Rr (g:Nat) (XB:Option Nat) (s:Co.Rs) (w:World):Prop:=∃ X cap r,RrIn g X cap r s.why w∧r=(if s.why=0 then s.rem else [])∧s.why≤1000∧∀ b,X.map (·.block)=some b→XB=some b
variable {g:Nat} {XB:Option Nat} {s s':Co.Rs} {w w':World}
theorem Rr.lt (h:Rr g XB s w):g<w.heap.size:=by obtain ⟨X,cap,r,h1,_⟩:=h;exact h1.blk.lt
theorem Rr.keep (h:Rr g XB s w) (hs:w.heap.size≤w'.heap.size) (hg:w'.heap[g]?=w.heap[g]?) (hb:∀ b,XB=some b→w'.heap[b]?=w.heap[b]?):Rr g XB s w':=by
 obtain ⟨X,cap,r,h1,h2,h3,h4⟩:=h
 refine ⟨X,cap,r,⟨hg.trans h1.blk,h1.fits,h1.small,h1.rd.keep (fun p hp e=>?_) hs,fun b hb2=>⟨(h1.off b hb2).1,Nat.lt_of_lt_of_le (h1.off b hb2).2 hs⟩⟩,h2,h3,h4⟩
 unfold World.cell?
 rw [hb p.block (h4 _ e)]
theorem Rr.below (h:Rr g XB s w) (hx:∀ b,XB=some b→b<w.heap.size) (hb:Below w.heap.size w w'):Rr g XB s w':=h.keep hb.size (hb.block g h.lt) fun b hb2=>hb.block b (hx b hb2)
theorem Rr.next {X:Option Addr} (hX:∀ b,X.map (·.block)=some b→XB=some b) (h:RrNext g X s' w w') (hw:s'.why≤1000):Rr g XB s' w'∧Keeps w w' g:=by
 obtain ⟨X2,c2,r2,h1,h2,h3,h4⟩:=h
 exact ⟨⟨X2,c2,r2,h1,h2,hw,fun b hb=>hX b (h3 b hb)⟩,h4⟩
theorem short_rd (h:Rr g XB s w):Calls Tryz.prog 98 #[.pointer (some ⟨g,0,none⟩)] w fun e w'=>e=.returned (.int .i64 ((Co.num 2 s).1:Nat))∧Hid (Rr g XB (Co.num 2 s).2 w')∧Hid (Keeps w w' g):=by
 obtain ⟨X,cap,r,h1,h2,h3,h4⟩:=h
 refine (rshort_any h1 h2).mono ?_
 rintro e w' ⟨he,hn⟩
 obtain ⟨k1,k2⟩:=Rr.next h4 hn (num_why _ _ h3)
 exact ⟨he,k1,k2⟩
theorem bytes_rd (h:Rr g XB s w):Calls Tryz.prog 138 #[.pointer (some ⟨g,0,none⟩)] w fun e w'=>∃ X c,e=.returned (.slice X (List.length (Co.bytes s).1) c)∧Hid ((Co.bytes s).1.length≤c∧Rd w' X (Co.bytes s).1)∧Hid (w'.ownsRow w.heap.size 5 1 (.slice X (Co.bytes s).1.length c) (Co.bytes s).1.length (Lib.byteCells (Co.bytes s).1))∧Hid (Rr g XB (Co.bytes s).2 w')∧Hid (Keeps w w' g):=by
 obtain ⟨X,cap,r,h1,h2,h3,h4⟩:=h
 refine (rbytes_any h1 h2).mono ?_
 rintro e w' ⟨v,he,ho,hn⟩
 obtain ⟨k1,k2⟩:=Rr.next h4 hn (bytes_why _ h3)
 obtain ⟨Y,c,rfl,hc,hr⟩:=own_form ho
 exact ⟨Y,c,he,⟨hc,hr⟩,ho,k1,k2⟩
theorem end_rd (h:Rr g XB s w):Calls Tryz.prog 100 #[.pointer (some ⟨g,0,none⟩)] w fun e w'=>e=.returned (.int .i64 (Co.fin s:Nat))∧Below w.heap.size w w':=by
 obtain ⟨X,cap,r,h1,h2,h3,h4⟩:=h
 exact rend_any h1 h2
end Ts
end Go.Proofs.YtjoedamiilgajaaGreat
