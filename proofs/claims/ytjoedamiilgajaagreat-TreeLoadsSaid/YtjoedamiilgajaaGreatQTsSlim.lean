/-
  OWN WORK. Trees: plain mathematics: names of one letter at most are few.
-/
import Derived.Test.YtjoedamiilgajaaGreatQTwShort
import Derived.Test.YtjoedamiilgajaaGreatQ18
namespace Go.Proofs.YtjoedamiilgajaaGreat
open Go.RowKit
namespace Tr
variable {t:T}
theorem short_few {l:List Nm} (hr:Rise l) (hs:∀ n ∈ l,n.1.length≤1):l.length≤257:=by
 have hn:(l.map fun n:Nm=>n.1).Nodup:=List.pairwise_map.2 (List.Pairwise.imp (fun h=>less_ne h) hr)
 have h1:=inj_le (fun a b:Bs=>a=b) (fun x x' y h1 h2=>h1.trans h2.symm) (l.map fun n:Nm=>n.1) ([] :: (List.range 256).map fun k=>[UInt8.ofNat k]) hn fun x hx=>⟨x,?_,rfl⟩
 ·simpa using h1
 ·obtain ⟨n,hm,rfl⟩:=List.mem_map.1 hx
  have h2:=hs n hm
  obtain ⟨x,m⟩:=n
  dsimp only at h2 ⊢
  match x,h2 with
  | [],_=>exact .head _
  | [a],_=>exact .tail _ (List.mem_map.2 ⟨a.toNat,List.mem_range.2 a.toNat_lt,by simp⟩)
theorem Short.slim (hG:Good t) (h:Short t):Slim t:=fun e he=>Nat.le_trans (short_few (hG.each e he).rise (h e he)) (by omega)
end Tr
end Go.Proofs.YtjoedamiilgajaaGreat
