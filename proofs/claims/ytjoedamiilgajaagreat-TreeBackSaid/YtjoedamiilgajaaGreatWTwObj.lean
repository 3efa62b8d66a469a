/-
  OWN WORK. The program's tree as an object: Names, Save, and law 11's sound; what played leaves.
-/
import Derived.Test.YtjoedamiilgajaaGreatWTwSound
import Derived.Test.YtjoedamiilgajaaGreatW19
import Derived.Test.YtjoedamiilgajaaGreatWTwPlayed
import Derived.Test.YtjoedamiilgajaaGreatWTrKnown
namespace Go.Proofs.YtjoedamiilgajaaGreat
open Go.RowKit Rc
open Tr (Nm En T)
namespace Tm
variable {v:Value} {w0 w:World} {t:T} {B:Nat→Prop}
end Tm
namespace Tw
open Tm (One1 Turn1)
theorem played_one (w:World) (ps:List AskT) (A:Option Addr) (c1:Nat) (hp:AsksT w A ps) (hl:ps.length≤9223372036854775807) :
    Calls Tryz.prog 38 #[.slice A ps.length c1] w fun e w'=>∃ p q Tt B1,e=.returned (.tuple #[.pointer (some ⟨p,0,none⟩),.pointer (some ⟨q,0,none⟩)])∧Hid (Tr.Good Tt)∧Hid (Tr.Short Tt)∧Hid (One1 (.pointer (some ⟨p,0,none⟩)) w Tt B1 w'):=by
 refine (played_any w ps A c1 hp hl).mono ?_
 rintro e w' ⟨p,q,Tt,B1,B2,he,hpl⟩
 exact ⟨p,q,Tt,B1,he,hpl.good,hpl.short,hpl.t,Mod.of_below hpl.low _,fun b hb=>.inr (hpl.up b (.inl hb)),hpl.low,fun b hb=>hpl.up b (.inl hb)⟩
end Tw
end Go.Proofs.YtjoedamiilgajaaGreat
