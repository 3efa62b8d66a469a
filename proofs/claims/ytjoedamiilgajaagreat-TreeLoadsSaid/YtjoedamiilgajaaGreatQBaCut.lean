/-
  OWN WORK. Cut, by its contract.
-/
import Derived.Test.YtjoedamiilgajaaGreatQ01
namespace Go.Proofs.YtjoedamiilgajaaGreat
open Go.RowKit
theorem cut_any (A:Option Addr) (l:List UInt8) (cap n:Nat) (hc:l.length≤cap) (_hn:n≤1000000) (_hl:l.length≤9223372036854775807) (w:World) :
    Calls Tryz.prog 41 #[.slice A l.length cap,.int .i64 n] w fun e w'=>e=.returned (.slice A (l.take n).length cap)∧w=w':=by
 by_cases h:n<l.length
 ·have HD:Hid ((l.take n).length=n):=by show _=_;rw [List.length_take];omega
  have hsl:=fun W=>sl_h W A l.length cap n (by omega)
  go_enter Tryz.func41,Tryz.ntmps41
  go_wp2
  go_ret
  exact ⟨by rw [HD.out];rfl,rfl⟩
 ·have HD:Hid ((l.take n).length=l.length):=by show _=_;rw [List.length_take];omega
  go_enter Tryz.func41,Tryz.ntmps41
  go_wp2
  go_ret
  exact ⟨by rw [HD.out];rfl,rfl⟩
end Go.Proofs.YtjoedamiilgajaaGreat
