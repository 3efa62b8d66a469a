/-
  OWN WORK. Within, by its contract, for greater numbers (BaWithin with another bound).
-/
import Derived.Test.YtjoedamiilgajaaGreatQ01
namespace Go.Proofs.YtjoedamiilgajaaGreat
open Go.RowKit
namespace Wi
theorem emod_of_tmod (n d:Int) (h:0<d):(n.tmod d<0→n % d=n.tmod d+d)∧(¬ n.tmod d<0→n % d=n.tmod d):=by
 have l1:=Int.lt_tmod_of_pos n h
 have l2:=Int.tmod_lt_of_pos n h
 have e:n.tmod d % d=n % d:=by rw [Int.tmod_def,Int.sub_mul_emod_self_left]
 constructor
 ·intro hn
  rw [← e,← Int.add_emod_right]
  exact Int.emod_eq_of_lt (by omega) (by omega)
 ·intro hn
  rw [← e]
  exact Int.emod_eq_of_lt (by omega) (by omega)
def withinI (n lo hi:Int):Int:=lo+n % (hi-lo+1)
theorem withinI_ge (n lo hi:Int) (h:lo≤hi):lo≤withinI n lo hi:=by
 have:=Int.emod_nonneg n (b:=hi-lo+1) (by omega)
 unfold withinI;omega
theorem withinI_le (n lo hi:Int) (h:lo≤hi):withinI n lo hi≤hi:=by
 have:=Int.emod_lt_of_pos n (b:=hi-lo+1) (by omega)
 unfold withinI;omega
theorem withinI_any (n lo hi:Int) (w:World) (h0:0≤lo) (h1:lo≤hi) (h2:hi≤2000000) (_hn0:-9223372036854775808≤n) (_hn1:n≤9223372036854775807) :
    Calls Tryz.prog 18 #[.int .i64 n,.int .i64 lo,.int .i64 hi] w fun e w'=>e=.returned (.int .i64 (withinI n lo hi))∧w=w':=by
 have l1:=Int.lt_tmod_of_pos n (b:=hi-lo+1) (by omega)
 have l2:=Int.tmod_lt_of_pos n (b:=hi-lo+1) (by omega)
 have em:=emod_of_tmod n (hi-lo+1) (by omega)
 by_cases hn:n.tmod (hi-lo+1)<0
 ·have HD:Hid (withinI n lo hi=lo+(n.tmod (hi-lo+1)+hi-lo+1)):=by
   show withinI n lo hi=_
   unfold withinI
   rw [em.1 hn]
   omega
  clear em
  go_enter Tryz.func18,Tryz.ntmps18
  go_wp2
  go_ret
  exact ⟨ret_num HD.out,rfl⟩
 ·have HD:Hid (withinI n lo hi=lo+n.tmod (hi-lo+1)):=by
   show withinI n lo hi=_
   unfold withinI
   rw [em.2 hn]
  clear em
  go_enter Tryz.func18,Tryz.ntmps18
  go_wp2
  go_ret
  exact ⟨ret_num HD.out,rfl⟩
theorem within_nat (n x y:Int) (lo hi:Nat) (w:World) (hx:x=lo) (hy:y=hi) (h:lo≤hi) (h2:hi≤2000000) (hn0:-9223372036854775808≤n) (hn1:n≤9223372036854775807) :
    Calls Tryz.prog 18 #[.int .i64 n,.int .i64 x,.int .i64 y] w fun e w'=>∃ k:Nat,lo≤k∧k≤hi∧e=.returned (.int .i64 k)∧w=w':=by
 subst hx hy
 have h3:=withinI_ge n lo hi (by omega)
 have h4:=withinI_le n lo hi (by omega)
 refine (withinI_any n lo hi w (by omega) (by omega) (by omega) hn0 hn1).mono fun e w' ⟨h5,h6⟩=>?_
 obtain ⟨k,hk⟩:∃ k:Nat,withinI n lo hi=k:=⟨(withinI n lo hi).toNat,by omega⟩
 exact ⟨k,by omega,by omega,by rw [h5,hk],h6⟩
end Wi
end Go.Proofs.YtjoedamiilgajaaGreat
