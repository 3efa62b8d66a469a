/-
  OWN WORK. Law 11's TreeLoads, walked: any bytes are a tree's own Save, or refused.
-/
import Derived.Test.YtjoedamiilgajaaGreatWTsLoad
import Derived.Test.YtjoedamiilgajaaGreatWTsSlim
import Derived.Test.YtjoedamiilgajaaGreatWTwObj
import Derived.Test.YtjoedamiilgajaaGreatWRfSave
import Derived.Test.YtjoedamiilgajaaGreatWBaRoomy
import Derived.Test.YtjoedamiilgajaaGreatWBaWithin
import Derived.Test.YtjoedamiilgajaaGreatW01
import Derived.Test.YtjoedamiilgajaaGreatW14
import Derived.Test.YtjoedamiilgajaaGreatW02
namespace Go.Proofs.YtjoedamiilgajaaGreat
open Go.RowKit Rc
open Tr (Nm En T)
namespace Tr
theorem names_small:∀ (l:List Nm),(∀ n ∈ l,n.1.length≤1)→(l.flatMap nameBytes).length≤l.length*5
 | [],_=>by simp
 | n :: l,h=>by
   have h1:=names_small l fun n hn=>h n (.tail _ hn)
   have h2:=h n (.head _)
   rw [List.flatMap_cons,List.length_append,List.length_cons]
   have h3:(nameBytes n).length≤5:=by
    unfold nameBytes
    rw [List.length_append,Rf.wBytes_len (by omega)]
    have:(Co.wShort (Nd.lo16 n.2)).length=2:=rfl
    omega
   omega
theorem ens_small:∀ (t:T),(∀ e ∈ t,e.data.length≤4096∧e.names.length≤257∧∀ n ∈ e.names,n.1.length≤1)→(t.flatMap enBytes).length≤t.length*6000
 | [],_=>by simp
 | e :: t,h=>by
   have h1:=ens_small t fun n hn=>h n (.tail _ hn)
   obtain ⟨h2,h3,h4⟩:=h e (.head _)
   have h5:=names_small e.names h4
   rw [List.flatMap_cons,List.length_append,List.length_cons]
   have h6:(enBytes e).length≤6000:=by
    unfold enBytes
    simp only [List.length_append]
    rw [Rf.wBytes_len (by rw [Nd.bytes_length];omega),Rf.wBytes_len (by omega),Nd.bytes_length]
    have:(Co.wShort e.names.length).length=2:=rfl
    omega
   omega
theorem save_small {t:T} (hG:Good t) (hS:Short t):2≤(save t).length∧(save t).length≤400000:=by
 have h1:=ens_small t fun e he=>by
  have h2:=hG.each e he
  have h3:=h2.nd.2.2.2.2.2.1
  have h4:=h2.size
  exact ⟨by omega,short_few h2.rise (hS e he),hS e he⟩
 have h2:=hG.few
 have h3:(Co.wShort t.length).length=2:=rfl
 unfold save
 rw [List.length_append,h3]
 omega
end Tr
namespace Tw
open Ts (LoadOut load_any)
end Tw
end Go.Proofs.YtjoedamiilgajaaGreat
