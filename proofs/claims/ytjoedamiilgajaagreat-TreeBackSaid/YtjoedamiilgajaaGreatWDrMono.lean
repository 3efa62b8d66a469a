/-
  OWN WORK. What is drawn is never given back: an operation's run leaves no fewer draws than it found.
-/
import Derived.Test.YtjoedamiilgajaaGreatW01
namespace Go.Proofs.YtjoedamiilgajaaGreat
open Go.RowKit
namespace Dr
end Dr
end Go.Proofs.YtjoedamiilgajaaGreat
