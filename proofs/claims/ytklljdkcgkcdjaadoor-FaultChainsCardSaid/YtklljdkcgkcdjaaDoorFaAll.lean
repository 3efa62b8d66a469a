/-
  OWN WORK. All of package fault's contracts together.
-/
import Derived.Test.YtklljdkcgkcdjaaDoorFaDepth
import Derived.Test.YtklljdkcgkcdjaaDoorFaCards
namespace Go.Proofs.YtklljdkcgkcdjaaDoor

theorem all_said : AllSaid where
  wrap := wrap_any
  wrapNone := wrapNone_any
  code := code_any
  codeNil := codeNil_any
  is := fun l c a v w h s _ => isw_any l c a v w h s
  isNil := iswNil_any
  wher := where_any
  depth := depth_any
  error := error_any
end Go.Proofs.YtklljdkcgkcdjaaDoor
