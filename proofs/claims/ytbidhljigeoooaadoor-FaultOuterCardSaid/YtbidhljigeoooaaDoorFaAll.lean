/-
  OWN WORK. All of package fault's contracts together.
-/
import Derived.Test.YtbidhljigeoooaaDoorFaDepth
import Derived.Test.YtbidhljigeoooaaDoorFaCards
namespace Go.Proofs.YtbidhljigeoooaaDoor

theorem all_said : AllSaid where
  wrap := wrap_any
  wrapNone := wrapNone_any
  code := code_any
  codeNil := codeNil_any
  is := isw_any
  isNil := iswNil_any
  wher := where_any
  depth := depth_any
  error := error_any
end Go.Proofs.YtbidhljigeoooaaDoor
