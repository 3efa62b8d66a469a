/-
  OWN WORK. The statement FaultOuter holds of the code at this seat's commit, for all of its arguments; no condition beside the statement's own.
-/
import Derived.Test.YtbidhljigeoooaaDoorFaAll
namespace Go.Proofs.YtbidhljigeoooaaDoor

theorem faultOuter_proved : Rows.FaultOuterCardSaid := faultOuter_card (FaultOuter_said all_said)
end Go.Proofs.YtbidhljigeoooaaDoor
