/-
  OWN WORK. The statement FaultUnwraps holds of the code at this seat's commit, for all of its arguments; no condition beside the statement's own.
-/
import Derived.Test.YtbidhljigeoooaaDoorFaAll
namespace Go.Proofs.YtbidhljigeoooaaDoor

theorem faultUnwraps_proved : Rows.FaultUnwrapsCardSaid := faultUnwraps_card (FaultUnwraps_said all_said)
end Go.Proofs.YtbidhljigeoooaaDoor
