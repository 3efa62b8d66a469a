/-
  OWN WORK. The statement FaultNumbers holds of the code at this seat's commit, for all of its arguments; no condition beside the statement's own.
-/
import Derived.Test.YtbidhljigeoooaaDoorFaAll
namespace Go.Proofs.YtbidhljigeoooaaDoor

theorem faultNumbers_proved : Rows.FaultNumbersCardSaid := faultNumbers_card (FaultNumbers_said all_said)
end Go.Proofs.YtbidhljigeoooaaDoor
