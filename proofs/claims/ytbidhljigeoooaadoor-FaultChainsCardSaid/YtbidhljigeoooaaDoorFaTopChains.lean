/-
  OWN WORK. The statement FaultChains holds of the code at this seat's commit, for all of its arguments; no condition beside the statement's own.
-/
import Derived.Test.YtbidhljigeoooaaDoorFaAll
namespace Go.Proofs.YtbidhljigeoooaaDoor

theorem faultChains_proved : Rows.FaultChainsCardSaid := faultChains_card (FaultChains_said all_said)
end Go.Proofs.YtbidhljigeoooaaDoor
