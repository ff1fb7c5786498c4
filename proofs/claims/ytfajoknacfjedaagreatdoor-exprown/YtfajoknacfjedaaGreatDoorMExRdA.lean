import Derived.Test.YtfajoknacfjedaaGreatDoorMExRd8
import Derived.Deep.DeepMust
import Derived.OwnWalk
namespace Go.Proofs.YtfajoknacfjedaaGreatDoor
open Go.RowKit
attribute [local go_sem] Oper.semAt_some
namespace Ex

def rowB (k1 : Int) (j : Nat) (k2 _e : Int) : Prop := k1 + (j : Int) ≤ k2
end Ex
end Go.Proofs.YtfajoknacfjedaaGreatDoor
