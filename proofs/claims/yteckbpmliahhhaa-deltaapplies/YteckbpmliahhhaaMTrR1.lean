import Derived.Test.YteckbpmliahhhaaMTrH8
namespace Go.Proofs.Yteckbpmliahhhaa
open Go.RowKit
attribute [local go_sem] Oper.semAt_some
namespace Ex
namespace Tr

/-- What last tells. -/
def LastR (P : List Nat) (N : Nat → Nd) (e : Ending) : Prop := e = .returned (.int .i64 (-1)) ∨ ∃ i b : Nat, e = .returned (.int .i64 (i : Int)) ∧ P[i]? = some b ∧ (N b).size ≤ 4000
end Tr
end Ex
end Go.Proofs.Yteckbpmliahhhaa
