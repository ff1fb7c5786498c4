import Derived.Test.YtemfnbccjbojfaaTrR2
namespace Go.Proofs.Ytemfnbccjbojfaa
open Go.RowKit
attribute [local go_sem] Oper.semAt_some
namespace Ex
namespace Tr

/-- A row without its number. -/
def noId (x : Nd) : Nd := { x with num := 0 }

end Tr
end Ex
end Go.Proofs.Ytemfnbccjbojfaa
