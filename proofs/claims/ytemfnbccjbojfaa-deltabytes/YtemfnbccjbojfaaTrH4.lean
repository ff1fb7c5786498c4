import Derived.Test.YtemfnbccjbojfaaTrH3
namespace Go.Proofs.Ytemfnbccjbojfaa
open Go.RowKit
attribute [local go_sem] Oper.semAt_some
namespace Ex
namespace Tr

end Tr
end Ex
end Go.Proofs.Ytemfnbccjbojfaa
