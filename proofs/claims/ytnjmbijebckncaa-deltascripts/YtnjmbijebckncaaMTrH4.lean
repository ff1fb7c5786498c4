import Derived.Test.YtnjmbijebckncaaMTrH1
namespace Go.Proofs.Ytnjmbijebckncaa
open Go.RowKit
attribute [local go_sem] Oper.semAt_some
namespace Ex
namespace Tr

end Tr
end Ex
end Go.Proofs.Ytnjmbijebckncaa
