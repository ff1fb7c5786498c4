import Derived.Test.YtajmbplipjeojaaDoorShM
import Derived.Deep.RegionHeld3
import Derived.Deep.DeepMust
import Derived.OwnWalk
import Derived.Lib.AppendStr
import Derived.Lib.AppendZeros
namespace Go.Proofs.YtajmbplipjeojaaDoor
open Go.RowKit
attribute [local go_sem] Oper.semAt_some
namespace Ex
namespace Sh

set_option maxRecDepth 100000 in
set_option maxHeartbeats 2000000 in
theorem hex_is (c : Int) (w : World) (h0 : 0 ≤ c) (h1 : c < 256) : Calls Tryd.prog 28 #[.int .u8 c] w fun e w' => e = .returned (.int .i64 (hexD c)) ∧ w' = w := by
  go_enter Tryd.func28, Tryd.ntmps28
  go_wp2
  all_goals
    go_ret
    refine ⟨?_, rfl⟩
    first | exact congrArg (fun z => Ending.returned (.int .i64 z)) (by unfold hexD; repeat' split; all_goals omega) | (simp [hexD]; omega)

end Sh
end Ex
end Go.Proofs.YtajmbplipjeojaaDoor
