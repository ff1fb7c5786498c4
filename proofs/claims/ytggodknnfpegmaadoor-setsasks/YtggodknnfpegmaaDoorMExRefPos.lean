import Derived.Test.YtggodknnfpegmaaDoorMExRef
import Derived.Test.YtggodknnfpegmaaDoorMExRight
import Derived.Deep.RegionHeld3
namespace Go.Proofs.YtggodknnfpegmaaDoor
open Go.RowKit
attribute [local go_sem] Oper.semAt_some
namespace Ex

end Ex
end Go.Proofs.YtggodknnfpegmaaDoor
namespace Go.Proofs.YtggodknnfpegmaaDoor
open Go.RowKit
attribute [local go_sem] Oper.semAt_some
namespace Ex

theorem right_two {n : Nat} {p : PatN (n + 1)} (h : rightP (n + 1) p = true) (h1 : ¬ kind p = 1) (h3 : ¬ kind p = 3) (h4 : ¬ kind p = 4) : kind p = 2 := by
  have h' : (topOf p && (kids p).all (rightP n)) = true := h
  rw [Bool.and_eq_true] at h'
  have h2 := h'.1
  unfold topOf topP at h2
  rw [if_neg h1] at h2
  by_cases hk : kind p = 2
  · exact hk
  · rw [if_neg hk, if_neg h3, if_neg h4] at h2; cases h2

end Ex
end Go.Proofs.YtggodknnfpegmaaDoor
