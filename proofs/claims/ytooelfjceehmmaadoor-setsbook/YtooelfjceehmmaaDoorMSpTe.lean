import Derived.Test.YtooelfjceehmmaaDoorMSpTd
namespace Go.Proofs.YtooelfjceehmmaaDoor
open Go.RowKit
attribute [local go_sem] Oper.semAt_some
namespace Ex

theorem fl_td_ne {w : World} {b c : Nat} {e a : Int} {x0 x1 x2 x3 : Value} {f : Bool} (h1 : FlBox w b e a) (h2 : TdBox w c x0 x1 x2 x3 f) : b ≠ c := fun e => by
  subst e
  unfold FlBox at h1
  unfold TdBox at h2
  rw [h1] at h2
  injection h2 with h2
  injection h2 with _ h2 _
  exact absurd h2 (by decide)
end Ex
end Go.Proofs.YtooelfjceehmmaaDoor
