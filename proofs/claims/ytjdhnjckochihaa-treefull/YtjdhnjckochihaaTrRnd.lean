import Derived.Test.YtjdhnjckochihaaTrHead
namespace Go.Proofs.Ytjdhnjckochihaa
open Go.RowKit
attribute [local go_sem] Oper.semAt_some
namespace Ex
namespace Tr

set_option linter.unusedSimpArgs false in
set_option maxRecDepth 100000 in
set_option maxHeartbeats 2000000 in
theorem round_is (k : Int) (w : World) : Calls Try.prog 12 #[.int .i64 k, .int .i64 1000] w fun e w' => ∃ r : Int, 0 ≤ r ∧ r < 1000 ∧ e = .returned (.int .i64 r) ∧ w' = w := by
  have h1 := Int.tmod_lt_of_pos k (show (0 : Int) < 1000 by decide)
  have h2 := Int.lt_tmod_of_pos k (show (0 : Int) < 1000 by decide)
  obtain ⟨t, ht⟩ : ∃ t, k.tmod 1000 = t := ⟨_, rfl⟩
  rw [ht] at h1 h2
  go_enter Try.func12, Try.ntmps12
  go_upto_region 2 with fail
  clear ht
  by_cases h0 : t < 0
  · go_wp2_with fail
    go_ret
    exact ⟨t + 1000, by omega, by omega, rfl, rfl⟩
  · go_wp2_with fail
    go_ret
    exact ⟨t, by omega, by omega, rfl, rfl⟩

end Tr
end Ex
end Go.Proofs.Ytjdhnjckochihaa
