import Derived.Test.YthjagnnbhpfpoaaRopeTell
namespace Go.Proofs.Ythjagnnbhpfpoaa
open Go.RowKit
namespace Rope

set_option maxRecDepth 100000 in
set_option maxHeartbeats 2000000 in
theorem round_any (k : Int) (n : Nat) (w : World) (hn : 0 < n) (hb : n ≤ 1000000000) :
    Calls Try.prog 18 #[.int .i64 k, .int .i64 n] w fun e w' => ∃ m : Nat, e = .returned (.int .i64 m) ∧ m < n ∧ w' = w := by
  have e1 := Int.tmod_lt_of_pos k (show (0 : Int) < n by omega)
  have e2 : -(n : Int) < Int.tmod k n := by
    rcases Int.le_total 0 k with h | h
    · have := Int.tmod_nonneg n h; omega
    · have h3 : Int.tmod (-k) n < n := Int.tmod_lt_of_pos (-k) (by omega)
      rw [Int.neg_tmod] at h3
      omega
  have hz : ((n : Int) == 0) = false := by simp; omega
  generalize hm : Int.tmod k n = m at e1 e2
  by_cases h0 : m < 0
  · go_enter Try.func18, Try.ntmps18
    go_wp2
    go_ret
    exact ⟨(m + n).toNat, ret_int (by omega), by omega, rfl⟩
  · go_enter Try.func18, Try.ntmps18
    go_wp2
    go_ret
    exact ⟨m.toNat, ret_int (by omega), by omega, rfl⟩

end Rope
end Go.Proofs.Ythjagnnbhpfpoaa
