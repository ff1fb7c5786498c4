import Derived.Test.YthjagnnbhpfpoaaRopeHead
import Derived.OpenShut
namespace Go.Proofs.Ythjagnnbhpfpoaa
open Go.RowKit
namespace Rope

theorem bytes_of_row {w : World} {a : Option Addr} {len cap : Nat} {zs : List Int} (h : (a = none ∧ len = 0 ∧ cap = 0 ∧ zs = []) ∨
    ∃ x, a = some x ∧ len ≤ cap ∧ cap ≤ maxLen ∧ zs.length = cap ∧ (∀ i, i < zs.length → w.cell? (x.add i) = some (.int .u8 (zs.getD i 0))) ∧ ∀ n ∈ zs, (Lit.int .u8 n).wf = true) :
    ∃ bs : List Int, bs.length = len ∧ len ≤ maxLen ∧ ListAt (fun _ => True) w (.slice a len cap) bs := by
  rcases h with ⟨rfl, rfl, rfl, rfl⟩ | ⟨x, rfl, hlc, hm, hz, hcell, hwf⟩
  · exact ⟨[], rfl, Nat.zero_le _, .inl ⟨rfl, _, _, rfl⟩⟩
  · refine ⟨zs.take len, by simp; omega, by omega, ?_⟩
    by_cases h0 : len = 0
    · subst h0
      exact .inl ⟨rfl, _, _, rfl⟩
    · obtain ⟨b, off, rfl, hc⟩ := ints_at hcell (by omega)
      refine .inr (.of (by simp; omega) hlc trivial (fun j y hy => ?_) ?_)
      · have hj : j < len := by
          have := (List.getElem?_eq_some_iff.1 hy).1
          simp at this; omega
        rw [List.getElem?_take, if_pos hj] at hy
        rw [hc j (by omega), List.getD_eq_getElem?_getD, hy]
        rfl
      · intro y hy
        exact bounds_u8 (hwf y (List.mem_of_mem_take hy))

end Rope
end Go.Proofs.Ythjagnnbhpfpoaa
