import Derived.Test.YtemfnbccjbojfaaTrR1
import Derived.Test.YtemfnbccjbojfaaTrMkN
namespace Go.Proofs.Ytemfnbccjbojfaa
open Go.RowKit
attribute [local go_sem] Oper.semAt_some
namespace Ex
namespace Tr

/-- Rows that may be read. -/
def RowsRd (w : World) (v : Value) (l : List Nd) : Prop := ∃ a cap, v = .slice a l.length cap ∧ l.length ≤ 4194304 ∧ ∀ (i : Nat) (x : Nd), l[i]? = some x → ∃ g, a = some ⟨g, 0, none⟩ ∧ ∀ (j : Nat) (u : Value), (rowL x)[j]? = some u → w.cell? ⟨g, i * 6 + j, none⟩ = some u
theorem RowsRd.keep {w w' : World} {v : Value} {l : List Nd} (h : RowsRd w v l) (hk : Kept w w') : RowsRd w' v l := by
  obtain ⟨a, cap, h1, h2, h3⟩ := h
  refine ⟨a, cap, h1, h2, fun i x hx => ?_⟩
  obtain ⟨g, h4, h5⟩ := h3 i x hx
  exact ⟨g, h4, fun j u hu => grown_cell hk (h5 j u hu)⟩
theorem flatR_at : ∀ (l : List Nd) (i : Nat) (x : Nd), l[i]? = some x → ∀ (j : Nat) (u : Value), (rowL x)[j]? = some u → (flatR l)[i * 6 + j]? = some u
  | [], i, x, h => by simp at h
  | y :: l, 0, x, h => by
    intro j u hu
    have e : y = x := by simpa using h
    subst e
    have hj : j < 6 := (List.getElem?_eq_some_iff.1 hu).1
    have e2 : flatR (y :: l) = rowL y ++ flatR l := rfl
    rw [e2, Nat.zero_mul, Nat.zero_add, List.getElem?_append_left (by exact hj)]
    exact hu
  | y :: l, i + 1, x, h => by
    intro j u hu
    have h1 := flatR_at l i x (by simpa using h) j u hu
    have e2 : flatR (y :: l) = rowL y ++ flatR l := rfl
    have e3 : (rowL y).length = 6 := rfl
    rw [e2, List.getElem?_append_right (by rw [e3]; omega), e3, show (i + 1) * 6 + j - 6 = i * 6 + j by omega]
    exact h1
end Tr
end Ex
end Go.Proofs.Ytemfnbccjbojfaa
