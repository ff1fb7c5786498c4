import Derived.Test.YteckbpmliahhhaaMTrH4
namespace Go.Proofs.Yteckbpmliahhhaa
open Go.RowKit
attribute [local go_sem] Oper.semAt_some
namespace Ex
namespace Tr
attribute [local go_sem] node_same

/-- A list of ints that came in, below A. -/
def IntsA (A : Nat) (w : World) (v : Value) (xs : List Int) : Prop := ∃ a cap, v = .slice a xs.length cap ∧ xs.length ≤ cap ∧ xs.length ≤ 1048576 ∧ (xs = [] ∨ ∃ c o, a = some ⟨c, o, none⟩ ∧ c < A ∧ ∀ (i : Nat) (x : Int), xs[i]? = some x → w.cell? ⟨c, o + i, none⟩ = some (.int .i64 x))
theorem IntsA.ka {A : Nat} {w w' : World} {v : Value} {xs : List Int} (h : IntsA A w v xs) (hk : KA A w w') : IntsA A w' v xs := by
  obtain ⟨a, cap, h1, h2, h3, h4⟩ := h
  refine ⟨a, cap, h1, h2, h3, ?_⟩
  rcases h4 with h4 | ⟨c, o, h5, h6, h7⟩
  · exact Or.inl h4
  · exact Or.inr ⟨c, o, h5, h6, fun i x hx => (World.cell?_of_block (w := w) (a := ⟨c, o + i, none⟩) (hk.2.2.2.2 c h6)).trans (h7 i x hx)⟩
end Tr
end Ex
end Go.Proofs.Yteckbpmliahhhaa
