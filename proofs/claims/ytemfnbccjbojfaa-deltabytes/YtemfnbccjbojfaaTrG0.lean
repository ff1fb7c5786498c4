import Derived.Test.YtemfnbccjbojfaaTrOwn
namespace Go.Proofs.Ytemfnbccjbojfaa
open Go.RowKit
attribute [local go_sem] Oper.semAt_some
namespace Ex
namespace Tr

/-- A node of the document's trees. -/
structure Rd where
  st : Int
  place : Int
  kind : Int
  n : Int
  l0 : Int
  l1 : Int
  l2 : Int
  l3 : Int
  kids : List Nat
  size : Nat
def cellsR (x : Rd) (kv : Value) : Array Value := #[.int .i64 x.st, .int .i64 x.place, .int .i64 x.kind, .int .i64 x.n, .int .i64 x.l0, .int .i64 x.l1, .int .i64 x.l2, .int .i64 x.l3, kv, .int .i64 (x.size : Int)]
/-- Its children: a list of pointers below B. -/
def RKids (A B : Nat) (w : World) (kv : Value) (ks : List Nat) : Prop := ∃ a cap, kv = .slice a ks.length cap ∧ ks.length ≤ 4194304 ∧ (ks = [] ∨ ∃ g, a = some ⟨g, 0, none⟩ ∧ A ≤ g ∧ g < B ∧ g < w.heap.size ∧ ∀ (i b : Nat), ks[i]? = some b → w.cell? ⟨g, i, none⟩ = some (.pointer (some ⟨b, 0, none⟩)))
theorem RKids.keep {A B : Nat} {w w' : World} {kv : Value} {ks : List Nat} (h : RKids A B w kv ks) (hk : Kept w w') : RKids A B w' kv ks := by
  obtain ⟨a, cap, h1, h2, h3⟩ := h
  refine ⟨a, cap, h1, h2, ?_⟩
  rcases h3 with h3 | ⟨g, g1, g0, g2, g3, g4⟩
  · exact Or.inl h3
  · exact Or.inr ⟨g, g1, g0, g2, Nat.lt_of_lt_of_le g3 hk.size, fun i b hb => grown_cell hk (g4 i b hb)⟩
def leafR (st l0 l1 l2 l3 : Int) : Rd := ⟨st, 0, 1, l0, l0, l1, l2, l3, [], 1⟩

end Tr
end Ex
end Go.Proofs.Ytemfnbccjbojfaa
