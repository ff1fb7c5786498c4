import Derived.Test.YthjagnnbhpfpoaaRopeHead
namespace Go.Proofs.Ythjagnnbhpfpoaa
open Go.RowKit
namespace Rope

theorem ListAt.cell {S : Nat → Prop} {w : World} {a : Option Addr} {n cap j : Nat} {bs : List Int} {x : Int} (h : ListAt S w (.slice a n cap) bs) (hx : bs[j]? = some x) : ∃ c o, a = some ⟨c, o, none⟩ ∧ w.cell? ⟨c, o + j, none⟩ = some (.int .u8 x) := by
  rcases h with ⟨rfl, _⟩ | ⟨c, o, cap', he, _, _, hc, _⟩
  · simp at hx
  · simp only [Value.slice.injEq] at he
    exact ⟨c, o, he.1, hc j x hx⟩
theorem ListAt.byt {S : Nat → Prop} {w : World} {v : Value} {bs : List Int} (h : ListAt S w v bs) : Byt bs := by
  rcases h with ⟨rfl, _⟩ | ⟨c, o, cap', he, _, _, hc, hb⟩
  · intro x hx; cases hx
  · exact hb

end Rope
end Go.Proofs.Ythjagnnbhpfpoaa
