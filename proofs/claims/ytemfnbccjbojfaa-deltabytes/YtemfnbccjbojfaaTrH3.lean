import Derived.Test.YtemfnbccjbojfaaTrH2
namespace Go.Proofs.Ytemfnbccjbojfaa
open Go.RowKit
attribute [local go_sem] Oper.semAt_some
namespace Ex
namespace Tr

theorem low_bit (st : Int) : bits .and .i64 st 1 = 0 ∨ bits .and .i64 st 1 = 1 := by
  show IntKind.i64.wrap ((BitVec.ofInt 64 st &&& BitVec.ofInt 64 1).toNat : Int) = 0 ∨ IntKind.i64.wrap ((BitVec.ofInt 64 st &&& BitVec.ofInt 64 1).toNat : Int) = 1
  rw [BitVec.toNat_and, show (BitVec.ofInt 64 1).toNat = 1 by decide, Nat.and_one_is_mod]
  rcases Nat.mod_two_eq_zero_or_one (BitVec.ofInt 64 st).toNat with h | h <;> rw [h]
  · exact Or.inl (by rw [IntKind.wrap_i64]; rfl)
  · exact Or.inr (by rw [IntKind.wrap_i64]; rfl)
section
variable {base fb s0 s1 : Nat} {V : Nat → Prop} {P Q : List Nat} {N : Nat → Nd} {X : Nat → Rd} {m0 m1 : Nat} {vP vR vB : Value} {w w' : World}
/-- What a forest's blocks are below. -/
def Under (fb : Nat) (V : Nat → Prop) (vP vR vB : Value) (hw : Nat) : Prop := fb < hw ∧ (∀ k, V k → k < hw) ∧ (∀ g, vP.ownBlock = some g → g < hw) ∧ (∀ g, vR.ownBlock = some g → g < hw) ∧ ∀ g, vB.ownBlock = some g → g < hw
end
end Tr
end Ex
end Go.Proofs.Ytemfnbccjbojfaa
