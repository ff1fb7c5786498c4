import Derived.Test.YtnjmbijebckncaaMTrH5
namespace Go.Proofs.Ytnjmbijebckncaa
open Go.RowKit
attribute [local go_sem] Oper.semAt_some
namespace Ex
namespace Tr

theorem BufHas.front {w : World} {g : Nat} {l r : List Nat} (h : BufHas w g (l ++ r)) : BufHas w g l := fun i b hb => h i b (by rw [List.getElem?_append_left (List.getElem?_eq_some_iff.1 hb).1]; exact hb)
section
variable {base fb s0 s1 : Nat} {V : Nat → Prop} {P Q : List Nat} {N : Nat → Nd} {X : Nat → Rd} {m0 m1 : Nat} {vP vR vB : Value} {w : World}
/-- A store that Make has changed, or not. -/
theorem MkGave.keptBut {s m : Nat} {kd n : Int} {ks : List Nat} {pv : Value} {w' : World} (h : MkGave N s m kd n ks pv w w') : KeptBut s w w' := by
  rcases h with ⟨_, _, rfl⟩ | ⟨_, b, _, _, h, _⟩
  · exact (Kept.refl _).tbut s
  · exact h
end

end Tr
end Ex
end Go.Proofs.Ytnjmbijebckncaa
