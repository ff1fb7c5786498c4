import Derived.Test.YtnjmbijebckncaaMTrG0
namespace Go.Proofs.Ytnjmbijebckncaa
open Go.RowKit
attribute [local go_sem] Oper.semAt_some
namespace Ex
namespace Tr

/-- A sum over children. -/
def sumF (f : Nat → Nat) (ks : List Nat) : Nat := (ks.map f).sum
theorem sumF_take {f : Nat → Nat} {ks : List Nat} {j b : Nat} (h : ks[j]? = some b) : sumF f (ks.take (j + 1)) = sumF f (ks.take j) + f b := by
  unfold sumF
  rw [List.take_add_one, h]
  simp
theorem sumF_part (f : Nat → Nat) : ∀ (ks : List Nat) (j : Nat), sumF f (ks.take j) ≤ sumF f ks
  | [], j => by simp [sumF]
  | b :: ks, 0 => by simp [sumF]
  | b :: ks, j + 1 => by
    have := sumF_part f ks j
    simp only [sumF, List.take_succ_cons, List.map_cons, List.sum_cons] at this ⊢
    omega
theorem sizeR_mem {X : Nat → Rd} {ks : List Nat} {k : Nat} (h : k ∈ ks) : (X k).size ≤ sizeR X ks := by
  induction ks with
  | nil => cases h
  | cons b ks ih =>
    simp only [sizeR, List.map_cons, List.sum_cons] at ih ⊢
    rcases List.mem_cons.1 h with e | e
    · subst e
      omega
    · have := ih e
      omega
section
variable {w : World}
set_option linter.unusedSimpArgs false
set_option maxRecDepth 100000
end
def DrewW (w w' : World) : Prop := ∃ m, w' = w.drewN m
end Tr
end Ex
end Go.Proofs.Ytnjmbijebckncaa
