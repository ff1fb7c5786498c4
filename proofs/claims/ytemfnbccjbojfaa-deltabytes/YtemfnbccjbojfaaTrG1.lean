import Derived.Test.YtemfnbccjbojfaaTrMake
import Derived.Test.YtemfnbccjbojfaaTrG0
namespace Go.Proofs.Ytemfnbccjbojfaa
open Go.RowKit
attribute [local go_sem] Oper.semAt_some
namespace Ex
namespace Tr

theorem may_cases {kd n : Int} (h : mayP kd n = true) : kd = 2 ∧ 0 ≤ n ∨ (kd = 3 ∨ kd = 4 ∨ kd = 5) ∧ n = 0 := by
  unfold mayP at h
  simp only [Bool.or_eq_true, Bool.and_eq_true, beq_iff_eq, decide_eq_true_eq] at h
  rcases h with h | ⟨(h | h) | h, h0⟩ <;> simp_all
theorem may_not {kd n : Int} (h : mayP kd n = false) : (kd ≠ 2 ∧ kd ≠ 3 ∧ kd ≠ 4 ∧ kd ≠ 5) ∨ n < 0 ∨ n ≠ 0 ∧ kd ≠ 2 := by
  unfold mayP at h
  simp only [Bool.or_eq_false_iff, Bool.and_eq_false_iff, beq_eq_false_iff_ne, decide_eq_false_iff_not, ne_eq] at h
  omega

def sizeR (X : Nat → Rd) (ks : List Nat) : Nat := (ks.map fun b => (X b).size).sum
theorem sizeR_take {X : Nat → Rd} {ks : List Nat} {j b : Nat} (h : ks[j]? = some b) : sizeR X (ks.take (j + 1)) = sizeR X (ks.take j) + (X b).size := by
  unfold sizeR
  rw [List.take_add_one, h]
  simp
theorem sizeR_part (X : Nat → Rd) : ∀ (ks : List Nat) (j : Nat), sizeR X (ks.take j) ≤ sizeR X ks
  | [], j => by simp [sizeR]
  | b :: ks, 0 => by simp [sizeR]
  | b :: ks, j + 1 => by
    have := sizeR_part X ks j
    simp only [sizeR, List.take_succ_cons, List.map_cons, List.sum_cons] at this ⊢
    omega
/-- What the document's Make answers where kind and n are good: whether all children are of the store, whether there is room. -/
def rErr (X : Nat → Rd) (st : Int) (ks : List Nat) : Int := if ks.all (fun b => (X b).st == st) = true then (if 4194304 < 1 + sizeR X ks then 6 else 0) else 100
theorem rErr_other {X : Nat → Rd} {st : Int} {ks : List Nat} {b : Nat} (hb : b ∈ ks) (h : (X b).st ≠ st) : rErr X st ks = 100 := by
  unfold rErr
  rw [if_neg]
  intro hh
  rw [List.all_eq_true] at hh
  exact h (by simpa using hh b hb)
theorem rErr_full {X : Nat → Rd} {st : Int} {ks : List Nat} (h1 : ∀ b ∈ ks, (X b).st = st) (h2 : 4194304 < 1 + sizeR X ks) : rErr X st ks = 6 := by
  unfold rErr
  rw [if_pos (by rw [List.all_eq_true]; intro b hb; simp [h1 b hb]), if_pos h2]
theorem rErr_ok {X : Nat → Rd} {st : Int} {ks : List Nat} (h1 : ∀ b ∈ ks, (X b).st = st) (h2 : ¬ 4194304 < 1 + sizeR X ks) : rErr X st ks = 0 := by
  unfold rErr
  rw [if_pos (by rw [List.all_eq_true]; intro b hb; simp [h1 b hb]), if_neg h2]

end Tr
end Ex
end Go.Proofs.Ytemfnbccjbojfaa
