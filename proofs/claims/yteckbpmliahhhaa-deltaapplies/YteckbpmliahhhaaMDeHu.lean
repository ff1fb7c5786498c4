import Derived.Test.YteckbpmliahhhaaMDePl
namespace Go.Proofs.Yteckbpmliahhhaa
open Go.RowKit
attribute [local go_sem] Oper.semAt_some
namespace Ex
namespace Tr

theorem pl_of {S : Nat → Prop} {P : Nat → Pn} {rk : Nat → Nat} {w w' : World} {base n c : Nat} {a : Option Addr} {ks : List Nat} (h : LO pnE w base (.slice a n c) ks) (hn : ks.length = n) (hF : PFor S P rk w) (hS : ∀ k ∈ ks, S k) (hk : Kept w w') : PlRd w' (.slice a n c) ks (fun k => (P k).id) := by
  refine ⟨a, c, by rw [hn], h.cap, fun i k hi => ?_⟩
  obtain ⟨g, rfl⟩ := h.some (by intro e; rw [e] at hi; simp at hi)
  refine ⟨g, 0, rfl, ?_, ?_⟩
  · have h1 := (h.keep hk).cell (i := i) (j := 0) (x := k) (u := .pointer (some ⟨k, 0, none⟩)) hi rfl
    rw [show i * pnE.sz + 0 = 0 + i from by show i * 1 + 0 = 0 + i; omega] at h1
    exact h1
  · obtain ⟨a, c, h1, _⟩ := (hF.keep hk).at_ k (hS k (List.mem_of_getElem? hi))
    simp [World.cell?, h1]
theorem lvP_in {S : Nat → Prop} {P : Nat → Pn} {rk : Nat → Nat} {w : World} (hF : PFor S P rk w) : ∀ (f b : Nat), S b → ∀ k ∈ lvP P f b, S k
  | 0, _, _, k, hk => by simp [lvP] at hk
  | f + 1, b, hb, k, hk => by
    unfold lvP at hk
    split at hk
    · simp only [List.mem_singleton] at hk; subst hk; exact hb
    · obtain ⟨c, hc1, hc2⟩ := List.mem_flatMap.1 hk
      exact lvP_in hF f c (hF.kid b hb c hc1).1 k hc2
/-- While the hunks are made. -/
def HuI (lI mI : List Int) (R : List Hk) (j fr into : Nat) (done : List Hk) : Prop := (j ≤ lI.length ∧ R = done ++ hkG lI mI (lI.drop j) j fr into) ∨ (lI.length < j ∧ R = done)
end Tr
end Ex
end Go.Proofs.Yteckbpmliahhhaa
