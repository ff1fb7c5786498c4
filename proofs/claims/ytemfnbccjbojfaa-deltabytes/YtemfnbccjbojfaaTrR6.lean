import Derived.Test.YtemfnbccjbojfaaTrR5
namespace Go.Proofs.Ytemfnbccjbojfaa
open Go.RowKit
attribute [local go_sem] Oper.semAt_some
namespace Ex
namespace Tr

theorem POwn.pop {w : World} {base g cap L : Nat} {A : List Nat} {b : Nat} (hA : A.length = L) (h : POwn w base (.slice (some ⟨g, 0, none⟩) (L + 1) cap) (A ++ [b])) : POwn w base (.slice (some ⟨g, 0, none⟩) L cap) A := by
  subst hA
  refine ⟨by simp [flatPt], Or.inr ?_⟩
  rcases h.2 with ⟨e, _⟩ | ⟨g', cap', cur, e, h1, h2, h3, h4, h5, h6⟩
  · cases e
  · injection e with e1 e2 e3
    injection e1 with e1
    injection e1 with e1
    subst e1 e3
    refine ⟨g, cap, cur, rfl, h1, h2, by rw [List.length_append] at h3; simp at h3; omega, h4, h5, ?_⟩
    have h7 := congrArg (List.take A.length) h6
    rw [List.take_take, flatPt_app, List.length_append, List.length_singleton, Nat.mul_one, Nat.min_eq_left (by omega)] at h7
    rw [Nat.mul_one, h7]
    have e9 : (flatPt A).length = A.length := by simp [flatPt]
    rw [← e9, List.take_left']
    rfl
theorem POwn.last {w : World} {base g cap L n : Nat} {A : List Nat} {b : Nat} (hA : A.length = L) (h : POwn w base (.slice (some ⟨g, 0, none⟩) n cap) (A ++ [b])) : w.cell? ⟨g, L, none⟩ = some (.pointer (some ⟨b, 0, none⟩)) := h.at' (by rw [List.getElem?_append_right (by omega), hA]; simp)
theorem POwn.form {w : World} {base : Nat} {v : Value} {P : List Nat} (h : POwn w base v P) : ∃ a c, v = .slice a P.length c := by
  rcases h.2 with ⟨rfl, h0⟩ | ⟨g, cap, cur, rfl, _⟩
  · exact ⟨none, 0, by rw [h0]⟩
  · exact ⟨_, _, rfl⟩
/-- A tree is put on. -/
theorem TallI.put {N M : Nat → Nd} {V R : Nat → Prop} {x n base s k m a1 a2 b c : Nat} {t S2 : List Nat} {vS vS' : Value} {w0 w w' : World} {Y : Nd}
    (hS : StoreAt w' s (m + 1)) (hm : m + 1 + k ≤ n) (hV : ∀ q, V q → base ≤ q ∧ q < w.heap.size ∧ vS.ownBlock ≠ some q) (hvl : ∀ g, vS.ownBlock = some g → g < w.heap.size) (hk : KX V w w') (hR : ∀ b, R b → NodeV V w b (M b) ∧ FacN M R b ∧ (M b).st = s)
    (o1 : w.heap.size ≤ a1) (o2 : a1 ≤ a2) (o3 : a2 ≤ w'.heap.size) (hb0 : base ≤ w.heap.size) (hY : NodeV (fun q => a1 ≤ q ∧ q < a2) w' c Y) (hYf : NdOk Y ∧ (Y.kind = 1 → Y.kids = []) ∧ (∀ q ∈ Y.kids, R q.1) ∧ Y.size = 1 + sizeS M (Y.kids.map Prod.fst)) (hYs : Y.st = s)
    (hP : POwn w' base vS' (S2 ++ [c])) (hrel : OwnRel vS.ownBlock a2 vS') (hS2 : ∀ p ∈ S2, R p) (hSame : ∀ M', (∀ q, R q → M' q = M q) → M' c = Y → Same N M' b c) (hSt : Sames N M t S2.reverse) (hpend : pendI N k [x] = b :: t) (hKB : KeptBut s w0 w') : TallI N x n base s w0 k vS' w' := by
  have hcR : ¬ R c := fun h => by have := (hV c (hR c h).1.1).2.1; have := hY.1; omega
  have he : ∀ q, R q → (if q = c then Y else M q) = M q := fun q hq => if_neg (fun (e : q = c) => hcR (by rw [← e]; exact hq))
  have hRk : ∀ q, R q → ∀ p ∈ (M q).kids, R p.1 := fun q hq => (hR q hq).2.1.2.2.1
  refine ⟨fun q => V q ∨ (a1 ≤ q ∧ q < a2), fun q => if q = c then Y else M q, fun q => R q ∨ q = c, m + 1, S2 ++ [c], hS, hm, hP, ?_, by omega, ?_, ?_, ?_, hKB⟩
  · rintro q (hq | hq)
    · obtain ⟨q1, q2, q3⟩ := hV q hq
      refine ⟨q1, Nat.lt_of_lt_of_le q2 hk.1, fun e => ?_⟩
      rcases hrel with h | ⟨g, h, h'⟩
      · exact q3 (by rw [← h]; exact e)
      · rw [h] at e
        injection e with e
        omega
    · refine ⟨by omega, by omega, fun e => ?_⟩
      rcases hrel with h | ⟨g, h, h'⟩
      · have := hvl q (by rw [← h]; exact e)
        omega
      · rw [h] at e
        injection e with e
        omega
  · have hfac := FacN.add hcR (fun b hb => (hR b hb).2.1) hYf
    intro q hq
    refine ⟨?_, hfac q hq, ?_⟩
    · rcases hq with hq | hq
      · simp only [he q hq]
        exact ((hR q hq).1.kx hk).more (fun p hp => Or.inl hp)
      · subst hq
        simp only [if_true]
        exact hY.more (fun p hp => Or.inr hp)
    · rcases hq with hq | hq
      · simp only [he q hq]
        exact (hR q hq).2.2
      · subst hq
        simp only [if_true]
        exact hYs
  · intro p hp
    rcases List.mem_append.1 hp with hp | hp
    · exact Or.inl (hS2 p hp)
    · exact Or.inr (List.mem_singleton.1 hp)
  · rw [hpend, List.reverse_append]
    refine ⟨hSame _ he (if_pos rfl), ?_⟩
    exact Sames.congr hRk he (fun p hp => hS2 p (List.mem_reverse.1 hp)) hSt

end Tr
end Ex
end Go.Proofs.Ytemfnbccjbojfaa
