import Derived.Test.YthpampfbmpdmoaaTrOver
namespace Go.Proofs.Ythpampfbmpdmoaa
open Go.RowKit
attribute [local go_sem] Oper.semAt_some
namespace Ex
namespace Tr

/-- The children's places and the widths are the sums. -/
def FWid (R : Nat → Prop) (N : Nat → Nd) : Prop := ∀ b, R b → (N b).kids = kidG N 0 ((N b).kids.map Prod.fst) ∧ ((N b).kind ≠ 1 → (N b).width = widthS N ((N b).kids.map Prod.fst))
theorem kidG_at (N : Nat → Nd) : ∀ (l : List Nat) (a i : Nat) (k : Nat × Nat), (kidG N a l)[i]? = some k → l[i]? = some k.1 ∧ k.2 = a + widthS N (l.take i)
  | [], a, i, k, h => by simp [kidG] at h
  | b :: l, a, 0, k, h => by
    simp only [kidG, List.getElem?_cons_zero, Option.some.injEq] at h
    subst h
    exact ⟨rfl, by simp [widthS]⟩
  | b :: l, a, i + 1, k, h => by
    simp only [kidG, List.getElem?_cons_succ] at h
    obtain ⟨h1, h2⟩ := kidG_at N l _ i k h
    refine ⟨by simpa using h1, ?_⟩
    rw [h2, List.take_succ_cons]
    simp only [widthS, List.map_cons, List.sum_cons]
    omega
theorem widthS_mono (N : Nat → Nd) (l : List Nat) {i j : Nat} (h : i ≤ j) : widthS N (l.take i) ≤ widthS N (l.take j) := by
  have e : l.take j = l.take i ++ (l.drop i).take (j - i) := by
    have := List.take_append_drop i (l.take j)
    rw [List.take_take, Nat.min_eq_left h, List.drop_take] at this
    exact this.symm
  rw [e]
  unfold widthS
  rw [List.map_append, List.sum_append]
  omega
section
variable {R : Nat → Prop} {N : Nat → Nd} {b : Nat} {d : Int}
theorem FWid.at (h : FWid R N) (hb : R b) {i : Nat} {k : Nat × Nat} (hk : (N b).kids[i]? = some k) : ((N b).kids.map Prod.fst)[i]? = some k.1 ∧ k.2 = widthS N (((N b).kids.map Prod.fst).take i) := by
  rw [(h b hb).1] at hk
  have := kidG_at N _ 0 i k hk
  rw [Nat.zero_add] at this
  exact this
theorem FWid.mono (h : FWid R N) (hb : R b) : ∀ i j, i ≤ j → j < (N b).kids.length → behP (N b) d i = true → behP (N b) d j = true := fun i j hij hj hi => by
  obtain ⟨k, hk⟩ : ∃ k, (N b).kids[i]? = some k := ⟨_, List.getElem?_eq_getElem (by omega)⟩
  obtain ⟨k', hk'⟩ : ∃ k, (N b).kids[j]? = some k := ⟨_, List.getElem?_eq_getElem hj⟩
  unfold behP at hi ⊢
  rw [hk] at hi
  rw [hk']
  have h1 := (h.at hb hk).2
  have h2 := (h.at hb hk').2
  have h3 := widthS_mono N ((N b).kids.map Prod.fst) hij
  simp only [decide_eq_true_eq] at hi ⊢
  omega
/-- The child that is picked holds the place. -/
theorem FWid.pick (h : FWid R N) (hb : R b) (hk1 : (N b).kind ≠ 1) (h0 : 0 ≤ d) (h1 : d < ((N b).width : Int)) {r : Nat} (hr : FirstAt (behP (N b) d) (N b).kids.length r) : ∃ i k, r = i + 1 ∧ (N b).kids[i]? = some k ∧ (k.2 : Int) ≤ d ∧ d < (k.2 : Int) + ((N k.1).width : Int) := by
  obtain ⟨hr1, hr2, hr3⟩ := hr
  have hw := (h b hb).2 hk1
  have hL : 1 ≤ (N b).kids.length := by
    rcases Nat.eq_zero_or_pos (N b).kids.length with h2 | h2
    · rw [List.length_eq_zero_iff.1 h2] at hw
      simp [widthS] at hw
      omega
    · exact h2
  obtain ⟨i, rfl⟩ : ∃ i, r = i + 1 := by
    rcases Nat.eq_zero_or_pos r with h2 | h2
    · subst h2
      exfalso
      have h3 := hr3 (by omega)
      obtain ⟨k, hk⟩ : ∃ k, (N b).kids[0]? = some k := ⟨_, List.getElem?_eq_getElem (by omega)⟩
      unfold behP at h3
      rw [hk] at h3
      have h4 := (h.at hb hk).2
      simp [widthS] at h4
      simp only [decide_eq_true_eq] at h3
      omega
    · exact ⟨r - 1, by omega⟩
  obtain ⟨k, hk⟩ : ∃ k, (N b).kids[i]? = some k := ⟨_, List.getElem?_eq_getElem (by omega)⟩
  have hka := h.at hb hk
  have hp := hr2 i (by omega)
  unfold behP at hp
  rw [hk] at hp
  simp only [decide_eq_false_iff_not] at hp
  have ht := widthS_take (N := N) hka.1
  refine ⟨i, k, rfl, hk, by omega, ?_⟩
  rcases Nat.lt_or_ge (i + 1) (N b).kids.length with h2 | h2
  · have h3 := hr3 h2
    obtain ⟨k', hk'⟩ : ∃ k, (N b).kids[i + 1]? = some k := ⟨_, List.getElem?_eq_getElem h2⟩
    unfold behP at h3
    rw [hk'] at h3
    have h4 := (h.at hb hk').2
    simp only [decide_eq_true_eq] at h3
    omega
  · have h3 : ((N b).kids.map Prod.fst).take (i + 1) = (N b).kids.map Prod.fst := List.take_of_length_le (by rw [List.length_map]; omega)
    rw [h3] at ht
    omega
end
/-- A way of stands from a top down. -/
def PathOk (R : Nat → Prop) (N : Nat → Nd) (top : Nat) (wy : List (Nat × Nat × Nat)) : Prop :=
  wy.head? = some (top, 0, 0) ∧ (∀ q ∈ wy, R q.1) ∧ ∀ (i : Nat) (q q' : Nat × Nat × Nat), wy[i]? = some q → wy[i + 1]? = some q' → ∃ k, (N q.1).kids[q'.2.2]? = some k ∧ q'.1 = k.1 ∧ q'.2.1 = q.2.1 + k.2
theorem PathOk.front {R : Nat → Prop} {N : Nat → Nd} {top : Nat} {pre : List (Nat × Nat × Nat)} {q : Nat × Nat × Nat} (h : PathOk R N top (pre ++ [q])) (hp : pre ≠ []) : PathOk R N top pre := by
  obtain ⟨h1, h2, h3⟩ := h
  refine ⟨?_, fun p hp => h2 p (List.mem_append_left _ hp), fun i p p' hi hi' => h3 i p p' (by rw [List.getElem?_append_left (List.getElem?_eq_some_iff.1 hi).1]; exact hi) (by rw [List.getElem?_append_left (List.getElem?_eq_some_iff.1 hi').1]; exact hi')⟩
  cases pre with
  | nil => exact absurd rfl hp
  | cons a l => simpa using h1
theorem PathOk.down {R : Nat → Prop} {N : Nat → Nd} {top : Nat} {pre : List (Nat × Nat × Nat)} {q : Nat × Nat × Nat} {i : Nat} {k : Nat × Nat} (h : PathOk R N top (pre ++ [q])) (hk : (N q.1).kids[i]? = some k) (hR : R k.1) : PathOk R N top (pre ++ [q] ++ [(k.1, q.2.1 + k.2, i)]) := by
  obtain ⟨h1, h2, h3⟩ := h
  refine ⟨?_, fun p hp => ?_, fun j p p' hj hj' => ?_⟩
  · rw [List.head?_append, h1]
    rfl
  · rcases List.mem_append.1 hp with hp | hp
    · exact h2 p hp
    · rw [List.mem_singleton.1 hp]; exact hR
  · rcases Nat.lt_or_ge (j + 1) (pre ++ [q]).length with hl | hl
    · exact h3 j p p' (by rw [List.getElem?_append_left (by omega)] at hj; exact hj) (by rw [List.getElem?_append_left hl] at hj'; exact hj')
    · have hjl := (List.getElem?_eq_some_iff.1 hj').1
      simp only [List.length_append, List.length_cons, List.length_nil] at hl hjl
      have hje : j = pre.length := by omega
      subst hje
      rw [List.getElem?_append_left (by simp), List.getElem?_append_right (Nat.le_refl _), Nat.sub_self] at hj
      simp only [List.getElem?_cons_zero, Option.some.injEq] at hj
      subst hj
      rw [List.getElem?_append_right (by simp)] at hj'
      simp only [List.length_append, List.length_cons, List.length_nil, Nat.sub_self, List.getElem?_cons_zero, Option.some.injEq] at hj'
      subst hj'
      exact ⟨k, hk, rfl, rfl⟩

end Tr
end Ex
end Go.Proofs.Ythpampfbmpdmoaa
