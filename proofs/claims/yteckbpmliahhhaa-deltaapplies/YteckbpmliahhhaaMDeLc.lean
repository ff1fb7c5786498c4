import Derived.Test.YteckbpmliahhhaaMDeEd
import Derived.Test.YteckbpmliahhhaaMDeHd
namespace Go.Proofs.Yteckbpmliahhhaa
open Go.RowKit
attribute [local go_sem] Oper.semAt_some
namespace Ex
namespace Tr

/-- What Move looks at of an edit. -/
def edK (e : EdX) : Int × Int × Nat := (e.at_, e.del, e.n)
theorem sized_k {e c : EdX} (h : edK e = edK c) : sizedB e = sizedB c := by
  unfold edK at h
  simp only [Prod.mk.injEq] at h
  unfold sizedB
  rw [h.1, h.2.1, h.2.2]
theorem moved_k {e c : EdX} (h : edK e = edK c) (p bias : Int) : movedP p bias e = movedP p bias c := by
  unfold edK at h
  simp only [Prod.mk.injEq] at h
  unfold movedP
  rw [h.1, h.2.1, h.2.2]
theorem moveL_k (bias : Int) : ∀ (l m : List EdX) (p : Int), l.map edK = m.map edK → moveL bias l p = moveL bias m p
  | [], [], _, _ => rfl
  | [], _ :: _, _, h => by simp at h
  | _ :: _, [], _, h => by simp at h
  | e :: l, c :: m, p, h => by
    simp only [List.map_cons, List.cons.injEq] at h
    unfold moveL
    rw [sized_k h.1, moved_k h.1, moveL_k bias l m _ h.2]
theorem moveP_k (p bias : Int) {l m : List EdX} (h : l.map edK = m.map edK) : moveP p bias l = moveP p bias m := by
  have hl : l.length = m.length := by have := congrArg List.length h; simpa using this
  unfold moveP
  rw [moveL_k bias l m p h, hl]
theorem made_k {w : World} {base g ec : Nat} {l cs : List EdX} {bs : List (List Int)} (hb : bs.length = l.length) (h : EdMade w base g ec l bs cs) : cs.map edK = l.map edK := by
  apply List.ext_getElem?
  intro i
  rw [List.getElem?_map, List.getElem?_map]
  rcases Nat.lt_or_ge i l.length with hi | hi
  · have h1 : l[i]? = some l[i] := List.getElem?_eq_getElem hi
    have h2 : bs[i]? = some (bs[i]'(by omega)) := List.getElem?_eq_getElem (by omega)
    have h3 : cs[i]? = some (cs[i]'(by rw [h.1]; exact hi)) := List.getElem?_eq_getElem (by rw [h.1]; exact hi)
    obtain ⟨g1, g2, g3, _⟩ := h.2.2 i _ _ _ h1 h2 h3
    rw [h1, h3]
    simp only [Option.map_some, Option.some.injEq]
    unfold edK
    rw [g1, g2, g3]
  · rw [List.getElem?_eq_none (by rw [h.1]; exact hi), List.getElem?_eq_none hi]
theorem EdMade.lo {w : World} {base g ec : Nat} {l cs : List EdX} {bs : List (List Int)} (h : EdMade w base g ec l bs cs) : LO edE w base (.slice (some ⟨g, 0, none⟩) l.length ec) cs := by
  have h2 := h.2.1
  rw [← h.1] at h2 ⊢
  rcases h2.2 with ⟨h0, _⟩ | ⟨g', cap', cur, he, hb, hg, hc, hm, hsz, hx⟩
  · cases h0
  · injection he with e1 e2 e3
    injection e1 with e1
    injection e1 with e1
    subst e1
    subst e3
    refine ⟨flatE_lenT edE cs, .inr ⟨g, ec, cur, rfl, hb, hg, ?_, hm, hsz, ?_⟩⟩
    · rw [List.length_append] at hc
      exact Nat.le_trans (Nat.le_add_right _ _) hc
    · have hle : cs.length * edE.sz ≤ (cs ++ [(⟨77, 0, none, 0, 0⟩ : EdX)]).length * edE.sz := Nat.mul_le_mul_right _ (by simp)
      have e : (cur.toList.take ((cs ++ [(⟨77, 0, none, 0, 0⟩ : EdX)]).length * edE.sz)).take (cs.length * edE.sz) = (flatE edE (cs ++ [(⟨77, 0, none, 0, 0⟩ : EdX)])).take (cs.length * edE.sz) := by rw [hx]
      rw [List.take_take, flatE_app, List.take_append_of_le_length (by rw [flatE_lenT]; exact Nat.le_refl _), Nat.min_eq_left hle] at e
      rw [e, ← flatE_lenT edE cs, List.take_length]
theorem LO.src {α : Type} {E : ElK α} {w : World} {base n c : Nat} {a : Option Addr} {l : List α} (h : LO E w base (.slice a n c) l) : Src E w a l := by
  rcases h.2 with ⟨_, h0⟩ | ⟨g, cap, cur, he, hb, hg, hc, hm, hsz, hx⟩
  · exact Or.inl (List.length_eq_zero_iff.1 h0)
  · injection he with e1
    exact Or.inr ⟨g, 0, e1, fun j u hj => by rw [Nat.zero_add]; exact row_cells hg hx j u hj⟩
theorem moveL_app (bias : Int) : ∀ (l m : List EdX) (p : Int), 0 ≤ p → p ≤ 262144 → moveL bias (l ++ m) p = (if (moveL bias l p).2 = 0 then moveL bias m (moveL bias l p).1 else moveL bias l p) ∧ ((moveL bias l p).2 ≠ 0 → (moveL bias l p).1 = 0) ∧ ((moveL bias l p).2 = 0 → 0 ≤ (moveL bias l p).1 ∧ (moveL bias l p).1 ≤ 262144)
  | [], m, p, h0, h1 => ⟨rfl, fun h => absurd rfl h, fun _ => ⟨h0, h1⟩⟩
  | e :: l, m, p, h0, h1 => by
    have ha : ∀ x : Int × Int, moveL bias (e :: l) p = (if sizedB e = true then (if 262144 < movedP p bias e then (0, 151) else moveL bias l (movedP p bias e)) else (0, 1)) := fun _ => rfl
    have hb : moveL bias (e :: l ++ m) p = (if sizedB e = true then (if 262144 < movedP p bias e then (0, 151) else moveL bias (l ++ m) (movedP p bias e)) else (0, 1)) := rfl
    rw [hb, ha (0, 0)]
    by_cases hs : sizedB e = true
    · rw [if_pos hs, if_pos hs]
      by_cases hg : 262144 < movedP p bias e
      · rw [if_pos hg, if_pos hg]
        exact ⟨by simp, fun _ => rfl, fun h => by simp at h⟩
      · rw [if_neg hg, if_neg hg]
        exact moveL_app bias l m _ (moved_low hs h0) (by omega)
    · rw [if_neg hs, if_neg hs]
      exact ⟨by simp, fun _ => rfl, fun h => by simp at h⟩
theorem chain_pure (p bias : Int) (l m : List EdX) (h : l.length + m.length ≤ 4096) : ((moveP p bias l).2 ≠ 0 → moveP p bias (l ++ m) = moveP p bias l ∧ (moveP p bias l).1 = 0) ∧ ((moveP p bias l).2 = 0 → moveP (moveP p bias l).1 bias m = moveP p bias (l ++ m)) := by
  by_cases hp : p < 0 ∨ 262144 < p
  · have e : ∀ l, moveP p bias l = (0, 151) := fun l => by unfold moveP; rw [if_pos hp]
    rw [e, e]
    exact ⟨fun _ => ⟨rfl, rfl⟩, fun h => by simp at h⟩
  · have e : ∀ l : List EdX, l.length ≤ 4096 → moveP p bias l = moveL bias l p := fun l hl => by unfold moveP; rw [if_neg hp, if_neg (by omega)]
    rw [e l (by omega), e (l ++ m) (by rw [List.length_append]; exact h)]
    obtain ⟨h1, h2, h3⟩ := moveL_app bias l m p (by omega) (by omega)
    refine ⟨fun hz => ⟨by rw [h1, if_neg hz], h2 hz⟩, fun hz => ?_⟩
    have h4 := h3 hz
    rw [h1, if_pos hz]
    unfold moveP
    rw [if_neg (by omega), if_neg (by omega)]

end Tr
end Ex
end Go.Proofs.Yteckbpmliahhhaa
