import Derived.Test.YtnjmbijebckncaaMDeEd
import Derived.Test.YtnjmbijebckncaaMDeHd
namespace Go.Proofs.Ytnjmbijebckncaa
open Go.RowKit
attribute [local go_sem] Oper.semAt_some
namespace Ex
namespace Tr

/-- What Move looks at of an edit. -/
def edK (e : EdX) : Int × Int × Nat := (e.at_, e.del, e.n)
theorem sized_k {e c : EdX} (h : edK e = edK c) : sizedB e = sizedB c := by
  unfold edK at h
  simp only [Prod.mk.injEq] at h
  unfold sizedB
  rw [h.1, h.2.1, h.2.2]
theorem moved_k {e c : EdX} (h : edK e = edK c) (p bias : Int) : movedP p bias e = movedP p bias c := by
  unfold edK at h
  simp only [Prod.mk.injEq] at h
  unfold movedP
  rw [h.1, h.2.1, h.2.2]
theorem moveL_k (bias : Int) : ∀ (l m : List EdX) (p : Int), l.map edK = m.map edK → moveL bias l p = moveL bias m p
  | [], [], _, _ => rfl
  | [], _ :: _, _, h => by simp at h
  | _ :: _, [], _, h => by simp at h
  | e :: l, c :: m, p, h => by
    simp only [List.map_cons, List.cons.injEq] at h
    unfold moveL
    rw [sized_k h.1, moved_k h.1, moveL_k bias l m _ h.2]
theorem moveP_k (p bias : Int) {l m : List EdX} (h : l.map edK = m.map edK) : moveP p bias l = moveP p bias m := by
  have hl : l.length = m.length := by have := congrArg List.length h; simpa using this
  unfold moveP
  rw [moveL_k bias l m p h, hl]
theorem made_k {w : World} {base g ec : Nat} {l cs : List EdX} {bs : List (List Int)} (hb : bs.length = l.length) (h : EdMade w base g ec l bs cs) : cs.map edK = l.map edK := by
  apply List.ext_getElem?
  intro i
  rw [List.getElem?_map, List.getElem?_map]
  rcases Nat.lt_or_ge i l.length with hi | hi
  · have h1 : l[i]? = some l[i] := List.getElem?_eq_getElem hi
    have h2 : bs[i]? = some (bs[i]'(by omega)) := List.getElem?_eq_getElem (by omega)
    have h3 : cs[i]? = some (cs[i]'(by rw [h.1]; exact hi)) := List.getElem?_eq_getElem (by rw [h.1]; exact hi)
    obtain ⟨g1, g2, g3, _⟩ := h.2.2 i _ _ _ h1 h2 h3
    rw [h1, h3]
    simp only [Option.map_some, Option.some.injEq]
    unfold edK
    rw [g1, g2, g3]
  · rw [List.getElem?_eq_none (by rw [h.1]; exact hi), List.getElem?_eq_none hi]
theorem EdMade.lo {w : World} {base g ec : Nat} {l cs : List EdX} {bs : List (List Int)} (h : EdMade w base g ec l bs cs) : LO edE w base (.slice (some ⟨g, 0, none⟩) l.length ec) cs := by
  have h2 := h.2.1
  rw [← h.1] at h2 ⊢
  rcases h2.2 with ⟨h0, _⟩ | ⟨g', cap', cur, he, hb, hg, hc, hm, hsz, hx⟩
  · cases h0
  · injection he with e1 e2 e3
    injection e1 with e1
    injection e1 with e1
    subst e1
    subst e3
    refine ⟨flatE_lenT edE cs, .inr ⟨g, ec, cur, rfl, hb, hg, ?_, hm, hsz, ?_⟩⟩
    · rw [List.length_append] at hc
      exact Nat.le_trans (Nat.le_add_right _ _) hc
    · have hle : cs.length * edE.sz ≤ (cs ++ [(⟨77, 0, none, 0, 0⟩ : EdX)]).length * edE.sz := Nat.mul_le_mul_right _ (by simp)
      have e : (cur.toList.take ((cs ++ [(⟨77, 0, none, 0, 0⟩ : EdX)]).length * edE.sz)).take (cs.length * edE.sz) = (flatE edE (cs ++ [(⟨77, 0, none, 0, 0⟩ : EdX)])).take (cs.length * edE.sz) := by rw [hx]
      rw [List.take_take, flatE_app, List.take_append_of_le_length (by rw [flatE_lenT]; exact Nat.le_refl _), Nat.min_eq_left hle] at e
      rw [e, ← flatE_lenT edE cs, List.take_length]
theorem LO.src {α : Type} {E : ElK α} {w : World} {base n c : Nat} {a : Option Addr} {l : List α} (h : LO E w base (.slice a n c) l) : Src E w a l := by
  rcases h.2 with ⟨_, h0⟩ | ⟨g, cap, cur, he, hb, hg, hc, hm, hsz, hx⟩
  · exact Or.inl (List.length_eq_zero_iff.1 h0)
  · injection he with e1
    exact Or.inr ⟨g, 0, e1, fun j u hj => by rw [Nat.zero_add]; exact row_cells hg hx j u hj⟩
theorem moveL_app (bias : Int) : ∀ (l m : List EdX) (p : Int), 0 ≤ p → p ≤ 262144 → moveL bias (l ++ m) p = (if (moveL bias l p).2 = 0 then moveL bias m (moveL bias l p).1 else moveL bias l p) ∧ ((moveL bias l p).2 ≠ 0 → (moveL bias l p).1 = 0) ∧ ((moveL bias l p).2 = 0 → 0 ≤ (moveL bias l p).1 ∧ (moveL bias l p).1 ≤ 262144)
  | [], m, p, h0, h1 => ⟨rfl, fun h => absurd rfl h, fun _ => ⟨h0, h1⟩⟩
  | e :: l, m, p, h0, h1 => by
    have ha : ∀ x : Int × Int, moveL bias (e :: l) p = (if sizedB e = true then (if 262144 < movedP p bias e then (0, 151) else moveL bias l (movedP p bias e)) else (0, 1)) := fun _ => rfl
    have hb : moveL bias (e :: l ++ m) p = (if sizedB e = true then (if 262144 < movedP p bias e then (0, 151) else moveL bias (l ++ m) (movedP p bias e)) else (0, 1)) := rfl
    rw [hb, ha (0, 0)]
    by_cases hs : sizedB e = true
    · rw [if_pos hs, if_pos hs]
      by_cases hg : 262144 < movedP p bias e
      · rw [if_pos hg, if_pos hg]
        exact ⟨by simp, fun _ => rfl, fun h => by simp at h⟩
      · rw [if_neg hg, if_neg hg]
        exact moveL_app bias l m _ (moved_low hs h0) (by omega)
    · rw [if_neg hs, if_neg hs]
      exact ⟨by simp, fun _ => rfl, fun h => by simp at h⟩
theorem chain_pure (p bias : Int) (l m : List EdX) (h : l.length + m.length ≤ 4096) : ((moveP p bias l).2 ≠ 0 → moveP p bias (l ++ m) = moveP p bias l ∧ (moveP p bias l).1 = 0) ∧ ((moveP p bias l).2 = 0 → moveP (moveP p bias l).1 bias m = moveP p bias (l ++ m)) := by
  by_cases hp : p < 0 ∨ 262144 < p
  · have e : ∀ l, moveP p bias l = (0, 151) := fun l => by unfold moveP; rw [if_pos hp]
    rw [e, e]
    exact ⟨fun _ => ⟨rfl, rfl⟩, fun h => by simp at h⟩
  · have e : ∀ l : List EdX, l.length ≤ 4096 → moveP p bias l = moveL bias l p := fun l hl => by unfold moveP; rw [if_neg hp, if_neg (by omega)]
    rw [e l (by omega), e (l ++ m) (by rw [List.length_append]; exact h)]
    obtain ⟨h1, h2, h3⟩ := moveL_app bias l m p (by omega) (by omega)
    refine ⟨fun hz => ⟨by rw [h1, if_neg hz], h2 hz⟩, fun hz => ?_⟩
    have h4 := h3 hz
    rw [h1, if_pos hz]
    unfold moveP
    rw [if_neg (by omega), if_neg (by omega)]

set_option linter.unusedSimpArgs false in
set_option maxRecDepth 100000 in
set_option maxHeartbeats 4000000 in
theorem chain_is (p bias : Int) (v1 v2 : Value) (l1 l2 : List EdX) (bs1 bs2 : List (List Int)) (w : World) (h1 : EdIn w v1 l1 bs1) (h2 : EdIn w v2 l2 bs2) (hl1 : l1.length * 40 ≤ 140737488351232) (hl2 : l2.length * 40 ≤ 140737488351232) :
    Calls Try.prog 4 #[.int .i64 p, .int .i64 bias, v1, v2] w fun e w' => e = .returned (.bool true) ∧ Kept w w' := by
  obtain ⟨m1, hm1⟩ : ∃ m, l1.length = m := ⟨_, rfl⟩
  obtain ⟨m2, hm2⟩ : ∃ m, l2.length = m := ⟨_, rfl⟩
  obtain ⟨a1, c1, rfl⟩ : ∃ a c, v1 = .slice a m1 c := by obtain ⟨⟨a, c, h, _⟩, _⟩ := h1; exact ⟨a, c, by rw [← hm1]; exact h⟩
  obtain ⟨a2, c2, rfl⟩ : ∃ a c, v2 = .slice a m2 c := by obtain ⟨⟨a, c, h, _⟩, _⟩ := h2; exact ⟨a, c, by rw [← hm2]; exact h⟩
  have HI1 := hide1 h1
  have HI2 := hide1 h2
  have HM1 := hide1 hm1
  have HM2 := hide1 hm2
  have b1 : (m1 : Int) ≤ 3518437208781 := by omega
  have b2 : (m2 : Int) ≤ 3518437208781 := by omega
  have HE1 : Hid (∀ w', Kept w w' → Calls Try.prog 11 #[.slice a1 m1 c1] w' (EdOut w' l1 bs1)) := fun w' hk => edits_is _ l1 bs1 w' (h1.keep hk) hl1
  have HE2 : Hid (∀ w', Kept w w' → Calls Try.prog 11 #[.slice a2 m2 c2] w' (EdOut w' l2 bs2)) := fun w' hk => edits_is _ l2 bs2 w' (h2.keep hk) hl2
  clear h1 h2 hl1 hl2 hm1 hm2
  by_cases hbig : (4096 : Int) < (m1 : Int) + (m2 : Int)
  · go_enter Try.func4, Try.ntmps4
    go_wp2_with (go_at_call 9; refine (headD_is _).mono ?_; rintro e w1 ⟨rfl, hk1⟩; have HK1 := hide1 hk1; clear hk1)
    go_ret
    exact ⟨rfl, HK1.out⟩
  · obtain ⟨hc1, hc2⟩ := chain_pure p bias l1 l2 (by rw [HM1.out, HM2.out]; omega)
    obtain ⟨⟨p1, e1⟩, hr1⟩ : ∃ r, moveP p bias l1 = r := ⟨_, rfl⟩
    obtain ⟨⟨p2, e2⟩, hr2⟩ : ∃ r, moveP p bias (l1 ++ l2) = r := ⟨_, rfl⟩
    rw [hr1, hr2] at hc1 hc2
    dsimp only at hc1 hc2
    have HMA : Hid (∀ w' g ec cs, EdMade w' w'.heap.size g ec l1 bs1 cs → True) := fun _ _ _ _ _ => trivial
    have HMV : Hid (∀ (q : Int) (w' : World) (v : Value) (cs l : List EdX) (r : Int × Int), EdRd w' v cs → cs.map edK = l.map edK → l.length ≤ 8192 → moveP q bias l = r → Calls Try.prog 10 #[.int .i64 q, .int .i64 bias, v] w' fun e w2 => e = .returned (.tuple #[.int .i64 r.1, .int .i64 r.2]) ∧ Kept w' w2) := fun q w' v cs l r hrd hk hlen hr => by
      have hl : cs.length = l.length := by have := congrArg List.length hk; simpa using this
      have h := moveD_is q bias v cs w' hrd (by omega)
      rw [moveP_k q bias hk, hr] at h
      exact h
    have HR1 := hide1 hr1
    have HR2 := hide1 hr2
    have hs1 : m1 ≤ 4096 := by omega
    have hs2 : m2 ≤ 4096 := by omega
    clear hr1 hr2 HMA
    go_enter Try.func4, Try.ntmps4
    go_upto_region 6 with (first
      | (go_at_call 9; refine (headD_is _).mono ?_; rintro e w1 ⟨rfl, hk1⟩; have HK1 := hide1 hk1; clear hk1)
      | (go_at_call 11; refine (HE1.out _ HK1.out).mono ?_; rintro e w2 ⟨g2, ec2, cs2, rfl, hm2, hk2⟩; rw [HM1.out]; have HO2 := hide1 hm2.lo; have HC2 := hide1 (made_k HI1.out.2.1 hm2); have HK2 := hide1 (gtrans HK1.out hk2); clear hm2 hk2)
      | (go_at_call 10; refine (HMV.out p _ _ cs2 l1 (p1, e1) (by have h := HO2.out.edRd; rw [HM1.out] at h; exact h) HC2.out (by rw [HM1.out]; omega) HR1.out).mono ?_; rintro e w3 ⟨rfl, hk3⟩; dsimp only; have HK3 := hide1 (gtrans HK2.out hk3); clear hk3))
    go_upto_region 7 with (first
      | (have _g := HO4; clear _g; go_at_call 11; refine (HE2.out _ HK4.out).mono ?_; rintro e w5 ⟨g5, ec5, cs5, rfl, hm5, hk5⟩; rw [HM2.out]; have HO5 := hide1 hm5.lo; have HC5 := hide1 (made_k HI2.out.2.1 hm5); have HL5 := hide1 hm5.1; have HK45 := hide1 hk5; clear hm5 hk5)
      | (go_at_call 11; refine (HE1.out _ HK3.out).mono ?_; rintro e w4 ⟨g4, ec4, cs4, rfl, hm4, hk4⟩; rw [HM1.out]; have HO4 := hide1 hm4.lo; have HC4 := hide1 (made_k HI1.out.2.1 hm4); have HL4 := hide1 hm4.1; have HK34 := hide1 hk4; have HK4 := hide1 (gtrans HK3.out hk4); clear hm4 hk4)
      | (at_builtin; refine wpl_many (E := edE) rfl _ _ rfl w3.heap.size (.slice (some ⟨g4, 0, none⟩) m1 ec4) cs4 cs5 m1 m2 (m1 + m2) (by rw [HL4.out, HM1.out]) (by rw [HL5.out, HM2.out]) rfl rfl (by have h := HO4.out.keep HK45.out; rw [HM1.out] at h; exact h) (some ⟨g5, 0, none⟩) ec5 rfl HO5.out.src (by show (m1 + m2) * 40 ≤ 140737488355328; omega) (by unfold maxLen; omega) (Nat.le_trans HK34.out.size HK45.out.size) ?_; intro a6 c6 w6 ho6 hg6 hor6; have HO6 := hide1 ho6; have HK6 := hide1 (gtrans HK3.out (Kept.lo (gtrans HK34.out HK45.out) (HO4.out.keep HK45.out) (by rw [HM1.out]; exact hg6))); clear ho6 hg6 hor6))
    have HC6 : Hid ((cs4 ++ cs5).map edK = (l1 ++ l2).map edK) := by rw [List.map_append, List.map_append, HC4.out, HC5.out]; exact rfl
    have HRD6 : Hid (EdRd w6 (.slice a6 (m1 + m2) c6) (cs4 ++ cs5)) := HO6.out.edRd
    clear HO4 HO5 HO6 HC4 HC5 HK34 HK45 HK4 HO2 HC2 HK2
    by_cases hz : e1 = 0
    · have hc := hc2 hz
      subst hz
      have HC := hide1 hc
      clear hc1 hc2 hc
      go_wp2_with (first
        | (have _g := HO8; clear _g; go_at_call 10; refine (HMV.out p1 _ _ cs8 l2 (p2, e2) (by have h := HO8.out.edRd; rw [HM2.out] at h; exact h) HC8.out (by rw [HM2.out]; omega) HC.out).mono ?_; rintro e w9 ⟨rfl, hk9⟩; dsimp only; have HK9 := hide1 (gtrans HK8.out hk9); clear hk9)
        | (go_at_call 10; refine (HMV.out p _ _ _ (l1 ++ l2) (p2, e2) HRD6.out HC6.out (by rw [List.length_append, HM1.out, HM2.out]; omega) HR2.out).mono ?_; rintro e w7 ⟨rfl, hk7⟩; dsimp only; have HK7 := hide1 (gtrans HK6.out hk7); clear hk7)
        | (go_at_call 11; refine (HE2.out _ HK7.out).mono ?_; rintro e w8 ⟨g8, ec8, cs8, rfl, hm8, hk8⟩; rw [HM2.out]; have HO8 := hide1 hm8.lo; have HC8 := hide1 (made_k HI2.out.2.1 hm8); have HK8 := hide1 (gtrans HK7.out hk8); clear hm8 hk8))
      go_ret
      exact ⟨by simp, HK9.out⟩
    · obtain ⟨hc, hp0⟩ := hc1 hz
      injection hc with hp2 he2
      subst hp2 he2 hp0
      clear hc1 hc2
      go_wp2_with (go_at_call 10; refine (HMV.out p _ _ _ (l1 ++ l2) (0, e2) HRD6.out HC6.out (by rw [List.length_append, HM1.out, HM2.out]; omega) HR2.out).mono ?_; rintro e w7 ⟨rfl, hk7⟩; dsimp only; have HK7 := hide1 (gtrans HK6.out hk7); clear hk7)
      go_ret
      exact ⟨by simp, HK7.out⟩

end Tr
end Ex
end Go.Proofs.Ytnjmbijebckncaa
