import Derived.Test.YtemfnbccjbojfaaMDeEd
import Derived.Test.YtemfnbccjbojfaaMDeHd
import Derived.BigQuiet
namespace Go.Proofs.Ytemfnbccjbojfaa
open Go.RowKit
attribute [local go_sem] Oper.semAt_some
namespace Ex
namespace Tr

/-- What Move looks at of an edit. -/
def edK (e : EdX) : Int × Int × Nat := (e.at_, e.del, e.n)
theorem sized_k {e c : EdX} (h : edK e = edK c) : sizedB e = sizedB c := by
  unfold edK at h
  simp only [Prod.mk.injEq] at h
  unfold sizedB
  rw [h.1, h.2.1, h.2.2]
theorem moved_k {e c : EdX} (h : edK e = edK c) (p bias : Int) : movedP p bias e = movedP p bias c := by
  unfold edK at h
  simp only [Prod.mk.injEq] at h
  unfold movedP
  rw [h.1, h.2.1, h.2.2]
theorem moveL_k (bias : Int) : ∀ (l m : List EdX) (p : Int), l.map edK = m.map edK → moveL bias l p = moveL bias m p
  | [], [], _, _ => rfl
  | [], _ :: _, _, h => by simp at h
  | _ :: _, [], _, h => by simp at h
  | e :: l, c :: m, p, h => by
    simp only [List.map_cons, List.cons.injEq] at h
    unfold moveL
    rw [sized_k h.1, moved_k h.1, moveL_k bias l m _ h.2]
theorem moveP_k (p bias : Int) {l m : List EdX} (h : l.map edK = m.map edK) : moveP p bias l = moveP p bias m := by
  have hl : l.length = m.length := by have := congrArg List.length h; simpa using this
  unfold moveP
  rw [moveL_k bias l m p h, hl]
theorem made_k {w : World} {base g ec : Nat} {l cs : List EdX} {bs : List (List Int)} (hb : bs.length = l.length) (h : EdMade w base g ec l bs cs) : cs.map edK = l.map edK := by
  apply List.ext_getElem?
  intro i
  rw [List.getElem?_map, List.getElem?_map]
  rcases Nat.lt_or_ge i l.length with hi | hi
  · have h1 : l[i]? = some l[i] := List.getElem?_eq_getElem hi
    have h2 : bs[i]? = some (bs[i]'(by omega)) := List.getElem?_eq_getElem (by omega)
    have h3 : cs[i]? = some (cs[i]'(by rw [h.1]; exact hi)) := List.getElem?_eq_getElem (by rw [h.1]; exact hi)
    obtain ⟨g1, g2, g3, _⟩ := h.2.2 i _ _ _ h1 h2 h3
    rw [h1, h3]
    simp only [Option.map_some, Option.some.injEq]
    unfold edK
    rw [g1, g2, g3]
  · rw [List.getElem?_eq_none (by rw [h.1]; exact hi), List.getElem?_eq_none hi]
theorem EdMade.lo {w : World} {base g ec : Nat} {l cs : List EdX} {bs : List (List Int)} (h : EdMade w base g ec l bs cs) : LO edE w base (.slice (some ⟨g, 0, none⟩) l.length ec) cs := by
  have h2 := h.2.1
  rw [← h.1] at h2 ⊢
  rcases h2.2 with ⟨h0, _⟩ | ⟨g', cap', cur, he, hb, hg, hc, hm, hsz, hx⟩
  · cases h0
  · injection he with e1 e2 e3
    injection e1 with e1
    injection e1 with e1
    subst e1
    subst e3
    refine ⟨flatE_lenT edE cs, .inr ⟨g, ec, cur, rfl, hb, hg, ?_, hm, hsz, ?_⟩⟩
    · rw [List.length_append] at hc
      exact Nat.le_trans (Nat.le_add_right _ _) hc
    · have hle : cs.length * edE.sz ≤ (cs ++ [(⟨77, 0, none, 0, 0⟩ : EdX)]).length * edE.sz := Nat.mul_le_mul_right _ (by simp)
      have e : (cur.toList.take ((cs ++ [(⟨77, 0, none, 0, 0⟩ : EdX)]).length * edE.sz)).take (cs.length * edE.sz) = (flatE edE (cs ++ [(⟨77, 0, none, 0, 0⟩ : EdX)])).take (cs.length * edE.sz) := by rw [hx]
      rw [List.take_take, flatE_app, List.take_append_of_le_length (by rw [flatE_lenT]; exact Nat.le_refl _), Nat.min_eq_left hle] at e
      rw [e, ← flatE_lenT edE cs, List.take_length]
theorem LO.src {α : Type} {E : ElK α} {w : World} {base n c : Nat} {a : Option Addr} {l : List α} (h : LO E w base (.slice a n c) l) : Src E w a l := by
  rcases h.2 with ⟨_, h0⟩ | ⟨g, cap, cur, he, hb, hg, hc, hm, hsz, hx⟩
  · exact Or.inl (List.length_eq_zero_iff.1 h0)
  · injection he with e1
    exact Or.inr ⟨g, 0, e1, fun j u hj => by rw [Nat.zero_add]; exact row_cells hg hx j u hj⟩
theorem moveL_app (bias : Int) : ∀ (l m : List EdX) (p : Int), 0 ≤ p → p ≤ 262144 → moveL bias (l ++ m) p = (if (moveL bias l p).2 = 0 then moveL bias m (moveL bias l p).1 else moveL bias l p) ∧ ((moveL bias l p).2 ≠ 0 → (moveL bias l p).1 = 0) ∧ ((moveL bias l p).2 = 0 → 0 ≤ (moveL bias l p).1 ∧ (moveL bias l p).1 ≤ 262144)
  | [], m, p, h0, h1 => ⟨rfl, fun h => absurd rfl h, fun _ => ⟨h0, h1⟩⟩
  | e :: l, m, p, h0, h1 => by
    have ha : ∀ x : Int × Int, moveL bias (e :: l) p = (if sizedB e = true then (if 262144 < movedP p bias e then (0, 151) else moveL bias l (movedP p bias e)) else (0, 1)) := fun _ => rfl
    have hb : moveL bias (e :: l ++ m) p = (if sizedB e = true then (if 262144 < movedP p bias e then (0, 151) else moveL bias (l ++ m) (movedP p bias e)) else (0, 1)) := rfl
    rw [hb, ha (0, 0)]
    by_cases hs : sizedB e = true
    · rw [if_pos hs, if_pos hs]
      by_cases hg : 262144 < movedP p bias e
      · rw [if_pos hg, if_pos hg]
        exact ⟨by simp, fun _ => rfl, fun h => by simp at h⟩
      · rw [if_neg hg, if_neg hg]
        exact moveL_app bias l m _ (moved_low hs h0) (by omega)
    · rw [if_neg hs, if_neg hs]
      exact ⟨by simp, fun _ => rfl, fun h => by simp at h⟩
theorem chain_pure (p bias : Int) (l m : List EdX) (h : l.length + m.length ≤ 4096) : ((moveP p bias l).2 ≠ 0 → moveP p bias (l ++ m) = moveP p bias l ∧ (moveP p bias l).1 = 0) ∧ ((moveP p bias l).2 = 0 → moveP (moveP p bias l).1 bias m = moveP p bias (l ++ m)) := by
  by_cases hp : p < 0 ∨ 262144 < p
  · have e : ∀ l, moveP p bias l = (0, 151) := fun l => by unfold moveP; rw [if_pos hp]
    rw [e, e]
    exact ⟨fun _ => ⟨rfl, rfl⟩, fun h => by simp at h⟩
  · have e : ∀ l : List EdX, l.length ≤ 4096 → moveP p bias l = moveL bias l p := fun l hl => by unfold moveP; rw [if_neg hp, if_neg (by omega)]
    rw [e l (by omega), e (l ++ m) (by rw [List.length_append]; exact h)]
    obtain ⟨h1, h2, h3⟩ := moveL_app bias l m p (by omega) (by omega)
    refine ⟨fun hz => ⟨by rw [h1, if_neg hz], h2 hz⟩, fun hz => ?_⟩
    have h4 := h3 hz
    rw [h1, if_pos hz]
    unfold moveP
    rw [if_neg (by omega), if_neg (by omega)]

set_option linter.unusedSimpArgs false in
set_option maxRecDepth 100000 in
set_option maxHeartbeats 4000000 in
theorem chain_is (p bias : Int) (v1 v2 : Value) (l1 l2 : List EdX) (bs1 bs2 : List (List Int)) (w : World) (h1 : EdIn w v1 l1 bs1) (h2 : EdIn w v2 l2 bs2) (hl1 : l1.length * 40 ≤ 140737488351232) (hl2 : l2.length * 40 ≤ 140737488351232) :
    Calls Try.prog 4 #[.int .i64 p, .int .i64 bias, v1, v2] w fun e w' => e = .returned (.bool true) ∧ Kept w w' := by
  obtain ⟨m1, hm1⟩ : ∃ m, l1.length = m := ⟨_, rfl⟩
  obtain ⟨m2, hm2⟩ : ∃ m, l2.length = m := ⟨_, rfl⟩
  obtain ⟨a1, c1, rfl⟩ : ∃ a c, v1 = .slice a m1 c := by obtain ⟨⟨a, c, h, _⟩, _⟩ := h1; exact ⟨a, c, by rw [← hm1]; exact h⟩
  obtain ⟨a2, c2, rfl⟩ : ∃ a c, v2 = .slice a m2 c := by obtain ⟨⟨a, c, h, _⟩, _⟩ := h2; exact ⟨a, c, by rw [← hm2]; exact h⟩
  have HI1 := hide1 h1
  have HI2 := hide1 h2
  have HM1 := hide1 hm1
  have HM2 := hide1 hm2
  have b1 : (m1 : Int) ≤ 3518437208781 := by omega
  have b2 : (m2 : Int) ≤ 3518437208781 := by omega
  have HE1 : Hid (∀ w', Kept w w' → Calls Try.prog 11 #[.slice a1 m1 c1] w' (EdOut w' l1 bs1)) := fun w' hk => edits_is _ l1 bs1 w' (h1.keep hk) hl1
  have HE2 : Hid (∀ w', Kept w w' → Calls Try.prog 11 #[.slice a2 m2 c2] w' (EdOut w' l2 bs2)) := fun w' hk => edits_is _ l2 bs2 w' (h2.keep hk) hl2
  clear h1 h2 hl1 hl2 hm1 hm2
  by_cases hbig : (4096 : Int) < (m1 : Int) + (m2 : Int)
  · go_enter Try.func4, Try.ntmps4
    go_wp2_with (go_at_call 9; refine (headD_is _).mono ?_; rintro e w1 ⟨rfl, hk1⟩; have HK1 := hide1 hk1; clear hk1)
    go_ret
    exact ⟨rfl, HK1.out⟩
  · obtain ⟨hc1, hc2⟩ := chain_pure p bias l1 l2 (by rw [HM1.out, HM2.out]; omega)
    obtain ⟨⟨p1, e1⟩, hr1⟩ : ∃ r, moveP p bias l1 = r := ⟨_, rfl⟩
    obtain ⟨⟨p2, e2⟩, hr2⟩ : ∃ r, moveP p bias (l1 ++ l2) = r := ⟨_, rfl⟩
    rw [hr1, hr2] at hc1 hc2
    dsimp only at hc1 hc2
    have HMA : Hid (∀ w' g ec cs, EdMade w' w'.heap.size g ec l1 bs1 cs → True) := fun _ _ _ _ _ => trivial
    have HMV : Hid (∀ (q : Int) (w' : World) (v : Value) (cs l : List EdX) (r : Int × Int), EdRd w' v cs → cs.map edK = l.map edK → l.length ≤ 8192 → moveP q bias l = r → Calls Try.prog 10 #[.int .i64 q, .int .i64 bias, v] w' fun e w2 => e = .returned (.tuple #[.int .i64 r.1, .int .i64 r.2]) ∧ Kept w' w2) := fun q w' v cs l r hrd hk hlen hr => by
      have hl : cs.length = l.length := by have := congrArg List.length hk; simpa using this
      have h := moveD_is q bias v cs w' hrd (by omega)
      rw [moveP_k q bias hk, hr] at h
      exact h
    have HR1 := hide1 hr1
    have HR2 := hide1 hr2
    have hs1 : m1 ≤ 4096 := by omega
    have hs2 : m2 ≤ 4096 := by omega
    clear hr1 hr2 HMA
    go_enter Try.func4, Try.ntmps4
    go_upto_region 6 with (first
      | (go_at_call 9; refine (headD_is _).mono ?_; rintro e w1 ⟨rfl, hk1⟩; have HK1 := hide1 hk1; clear hk1)
      | (go_at_call 11; refine (HE1.out _ HK1.out).mono ?_; rintro e w2 ⟨g2, ec2, cs2, rfl, hm2, hk2⟩; rw [HM1.out]; have HO2 := hide1 hm2.lo; have HC2 := hide1 (made_k HI1.out.2.1 hm2); have HK2 := hide1 (gtrans HK1.out hk2); clear hm2 hk2)
      | (go_at_call 10; refine (HMV.out p _ _ cs2 l1 (p1, e1) (by have h := HO2.out.edRd; rw [HM1.out] at h; exact h) HC2.out (by rw [HM1.out]; omega) HR1.out).mono ?_; rintro e w3 ⟨rfl, hk3⟩; dsimp only; have HK3 := hide1 (gtrans HK2.out hk3); clear hk3))
    go_upto_region 7 with (first
      | (have _g := HO4; clear _g; go_at_call 11; refine (HE2.out _ HK4.out).mono ?_; rintro e w5 ⟨g5, ec5, cs5, rfl, hm5, hk5⟩; rw [HM2.out]; have HO5 := hide1 hm5.lo; have HC5 := hide1 (made_k HI2.out.2.1 hm5); have HL5 := hide1 hm5.1; have HK45 := hide1 hk5; clear hm5 hk5)
      | (go_at_call 11; refine (HE1.out _ HK3.out).mono ?_; rintro e w4 ⟨g4, ec4, cs4, rfl, hm4, hk4⟩; rw [HM1.out]; have HO4 := hide1 hm4.lo; have HC4 := hide1 (made_k HI1.out.2.1 hm4); have HL4 := hide1 hm4.1; have HK34 := hide1 hk4; have HK4 := hide1 (gtrans HK3.out hk4); clear hm4 hk4)
      | (at_builtin; refine wpl_many (E := edE) rfl _ _ rfl w3.heap.size (.slice (some ⟨g4, 0, none⟩) m1 ec4) cs4 cs5 m1 m2 (m1 + m2) (by rw [HL4.out, HM1.out]) (by rw [HL5.out, HM2.out]) rfl rfl (by have h := HO4.out.keep HK45.out; rw [HM1.out] at h; exact h) (some ⟨g5, 0, none⟩) ec5 rfl HO5.out.src (by show (m1 + m2) * 40 ≤ 140737488355328; omega) (by unfold maxLen; omega) (Nat.le_trans HK34.out.size HK45.out.size) ?_; intro a6 c6 w6 ho6 hg6 hor6; have HO6 := hide1 ho6; have HK6 := hide1 (gtrans HK3.out (Kept.lo (gtrans HK34.out HK45.out) (HO4.out.keep HK45.out) (by rw [HM1.out]; exact hg6))); clear ho6 hg6 hor6))
    have HC6 : Hid ((cs4 ++ cs5).map edK = (l1 ++ l2).map edK) := by rw [List.map_append, List.map_append, HC4.out, HC5.out]; exact rfl
    have HRD6 : Hid (EdRd w6 (.slice a6 (m1 + m2) c6) (cs4 ++ cs5)) := HO6.out.edRd
    clear HO4 HO5 HO6 HC4 HC5 HK34 HK45 HK4 HO2 HC2 HK2
    by_cases hz : e1 = 0
    · have hc := hc2 hz
      subst hz
      have HC := hide1 hc
      clear hc1 hc2 hc
      go_wp2_with (first
        | (have _g := HO8; clear _g; go_at_call 10; refine (HMV.out p1 _ _ cs8 l2 (p2, e2) (by have h := HO8.out.edRd; rw [HM2.out] at h; exact h) HC8.out (by rw [HM2.out]; omega) HC.out).mono ?_; rintro e w9 ⟨rfl, hk9⟩; dsimp only; have HK9 := hide1 (gtrans HK8.out hk9); clear hk9)
        | (go_at_call 10; refine (HMV.out p _ _ _ (l1 ++ l2) (p2, e2) HRD6.out HC6.out (by rw [List.length_append, HM1.out, HM2.out]; omega) HR2.out).mono ?_; rintro e w7 ⟨rfl, hk7⟩; dsimp only; have HK7 := hide1 (gtrans HK6.out hk7); clear hk7)
        | (go_at_call 11; refine (HE2.out _ HK7.out).mono ?_; rintro e w8 ⟨g8, ec8, cs8, rfl, hm8, hk8⟩; rw [HM2.out]; have HO8 := hide1 hm8.lo; have HC8 := hide1 (made_k HI2.out.2.1 hm8); have HK8 := hide1 (gtrans HK7.out hk8); clear hm8 hk8))
      go_ret
      exact ⟨by simp, HK9.out⟩
    · obtain ⟨hc, hp0⟩ := hc1 hz
      injection hc with hp2 he2
      subst hp2 he2 hp0
      clear hc1 hc2
      go_wp2_with (go_at_call 10; refine (HMV.out p _ _ _ (l1 ++ l2) (0, e2) HRD6.out HC6.out (by rw [List.length_append, HM1.out, HM2.out]; omega) HR2.out).mono ?_; rintro e w7 ⟨rfl, hk7⟩; dsimp only; have HK7 := hide1 (gtrans HK6.out hk7); clear hk7)
      go_ret
      exact ⟨by simp, HK7.out⟩

end Tr
end Ex
end Go.Proofs.Ytemfnbccjbojfaa
namespace Go.Proofs.Ytemfnbccjbojfaa
open Go.RowKit
set_option linter.unusedVariables false
namespace Ex
namespace Tr

/-- Where a place goes, and where it goes with a bias below 0. -/
def xF (A D n j : Nat) : Nat := if j < A then j else if A + D < j then j - D + n else A + n
def yF (A D n j : Nat) : Nat := if j < A then j else if A + D < j then j - D + n else A
theorem move_x (A D n : Nat) (ba : Option Addr) (bc j : Nat) (hA : A ≤ 300) (hD : D ≤ 300) (hn : n ≤ 1000) (hj : j ≤ 301) : moveP (j : Int) 0 [⟨(A : Int), (D : Int), ba, n, bc⟩] = (((xF A D n j : Nat) : Int), 0) := by
  unfold moveP
  rw [if_neg (by omega), if_neg (by simp)]
  have hs : sizedB ⟨(A : Int), (D : Int), ba, n, bc⟩ = true := by unfold sizedB; simp; omega
  have hle : xF A D n j ≤ 1400 := by unfold xF; split; omega; split <;> omega
  have hm : movedP (j : Int) 0 ⟨(A : Int), (D : Int), ba, n, bc⟩ = ((xF A D n j : Nat) : Int) := by
    unfold movedP xF
    dsimp only
    by_cases h1 : j < A
    · rw [if_pos (by omega : (j : Int) < (A : Int)), if_pos h1]
    · rw [if_neg (by omega : ¬ (j : Int) < (A : Int)), if_neg h1]
      by_cases h2 : A + D < j
      · rw [if_pos (by omega : (A : Int) + (D : Int) < (j : Int)), if_pos h2]; omega
      · rw [if_neg (by omega : ¬ (A : Int) + (D : Int) < (j : Int)), if_neg h2, if_neg (by omega : ¬ (0 : Int) < 0)]; omega
  unfold moveL
  rw [if_pos hs, hm, if_neg (by omega)]
  rfl
theorem move_y (A D n : Nat) (ba : Option Addr) (bc j : Nat) (hA : A ≤ 300) (hD : D ≤ 300) (hn : n ≤ 1000) (hj : j ≤ 301) : moveP (j : Int) (-1) [⟨(A : Int), (D : Int), ba, n, bc⟩] = (((yF A D n j : Nat) : Int), 0) := by
  unfold moveP
  rw [if_neg (by omega), if_neg (by simp)]
  have hs : sizedB ⟨(A : Int), (D : Int), ba, n, bc⟩ = true := by unfold sizedB; simp; omega
  have hle : yF A D n j ≤ 1400 := by unfold yF; split; omega; split <;> omega
  have hm : movedP (j : Int) (-1) ⟨(A : Int), (D : Int), ba, n, bc⟩ = ((yF A D n j : Nat) : Int) := by
    unfold movedP yF
    dsimp only
    by_cases h1 : j < A
    · rw [if_pos (by omega : (j : Int) < (A : Int)), if_pos h1]
    · rw [if_neg (by omega : ¬ (j : Int) < (A : Int)), if_neg h1]
      by_cases h2 : A + D < j
      · rw [if_pos (by omega : (A : Int) + (D : Int) < (j : Int)), if_pos h2]; omega
      · rw [if_neg (by omega : ¬ (A : Int) + (D : Int) < (j : Int)), if_neg h2, if_pos (by omega : (-1 : Int) < 0)]
  unfold moveL
  rw [if_pos hs, hm, if_neg (by omega)]
  rfl
theorem xF_mono (A D n j : Nat) : xF A D n j ≤ xF A D n (j + 1) := by unfold xF; split <;> split <;> (try split) <;> (try split) <;> omega
theorem yF_mono (A D n j : Nat) : yF A D n j ≤ yF A D n (j + 1) := by unfold yF; split <;> split <;> (try split) <;> (try split) <;> omega
theorem yF_xF (A D n j : Nat) : yF A D n j ≤ xF A D n j := by unfold xF yF; split <;> (try split) <;> omega
theorem xF_top (A D n j N : Nat) (hA : A ≤ N) (hD : D ≤ N - A) (hj : j ≤ N) : xF A D n j ≤ A + n + (N - (A + D)) := by unfold xF; split <;> (try split) <;> omega
theorem yF_next (A D n j : Nat) (h : ¬ (A ≤ j ∧ j < A + D)) : yF A D n (j + 1) = xF A D n j + 1 := by unfold xF yF; split <;> split <;> (try split) <;> (try split) <;> omega
theorem next_at {α : Type} (A D n j N : Nat) (tb y : List α) (hN : tb.length = N) (hn : y.length = n) (hA : A ≤ N) (hj : j < N) (h : ¬ (A ≤ j ∧ j < A + D)) : (tb.take A ++ y ++ tb.drop (A + D))[xF A D n j]? = tb[j]? := by
  have hl1 : (tb.take A).length = A := by rw [List.length_take]; omega
  have hl2 : (tb.take A ++ y).length = A + n := by rw [List.length_append, hl1, hn]
  unfold xF
  by_cases h1 : j < A
  · rw [if_pos h1, List.append_assoc, List.getElem?_append_left (by omega), List.getElem?_take, if_pos h1]
  · rw [if_neg h1]
    by_cases h2 : A + D < j
    · rw [if_pos h2, List.getElem?_append_right (by omega), hl2, List.getElem?_drop]
      congr 1
      omega
    · rw [if_neg h2, List.getElem?_append_right (by omega), hl2, List.getElem?_drop]
      congr 1
      omega
theorem Src.cut {w : World} {a : Option Addr} {y : List Int} (h : Src u8E w a y) (k : Nat) : Src u8E w a (y.take k) := by
  rcases h with h | ⟨g, o, h1, h2⟩
  · exact Or.inl (by rw [h]; simp)
  · refine Or.inr ⟨g, o, h1, fun j u hj => h2 j u ?_⟩
    have e : flatE u8E y = flatE u8E (y.take k) ++ flatE u8E (y.drop k) := by rw [← flatE_app2, List.take_append_drop]
    rw [e, List.getElem?_append_left (List.getElem?_eq_some_iff.1 hj).1]
    exact hj
theorem Src.past {w : World} {g o : Nat} {y : List Int} (h : Src u8E w (some ⟨g, o, none⟩) y) (k : Nat) (hk : k ≤ y.length) : Src u8E w (some ⟨g, o + k, none⟩) (y.drop k) := by
  rcases h with h | ⟨g', o', h1, h2⟩
  · exact Or.inl (by rw [h]; simp)
  · injection h1 with h1
    injection h1 with h1 h3
    subst h1 h3
    refine Or.inr ⟨g, o + k, rfl, fun j u hj => ?_⟩
    have e : flatE u8E y = flatE u8E (y.take k) ++ flatE u8E (y.drop k) := by rw [← flatE_app2, List.take_append_drop]
    have hl : (flatE u8E (y.take k)).length = k := by rw [flatE_lenT, List.length_take, Nat.min_eq_left hk]; show k * 1 = k; omega
    have := h2 (k + j) u (by rw [e, List.getElem?_append_right (by omega), hl, Nat.add_sub_cancel_left]; exact hj)
    rw [← Nat.add_assoc] at this
    exact this

end Tr
end Ex
end Go.Proofs.Ytemfnbccjbojfaa
namespace Go.Proofs.Ytemfnbccjbojfaa
open Go.RowKit
attribute [local go_sem] Oper.semAt_some
namespace Ex
namespace Tr

set_option linter.unusedSimpArgs false
set_option linter.unusedVariables false
set_option maxRecDepth 100000
set_option maxHeartbeats 4000000
theorem flat_u8c : ∀ l : List Int, flatE u8E l = l.map (Value.int .u8)
  | [] => rfl
  | x :: l => by
    have ih := flat_u8c l
    show Value.int .u8 x :: flatE u8E l = _
    rw [ih]; rfl
theorem ed_arr {w : World} {g : Nat} {at_ del : Int} {ba : Option Addr} {n bc : Nat} (h : w.heap[g]? = some (.cells #[.int .i64 at_, .int .i64 del, .slice ba n bc] 24 (0, 0))) : EdRd w (.slice (some ⟨g, 0, none⟩) 1 1) [⟨at_, del, ba, n, bc⟩] := by
  refine ⟨_, 1, rfl, Nat.le_refl _, fun i e he => ?_⟩
  cases i with
  | zero =>
    simp only [List.getElem?_cons_zero, Option.some.injEq] at he
    subst he
    exact ⟨g, 0, rfl, by simp [World.cell?, h], by simp [World.cell?, h], by simp [World.cell?, h]⟩
  | succ i => simp at he
theorem edits1_is (at_ del : Int) (ba : Option Addr) (n bc : Nat) (y : List Int) (g : Nat) (w : World) (h : w.heap[g]? = some (.cells #[.int .i64 at_, .int .i64 del, .slice ba n bc] 24 (0, 0))) (hs : Src u8E w ba y) (hn : n = y.length) (hnc : n ≤ bc) (hn2 : n ≤ 140737488351232) :
    Calls Try.prog 11 #[.slice (some ⟨g, 0, none⟩) 1 1] w fun e w' => ∃ g' ec cs, e = .returned (.slice (some ⟨g', 0, none⟩) 1 ec) ∧ EdRd w' (.slice (some ⟨g', 0, none⟩) 1 ec) cs ∧ cs.map edK = [(⟨at_, del, ba, n, bc⟩ : EdX)].map edK ∧ Kept w w' := by
  refine (edits_is _ [⟨at_, del, ba, n, bc⟩] [y] w ⟨ed_arr h, rfl, fun i e z he hz => ?_⟩ (by simp)).mono ?_
  · cases i with
    | zero =>
      simp only [List.getElem?_cons_zero, Option.some.injEq] at he hz
      subst he hz
      exact ⟨hn, hnc, hn2, hs⟩
    | succ i => simp at he
  · rintro e w' ⟨g', ec, cs, rfl, hm, hk⟩
    exact ⟨g', ec, cs, rfl, hm.lo.edRd, made_k rfl hm, hk⟩
theorem move1_is (q bias : Int) (w : World) (v : Value) (cs : List EdX) (E : EdX) (r : Int) (hrd : EdRd w v cs) (hk : cs.map edK = [E].map edK) (_ : True) (hr : moveP q bias [E] = (r, 0)) :
    Calls Try.prog 10 #[.int .i64 q, .int .i64 bias, v] w fun e w' => e = .returned (.tuple #[.int .i64 r, .int .i64 0]) ∧ Kept w w' := by
  have hl : cs.length = 1 := by have := congrArg List.length hk; simpa using this
  have h := moveD_is q bias v cs w hrd (by omega)
  rw [moveP_k q bias hk, hr] at h
  exact h

end Tr
end Ex
end Go.Proofs.Ytemfnbccjbojfaa
namespace Go.Proofs.Ytemfnbccjbojfaa
open Go.RowKit
attribute [local go_sem] Oper.semAt_some
namespace Ex
namespace Tr

set_option linter.unusedSimpArgs false
set_option linter.unusedVariables false
set_option maxRecDepth 100000
set_option maxHeartbeats 4000000
theorem bytes_empty (a0 : Addr) (N : Nat) (tc : Nat) (ty : List Int) (at_ del : Int) (ba : Option Addr) (n bc : Nat) (y : List Int) (w : World) (hN0 : ty.length = N) (hNc0 : N ≤ tc) (hN20 : N ≤ 140737488351232) (hb : Src u8E w ba y) (hn : y.length = n) (hnc : n ≤ bc) (hn2 : n ≤ 140737488351232) (ht : ty = []) (hsm : (N : Int) = 0) :
    Calls Try.prog 3 #[.slice (some a0) N tc, .agg #[.int .i64 at_, .int .i64 del, .slice ba n bc]] w fun e w' => e = .returned (.bool true) ∧ Kept w w' := by
  have HB := hide1 hb
  have HN := hide1 hn
  have hLI : (N : Int) ≤ (tc : Int) := by omega
  have hLI2 : (N : Int) ≤ 140737488351232 := by omega
  have hnI : (n : Int) ≤ (bc : Int) := by omega
  have hnI2 : (n : Int) ≤ 140737488351232 := by omega
  obtain ⟨tb, htb⟩ : ∃ tb, ty = tb := ⟨_, rfl⟩
  have hTB : tb.length = N := by rw [← htb]; exact hN0
  have hST : Src u8E w (some a0) tb := by rw [← htb]; exact Or.inl ht
  have hN3 : (N : Int) ≤ 300 := by omega
  have HSM := hide1 hsm
  clear hsm
  clear hb hn hnc hn2 htb hN0 hNc0 hN20 ht
  go_enter Try.func3, Try.ntmps3
  go_upto_region 6 with (go_at_call 9; refine (headD_is _).mono ?_; rintro e w1 ⟨rfl, hk1⟩; have HK1 := hide1 hk1; clear hk1)
  obtain ⟨bx, hbx⟩ : ∃ b, w.heap.size = b := ⟨_, rfl⟩
  have hXB : w1.heap[bx]? = some (.cells #[.int .i64 at_, .int .i64 del, .slice ba n bc] 24 (0, 0)) := by rw [← hbx]; exact (HK1.out.2.2.2.2 _ (by simp)).trans (World.alloc_heap_new w _)
  have HKW : Hid (Kept w w1) := gtrans ((Kept.refl w).alloc _ _) HK1.out
  have hbl := (Array.getElem?_eq_some_iff.1 hXB).1
  have HBX : Hid (∀ w', Kept w1 w' → w'.heap[bx]? = some (.cells #[.int .i64 at_, .int .i64 del, .slice ba n bc] 24 (0, 0))) := fun w' hk => (hk.2.2.2.2 bx hbl).trans hXB
  obtain ⟨x0, x1, x2⟩ := cells3 hXB
  rw [hbx]
  clear HK1 hbx hXB hbl
  by_cases c1 : at_ < 0
  · go_wp2_with fail
    go_ret
    exact ⟨rfl, HKW.out⟩
  by_cases c2 : del < 0
  · go_wp2_with fail
    go_ret
    exact ⟨rfl, HKW.out⟩
  by_cases c3 : (N : Int) < at_
  · go_wp2_with fail
    go_ret
    exact ⟨rfl, HKW.out⟩
  by_cases c4 : (N : Int) - at_ < del
  · go_wp2_with fail
    go_ret
    exact ⟨rfl, HKW.out⟩
  by_cases c5 : (1000 : Int) < (n : Int)
  · go_wp2_with fail
    go_ret
    exact ⟨rfl, HKW.out⟩
  obtain ⟨A, rfl⟩ : ∃ A : Nat, at_ = (A : Int) := ⟨at_.toNat, by omega⟩
  obtain ⟨D, rfl⟩ : ∃ D : Nat, del = (D : Int) := ⟨del.toNat, by omega⟩
  have hAN : (A : Int) ≤ (N : Int) := by omega
  have hDN : (A : Int) + (D : Int) ≤ (N : Int) := by omega
  have hNc : (N : Int) ≤ (tc : Int) := by omega
  have HTB : Hid (tb.length = N) := hTB
  have HSA : Hid (Src u8E w (some a0) (tb.take A)) := hST.cut A
  have hAl : (tb.take A).length = A := by rw [List.length_take, hTB]; omega
  have HAL := hide1 hAl
  have hDl : (tb.drop (A + D)).length = N - (A + D) := by rw [List.length_drop, hTB]
  have HDL := hide1 hDl
  have HST := hide1 hST
  clear hST hTB hAl hDl
  go_upto_region 10 with (at_builtin; refine wpl_many (E := u8E) rfl _ _ rfl w1.heap.size (.slice none 0 0) [] (tb.take A) 0 A A rfl HAL.out (Nat.zero_add A) rfl (LO.nil _ _) (some a0) tc rfl (HSA.out.keep HKW.out) (by show A * 1 ≤ 140737488355328; omega) (by unfold maxLen; omega) (Nat.le_refl _) ?_; intro a2 c2' w2 ho2 hg2 hor2; have HO2 := hide1 ho2; have HK2 := hide1 (Kept.lo (Kept.refl w1) (LO.nil (E := u8E) w1 w1.heap.size) hg2); clear ho2 hg2 hor2)
  obtain ⟨y0, y1, y2⟩ := cells3 (HBX.out _ HK2.out)
  go_upto_region 11 with (at_builtin; refine wpl_many (E := u8E) rfl _ _ rfl w1.heap.size (.slice a2 A c2') ([] ++ tb.take A) y A n (A + n) (by rw [List.nil_append]; exact HAL.out) HN.out rfl rfl HO2.out ba bc rfl (HB.out.keep (gtrans HKW.out HK2.out)) (by show (A + n) * 1 ≤ 140737488355328; omega) (by unfold maxLen; omega) HK2.out.size ?_; intro a3 c3' w3 ho3 hg3 hor3; have HO3 := hide1 ho3; have HK3 := hide1 (Kept.lo HK2.out HO2.out hg3); clear ho3 hg3 hor3)
  obtain ⟨z0, z1, z2⟩ := cells3 (HBX.out _ HK3.out)
  clear x0 x1 x2 y0 y1 y2 HO2
  obtain ⟨M, hM⟩ : ∃ M, A + n + (N - (A + D)) = M := ⟨_, rfl⟩
  have HME := hide1 hM
  have hMI : (M : Int) = (A : Int) + (n : Int) + ((N : Int) - ((A : Int) + (D : Int))) := by omega
  clear hM
  by_cases htc : tc = A + D
  · go_upto_region 12 with (at_builtin; refine wpl_many (E := u8E) rfl _ _ rfl w1.heap.size (.slice a3 (A + n) c3') ([] ++ tb.take A ++ y) (tb.drop (A + D)) (A + n) (N - (A + D)) M (by rw [List.length_append, List.nil_append, HAL.out, HN.out]) HDL.out HME.out rfl HO3.out _ _ rfl (by first | exact Or.inl (List.drop_of_length_le (by rw [HTB.out]; omega)) | exact Or.inl (List.drop_of_length_le (by rw [HTB.out]; have := HSM.out; omega)) | exact Src.past (HST.out.keep (gtrans HKW.out HK3.out)) (A + D) (by rw [HTB.out]; omega)) (by show M * 1 ≤ 140737488355328; omega) (by unfold maxLen; omega) HK3.out.size ?_; intro a4 c4' w4 ho4 hg4 hor4; have HO4 := hide1 ho4; have HK4 := hide1 (Kept.lo HK3.out HO3.out hg4); clear ho4 hg4 hor4)
    clear HO3 HK3 z0 z1 z2 HK2 HSA HAL HDL
    have HW4 : Hid (Kept w w4) := gtrans HKW.out HK4.out
    go_wp2_with fail
    go_loopw [7, 8, 9] (fun v7 v8 v9 wr => ∃ (j : Nat) (lv bv : Int), v7 = .int .i64 lv ∧ v8 = .int .i64 bv ∧ v9 = .int .i64 (j : Int) ∧ j ≤ N + 1 ∧ Hid (lv ≤ (xF A D n j : Int) ∧ bv ≤ (yF A D n j : Int) ∧ Kept w4 wr)) (fun _ _ v9 _ => N + 1 - (intOf v9).toNat)
    case atStart => exact ⟨0, 0, 0, rfl, rfl, rfl, by omega, by omega, by omega, Kept.refl w4⟩
    case round =>
      obtain ⟨j, lv, bv, rfl, rfl, rfl, hj, hI⟩ := hrel
      by_cases hjN : j ≤ N
      · obtain ⟨i1, i2, i3⟩ := hI.out
        have hyx := yF_xF A D n j
        have htop := xF_top A D n j N (by omega) (by omega) hjN
        have hmx := xF_mono A D n j
        have hmy := yF_mono A D n j
        have hMX := move_x A D n ba bc j (by omega) (by omega) (by omega) (by omega)
        have hMY := move_y A D n ba bc j (by omega) (by omega) (by omega) (by omega)
        have hMZ := move_y A D n ba bc (j + 1) (by omega) (by omega) (by omega) (by omega)
        have HYN := hide1 (yF_next A D n j)
        have HNX := hide1 (fun (h1 : j < N) h2 => next_at A D n j N tb y HTB.out HN.out (by omega) h1 h2)
        obtain ⟨xn, hxn⟩ : ∃ x, xF A D n j = x := ⟨_, rfl⟩
        obtain ⟨yn, hyn⟩ : ∃ x, yF A D n j = x := ⟨_, rfl⟩
        rw [hxn] at hyx htop hmx hMX i1 HYN HNX
        rw [hyn] at hyx hmy hMY i2
        have HMX := hide1 hMX
        have HMY := hide1 hMY
        have HMZ := hide1 hMZ
        have HMO := hide1 (And.intro hmx hmy)
        have hyxI : (yn : Int) ≤ (xn : Int) := by omega
        have hxM : (xn : Int) ≤ (M : Int) := by rw [← HME.out]; omega
        have hjI : (j : Int) ≤ (N : Int) := by omega
        have hxB : (xn : Int) ≤ 2000 := by omega
        have HKR := hide1 i3
        obtain ⟨x0, x1, x2⟩ := cells3 (HBX.out _ (gtrans HK4.out i3))
        clear hI hmx hmy hMX hMY hMZ hxn hyn i3 htop hyx
        go_upto_region 18 with (first
        | (go_at_call 11; refine (edits1_is (A : Int) (D : Int) ba n bc y _ _ (World.alloc_heap_new _ _) (HB.out.keep (gtrans HW4.out (gtrans HKR.out ((Kept.refl _).alloc _ _)))) HN.out.symm (by omega) (by omega)).mono ?_; rintro e w5 ⟨gw5, ecw5, csw5, rfl, hr5, hc5, hk5⟩; have HR5 := hide1 hr5; have HC5 := hide1 hc5; have HKA := hide1 (gtrans (gtrans HKR.out ((Kept.refl _).alloc _ _)) hk5); clear hr5 hc5 hk5)
        | (go_at_call 10; refine (move1_is (j : Int) 0 _ _ _ _ (xn : Int) HR5.out HC5.out trivial HMX.out).mono ?_; rintro e w6 ⟨rfl, hk6⟩; have HKw6 := hide1 (gtrans HKA.out hk6); clear hk6))
        obtain ⟨y0, y1, y2⟩ := cells3 (HBX.out _ (gtrans HK4.out HKw6.out))
        clear HR5 HC5 HKA x0 x1 x2
        go_upto_region 19 with (first
        | (go_at_call 11; refine (edits1_is (A : Int) (D : Int) ba n bc y _ _ (World.alloc_heap_new _ _) (HB.out.keep (gtrans HW4.out (gtrans HKw6.out ((Kept.refl _).alloc _ _)))) HN.out.symm (by omega) (by omega)).mono ?_; rintro e w7 ⟨gw7, ecw7, csw7, rfl, hr5, hc5, hk5⟩; have HR5 := hide1 hr5; have HC5 := hide1 hc5; have HKA := hide1 (gtrans (gtrans HKw6.out ((Kept.refl _).alloc _ _)) hk5); clear hr5 hc5 hk5)
        | (go_at_call 10; refine (move1_is (j : Int) (-1) _ _ _ _ (yn : Int) HR5.out HC5.out trivial HMY.out).mono ?_; rintro e w8 ⟨rfl, hk6⟩; have HKw8 := hide1 (gtrans HKA.out hk6); clear hk6))
        obtain ⟨z0, z1, z2⟩ := cells3 (HBX.out _ (gtrans HK4.out HKw8.out))
        clear HR5 HC5 HKA y0 y1 y2
        by_cases e1 : j = N
        · have e1I : (j : Int) = (N : Int) := by omega
          subst e1
          go_wp2_with fail
          exact ⟨⟨j + 1, (xn : Int), (yn : Int), rfl, rfl, by simp, by omega, by have := HMO.out.1; omega, by have := HMO.out.2; omega, HKw8.out⟩, by simp [intOf] <;> omega⟩
        exact absurd (by have := HSM.out; omega : j = N) e1
      · obtain rfl : j = N + 1 := by omega
        have HI := hide1 hI.out
        clear hI
        go_wp2_with fail
        go_ret
        exact ⟨rfl, gtrans HW4.out HI.out.2.2⟩
  · go_upto_region 12 with (at_builtin; refine wpl_many (E := u8E) rfl _ _ rfl w1.heap.size (.slice a3 (A + n) c3') ([] ++ tb.take A ++ y) (tb.drop (A + D)) (A + n) (N - (A + D)) M (by rw [List.length_append, List.nil_append, HAL.out, HN.out]) HDL.out HME.out rfl HO3.out _ _ rfl (by first | exact Or.inl (List.drop_of_length_le (by rw [HTB.out]; omega)) | exact Or.inl (List.drop_of_length_le (by rw [HTB.out]; have := HSM.out; omega)) | exact Src.past (HST.out.keep (gtrans HKW.out HK3.out)) (A + D) (by rw [HTB.out]; omega)) (by show M * 1 ≤ 140737488355328; omega) (by unfold maxLen; omega) HK3.out.size ?_; intro a4 c4' w4 ho4 hg4 hor4; have HO4 := hide1 ho4; have HK4 := hide1 (Kept.lo HK3.out HO3.out hg4); clear ho4 hg4 hor4)
    clear HO3 HK3 z0 z1 z2 HK2 HSA HAL HDL
    have HW4 : Hid (Kept w w4) := gtrans HKW.out HK4.out
    go_wp2_with fail
    go_loopw [7, 8, 9] (fun v7 v8 v9 wr => ∃ (j : Nat) (lv bv : Int), v7 = .int .i64 lv ∧ v8 = .int .i64 bv ∧ v9 = .int .i64 (j : Int) ∧ j ≤ N + 1 ∧ Hid (lv ≤ (xF A D n j : Int) ∧ bv ≤ (yF A D n j : Int) ∧ Kept w4 wr)) (fun _ _ v9 _ => N + 1 - (intOf v9).toNat)
    case atStart => exact ⟨0, 0, 0, rfl, rfl, rfl, by omega, by omega, by omega, Kept.refl w4⟩
    case round =>
      obtain ⟨j, lv, bv, rfl, rfl, rfl, hj, hI⟩ := hrel
      by_cases hjN : j ≤ N
      · obtain ⟨i1, i2, i3⟩ := hI.out
        have hyx := yF_xF A D n j
        have htop := xF_top A D n j N (by omega) (by omega) hjN
        have hmx := xF_mono A D n j
        have hmy := yF_mono A D n j
        have hMX := move_x A D n ba bc j (by omega) (by omega) (by omega) (by omega)
        have hMY := move_y A D n ba bc j (by omega) (by omega) (by omega) (by omega)
        have hMZ := move_y A D n ba bc (j + 1) (by omega) (by omega) (by omega) (by omega)
        have HYN := hide1 (yF_next A D n j)
        have HNX := hide1 (fun (h1 : j < N) h2 => next_at A D n j N tb y HTB.out HN.out (by omega) h1 h2)
        obtain ⟨xn, hxn⟩ : ∃ x, xF A D n j = x := ⟨_, rfl⟩
        obtain ⟨yn, hyn⟩ : ∃ x, yF A D n j = x := ⟨_, rfl⟩
        rw [hxn] at hyx htop hmx hMX i1 HYN HNX
        rw [hyn] at hyx hmy hMY i2
        have HMX := hide1 hMX
        have HMY := hide1 hMY
        have HMZ := hide1 hMZ
        have HMO := hide1 (And.intro hmx hmy)
        have hyxI : (yn : Int) ≤ (xn : Int) := by omega
        have hxM : (xn : Int) ≤ (M : Int) := by rw [← HME.out]; omega
        have hjI : (j : Int) ≤ (N : Int) := by omega
        have hxB : (xn : Int) ≤ 2000 := by omega
        have HKR := hide1 i3
        obtain ⟨x0, x1, x2⟩ := cells3 (HBX.out _ (gtrans HK4.out i3))
        clear hI hmx hmy hMX hMY hMZ hxn hyn i3 htop hyx
        go_upto_region 18 with (first
        | (go_at_call 11; refine (edits1_is (A : Int) (D : Int) ba n bc y _ _ (World.alloc_heap_new _ _) (HB.out.keep (gtrans HW4.out (gtrans HKR.out ((Kept.refl _).alloc _ _)))) HN.out.symm (by omega) (by omega)).mono ?_; rintro e w5 ⟨gw5, ecw5, csw5, rfl, hr5, hc5, hk5⟩; have HR5 := hide1 hr5; have HC5 := hide1 hc5; have HKA := hide1 (gtrans (gtrans HKR.out ((Kept.refl _).alloc _ _)) hk5); clear hr5 hc5 hk5)
        | (go_at_call 10; refine (move1_is (j : Int) 0 _ _ _ _ (xn : Int) HR5.out HC5.out trivial HMX.out).mono ?_; rintro e w6 ⟨rfl, hk6⟩; have HKw6 := hide1 (gtrans HKA.out hk6); clear hk6))
        obtain ⟨y0, y1, y2⟩ := cells3 (HBX.out _ (gtrans HK4.out HKw6.out))
        clear HR5 HC5 HKA x0 x1 x2
        go_upto_region 19 with (first
        | (go_at_call 11; refine (edits1_is (A : Int) (D : Int) ba n bc y _ _ (World.alloc_heap_new _ _) (HB.out.keep (gtrans HW4.out (gtrans HKw6.out ((Kept.refl _).alloc _ _)))) HN.out.symm (by omega) (by omega)).mono ?_; rintro e w7 ⟨gw7, ecw7, csw7, rfl, hr5, hc5, hk5⟩; have HR5 := hide1 hr5; have HC5 := hide1 hc5; have HKA := hide1 (gtrans (gtrans HKw6.out ((Kept.refl _).alloc _ _)) hk5); clear hr5 hc5 hk5)
        | (go_at_call 10; refine (move1_is (j : Int) (-1) _ _ _ _ (yn : Int) HR5.out HC5.out trivial HMY.out).mono ?_; rintro e w8 ⟨rfl, hk6⟩; have HKw8 := hide1 (gtrans HKA.out hk6); clear hk6))
        obtain ⟨z0, z1, z2⟩ := cells3 (HBX.out _ (gtrans HK4.out HKw8.out))
        clear HR5 HC5 HKA y0 y1 y2
        by_cases e1 : j = N
        · have e1I : (j : Int) = (N : Int) := by omega
          subst e1
          go_wp2_with fail
          exact ⟨⟨j + 1, (xn : Int), (yn : Int), rfl, rfl, by simp, by omega, by have := HMO.out.1; omega, by have := HMO.out.2; omega, HKw8.out⟩, by simp [intOf] <;> omega⟩
        exact absurd (by have := HSM.out; omega : j = N) e1
      · obtain rfl : j = N + 1 := by omega
        have HI := hide1 hI.out
        clear hI
        go_wp2_with fail
        go_ret
        exact ⟨rfl, gtrans HW4.out HI.out.2.2⟩

end Tr
end Ex
end Go.Proofs.Ytemfnbccjbojfaa
namespace Go.Proofs.Ytemfnbccjbojfaa
open Go.RowKit
attribute [local go_sem] Oper.semAt_some
namespace Ex
namespace Tr

set_option linter.unusedSimpArgs false
set_option linter.unusedVariables false
set_option maxRecDepth 100000
set_option maxHeartbeats 4000000
theorem bytes_none  (N : Nat) (tc : Nat) (ty : List Int) (at_ del : Int) (ba : Option Addr) (n bc : Nat) (y : List Int) (w : World) (hN0 : ty.length = N) (hNc0 : N ≤ tc) (hN20 : N ≤ 140737488351232) (hb : Src u8E w ba y) (hn : y.length = n) (hnc : n ≤ bc) (hn2 : n ≤ 140737488351232) (ht : ty = []) (hsm : (N : Int) = 0) :
    Calls Try.prog 3 #[.slice (none) N tc, .agg #[.int .i64 at_, .int .i64 del, .slice ba n bc]] w fun e w' => e = .returned (.bool true) ∧ Kept w w' := by
  have HB := hide1 hb
  have HN := hide1 hn
  have hLI : (N : Int) ≤ (tc : Int) := by omega
  have hLI2 : (N : Int) ≤ 140737488351232 := by omega
  have hnI : (n : Int) ≤ (bc : Int) := by omega
  have hnI2 : (n : Int) ≤ 140737488351232 := by omega
  obtain ⟨tb, htb⟩ : ∃ tb, ty = tb := ⟨_, rfl⟩
  have hTB : tb.length = N := by rw [← htb]; exact hN0
  have hST : Src u8E w (none) tb := by rw [← htb]; exact Or.inl ht
  have hN3 : (N : Int) ≤ 300 := by omega
  have HSM := hide1 hsm
  clear hsm
  clear hb hn hnc hn2 htb hN0 hNc0 hN20 ht
  go_enter Try.func3, Try.ntmps3
  go_upto_region 6 with (go_at_call 9; refine (headD_is _).mono ?_; rintro e w1 ⟨rfl, hk1⟩; have HK1 := hide1 hk1; clear hk1)
  obtain ⟨bx, hbx⟩ : ∃ b, w.heap.size = b := ⟨_, rfl⟩
  have hXB : w1.heap[bx]? = some (.cells #[.int .i64 at_, .int .i64 del, .slice ba n bc] 24 (0, 0)) := by rw [← hbx]; exact (HK1.out.2.2.2.2 _ (by simp)).trans (World.alloc_heap_new w _)
  have HKW : Hid (Kept w w1) := gtrans ((Kept.refl w).alloc _ _) HK1.out
  have hbl := (Array.getElem?_eq_some_iff.1 hXB).1
  have HBX : Hid (∀ w', Kept w1 w' → w'.heap[bx]? = some (.cells #[.int .i64 at_, .int .i64 del, .slice ba n bc] 24 (0, 0))) := fun w' hk => (hk.2.2.2.2 bx hbl).trans hXB
  obtain ⟨x0, x1, x2⟩ := cells3 hXB
  rw [hbx]
  clear HK1 hbx hXB hbl
  by_cases c1 : at_ < 0
  · go_wp2_with fail
    go_ret
    exact ⟨rfl, HKW.out⟩
  by_cases c2 : del < 0
  · go_wp2_with fail
    go_ret
    exact ⟨rfl, HKW.out⟩
  by_cases c3 : (N : Int) < at_
  · go_wp2_with fail
    go_ret
    exact ⟨rfl, HKW.out⟩
  by_cases c4 : (N : Int) - at_ < del
  · go_wp2_with fail
    go_ret
    exact ⟨rfl, HKW.out⟩
  by_cases c5 : (1000 : Int) < (n : Int)
  · go_wp2_with fail
    go_ret
    exact ⟨rfl, HKW.out⟩
  obtain ⟨A, rfl⟩ : ∃ A : Nat, at_ = (A : Int) := ⟨at_.toNat, by omega⟩
  obtain ⟨D, rfl⟩ : ∃ D : Nat, del = (D : Int) := ⟨del.toNat, by omega⟩
  have hAN : (A : Int) ≤ (N : Int) := by omega
  have hDN : (A : Int) + (D : Int) ≤ (N : Int) := by omega
  have hNc : (N : Int) ≤ (tc : Int) := by omega
  have HTB : Hid (tb.length = N) := hTB
  have HSA : Hid (Src u8E w (none) (tb.take A)) := hST.cut A
  have hAl : (tb.take A).length = A := by rw [List.length_take, hTB]; omega
  have HAL := hide1 hAl
  have hDl : (tb.drop (A + D)).length = N - (A + D) := by rw [List.length_drop, hTB]
  have HDL := hide1 hDl
  have HST := hide1 hST
  clear hST hTB hAl hDl
  go_upto_region 10 with (at_builtin; refine wpl_many (E := u8E) rfl _ _ rfl w1.heap.size (.slice none 0 0) [] (tb.take A) 0 A A rfl HAL.out (Nat.zero_add A) rfl (LO.nil _ _) (none) tc rfl (HSA.out.keep HKW.out) (by show A * 1 ≤ 140737488355328; omega) (by unfold maxLen; omega) (Nat.le_refl _) ?_; intro a2 c2' w2 ho2 hg2 hor2; have HO2 := hide1 ho2; have HK2 := hide1 (Kept.lo (Kept.refl w1) (LO.nil (E := u8E) w1 w1.heap.size) hg2); clear ho2 hg2 hor2)
  obtain ⟨y0, y1, y2⟩ := cells3 (HBX.out _ HK2.out)
  go_upto_region 11 with (at_builtin; refine wpl_many (E := u8E) rfl _ _ rfl w1.heap.size (.slice a2 A c2') ([] ++ tb.take A) y A n (A + n) (by rw [List.nil_append]; exact HAL.out) HN.out rfl rfl HO2.out ba bc rfl (HB.out.keep (gtrans HKW.out HK2.out)) (by show (A + n) * 1 ≤ 140737488355328; omega) (by unfold maxLen; omega) HK2.out.size ?_; intro a3 c3' w3 ho3 hg3 hor3; have HO3 := hide1 ho3; have HK3 := hide1 (Kept.lo HK2.out HO2.out hg3); clear ho3 hg3 hor3)
  obtain ⟨z0, z1, z2⟩ := cells3 (HBX.out _ HK3.out)
  clear x0 x1 x2 y0 y1 y2 HO2
  obtain ⟨M, hM⟩ : ∃ M, A + n + (N - (A + D)) = M := ⟨_, rfl⟩
  have HME := hide1 hM
  have hMI : (M : Int) = (A : Int) + (n : Int) + ((N : Int) - ((A : Int) + (D : Int))) := by omega
  clear hM
  by_cases htc : tc = A + D
  · go_upto_region 12 with (at_builtin; refine wpl_many (E := u8E) rfl _ _ rfl w1.heap.size (.slice a3 (A + n) c3') ([] ++ tb.take A ++ y) (tb.drop (A + D)) (A + n) (N - (A + D)) M (by rw [List.length_append, List.nil_append, HAL.out, HN.out]) HDL.out HME.out rfl HO3.out _ _ rfl (by first | exact Or.inl (List.drop_of_length_le (by rw [HTB.out]; omega)) | exact Or.inl (List.drop_of_length_le (by rw [HTB.out]; have := HSM.out; omega)) | exact Src.past (HST.out.keep (gtrans HKW.out HK3.out)) (A + D) (by rw [HTB.out]; omega)) (by show M * 1 ≤ 140737488355328; omega) (by unfold maxLen; omega) HK3.out.size ?_; intro a4 c4' w4 ho4 hg4 hor4; have HO4 := hide1 ho4; have HK4 := hide1 (Kept.lo HK3.out HO3.out hg4); clear ho4 hg4 hor4)
    clear HO3 HK3 z0 z1 z2 HK2 HSA HAL HDL
    have HW4 : Hid (Kept w w4) := gtrans HKW.out HK4.out
    go_wp2_with fail
    go_loopw [7, 8, 9] (fun v7 v8 v9 wr => ∃ (j : Nat) (lv bv : Int), v7 = .int .i64 lv ∧ v8 = .int .i64 bv ∧ v9 = .int .i64 (j : Int) ∧ j ≤ N + 1 ∧ Hid (lv ≤ (xF A D n j : Int) ∧ bv ≤ (yF A D n j : Int) ∧ Kept w4 wr)) (fun _ _ v9 _ => N + 1 - (intOf v9).toNat)
    case atStart => exact ⟨0, 0, 0, rfl, rfl, rfl, by omega, by omega, by omega, Kept.refl w4⟩
    case round =>
      obtain ⟨j, lv, bv, rfl, rfl, rfl, hj, hI⟩ := hrel
      by_cases hjN : j ≤ N
      · obtain ⟨i1, i2, i3⟩ := hI.out
        have hyx := yF_xF A D n j
        have htop := xF_top A D n j N (by omega) (by omega) hjN
        have hmx := xF_mono A D n j
        have hmy := yF_mono A D n j
        have hMX := move_x A D n ba bc j (by omega) (by omega) (by omega) (by omega)
        have hMY := move_y A D n ba bc j (by omega) (by omega) (by omega) (by omega)
        have hMZ := move_y A D n ba bc (j + 1) (by omega) (by omega) (by omega) (by omega)
        have HYN := hide1 (yF_next A D n j)
        have HNX := hide1 (fun (h1 : j < N) h2 => next_at A D n j N tb y HTB.out HN.out (by omega) h1 h2)
        obtain ⟨xn, hxn⟩ : ∃ x, xF A D n j = x := ⟨_, rfl⟩
        obtain ⟨yn, hyn⟩ : ∃ x, yF A D n j = x := ⟨_, rfl⟩
        rw [hxn] at hyx htop hmx hMX i1 HYN HNX
        rw [hyn] at hyx hmy hMY i2
        have HMX := hide1 hMX
        have HMY := hide1 hMY
        have HMZ := hide1 hMZ
        have HMO := hide1 (And.intro hmx hmy)
        have hyxI : (yn : Int) ≤ (xn : Int) := by omega
        have hxM : (xn : Int) ≤ (M : Int) := by rw [← HME.out]; omega
        have hjI : (j : Int) ≤ (N : Int) := by omega
        have hxB : (xn : Int) ≤ 2000 := by omega
        have HKR := hide1 i3
        obtain ⟨x0, x1, x2⟩ := cells3 (HBX.out _ (gtrans HK4.out i3))
        clear hI hmx hmy hMX hMY hMZ hxn hyn i3 htop hyx
        go_upto_region 18 with (first
        | (go_at_call 11; refine (edits1_is (A : Int) (D : Int) ba n bc y _ _ (World.alloc_heap_new _ _) (HB.out.keep (gtrans HW4.out (gtrans HKR.out ((Kept.refl _).alloc _ _)))) HN.out.symm (by omega) (by omega)).mono ?_; rintro e w5 ⟨gw5, ecw5, csw5, rfl, hr5, hc5, hk5⟩; have HR5 := hide1 hr5; have HC5 := hide1 hc5; have HKA := hide1 (gtrans (gtrans HKR.out ((Kept.refl _).alloc _ _)) hk5); clear hr5 hc5 hk5)
        | (go_at_call 10; refine (move1_is (j : Int) 0 _ _ _ _ (xn : Int) HR5.out HC5.out trivial HMX.out).mono ?_; rintro e w6 ⟨rfl, hk6⟩; have HKw6 := hide1 (gtrans HKA.out hk6); clear hk6))
        obtain ⟨y0, y1, y2⟩ := cells3 (HBX.out _ (gtrans HK4.out HKw6.out))
        clear HR5 HC5 HKA x0 x1 x2
        go_upto_region 19 with (first
        | (go_at_call 11; refine (edits1_is (A : Int) (D : Int) ba n bc y _ _ (World.alloc_heap_new _ _) (HB.out.keep (gtrans HW4.out (gtrans HKw6.out ((Kept.refl _).alloc _ _)))) HN.out.symm (by omega) (by omega)).mono ?_; rintro e w7 ⟨gw7, ecw7, csw7, rfl, hr5, hc5, hk5⟩; have HR5 := hide1 hr5; have HC5 := hide1 hc5; have HKA := hide1 (gtrans (gtrans HKw6.out ((Kept.refl _).alloc _ _)) hk5); clear hr5 hc5 hk5)
        | (go_at_call 10; refine (move1_is (j : Int) (-1) _ _ _ _ (yn : Int) HR5.out HC5.out trivial HMY.out).mono ?_; rintro e w8 ⟨rfl, hk6⟩; have HKw8 := hide1 (gtrans HKA.out hk6); clear hk6))
        obtain ⟨z0, z1, z2⟩ := cells3 (HBX.out _ (gtrans HK4.out HKw8.out))
        clear HR5 HC5 HKA y0 y1 y2
        by_cases e1 : j = N
        · have e1I : (j : Int) = (N : Int) := by omega
          subst e1
          go_wp2_with fail
          exact ⟨⟨j + 1, (xn : Int), (yn : Int), rfl, rfl, by simp, by omega, by have := HMO.out.1; omega, by have := HMO.out.2; omega, HKw8.out⟩, by simp [intOf] <;> omega⟩
        exact absurd (by have := HSM.out; omega : j = N) e1
      · obtain rfl : j = N + 1 := by omega
        have HI := hide1 hI.out
        clear hI
        go_wp2_with fail
        go_ret
        exact ⟨rfl, gtrans HW4.out HI.out.2.2⟩
  · go_upto_region 12 with (at_builtin; refine wpl_many (E := u8E) rfl _ _ rfl w1.heap.size (.slice a3 (A + n) c3') ([] ++ tb.take A ++ y) (tb.drop (A + D)) (A + n) (N - (A + D)) M (by rw [List.length_append, List.nil_append, HAL.out, HN.out]) HDL.out HME.out rfl HO3.out _ _ rfl (by first | exact Or.inl (List.drop_of_length_le (by rw [HTB.out]; omega)) | exact Or.inl (List.drop_of_length_le (by rw [HTB.out]; have := HSM.out; omega)) | exact Src.past (HST.out.keep (gtrans HKW.out HK3.out)) (A + D) (by rw [HTB.out]; omega)) (by show M * 1 ≤ 140737488355328; omega) (by unfold maxLen; omega) HK3.out.size ?_; intro a4 c4' w4 ho4 hg4 hor4; have HO4 := hide1 ho4; have HK4 := hide1 (Kept.lo HK3.out HO3.out hg4); clear ho4 hg4 hor4)
    clear HO3 HK3 z0 z1 z2 HK2 HSA HAL HDL
    have HW4 : Hid (Kept w w4) := gtrans HKW.out HK4.out
    go_wp2_with fail
    go_loopw [7, 8, 9] (fun v7 v8 v9 wr => ∃ (j : Nat) (lv bv : Int), v7 = .int .i64 lv ∧ v8 = .int .i64 bv ∧ v9 = .int .i64 (j : Int) ∧ j ≤ N + 1 ∧ Hid (lv ≤ (xF A D n j : Int) ∧ bv ≤ (yF A D n j : Int) ∧ Kept w4 wr)) (fun _ _ v9 _ => N + 1 - (intOf v9).toNat)
    case atStart => exact ⟨0, 0, 0, rfl, rfl, rfl, by omega, by omega, by omega, Kept.refl w4⟩
    case round =>
      obtain ⟨j, lv, bv, rfl, rfl, rfl, hj, hI⟩ := hrel
      by_cases hjN : j ≤ N
      · obtain ⟨i1, i2, i3⟩ := hI.out
        have hyx := yF_xF A D n j
        have htop := xF_top A D n j N (by omega) (by omega) hjN
        have hmx := xF_mono A D n j
        have hmy := yF_mono A D n j
        have hMX := move_x A D n ba bc j (by omega) (by omega) (by omega) (by omega)
        have hMY := move_y A D n ba bc j (by omega) (by omega) (by omega) (by omega)
        have hMZ := move_y A D n ba bc (j + 1) (by omega) (by omega) (by omega) (by omega)
        have HYN := hide1 (yF_next A D n j)
        have HNX := hide1 (fun (h1 : j < N) h2 => next_at A D n j N tb y HTB.out HN.out (by omega) h1 h2)
        obtain ⟨xn, hxn⟩ : ∃ x, xF A D n j = x := ⟨_, rfl⟩
        obtain ⟨yn, hyn⟩ : ∃ x, yF A D n j = x := ⟨_, rfl⟩
        rw [hxn] at hyx htop hmx hMX i1 HYN HNX
        rw [hyn] at hyx hmy hMY i2
        have HMX := hide1 hMX
        have HMY := hide1 hMY
        have HMZ := hide1 hMZ
        have HMO := hide1 (And.intro hmx hmy)
        have hyxI : (yn : Int) ≤ (xn : Int) := by omega
        have hxM : (xn : Int) ≤ (M : Int) := by rw [← HME.out]; omega
        have hjI : (j : Int) ≤ (N : Int) := by omega
        have hxB : (xn : Int) ≤ 2000 := by omega
        have HKR := hide1 i3
        obtain ⟨x0, x1, x2⟩ := cells3 (HBX.out _ (gtrans HK4.out i3))
        clear hI hmx hmy hMX hMY hMZ hxn hyn i3 htop hyx
        go_upto_region 18 with (first
        | (go_at_call 11; refine (edits1_is (A : Int) (D : Int) ba n bc y _ _ (World.alloc_heap_new _ _) (HB.out.keep (gtrans HW4.out (gtrans HKR.out ((Kept.refl _).alloc _ _)))) HN.out.symm (by omega) (by omega)).mono ?_; rintro e w5 ⟨gw5, ecw5, csw5, rfl, hr5, hc5, hk5⟩; have HR5 := hide1 hr5; have HC5 := hide1 hc5; have HKA := hide1 (gtrans (gtrans HKR.out ((Kept.refl _).alloc _ _)) hk5); clear hr5 hc5 hk5)
        | (go_at_call 10; refine (move1_is (j : Int) 0 _ _ _ _ (xn : Int) HR5.out HC5.out trivial HMX.out).mono ?_; rintro e w6 ⟨rfl, hk6⟩; have HKw6 := hide1 (gtrans HKA.out hk6); clear hk6))
        obtain ⟨y0, y1, y2⟩ := cells3 (HBX.out _ (gtrans HK4.out HKw6.out))
        clear HR5 HC5 HKA x0 x1 x2
        go_upto_region 19 with (first
        | (go_at_call 11; refine (edits1_is (A : Int) (D : Int) ba n bc y _ _ (World.alloc_heap_new _ _) (HB.out.keep (gtrans HW4.out (gtrans HKw6.out ((Kept.refl _).alloc _ _)))) HN.out.symm (by omega) (by omega)).mono ?_; rintro e w7 ⟨gw7, ecw7, csw7, rfl, hr5, hc5, hk5⟩; have HR5 := hide1 hr5; have HC5 := hide1 hc5; have HKA := hide1 (gtrans (gtrans HKw6.out ((Kept.refl _).alloc _ _)) hk5); clear hr5 hc5 hk5)
        | (go_at_call 10; refine (move1_is (j : Int) (-1) _ _ _ _ (yn : Int) HR5.out HC5.out trivial HMY.out).mono ?_; rintro e w8 ⟨rfl, hk6⟩; have HKw8 := hide1 (gtrans HKA.out hk6); clear hk6))
        obtain ⟨z0, z1, z2⟩ := cells3 (HBX.out _ (gtrans HK4.out HKw8.out))
        clear HR5 HC5 HKA y0 y1 y2
        by_cases e1 : j = N
        · have e1I : (j : Int) = (N : Int) := by omega
          subst e1
          go_wp2_with fail
          exact ⟨⟨j + 1, (xn : Int), (yn : Int), rfl, rfl, by simp, by omega, by have := HMO.out.1; omega, by have := HMO.out.2; omega, HKw8.out⟩, by simp [intOf] <;> omega⟩
        exact absurd (by have := HSM.out; omega : j = N) e1
      · obtain rfl : j = N + 1 := by omega
        have HI := hide1 hI.out
        clear hI
        go_wp2_with fail
        go_ret
        exact ⟨rfl, gtrans HW4.out HI.out.2.2⟩

end Tr
end Ex
end Go.Proofs.Ytemfnbccjbojfaa
