import Derived.Test.YtemfnbccjbojfaaMDeEd
import Derived.Test.YtemfnbccjbojfaaMDeHd
import Derived.Test.YtemfnbccjbojfaaMDeLe
import Derived.Test.YtemfnbccjbojfaaMExPat
import Derived.Test.YtemfnbccjbojfaaRows
import Derived.WalkKit
import Derived.ProofKit
import Derived.OpenShut
import Derived.ShutString
import Derived.ChangeOld
import Derived.Below
import Derived.SizedLaws
namespace Go.Proofs.Ytemfnbccjbojfaa
open Go.RowKit
attribute [local go_sem] Oper.semAt_some
namespace Ex
namespace Tr

/-- What Move looks at of an edit. -/
def edK (e : EdX) : Int × Int × Nat := (e.at_, e.del, e.n)
theorem sized_k {e c : EdX} (h : edK e = edK c) : sizedB e = sizedB c := by
  unfold edK at h
  simp only [Prod.mk.injEq] at h
  unfold sizedB
  rw [h.1, h.2.1, h.2.2]
theorem moved_k {e c : EdX} (h : edK e = edK c) (p bias : Int) : movedP p bias e = movedP p bias c := by
  unfold edK at h
  simp only [Prod.mk.injEq] at h
  unfold movedP
  rw [h.1, h.2.1, h.2.2]
theorem moveL_k (bias : Int) : ∀ (l m : List EdX) (p : Int), l.map edK = m.map edK → moveL bias l p = moveL bias m p
  | [], [], _, _ => rfl
  | [], _ :: _, _, h => by simp at h
  | _ :: _, [], _, h => by simp at h
  | e :: l, c :: m, p, h => by
    simp only [List.map_cons, List.cons.injEq] at h
    unfold moveL
    rw [sized_k h.1, moved_k h.1, moveL_k bias l m _ h.2]
theorem moveP_k (p bias : Int) {l m : List EdX} (h : l.map edK = m.map edK) : moveP p bias l = moveP p bias m := by
  have hl : l.length = m.length := by have := congrArg List.length h; simpa using this
  unfold moveP
  rw [moveL_k bias l m p h, hl]
theorem made_k {w : World} {base g ec : Nat} {l cs : List EdX} {bs : List (List Int)} (hb : bs.length = l.length) (h : EdMade w base g ec l bs cs) : cs.map edK = l.map edK := by
  apply List.ext_getElem?
  intro i
  rw [List.getElem?_map, List.getElem?_map]
  rcases Nat.lt_or_ge i l.length with hi | hi
  · have h1 : l[i]? = some l[i] := List.getElem?_eq_getElem hi
    have h2 : bs[i]? = some (bs[i]'(by omega)) := List.getElem?_eq_getElem (by omega)
    have h3 : cs[i]? = some (cs[i]'(by rw [h.1]; exact hi)) := List.getElem?_eq_getElem (by rw [h.1]; exact hi)
    obtain ⟨g1, g2, g3, _⟩ := h.2.2 i _ _ _ h1 h2 h3
    rw [h1, h3]
    simp only [Option.map_some, Option.some.injEq]
    unfold edK
    rw [g1, g2, g3]
  · rw [List.getElem?_eq_none (by rw [h.1]; exact hi), List.getElem?_eq_none hi]
theorem EdMade.lo {w : World} {base g ec : Nat} {l cs : List EdX} {bs : List (List Int)} (h : EdMade w base g ec l bs cs) : LO edE w base (.slice (some ⟨g, 0, none⟩) l.length ec) cs := by
  have h2 := h.2.1
  rw [← h.1] at h2 ⊢
  rcases h2.2 with ⟨h0, _⟩ | ⟨g', cap', cur, he, hb, hg, hc, hm, hsz, hx⟩
  · cases h0
  · injection he with e1 e2 e3
    injection e1 with e1
    injection e1 with e1
    subst e1
    subst e3
    refine ⟨flatE_lenT edE cs, .inr ⟨g, ec, cur, rfl, hb, hg, ?_, hm, hsz, ?_⟩⟩
    · rw [List.length_append] at hc
      exact Nat.le_trans (Nat.le_add_right _ _) hc
    · have hle : cs.length * edE.sz ≤ (cs ++ [(⟨77, 0, none, 0, 0⟩ : EdX)]).length * edE.sz := Nat.mul_le_mul_right _ (by simp)
      have e : (cur.toList.take ((cs ++ [(⟨77, 0, none, 0, 0⟩ : EdX)]).length * edE.sz)).take (cs.length * edE.sz) = (flatE edE (cs ++ [(⟨77, 0, none, 0, 0⟩ : EdX)])).take (cs.length * edE.sz) := by rw [hx]
      rw [List.take_take, flatE_app, List.take_append_of_le_length (by rw [flatE_lenT]; exact Nat.le_refl _), Nat.min_eq_left hle] at e
      rw [e, ← flatE_lenT edE cs, List.take_length]
theorem LO.src {α : Type} {E : ElK α} {w : World} {base n c : Nat} {a : Option Addr} {l : List α} (h : LO E w base (.slice a n c) l) : Src E w a l := by
  rcases h.2 with ⟨_, h0⟩ | ⟨g, cap, cur, he, hb, hg, hc, hm, hsz, hx⟩
  · exact Or.inl (List.length_eq_zero_iff.1 h0)
  · injection he with e1
    exact Or.inr ⟨g, 0, e1, fun j u hj => by rw [Nat.zero_add]; exact row_cells hg hx j u hj⟩
theorem moveL_app (bias : Int) : ∀ (l m : List EdX) (p : Int), 0 ≤ p → p ≤ 262144 → moveL bias (l ++ m) p = (if (moveL bias l p).2 = 0 then moveL bias m (moveL bias l p).1 else moveL bias l p) ∧ ((moveL bias l p).2 ≠ 0 → (moveL bias l p).1 = 0) ∧ ((moveL bias l p).2 = 0 → 0 ≤ (moveL bias l p).1 ∧ (moveL bias l p).1 ≤ 262144)
  | [], m, p, h0, h1 => ⟨rfl, fun h => absurd rfl h, fun _ => ⟨h0, h1⟩⟩
  | e :: l, m, p, h0, h1 => by
    have ha : ∀ x : Int × Int, moveL bias (e :: l) p = (if sizedB e = true then (if 262144 < movedP p bias e then (0, 151) else moveL bias l (movedP p bias e)) else (0, 1)) := fun _ => rfl
    have hb : moveL bias (e :: l ++ m) p = (if sizedB e = true then (if 262144 < movedP p bias e then (0, 151) else moveL bias (l ++ m) (movedP p bias e)) else (0, 1)) := rfl
    rw [hb, ha (0, 0)]
    by_cases hs : sizedB e = true
    · rw [if_pos hs, if_pos hs]
      by_cases hg : 262144 < movedP p bias e
      · rw [if_pos hg, if_pos hg]
        exact ⟨by simp, fun _ => rfl, fun h => by simp at h⟩
      · rw [if_neg hg, if_neg hg]
        exact moveL_app bias l m _ (moved_low hs h0) (by omega)
    · rw [if_neg hs, if_neg hs]
      exact ⟨by simp, fun _ => rfl, fun h => by simp at h⟩
theorem chain_pure (p bias : Int) (l m : List EdX) (h : l.length + m.length ≤ 4096) : ((moveP p bias l).2 ≠ 0 → moveP p bias (l ++ m) = moveP p bias l ∧ (moveP p bias l).1 = 0) ∧ ((moveP p bias l).2 = 0 → moveP (moveP p bias l).1 bias m = moveP p bias (l ++ m)) := by
  by_cases hp : p < 0 ∨ 262144 < p
  · have e : ∀ l, moveP p bias l = (0, 151) := fun l => by unfold moveP; rw [if_pos hp]
    rw [e, e]
    exact ⟨fun _ => ⟨rfl, rfl⟩, fun h => by simp at h⟩
  · have e : ∀ l : List EdX, l.length ≤ 4096 → moveP p bias l = moveL bias l p := fun l hl => by unfold moveP; rw [if_neg hp, if_neg (by omega)]
    rw [e l (by omega), e (l ++ m) (by rw [List.length_append]; exact h)]
    obtain ⟨h1, h2, h3⟩ := moveL_app bias l m p (by omega) (by omega)
    refine ⟨fun hz => ⟨by rw [h1, if_neg hz], h2 hz⟩, fun hz => ?_⟩
    have h4 := h3 hz
    rw [h1, if_pos hz]
    unfold moveP
    rw [if_neg (by omega), if_neg (by omega)]

set_option linter.unusedSimpArgs false in
set_option maxRecDepth 100000 in
set_option maxHeartbeats 4000000 in
theorem chain_is (p bias : Int) (v1 v2 : Value) (l1 l2 : List EdX) (bs1 bs2 : List (List Int)) (w : World) (h1 : EdIn w v1 l1 bs1) (h2 : EdIn w v2 l2 bs2) (hl1 : l1.length * 40 ≤ 140737488351232) (hl2 : l2.length * 40 ≤ 140737488351232) :
    Calls Try.prog 4 #[.int .i64 p, .int .i64 bias, v1, v2] w fun e w' => e = .returned (.bool true) ∧ Kept w w' := by
  obtain ⟨m1, hm1⟩ : ∃ m, l1.length = m := ⟨_, rfl⟩
  obtain ⟨m2, hm2⟩ : ∃ m, l2.length = m := ⟨_, rfl⟩
  obtain ⟨a1, c1, rfl⟩ : ∃ a c, v1 = .slice a m1 c := by obtain ⟨⟨a, c, h, _⟩, _⟩ := h1; exact ⟨a, c, by rw [← hm1]; exact h⟩
  obtain ⟨a2, c2, rfl⟩ : ∃ a c, v2 = .slice a m2 c := by obtain ⟨⟨a, c, h, _⟩, _⟩ := h2; exact ⟨a, c, by rw [← hm2]; exact h⟩
  have HI1 := hide1 h1
  have HI2 := hide1 h2
  have HM1 := hide1 hm1
  have HM2 := hide1 hm2
  have b1 : (m1 : Int) ≤ 3518437208781 := by omega
  have b2 : (m2 : Int) ≤ 3518437208781 := by omega
  have HE1 : Hid (∀ w', Kept w w' → Calls Try.prog 11 #[.slice a1 m1 c1] w' (EdOut w' l1 bs1)) := fun w' hk => edits_is _ l1 bs1 w' (h1.keep hk) hl1
  have HE2 : Hid (∀ w', Kept w w' → Calls Try.prog 11 #[.slice a2 m2 c2] w' (EdOut w' l2 bs2)) := fun w' hk => edits_is _ l2 bs2 w' (h2.keep hk) hl2
  clear h1 h2 hl1 hl2 hm1 hm2
  by_cases hbig : (4096 : Int) < (m1 : Int) + (m2 : Int)
  · go_enter Try.func4, Try.ntmps4
    go_wp2_with (go_at_call 9; refine (headD_is _).mono ?_; rintro e w1 ⟨rfl, hk1⟩; have HK1 := hide1 hk1; clear hk1)
    go_ret
    exact ⟨rfl, HK1.out⟩
  · obtain ⟨hc1, hc2⟩ := chain_pure p bias l1 l2 (by rw [HM1.out, HM2.out]; omega)
    obtain ⟨⟨p1, e1⟩, hr1⟩ : ∃ r, moveP p bias l1 = r := ⟨_, rfl⟩
    obtain ⟨⟨p2, e2⟩, hr2⟩ : ∃ r, moveP p bias (l1 ++ l2) = r := ⟨_, rfl⟩
    rw [hr1, hr2] at hc1 hc2
    dsimp only at hc1 hc2
    have HMA : Hid (∀ w' g ec cs, EdMade w' w'.heap.size g ec l1 bs1 cs → True) := fun _ _ _ _ _ => trivial
    have HMV : Hid (∀ (q : Int) (w' : World) (v : Value) (cs l : List EdX) (r : Int × Int), EdRd w' v cs → cs.map edK = l.map edK → l.length ≤ 8192 → moveP q bias l = r → Calls Try.prog 10 #[.int .i64 q, .int .i64 bias, v] w' fun e w2 => e = .returned (.tuple #[.int .i64 r.1, .int .i64 r.2]) ∧ Kept w' w2) := fun q w' v cs l r hrd hk hlen hr => by
      have hl : cs.length = l.length := by have := congrArg List.length hk; simpa using this
      have h := moveD_is q bias v cs w' hrd (by omega)
      rw [moveP_k q bias hk, hr] at h
      exact h
    have HR1 := hide1 hr1
    have HR2 := hide1 hr2
    have hs1 : m1 ≤ 4096 := by omega
    have hs2 : m2 ≤ 4096 := by omega
    clear hr1 hr2 HMA
    go_enter Try.func4, Try.ntmps4
    go_upto_region 6 with (first
      | (go_at_call 9; refine (headD_is _).mono ?_; rintro e w1 ⟨rfl, hk1⟩; have HK1 := hide1 hk1; clear hk1)
      | (go_at_call 11; refine (HE1.out _ HK1.out).mono ?_; rintro e w2 ⟨g2, ec2, cs2, rfl, hm2, hk2⟩; rw [HM1.out]; have HO2 := hide1 hm2.lo; have HC2 := hide1 (made_k HI1.out.2.1 hm2); have HK2 := hide1 (gtrans HK1.out hk2); clear hm2 hk2)
      | (go_at_call 10; refine (HMV.out p _ _ cs2 l1 (p1, e1) (by have h := HO2.out.edRd; rw [HM1.out] at h; exact h) HC2.out (by rw [HM1.out]; omega) HR1.out).mono ?_; rintro e w3 ⟨rfl, hk3⟩; dsimp only; have HK3 := hide1 (gtrans HK2.out hk3); clear hk3))
    go_upto_region 7 with (first
      | (have _g := HO4; clear _g; go_at_call 11; refine (HE2.out _ HK4.out).mono ?_; rintro e w5 ⟨g5, ec5, cs5, rfl, hm5, hk5⟩; rw [HM2.out]; have HO5 := hide1 hm5.lo; have HC5 := hide1 (made_k HI2.out.2.1 hm5); have HL5 := hide1 hm5.1; have HK45 := hide1 hk5; clear hm5 hk5)
      | (go_at_call 11; refine (HE1.out _ HK3.out).mono ?_; rintro e w4 ⟨g4, ec4, cs4, rfl, hm4, hk4⟩; rw [HM1.out]; have HO4 := hide1 hm4.lo; have HC4 := hide1 (made_k HI1.out.2.1 hm4); have HL4 := hide1 hm4.1; have HK34 := hide1 hk4; have HK4 := hide1 (gtrans HK3.out hk4); clear hm4 hk4)
      | (at_builtin; refine wpl_many (E := edE) rfl _ _ rfl w3.heap.size (.slice (some ⟨g4, 0, none⟩) m1 ec4) cs4 cs5 m1 m2 (m1 + m2) (by rw [HL4.out, HM1.out]) (by rw [HL5.out, HM2.out]) rfl rfl (by have h := HO4.out.keep HK45.out; rw [HM1.out] at h; exact h) (some ⟨g5, 0, none⟩) ec5 rfl HO5.out.src (by show (m1 + m2) * 40 ≤ 140737488355328; omega) (by unfold maxLen; omega) (Nat.le_trans HK34.out.size HK45.out.size) ?_; intro a6 c6 w6 ho6 hg6 hor6; have HO6 := hide1 ho6; have HK6 := hide1 (gtrans HK3.out (Kept.lo (gtrans HK34.out HK45.out) (HO4.out.keep HK45.out) (by rw [HM1.out]; exact hg6))); clear ho6 hg6 hor6))
    have HC6 : Hid ((cs4 ++ cs5).map edK = (l1 ++ l2).map edK) := by rw [List.map_append, List.map_append, HC4.out, HC5.out]; exact rfl
    have HRD6 : Hid (EdRd w6 (.slice a6 (m1 + m2) c6) (cs4 ++ cs5)) := HO6.out.edRd
    clear HO4 HO5 HO6 HC4 HC5 HK34 HK45 HK4 HO2 HC2 HK2
    by_cases hz : e1 = 0
    · have hc := hc2 hz
      subst hz
      have HC := hide1 hc
      clear hc1 hc2 hc
      go_wp2_with (first
        | (have _g := HO8; clear _g; go_at_call 10; refine (HMV.out p1 _ _ cs8 l2 (p2, e2) (by have h := HO8.out.edRd; rw [HM2.out] at h; exact h) HC8.out (by rw [HM2.out]; omega) HC.out).mono ?_; rintro e w9 ⟨rfl, hk9⟩; dsimp only; have HK9 := hide1 (gtrans HK8.out hk9); clear hk9)
        | (go_at_call 10; refine (HMV.out p _ _ _ (l1 ++ l2) (p2, e2) HRD6.out HC6.out (by rw [List.length_append, HM1.out, HM2.out]; omega) HR2.out).mono ?_; rintro e w7 ⟨rfl, hk7⟩; dsimp only; have HK7 := hide1 (gtrans HK6.out hk7); clear hk7)
        | (go_at_call 11; refine (HE2.out _ HK7.out).mono ?_; rintro e w8 ⟨g8, ec8, cs8, rfl, hm8, hk8⟩; rw [HM2.out]; have HO8 := hide1 hm8.lo; have HC8 := hide1 (made_k HI2.out.2.1 hm8); have HK8 := hide1 (gtrans HK7.out hk8); clear hm8 hk8))
      go_ret
      exact ⟨by simp, HK9.out⟩
    · obtain ⟨hc, hp0⟩ := hc1 hz
      injection hc with hp2 he2
      subst hp2 he2 hp0
      clear hc1 hc2
      go_wp2_with (go_at_call 10; refine (HMV.out p _ _ _ (l1 ++ l2) (0, e2) HRD6.out HC6.out (by rw [List.length_append, HM1.out, HM2.out]; omega) HR2.out).mono ?_; rintro e w7 ⟨rfl, hk7⟩; dsimp only; have HK7 := hide1 (gtrans HK6.out hk7); clear hk7)
      go_ret
      exact ⟨by simp, HK7.out⟩

end Tr
end Ex
end Go.Proofs.Ytemfnbccjbojfaa
namespace Go.Proofs.Ytemfnbccjbojfaa
open Go.ChangeShapes Go.WideShapes Go.ChangeAt Go.RowKit
namespace Ex
namespace Tr

theorem ownD : ownKnob Try.prog.godebug = none := by kernel_rfl
theorem laidOutD : laidOutB Try.prog = true := by kernel_rfl
theorem edit_cells : Try.prog.cellsOf 24 = 3 := by kernel_rfl
theorem edit_bytes : Try.prog.bytesOf 24 = 40 := by kernel_rfl
theorem int_cellsD : Try.prog.cellsOf 3 = 1 := by kernel_rfl
theorem u8_cellsD : Try.prog.cellsOf 5 = 1 := by kernel_rfl
theorem u8_bytesD : Try.prog.bytesOf 5 = 1 := by kernel_rfl
theorem row_cellsD : Try.prog.cellsOf 22 = 1 := by kernel_rfl
theorem three {α : Type} : ∀ {l : List α}, l.length = 3 → ∃ a b c, l = [a, b, c]
  | [a, b, c], _ => ⟨a, b, c, rfl⟩
theorem flat_u8 : ∀ l : List Int, flatE u8E l = l.map (Value.int .u8)
  | [] => rfl
  | x :: l => by
    have ih := flat_u8 l
    show Value.int .u8 x :: flatE u8E l = _
    rw [ih]; rfl
section
variable {H : Type} {enc : TypeId × Value → H}
set_option maxRecDepth 100000 in
/-- A row of bytes that came in. -/
theorem bytes_src {W : World} {fuel : Nat} {v : Value} {x : DataW H × List MemPlace} (h : DataW.trod enc Try.prog W 0 (fun _ => true) true fuel 22 [v] = some x) (hz : ∀ n ∈ x.1.weights Try.prog 22, n ≤ reachBytes) :
    ∃ a len cap y, v = .slice a len cap ∧ len = y.length ∧ len ≤ cap ∧ len ≤ 140737488351232 ∧ Src u8E W a y := by
  obtain ⟨d, p⟩ := x
  rcases DataW.trod_slice Try.underlying22 h with ⟨hcs, _⟩ | ⟨a, len, cap, elems, rest, n, hn, hcs, hx, _, hl, hm, hlen, hall, _, _⟩
  · simp only [List.cons.injEq, and_true] at hcs
    subst hcs
    exact ⟨none, 0, 0, [], rfl, rfl, Nat.le_refl _, by decide, Or.inl rfl⟩
  · simp only [List.cons.injEq, and_true] at hcs
    subst hcs
    injection hx with hx1 hx2
    have hb : len ≤ 140737488351232 := by
      have := hz (_ * _) (by rw [hx1]; simp only [DataW.weights, Try.underlying22]; exact List.mem_cons_self)
      rw [u8_bytesD] at this
      simp only [List.length_map] at this
      rw [hlen] at this
      unfold reachBytes at this
      omega
    have hone : ∀ i, i < len → ∃ q : Int, W.cell? (a.add i) = some (.int .u8 q) := by
      intro i hi
      have hei := hall i hi
      obtain ⟨ei, hei2⟩ : ∃ y, elems[i]? = some y := ⟨_, List.getElem?_eq_getElem (by omega)⟩
      rw [hei2, u8_cellsD] at hei
      obtain ⟨cs', hc1, hc2⟩ := Option.bind_eq_some_iff.1 hei
      obtain ⟨_, hc3, hc4⟩ := World.cells?_some hc1
      obtain ⟨z, e1, _, _⟩ := DataW.trod_int Try.underlying5 hc2
      refine ⟨z, ?_⟩
      have h9 := hc4 0 (by omega)
      rw [e1] at h9
      rw [Nat.mul_one] at h9
      simpa [Addr.add] using h9
    by_cases h0 : len = 0
    · subst h0
      exact ⟨some a, 0, cap, [], rfl, rfl, hl, hb, Or.inl rfl⟩
    obtain ⟨Q, hQ⟩ := Go.Deep.choose_lt hone
    obtain ⟨c1, o1, t1⟩ := a
    have hspot : t1 = none := by simpa [Addr.add] using World.cell?_spot (hQ 0 (by omega))
    subst hspot
    refine ⟨some ⟨c1, o1, none⟩, len, cap, (List.range len).map Q, rfl, by simp, hl, hb, Or.inr ⟨c1, o1, rfl, fun j u hj => ?_⟩⟩
    rw [flat_u8, List.map_map, List.getElem?_map] at hj
    obtain ⟨i', hi', rfl⟩ := Option.map_eq_some_iff.1 hj
    obtain ⟨hi, he⟩ := List.getElem?_eq_some_iff.1 hi'
    rw [List.length_range] at hi
    rw [List.getElem_range] at he
    subst he
    have := hQ j hi
    rw [Addr.add_lit] at this
    exact this
/-- An edit's cells that came in. -/
def EdC (W : World) (cs : List Value) (x : EdX × List Int) : Prop := cs = [.int .i64 x.1.at_, .int .i64 x.1.del, .slice x.1.ba x.1.n x.1.bc] ∧ x.1.n = x.2.length ∧ x.1.n ≤ x.1.bc ∧ x.1.n ≤ 140737488351232 ∧ Src u8E W x.1.ba x.2
set_option maxRecDepth 100000 in
theorem edit_el {W : World} {m : Nat} {cs : List Value} {y : DataW H × List MemPlace} (hl : cs.length = 3) (h : DataW.trod enc Try.prog W 0 (fun _ => true) true m 24 cs = some y) (hz : ∀ n ∈ y.1.weights Try.prog 24, n ≤ reachBytes) : ∃ x, EdC W cs x := by
  obtain ⟨d, p⟩ := y
  obtain ⟨xs, n', hn', hx1, _, hx3, hx4⟩ := DataW.trod_struct Try.underlying24 h
  obtain ⟨v0, v1, v2, rfl⟩ := three hl
  obtain ⟨y0, y1, y2, rfl⟩ := three hx3
  have f0 : DataW.trod enc Try.prog W 0 (fun _ => true) true n' 3 [v0] = some y0 := by have := hx4 0 _ rfl; simpa [int_cellsD] using this
  have f1 : DataW.trod enc Try.prog W 0 (fun _ => true) true n' 3 [v1] = some y1 := by have := hx4 1 _ rfl; simpa [int_cellsD] using this
  have f2 : DataW.trod enc Try.prog W 0 (fun _ => true) true n' 22 [v2] = some y2 := by have := hx4 2 _ rfl; simpa [row_cellsD] using this
  obtain ⟨z0, e0, _, _⟩ := DataW.trod_int Try.underlying3 f0
  obtain ⟨z1, e1, _, _⟩ := DataW.trod_int Try.underlying3 f1
  obtain ⟨a, n, c, r, e2, h1, h2, h3, h4⟩ := bytes_src f2 (fun q hq => hz q (by
    show q ∈ d.weights Try.prog 24
    rw [(Prod.mk.inj hx1).1]
    simp only [DataW.weights, Try.underlying24]
    exact DataW.weights_mem_each (j := 2) (by rfl) (by rfl) q hq))
  simp only [List.cons.injEq, and_true] at e0 e1
  subst e0 e1 e2
  exact ⟨⟨⟨z0, z1, a, n, c⟩, r⟩, rfl, h1, h2, h3, h4⟩
set_option maxRecDepth 100000 in
/-- A list of edits that came in. -/
theorem edits_arg {W : World} {v : Value} {d : DataW H} {p : List MemPlace} (hv : ∃ a len cap, v = .slice a len cap) (h : DataW.Trod enc Try.prog W 0 (fun _ => true) true 29 v d p) (hz : ∀ n ∈ d.weights Try.prog 29, n ≤ reachBytes) : ∃ l bs, EdIn W v l bs ∧ l.length * 40 ≤ 140737488351232 := by
  obtain ⟨a0, len0, cap0, rfl⟩ := hv
  obtain ⟨fuel, hf⟩ := h
  have hf2 : DataW.trod enc Try.prog W 0 (fun _ => true) true fuel 29 [.slice a0 len0 cap0] = some (d, p) := hf
  obtain ⟨xs, hxs⟩ := slice_gen (α := EdX × List Int) ⟨⟨0, 0, none, 0, 0⟩, []⟩ Try.underlying29 3 40 edit_cells (by decide) edit_bytes (by decide) (EdC W) hf2 hz (fun m cs y _ hl hy hw => edit_el hl hy hw)
  obtain ⟨a, cap, e, h2, h3, h4⟩ := hxs
  injection e with e1 e2 e3
  subst e1 e3
  have hb : len0 * 40 ≤ 140737488351232 := by
    rcases DataW.trod_slice Try.underlying29 hf2 with ⟨hcs, _⟩ | ⟨a, len, cap, elems, rest, n, hn, hcs, hx, _, hl, hm, hlen, hall, _, _⟩
    · simp only [List.cons.injEq, and_true, Value.slice.injEq] at hcs
      omega
    · simp only [List.cons.injEq, and_true, Value.slice.injEq] at hcs
      obtain ⟨_, rfl, _⟩ := hcs
      have := hz (_ * _) (by rw [(Prod.mk.inj hx).1]; simp only [DataW.weights, Try.underlying29]; exact List.mem_cons_self)
      rw [edit_bytes] at this
      simp only [List.length_map] at this
      rw [hlen] at this
      unfold reachBytes at this
      omega
  refine ⟨xs.map (·.1), xs.map (·.2), ⟨⟨a0, cap0, ?_, ?_, fun i e he => ?_⟩, by simp, fun i e y he hy => ?_⟩, ?_⟩
  · rw [List.length_map, e2]
  · rw [List.length_map]; exact h2
  · rw [List.getElem?_map] at he
    obtain ⟨x, hx, rfl⟩ := Option.map_eq_some_iff.1 he
    rcases h4 with rfl | ⟨c, o, h5, h6, h7⟩
    · cases hx
    obtain ⟨cs, g1, g2, g3⟩ := h7 i x hx
    obtain ⟨rfl, _⟩ := g3
    exact ⟨c, o, h5, g2 0 _ rfl, g2 1 _ rfl, g2 2 _ rfl⟩
  · rw [List.getElem?_map] at he hy
    obtain ⟨x, hx, rfl⟩ := Option.map_eq_some_iff.1 he
    rw [hx] at hy
    cases hy
    rcases h4 with rfl | ⟨c, o, h5, h6, h7⟩
    · cases hx
    obtain ⟨cs, g1, g2, g3⟩ := h7 i x hx
    exact g3.2
  · rw [List.length_map, ← e2]; exact hb
end

end Tr
end Ex
end Go.Proofs.Ytemfnbccjbojfaa
namespace Go.Proofs.Ytemfnbccjbojfaa
open Go.ChangeShapes Go.WideShapes Go.ChangeAt Go.RowKit
set_option linter.unusedVariables false
namespace Ex
namespace Tr
namespace Fc

set_option maxRecDepth 100000 in
theorem lifted (os : Os) (started : os.Started) (H : Type) (enc : TypeId × Value → H) :
    ReturnsInHanded {} Try.checked os 4 .any (Rows.deltaChainSpec.pre6 enc Try.prog Try.f4 Rows.deltaChainRow.domain false) (Rows.deltaChainSpec.post enc Try.prog Try.f4 false true false false) := by
  refine returnsInHanded_of_change_sized (C := Try.checked) ownD started (by kernel_rfl) Try.func4
    (ChangeSpec.witness6 (enc := enc) (C := Try.checked) false ⟨#[], #[.int .i64 0, .int .i64 0, .slice none 0 0, .slice none 0 0], []⟩ 8 (by kernel_rfl) (by kernel_rfl) (by kernel_rfl) (by kernel_rfl)) ?_
  intro W base args ds gs before hval0 hW hcnd hsz _
  have hval : ∀ (j : Nat) t v, Try.f4.params[j]? = some t → args[j]? = some v → Value.okWide Try.prog W .any base t v := hval0
  have hW' := hW
  obtain ⟨p, q, hA0, hV, rfl, hfz, hnd⟩ := hW
  have hA : DataW.TrodAll enc Try.prog W 0 (fun _ => true) true Try.f4.params.toList args.toList ds p := hA0
  rw [Try.params4] at hA hval
  obtain ⟨v0, vs0, d0, ds0, p0, q0, hargs, rfl, rfl, h0, r0⟩ := trodAll_cons hA
  obtain ⟨v1, vs1, d1, ds1, p1, q1, rfl, rfl, rfl, h1, r1⟩ := trodAll_cons r0
  obtain ⟨v2, vs2, d2, ds2, p2, q2, rfl, rfl, rfl, h2, r2⟩ := trodAll_cons r1
  obtain ⟨v3, vs3, d3, ds3, p3, q3, rfl, rfl, rfl, h3, r3⟩ := trodAll_cons r2
  obtain ⟨rfl, rfl, rfl⟩ := trodAll_nil r3
  obtain rfl : args = #[v0, v1, v2, v3] := by cases args; simp_all
  obtain ⟨rfl, rfl⟩ := trodVars_none hV
  have s2 := okWide_slice Try.underlying29 (hval 2 29 v2 rfl rfl)
  have s3 := okWide_slice Try.underlying29 (hval 3 29 v3 rfl rfl)
  have k2 := h2
  have k3 := h3
  have lt2 : ∀ x ∈ p2, x.block < W.heap.size := by obtain ⟨m, hm⟩ := k2; exact DataW.trod_lt m _ _ _ hm
  have lt3 : ∀ x ∈ p3, x.block < W.heap.size := by obtain ⟨m, hm⟩ := k3; exact DataW.trod_lt m _ _ _ hm
  have wt2 : ∀ n ∈ d2.weights Try.prog 29, n ≤ reachBytes := fun n hn => by
    have := List.all_eq_true.1 hsz n (DataW.weights_mem_each (j := 2) (by rfl) (by rfl) n hn)
    simpa using this
  have wt3 : ∀ n ∈ d3.weights Try.prog 29, n ≤ reachBytes := fun n hn => by
    have := List.all_eq_true.1 hsz n (DataW.weights_mem_each (j := 3) (by rfl) (by rfl) n hn)
    simpa using this
  obtain ⟨l2, bs2, x2, y2⟩ := edits_arg s2 k2 wt2
  obtain ⟨l3, bs3, x3, y3⟩ := edits_arg s3 k3 wt3
  obtain ⟨a0, rfl, rfl, rfl, w0⟩ := open_int Try.underlying3 (hval 0 3 v0 rfl rfl) h0
  obtain ⟨a1, rfl, rfl, rfl, w1⟩ := open_int Try.underlying3 (hval 1 3 v1 rfl rfl) h1
  clear hA0 hval0
  refine Calls.mono (R := fun e w' => e = .returned (.bool true) ∧ Below W.heap.size W w') ((chain_is a0 a1 v2 v3 l2 l3 bs2 bs3 W x2 x3 y2 y3).mono fun _ _ h => ⟨h.1, h.2.below⟩) fun e W' ⟨he, bel⟩ => ?_
  subst he
  exact ⟨_, rfl, _, _, _, [], _, [], hW', trodAll_mk1 (shut_bool Try.underlying4 _), (trodAll_cons_mk (shut_int Try.underlying3 w0) (trodAll_cons_mk (shut_int Try.underlying3 w1) (trodAll_cons_mk (Below.trod laidOutD (by kernel_rfl) (of_decide_eq_true (by kernel_rfl)) k2 bel lt2) (trodAll_cons_mk (Below.trod laidOutD (by kernel_rfl) (of_decide_eq_true (by kernel_rfl)) k3 bel lt3) trodAll_mk0)))), rfl, bel.frame _, fun h => by cases h⟩

theorem over : Rows.deltaChainRow.holds Try.pinned (OpenSpec.ofChange Rows.deltaChainSpec) :=
  OpenClaim.holds_of_wide 4 Try.f4 rfl rfl rfl rfl rfl rfl rfl ⟨rfl, rfl, rfl, rfl, rfl⟩ rfl rfl rfl rfl rfl (by kernel_rfl) Try.func4 (by kernel_rfl)
    (of_decide_eq_true (by kernel_rfl)) (by unfold Func.isWrapper; first | (rw [if_pos (by decide +kernel)]; kernel_rfl) | (rw [if_neg (by decide +kernel)]; exact ⟨rfl, rfl⟩))
    (fun os started H enc _ => lifted os started H enc)

end Fc
end Tr
end Ex
theorem deltaChain_holds : Rows.DeltaChainSaid := Ex.Tr.Fc.over
#print axioms deltaChain_holds
end Go.Proofs.Ytemfnbccjbojfaa
