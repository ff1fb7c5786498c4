import Derived.Test.YtemfnbccjbojfaaMDeLo
import Derived.Test.YtemfnbccjbojfaaMDeEd
import Derived.Test.YtemfnbccjbojfaaMDeHd
import Derived.Laws.BytesString
import Derived.BigQuiet
import Derived.Laws.CopyRow
import Derived.Test.YtemfnbccjbojfaaMExPat
import Derived.Test.YtemfnbccjbojfaaMDeLe
import Derived.Test.YtemfnbccjbojfaaRows
import Derived.WalkKit
import Derived.ProofKit
import Derived.OpenShut
import Derived.ShutString
import Derived.ChangeOld
import Derived.Below
import Derived.SizedLaws
namespace Go.Proofs.Ytemfnbccjbojfaa
open Go.RowKit
attribute [local go_sem] Oper.semAt_some
namespace Ex
namespace Tr

set_option linter.unusedSimpArgs false in
set_option maxRecDepth 100000 in
set_option maxHeartbeats 8000000 in
theorem moveR_is (p bias : Int) (v : Value) (l : List EdX) (w : World) (hl : EdRd w v l) (hlen : l.length ≤ 4611686018427387904) :
    Calls Try.prog 12 #[.int .i64 p, .int .i64 bias, v] w fun e w' => e = .returned (.tuple #[.int .i64 (moveP p bias l).1, .int .i64 (moveP p bias l).2]) ∧ Kept w w' := by
  obtain ⟨m, hm⟩ : ∃ m, l.length = m := ⟨_, rfl⟩
  obtain ⟨va, vc, rfl⟩ : ∃ a c, v = .slice a m c := by obtain ⟨a, c, h, _⟩ := hl; exact ⟨a, c, by rw [← hm]; exact h⟩
  have hcap : m ≤ vc := by obtain ⟨a, c, h, h2, _⟩ := hl; injection h with _ _ h3; subst h3; rw [← hm]; exact h2
  have HL := hide1 hl
  have HM := hide1 hm
  have hmI : (m : Int) ≤ 4611686018427387904 := by omega
  have hcI : (m : Int) ≤ (vc : Int) := by omega
  clear hl hlen hcap
  unfold moveP
  by_cases h1 : p < 0
  · rw [if_pos (Or.inl h1)]
    clear hm
    go_enter Try.func12, Try.ntmps12
    go_wp2_with fail
    go_ret2
    exact ⟨rfl, Kept.refl w⟩
  · by_cases h2 : 262144 < p
    · rw [if_pos (Or.inr h2)]
      clear hm
      go_enter Try.func12, Try.ntmps12
      go_wp2_with fail
      go_ret2
      exact ⟨rfl, Kept.refl w⟩
    · rw [if_neg (by omega)]
      by_cases h3 : (4096 : Int) < (m : Int)
      · rw [if_pos (by omega)]
        clear hm
        go_enter Try.func12, Try.ntmps12
        go_wp2_with fail
        go_ret2
        exact ⟨rfl, Kept.refl w⟩
      · rw [if_neg (by omega)]
        obtain ⟨rs, hrs⟩ : ∃ rs, moveL bias l p = rs := ⟨_, rfl⟩
        rw [hrs]
        have HRS := hide1 hrs
        clear hm hrs
        go_enter Try.func12, Try.ntmps12
        go_wp2_with fail
        go_loopw [0, 8] (fun v0 v8 wr => ∃ (q : Int) (j : Nat), v0 = .int .i64 q ∧ v8 = .int .i64 (j : Int) ∧ j ≤ m ∧ 0 ≤ q ∧ q ≤ 262144 ∧ Hid (moveL bias (l.drop j) q = rs ∧ Kept w wr)) (fun _ v8 _ => m - (intOf v8).toNat)
        case atStart => exact ⟨p, 0, rfl, rfl, Nat.zero_le _, by omega, by omega, by rw [List.drop_zero]; exact HRS.out, Kept.refl w⟩
        case round =>
          obtain ⟨q, j, rfl, rfl, hj, hq0, hq1, hI⟩ := hrel
          clear h1 h2
          by_cases hjm : j < m
          · obtain ⟨⟨at_, del, ba, n, bc⟩, he⟩ : ∃ e, l[j]? = some e := ⟨_, List.getElem?_eq_getElem (by rw [HM.out]; exact hjm)⟩
            obtain ⟨a', cap', hv', _, hrd⟩ := HL.out.keep hI.out.2
            obtain ⟨g, o, rfl, r0, r1, r2⟩ := hrd j _ he
            injection hv' with hv1 hv2 hv3
            subst hv1
            dsimp only at r0 r1 r2
            have hd : l.drop j = ⟨at_, del, ba, n, bc⟩ :: l.drop (j + 1) := by
              have h9 := List.getElem?_eq_some_iff.1 he
              rw [List.drop_eq_getElem_cons h9.1, h9.2]
            have hst := hI.out.1
            rw [hd, moveL] at hst
            have HST := hide1 hst
            have HKR := hide1 (gtrans hI.out.2 ((Kept.refl wr).alloc #[.int .i64 at_, .int .i64 del, .slice ba n bc] 24))
            have hjI : (j : Int) < (m : Int) := by omega
            have hjN : ¬ ((m : Int) ≤ (j : Int)) := by omega
            clear hv2 hv3 hrd he hd hst hI
            by_cases z0 : 0 ≤ at_
            · by_cases z1 : at_ ≤ 262144
              · by_cases z2 : 0 ≤ del
                · by_cases z3 : del ≤ 262144
                  · by_cases z4 : (n : Int) ≤ 262144
                    · have hs : sizedB ⟨at_, del, ba, n, bc⟩ = true := by unfold sizedB; simp [z0, z1, z2, z3, z4]
                      have hlow := moved_low (bias := bias) hs hq0
                      rw [if_pos hs] at HST
                      clear hs
                      by_cases y0 : q < at_
                      · have hmv : movedP q bias ⟨at_, del, ba, n, bc⟩ = q := by unfold movedP; rw [if_pos y0]
                        rw [hmv] at HST hlow
                        clear hmv
                        by_cases hbig : 262144 < q
                        · exact absurd hbig (by omega)
                        · rw [if_neg hbig] at HST
                          go_wp2_with fail
                          go_roundw
                          case rel => exact ⟨_, j + 1, rfl, by simp, by omega, hlow, by omega, HST.out, HKR.out⟩
                          case measure => simp [intOf]; omega
                      · by_cases y1 : at_ + del < q
                        · have hmv : movedP q bias ⟨at_, del, ba, n, bc⟩ = q - del + (n : Int) := by unfold movedP; rw [if_neg y0, if_pos y1]
                          rw [hmv] at HST hlow
                          clear hmv
                          by_cases hbig : 262144 < q - del + (n : Int)
                          · rw [if_pos hbig] at HST
                            go_wp2_with fail
                            go_ret2
                            exact ⟨by rw [← HST.out]; rfl, HKR.out⟩
                          · rw [if_neg hbig] at HST
                            go_wp2_with fail
                            go_roundw
                            case rel => exact ⟨_, j + 1, rfl, by simp, by omega, hlow, by omega, HST.out, HKR.out⟩
                            case measure => simp [intOf]; omega
                        · by_cases y2 : bias < 0
                          · have hmv : movedP q bias ⟨at_, del, ba, n, bc⟩ = at_ := by unfold movedP; rw [if_neg y0, if_neg y1, if_pos y2]
                            rw [hmv] at HST hlow
                            clear hmv
                            by_cases hbig : 262144 < at_
                            · exact absurd hbig (by omega)
                            · rw [if_neg hbig] at HST
                              go_wp2_with fail
                              go_roundw
                              case rel => exact ⟨_, j + 1, rfl, by simp, by omega, hlow, by omega, HST.out, HKR.out⟩
                              case measure => simp [intOf]; omega
                          · have hmv : movedP q bias ⟨at_, del, ba, n, bc⟩ = at_ + (n : Int) := by unfold movedP; rw [if_neg y0, if_neg y1, if_neg y2]
                            rw [hmv] at HST hlow
                            clear hmv
                            by_cases hbig : 262144 < at_ + (n : Int)
                            · rw [if_pos hbig] at HST
                              go_wp2_with fail
                              go_ret2
                              exact ⟨by rw [← HST.out]; rfl, HKR.out⟩
                            · rw [if_neg hbig] at HST
                              go_wp2_with fail
                              go_roundw
                              case rel => exact ⟨_, j + 1, rfl, by simp, by omega, hlow, by omega, HST.out, HKR.out⟩
                              case measure => simp [intOf]; omega
                    · have hs : ¬ (sizedB ⟨at_, del, ba, n, bc⟩ = true) := by unfold sizedB; simp; omega
                      rw [if_neg hs] at HST
                      clear hs
                      go_wp2_with fail
                      go_ret2
                      exact ⟨by rw [← HST.out]; rfl, HKR.out⟩
                  · have hs : ¬ (sizedB ⟨at_, del, ba, n, bc⟩ = true) := by unfold sizedB; simp; omega
                    rw [if_neg hs] at HST
                    clear hs
                    go_wp2_with fail
                    go_ret2
                    exact ⟨by rw [← HST.out]; rfl, HKR.out⟩
                · have hs : ¬ (sizedB ⟨at_, del, ba, n, bc⟩ = true) := by unfold sizedB; simp; omega
                  rw [if_neg hs] at HST
                  clear hs
                  go_wp2_with fail
                  go_ret2
                  exact ⟨by rw [← HST.out]; rfl, HKR.out⟩
              · have hs : ¬ (sizedB ⟨at_, del, ba, n, bc⟩ = true) := by unfold sizedB; simp; omega
                rw [if_neg hs] at HST
                clear hs
                go_wp2_with fail
                go_ret2
                exact ⟨by rw [← HST.out]; rfl, HKR.out⟩
            · have hs : ¬ (sizedB ⟨at_, del, ba, n, bc⟩ = true) := by unfold sizedB; simp; omega
              rw [if_neg hs] at HST
              clear hs
              go_wp2_with fail
              go_ret2
              exact ⟨by rw [← HST.out]; rfl, HKR.out⟩
          · have hjm' : (m : Int) ≤ (j : Int) := by omega
            have hst := hI.out.1
            rw [List.drop_eq_nil_of_le (by rw [HM.out]; omega), moveL] at hst
            have HST := hide1 hst
            have HKR := hide1 hI.out.2
            have hjb : ¬ ((j : Int) < (m : Int)) := by omega
            clear hst hI hjm
            go_wp2_with fail
            go_ret2
            exact ⟨by rw [← HST.out]; rfl, HKR.out⟩

end Tr
end Ex
end Go.Proofs.Ytemfnbccjbojfaa
namespace Go.Proofs.Ytemfnbccjbojfaa
open Go.RowKit
attribute [local go_sem] Oper.semAt_some
namespace Ex
namespace Tr

/-- What Move looks at of an edit. -/
def edK (e : EdX) : Int × Int × Nat := (e.at_, e.del, e.n)
theorem sized_k {e c : EdX} (h : edK e = edK c) : sizedB e = sizedB c := by
  unfold edK at h
  simp only [Prod.mk.injEq] at h
  unfold sizedB
  rw [h.1, h.2.1, h.2.2]
theorem moved_k {e c : EdX} (h : edK e = edK c) (p bias : Int) : movedP p bias e = movedP p bias c := by
  unfold edK at h
  simp only [Prod.mk.injEq] at h
  unfold movedP
  rw [h.1, h.2.1, h.2.2]
theorem moveL_k (bias : Int) : ∀ (l m : List EdX) (p : Int), l.map edK = m.map edK → moveL bias l p = moveL bias m p
  | [], [], _, _ => rfl
  | [], _ :: _, _, h => by simp at h
  | _ :: _, [], _, h => by simp at h
  | e :: l, c :: m, p, h => by
    simp only [List.map_cons, List.cons.injEq] at h
    unfold moveL
    rw [sized_k h.1, moved_k h.1, moveL_k bias l m _ h.2]
theorem moveP_k (p bias : Int) {l m : List EdX} (h : l.map edK = m.map edK) : moveP p bias l = moveP p bias m := by
  have hl : l.length = m.length := by have := congrArg List.length h; simpa using this
  unfold moveP
  rw [moveL_k bias l m p h, hl]
theorem made_k {w : World} {base g ec : Nat} {l cs : List EdX} {bs : List (List Int)} (hb : bs.length = l.length) (h : EdMade w base g ec l bs cs) : cs.map edK = l.map edK := by
  apply List.ext_getElem?
  intro i
  rw [List.getElem?_map, List.getElem?_map]
  rcases Nat.lt_or_ge i l.length with hi | hi
  · have h1 : l[i]? = some l[i] := List.getElem?_eq_getElem hi
    have h2 : bs[i]? = some (bs[i]'(by omega)) := List.getElem?_eq_getElem (by omega)
    have h3 : cs[i]? = some (cs[i]'(by rw [h.1]; exact hi)) := List.getElem?_eq_getElem (by rw [h.1]; exact hi)
    obtain ⟨g1, g2, g3, _⟩ := h.2.2 i _ _ _ h1 h2 h3
    rw [h1, h3]
    simp only [Option.map_some, Option.some.injEq]
    unfold edK
    rw [g1, g2, g3]
  · rw [List.getElem?_eq_none (by rw [h.1]; exact hi), List.getElem?_eq_none hi]
theorem EdMade.lo {w : World} {base g ec : Nat} {l cs : List EdX} {bs : List (List Int)} (h : EdMade w base g ec l bs cs) : LO edE w base (.slice (some ⟨g, 0, none⟩) l.length ec) cs := by
  have h2 := h.2.1
  rw [← h.1] at h2 ⊢
  rcases h2.2 with ⟨h0, _⟩ | ⟨g', cap', cur, he, hb, hg, hc, hm, hsz, hx⟩
  · cases h0
  · injection he with e1 e2 e3
    injection e1 with e1
    injection e1 with e1
    subst e1
    subst e3
    refine ⟨flatE_lenT edE cs, .inr ⟨g, ec, cur, rfl, hb, hg, ?_, hm, hsz, ?_⟩⟩
    · rw [List.length_append] at hc
      exact Nat.le_trans (Nat.le_add_right _ _) hc
    · have hle : cs.length * edE.sz ≤ (cs ++ [(⟨77, 0, none, 0, 0⟩ : EdX)]).length * edE.sz := Nat.mul_le_mul_right _ (by simp)
      have e : (cur.toList.take ((cs ++ [(⟨77, 0, none, 0, 0⟩ : EdX)]).length * edE.sz)).take (cs.length * edE.sz) = (flatE edE (cs ++ [(⟨77, 0, none, 0, 0⟩ : EdX)])).take (cs.length * edE.sz) := by rw [hx]
      rw [List.take_take, flatE_app, List.take_append_of_le_length (by rw [flatE_lenT]; exact Nat.le_refl _), Nat.min_eq_left hle] at e
      rw [e, ← flatE_lenT edE cs, List.take_length]
theorem LO.src {α : Type} {E : ElK α} {w : World} {base n c : Nat} {a : Option Addr} {l : List α} (h : LO E w base (.slice a n c) l) : Src E w a l := by
  rcases h.2 with ⟨_, h0⟩ | ⟨g, cap, cur, he, hb, hg, hc, hm, hsz, hx⟩
  · exact Or.inl (List.length_eq_zero_iff.1 h0)
  · injection he with e1
    exact Or.inr ⟨g, 0, e1, fun j u hj => by rw [Nat.zero_add]; exact row_cells hg hx j u hj⟩
theorem moveL_app (bias : Int) : ∀ (l m : List EdX) (p : Int), 0 ≤ p → p ≤ 262144 → moveL bias (l ++ m) p = (if (moveL bias l p).2 = 0 then moveL bias m (moveL bias l p).1 else moveL bias l p) ∧ ((moveL bias l p).2 ≠ 0 → (moveL bias l p).1 = 0) ∧ ((moveL bias l p).2 = 0 → 0 ≤ (moveL bias l p).1 ∧ (moveL bias l p).1 ≤ 262144)
  | [], m, p, h0, h1 => ⟨rfl, fun h => absurd rfl h, fun _ => ⟨h0, h1⟩⟩
  | e :: l, m, p, h0, h1 => by
    have ha : ∀ x : Int × Int, moveL bias (e :: l) p = (if sizedB e = true then (if 262144 < movedP p bias e then (0, 151) else moveL bias l (movedP p bias e)) else (0, 1)) := fun _ => rfl
    have hb : moveL bias (e :: l ++ m) p = (if sizedB e = true then (if 262144 < movedP p bias e then (0, 151) else moveL bias (l ++ m) (movedP p bias e)) else (0, 1)) := rfl
    rw [hb, ha (0, 0)]
    by_cases hs : sizedB e = true
    · rw [if_pos hs, if_pos hs]
      by_cases hg : 262144 < movedP p bias e
      · rw [if_pos hg, if_pos hg]
        exact ⟨by simp, fun _ => rfl, fun h => by simp at h⟩
      · rw [if_neg hg, if_neg hg]
        exact moveL_app bias l m _ (moved_low hs h0) (by omega)
    · rw [if_neg hs, if_neg hs]
      exact ⟨by simp, fun _ => rfl, fun h => by simp at h⟩
theorem chain_pure (p bias : Int) (l m : List EdX) (h : l.length + m.length ≤ 4096) : ((moveP p bias l).2 ≠ 0 → moveP p bias (l ++ m) = moveP p bias l ∧ (moveP p bias l).1 = 0) ∧ ((moveP p bias l).2 = 0 → moveP (moveP p bias l).1 bias m = moveP p bias (l ++ m)) := by
  by_cases hp : p < 0 ∨ 262144 < p
  · have e : ∀ l, moveP p bias l = (0, 151) := fun l => by unfold moveP; rw [if_pos hp]
    rw [e, e]
    exact ⟨fun _ => ⟨rfl, rfl⟩, fun h => by simp at h⟩
  · have e : ∀ l : List EdX, l.length ≤ 4096 → moveP p bias l = moveL bias l p := fun l hl => by unfold moveP; rw [if_neg hp, if_neg (by omega)]
    rw [e l (by omega), e (l ++ m) (by rw [List.length_append]; exact h)]
    obtain ⟨h1, h2, h3⟩ := moveL_app bias l m p (by omega) (by omega)
    refine ⟨fun hz => ⟨by rw [h1, if_neg hz], h2 hz⟩, fun hz => ?_⟩
    have h4 := h3 hz
    rw [h1, if_pos hz]
    unfold moveP
    rw [if_neg (by omega), if_neg (by omega)]

set_option linter.unusedSimpArgs false in
set_option maxRecDepth 100000 in
set_option maxHeartbeats 4000000 in
theorem chain_is (p bias : Int) (v1 v2 : Value) (l1 l2 : List EdX) (bs1 bs2 : List (List Int)) (w : World) (h1 : EdIn w v1 l1 bs1) (h2 : EdIn w v2 l2 bs2) (hl1 : l1.length * 40 ≤ 140737488351232) (hl2 : l2.length * 40 ≤ 140737488351232) :
    Calls Try.prog 4 #[.int .i64 p, .int .i64 bias, v1, v2] w fun e w' => e = .returned (.bool true) ∧ Kept w w' := by
  obtain ⟨m1, hm1⟩ : ∃ m, l1.length = m := ⟨_, rfl⟩
  obtain ⟨m2, hm2⟩ : ∃ m, l2.length = m := ⟨_, rfl⟩
  obtain ⟨a1, c1, rfl⟩ : ∃ a c, v1 = .slice a m1 c := by obtain ⟨⟨a, c, h, _⟩, _⟩ := h1; exact ⟨a, c, by rw [← hm1]; exact h⟩
  obtain ⟨a2, c2, rfl⟩ : ∃ a c, v2 = .slice a m2 c := by obtain ⟨⟨a, c, h, _⟩, _⟩ := h2; exact ⟨a, c, by rw [← hm2]; exact h⟩
  have HI1 := hide1 h1
  have HI2 := hide1 h2
  have HM1 := hide1 hm1
  have HM2 := hide1 hm2
  have b1 : (m1 : Int) ≤ 3518437208781 := by omega
  have b2 : (m2 : Int) ≤ 3518437208781 := by omega
  have HE1 : Hid (∀ w', Kept w w' → Calls Try.prog 11 #[.slice a1 m1 c1] w' (EdOut w' l1 bs1)) := fun w' hk => edits_is _ l1 bs1 w' (h1.keep hk) hl1
  have HE2 : Hid (∀ w', Kept w w' → Calls Try.prog 11 #[.slice a2 m2 c2] w' (EdOut w' l2 bs2)) := fun w' hk => edits_is _ l2 bs2 w' (h2.keep hk) hl2
  clear h1 h2 hl1 hl2 hm1 hm2
  by_cases hbig : (4096 : Int) < (m1 : Int) + (m2 : Int)
  · go_enter Try.func4, Try.ntmps4
    go_wp2_with (go_at_call 9; refine (headD_is _).mono ?_; rintro e w1 ⟨rfl, hk1⟩; have HK1 := hide1 hk1; clear hk1)
    go_ret
    exact ⟨rfl, HK1.out⟩
  · obtain ⟨hc1, hc2⟩ := chain_pure p bias l1 l2 (by rw [HM1.out, HM2.out]; omega)
    obtain ⟨⟨p1, e1⟩, hr1⟩ : ∃ r, moveP p bias l1 = r := ⟨_, rfl⟩
    obtain ⟨⟨p2, e2⟩, hr2⟩ : ∃ r, moveP p bias (l1 ++ l2) = r := ⟨_, rfl⟩
    rw [hr1, hr2] at hc1 hc2
    dsimp only at hc1 hc2
    have HMA : Hid (∀ w' g ec cs, EdMade w' w'.heap.size g ec l1 bs1 cs → True) := fun _ _ _ _ _ => trivial
    have HMV : Hid (∀ (q : Int) (w' : World) (v : Value) (cs l : List EdX) (r : Int × Int), EdRd w' v cs → cs.map edK = l.map edK → l.length ≤ 8192 → moveP q bias l = r → Calls Try.prog 10 #[.int .i64 q, .int .i64 bias, v] w' fun e w2 => e = .returned (.tuple #[.int .i64 r.1, .int .i64 r.2]) ∧ Kept w' w2) := fun q w' v cs l r hrd hk hlen hr => by
      have hl : cs.length = l.length := by have := congrArg List.length hk; simpa using this
      have h := moveD_is q bias v cs w' hrd (by omega)
      rw [moveP_k q bias hk, hr] at h
      exact h
    have HR1 := hide1 hr1
    have HR2 := hide1 hr2
    have hs1 : m1 ≤ 4096 := by omega
    have hs2 : m2 ≤ 4096 := by omega
    clear hr1 hr2 HMA
    go_enter Try.func4, Try.ntmps4
    go_upto_region 6 with (first
      | (go_at_call 9; refine (headD_is _).mono ?_; rintro e w1 ⟨rfl, hk1⟩; have HK1 := hide1 hk1; clear hk1)
      | (go_at_call 11; refine (HE1.out _ HK1.out).mono ?_; rintro e w2 ⟨g2, ec2, cs2, rfl, hm2, hk2⟩; rw [HM1.out]; have HO2 := hide1 hm2.lo; have HC2 := hide1 (made_k HI1.out.2.1 hm2); have HK2 := hide1 (gtrans HK1.out hk2); clear hm2 hk2)
      | (go_at_call 10; refine (HMV.out p _ _ cs2 l1 (p1, e1) (by have h := HO2.out.edRd; rw [HM1.out] at h; exact h) HC2.out (by rw [HM1.out]; omega) HR1.out).mono ?_; rintro e w3 ⟨rfl, hk3⟩; dsimp only; have HK3 := hide1 (gtrans HK2.out hk3); clear hk3))
    go_upto_region 7 with (first
      | (have _g := HO4; clear _g; go_at_call 11; refine (HE2.out _ HK4.out).mono ?_; rintro e w5 ⟨g5, ec5, cs5, rfl, hm5, hk5⟩; rw [HM2.out]; have HO5 := hide1 hm5.lo; have HC5 := hide1 (made_k HI2.out.2.1 hm5); have HL5 := hide1 hm5.1; have HK45 := hide1 hk5; clear hm5 hk5)
      | (go_at_call 11; refine (HE1.out _ HK3.out).mono ?_; rintro e w4 ⟨g4, ec4, cs4, rfl, hm4, hk4⟩; rw [HM1.out]; have HO4 := hide1 hm4.lo; have HC4 := hide1 (made_k HI1.out.2.1 hm4); have HL4 := hide1 hm4.1; have HK34 := hide1 hk4; have HK4 := hide1 (gtrans HK3.out hk4); clear hm4 hk4)
      | (at_builtin; refine wpl_many (E := edE) rfl _ _ rfl w3.heap.size (.slice (some ⟨g4, 0, none⟩) m1 ec4) cs4 cs5 m1 m2 (m1 + m2) (by rw [HL4.out, HM1.out]) (by rw [HL5.out, HM2.out]) rfl rfl (by have h := HO4.out.keep HK45.out; rw [HM1.out] at h; exact h) (some ⟨g5, 0, none⟩) ec5 rfl HO5.out.src (by show (m1 + m2) * 40 ≤ 140737488355328; omega) (by unfold maxLen; omega) (Nat.le_trans HK34.out.size HK45.out.size) ?_; intro a6 c6 w6 ho6 hg6 hor6; have HO6 := hide1 ho6; have HK6 := hide1 (gtrans HK3.out (Kept.lo (gtrans HK34.out HK45.out) (HO4.out.keep HK45.out) (by rw [HM1.out]; exact hg6))); clear ho6 hg6 hor6))
    have HC6 : Hid ((cs4 ++ cs5).map edK = (l1 ++ l2).map edK) := by rw [List.map_append, List.map_append, HC4.out, HC5.out]; exact rfl
    have HRD6 : Hid (EdRd w6 (.slice a6 (m1 + m2) c6) (cs4 ++ cs5)) := HO6.out.edRd
    clear HO4 HO5 HO6 HC4 HC5 HK34 HK45 HK4 HO2 HC2 HK2
    by_cases hz : e1 = 0
    · have hc := hc2 hz
      subst hz
      have HC := hide1 hc
      clear hc1 hc2 hc
      go_wp2_with (first
        | (have _g := HO8; clear _g; go_at_call 10; refine (HMV.out p1 _ _ cs8 l2 (p2, e2) (by have h := HO8.out.edRd; rw [HM2.out] at h; exact h) HC8.out (by rw [HM2.out]; omega) HC.out).mono ?_; rintro e w9 ⟨rfl, hk9⟩; dsimp only; have HK9 := hide1 (gtrans HK8.out hk9); clear hk9)
        | (go_at_call 10; refine (HMV.out p _ _ _ (l1 ++ l2) (p2, e2) HRD6.out HC6.out (by rw [List.length_append, HM1.out, HM2.out]; omega) HR2.out).mono ?_; rintro e w7 ⟨rfl, hk7⟩; dsimp only; have HK7 := hide1 (gtrans HK6.out hk7); clear hk7)
        | (go_at_call 11; refine (HE2.out _ HK7.out).mono ?_; rintro e w8 ⟨g8, ec8, cs8, rfl, hm8, hk8⟩; rw [HM2.out]; have HO8 := hide1 hm8.lo; have HC8 := hide1 (made_k HI2.out.2.1 hm8); have HK8 := hide1 (gtrans HK7.out hk8); clear hm8 hk8))
      go_ret
      exact ⟨by simp, HK9.out⟩
    · obtain ⟨hc, hp0⟩ := hc1 hz
      injection hc with hp2 he2
      subst hp2 he2 hp0
      clear hc1 hc2
      go_wp2_with (go_at_call 10; refine (HMV.out p _ _ _ (l1 ++ l2) (0, e2) HRD6.out HC6.out (by rw [List.length_append, HM1.out, HM2.out]; omega) HR2.out).mono ?_; rintro e w7 ⟨rfl, hk7⟩; dsimp only; have HK7 := hide1 (gtrans HK6.out hk7); clear hk7)
      go_ret
      exact ⟨by simp, HK7.out⟩

end Tr
end Ex
end Go.Proofs.Ytemfnbccjbojfaa
namespace Go.Proofs.Ytemfnbccjbojfaa
open Go.RowKit
attribute [local go_sem] Oper.semAt_some
namespace Ex
namespace Tr

set_option linter.unusedSimpArgs false in
set_option maxRecDepth 100000 in
set_option maxHeartbeats 4000000 in
theorem turned_is (v : Value) (l : List EdX) (w : World) (hl : EdRd w v l) (hlen : l.length * 40 ≤ 140737488351232) :
    Calls Try.prog 14 #[v] w fun e w' => ∃ v', e = .returned v' ∧ LO edE w' w.heap.size v' l.reverse ∧ Kept w w' := by
  obtain ⟨m, hm⟩ : ∃ m, l.length = m := ⟨_, rfl⟩
  obtain ⟨va, vc, rfl⟩ : ∃ a c, v = .slice a m c := by obtain ⟨a, c, h, _⟩ := hl; exact ⟨a, c, by rw [← hm]; exact h⟩
  have hcap : m ≤ vc := by obtain ⟨a, c, h, h2, _⟩ := hl; injection h with _ _ h3; subst h3; rw [← hm]; exact h2
  have HL := hide1 hl
  have HM := hide1 hm
  have hmI : (m : Int) ≤ 3518437208781 := by omega
  have hcI : (m : Int) ≤ (vc : Int) := by omega
  clear hl hcap hm hlen
  go_enter Try.func14, Try.ntmps14
  go_wp2_with fail
  go_loopw [3, 4] (fun v2 v3 wr => ∃ (j : Nat) (ca : Option Addr) (cc k : Nat), v2 = .slice ca k cc ∧ v3 = .int .i64 ((j : Int) - 1) ∧ j + k = m ∧ Hid (LO edE wr w.heap.size (.slice ca k cc) (l.drop j).reverse ∧ Kept w wr)) (fun _ v3 _ => (intOf v3 + 1).toNat)
  case atStart => exact ⟨m, none, 0, 0, rfl, rfl, Nat.add_zero _, by rw [List.drop_of_length_le (by rw [HM.out]; exact Nat.le_refl _)]; exact LO.nil _ _, Kept.refl w⟩
  case round =>
    obtain ⟨j, ca, cc, k, rfl, rfl, hj, hI⟩ := hrel
    by_cases hj0 : j = 0
    · subst hj0
      have HI := hide1 hI.out
      clear hI
      go_wp2_with fail
      go_ret
      refine ⟨_, rfl, ?_, HI.out.2⟩
      rw [← List.drop_zero (l := l)]
      exact HI.out.1
    · obtain ⟨i, rfl⟩ : ∃ i, j = i + 1 := ⟨j - 1, by omega⟩
      obtain ⟨e, he⟩ : ∃ e, l[i]? = some e := ⟨_, List.getElem?_eq_getElem (by rw [HM.out]; omega)⟩
      obtain ⟨a', cap', hv', _, hrd⟩ := HL.out.keep hI.out.2
      obtain ⟨g, o, rfl, r0, r1, r2⟩ := hrd i _ he
      injection hv' with hv1 hv2 hv3
      subst hv1
      obtain ⟨at_, del, ba, n, bc⟩ := e
      dsimp only at r0 r1 r2
      have hiI : (i : Int) < (m : Int) := by omega
      have hkI : (k : Int) < (m : Int) := by omega
      have HI := hide1 hI.out
      have HJ := hide1 hj
      have HKL : Hid ((l.drop (i + 1)).reverse.length = k) := by rw [List.length_reverse, List.length_drop, HM.out]; exact Nat.sub_eq_of_eq_add (by omega)
      clear hv2 hv3 hrd hI hj0 hj
      have hsub : ((i + 1 : Nat) : Int) - 1 = (i : Int) := by omega
      rw [hsub]
      go_wp2_with (at_builtin; refine wpl_lo (E := edE) rfl _ _ rfl w.heap.size (.slice ca k cc) (l.drop (i + 1)).reverse k HKL.out rfl (HI.out.1.keep ((Kept.refl wr).alloc _ _)) wr.heap.size ⟨at_, del, ba, n, bc⟩ rfl (World.alloc_heap_new wr _) (by show (k + 1) * 40 ≤ 140737488355328; omega) (by unfold maxLen; omega) (Nat.le_trans HI.out.2.size (alloc_le wr _)) ?_; intro g9 cp9 w9 ho9 hg9 hor9 hl9; have HO9 := hide1 ho9; have HGR := hide1 hg9; clear ho9 hg9 hor9 hl9)
      refine ⟨⟨i, some ⟨g9, 0, none⟩, cp9, k + 1, rfl, rfl, by have := HJ.out; omega, ?_, ?_⟩, ?_⟩
      · have hd : l.drop i = ⟨at_, del, ba, n, bc⟩ :: l.drop (i + 1) := by
          have h9 := List.getElem?_eq_some_iff.1 he
          rw [List.drop_eq_getElem_cons h9.1, h9.2]
        rw [hd, List.reverse_cons]
        exact HO9.out
      · exact Kept.lo (gtrans HI.out.2 ((Kept.refl wr).alloc _ _)) (HI.out.1.keep ((Kept.refl wr).alloc _ _)) HGR.out
      · show ((i : Int) - 1 + 1).toNat < ((i : Int) + 1).toNat
        omega

end Tr
end Ex
end Go.Proofs.Ytemfnbccjbojfaa
namespace Go.Proofs.Ytemfnbccjbojfaa
open Go.RowKit
attribute [local go_sem] Oper.semAt_some
namespace Ex
namespace Tr

/-- Bytes as a string. -/
def strD (zs : List Int) : ByteArray := zs.foldl (fun r n => r.push (UInt8.ofNat n.toNat)) ByteArray.empty
theorem flat_u8b : ∀ l : List Int, flatE u8E l = l.map (Value.int .u8)
  | [] => rfl
  | x :: l => by
    have ih := flat_u8b l
    show Value.int .u8 x :: flatE u8E l = _
    rw [ih]; rfl
theorem src_conv {w : World} {a : Option Addr} {n cap : Nat} {y : List Int} (h : Src u8E w a y) (hn : y.length = n) : (convert 22 9 (.slice a n cap)).run Try.prog w = .ok (.string (strD y)) w := by
  subst hn
  rw [run_convert_bytes_string w 22 9 5 a y.length cap Try.underlying22 Try.underlying5 Try.underlying9]
  rcases h with rfl | ⟨g, o, rfl, hc⟩
  · cases a <;> rfl
  · refine run_bytesToString w ⟨g, o, none⟩ y.length cap y ?_
    have := run_loadCells_list (P := Try.prog) w ⟨g, o, none⟩ (y.map (Value.int .u8)) (fun j u hj => by
      rw [← flat_u8b] at hj
      rw [Addr.add_lit]
      exact hc j u hj)
    rw [List.length_map] at this
    exact this
theorem Src.front {w : World} {a : Option Addr} {y z : List Int} (h : Src u8E w a (y ++ z)) : Src u8E w a y := by
  rcases h with h | ⟨g, o, h1, h2⟩
  · exact Or.inl (List.append_eq_nil_iff.1 h).1
  · refine Or.inr ⟨g, o, h1, fun j u hj => h2 j u ?_⟩
    rw [flatE_app2, List.getElem?_append_left (List.getElem?_eq_some_iff.1 hj).1]
    exact hj

set_option linter.unusedSimpArgs false in
set_option maxRecDepth 100000 in
set_option maxHeartbeats 4000000 in
theorem left_is (v : Value) (l : List EdX) (bs : List (List Int)) (cs : List EdX) (base g ec : Nat) (w : World) (h : EdIn w v l bs) (hl : l.length * 40 ≤ 140737488351232) (hm : EdMade w base g ec l bs cs) :
    Calls Try.prog 13 #[.slice (some ⟨g, 0, none⟩) l.length ec, v] w fun e w' => e = .returned (.bool true) ∧ Kept w w' := by
  obtain ⟨m, hlm⟩ : ∃ m, l.length = m := ⟨_, rfl⟩
  obtain ⟨va, vc, rfl⟩ : ∃ a c, v = .slice a m c := by obtain ⟨⟨a, c, h, _⟩, _⟩ := h; exact ⟨a, c, by rw [← hlm]; exact h⟩
  have hcap : m ≤ vc := by obtain ⟨⟨a, c, h, h2, _⟩, _⟩ := h; injection h with _ _ h3; subst h3; rw [← hlm]; exact h2
  rw [hlm]
  have hmc : m + 1 ≤ ec := by
    have := hm.2.1.cap
    rw [List.length_append, hm.1, hlm] at this
    exact this
  have c77 : w.cell? ⟨g, m * 3, none⟩ = some (.int .i64 77) := by
    have := hm.2.1.cell (i := m) (j := 0) (x := ⟨77, 0, none, 0, 0⟩) (u := .int .i64 77) (by rw [List.getElem?_append_right (by rw [hm.1, hlm]; exact Nat.le_refl _), hm.1, hlm, Nat.sub_self]; rfl) rfl
    exact this
  have HIN := hide1 h
  have HMA := hide1 hm
  have HM := hide1 hlm
  have hmI : (m : Int) ≤ 3518437208781 := by omega
  have hcI : (m : Int) ≤ (vc : Int) := by omega
  have hcI2 : (m : Int) + 1 ≤ (ec : Int) := by omega
  clear h hcap hlm hl hm hmc
  go_enter Try.func13, Try.ntmps13
  go_wp2_with fail
  go_loopw [5] (fun v5 wr => ∃ (j : Nat), v5 = .int .i64 (j : Int) ∧ j ≤ m ∧ Hid (Kept w wr)) (fun v5 _ => m - (intOf v5).toNat)
  case atStart => exact ⟨0, rfl, Nat.zero_le _, Kept.refl w⟩
  case round =>
    obtain ⟨j, rfl, hj, hI⟩ := hrel
    by_cases hjm : j < m
    · obtain ⟨e, he⟩ : ∃ e, l[j]? = some e := ⟨_, List.getElem?_eq_getElem (by rw [HM.out]; exact hjm)⟩
      obtain ⟨y, hy⟩ : ∃ y, bs[j]? = some y := ⟨_, List.getElem?_eq_getElem (by rw [HIN.out.2.1, HM.out]; exact hjm)⟩
      obtain ⟨c, hc⟩ : ∃ c, cs[j]? = some c := ⟨_, List.getElem?_eq_getElem (by rw [HMA.out.1, HM.out]; exact hjm)⟩
      obtain ⟨hrd, _, hby⟩ := HIN.out.keep hI.out
      obtain ⟨b1, b2, b3, b4⟩ := hby j e y he hy
      obtain ⟨a', cap', hv', _, hrd⟩ := hrd
      obtain ⟨g2, o2, rfl, r0, r1, r2⟩ := hrd j _ he
      injection hv' with hv1 hv2 hv3
      subst hv1
      have hx : (cs ++ [⟨77, 0, none, 0, 0⟩])[j]? = some c := by rw [List.getElem?_append_left (by rw [HMA.out.1, HM.out]; exact hjm)]; exact hc
      have q0 : wr.cell? ⟨g, j * 3, none⟩ = some (.int .i64 c.at_) := grown_cell hI.out (HMA.out.2.1.cell (j := 0) hx rfl)
      have q1 : wr.cell? ⟨g, j * 3 + 1, none⟩ = some (.int .i64 c.del) := grown_cell hI.out (HMA.out.2.1.cell (j := 1) hx rfl)
      have q2 : wr.cell? ⟨g, j * 3 + 2, none⟩ = some (.slice c.ba c.n c.bc) := grown_cell hI.out (HMA.out.2.1.cell (j := 2) hx rfl)
      obtain ⟨k0, k1, k2, k3, k4⟩ := HMA.out.2.2 j e y c he hy hc
      obtain ⟨at_, del, ba, n, bc⟩ := e
      obtain ⟨cat, cdel, cba, cn, cbc⟩ := c
      dsimp only at r0 r1 r2 b1 b2 b3 b4 k0 k1 k2 k3 k4 q0 q1 q2
      subst k0 k1 k2
      obtain ⟨gb, rfl⟩ := k4.some (by simp)
      have hcb : (cn : Int) + 1 ≤ (cbc : Int) := by
        have := k4.cap
        rw [List.length_append, List.length_singleton, ← b1] at this
        omega
      have q3 : wr.cell? ⟨gb, cn, none⟩ = some (.int .u8 165) := grown_cell hI.out (by
        have := k4.cell (i := cn) (j := 0) (x := 165) (u := .int .u8 165) (by rw [List.getElem?_append_right (by rw [b1]; exact Nat.le_refl _), b1, Nat.sub_self]; rfl) rfl
        rw [show cn * u8E.sz + 0 = cn from by show cn * 1 + 0 = cn; omega] at this
        exact this)
      have HC1 : Hid (∀ w', Kept wr w' → (convert 22 9 (.slice ba cn bc)).run Try.prog w' = .ok (.string (strD y)) w') := fun w' hk => src_conv (b4.keep hk) b1.symm
      have HC2 : Hid (∀ w', Kept wr w' → (convert 22 9 (.slice (some ⟨gb, 0, none⟩) cn cbc)).run Try.prog w' = .ok (.string (strD y)) w') := fun w' hk => src_conv ((k4.src.front.keep hI.out).keep hk) b1.symm
      obtain ⟨sy, hsy⟩ : ∃ sy, strD y = sy := ⟨_, rfl⟩
      rw [hsy] at HC1 HC2
      have hjI : (j : Int) < (m : Int) := by omega
      have hn3 : (cn : Int) ≤ 140737488351232 := by omega
      have HI := hide1 hI.out
      clear hv2 hv3 hrd hby b4 hI b1 k4 k3 hsy hx hc
      go_upto_region 7 with fail
      obtain ⟨xb, hxb⟩ : ∃ xb, wr.heap.size = xb := ⟨_, rfl⟩
      obtain ⟨wx, hwx⟩ : ∃ wx, wr.alloc (.cells #[.int .i64 cat, .int .i64 cdel, .slice (some ⟨gb, 0, none⟩) cn cbc] 24) = wx := ⟨_, rfl⟩
      have hkX : Kept wr wx := by rw [← hwx]; exact (Kept.refl wr).alloc _ _
      have hXB : wx.heap[xb]? = some (.cells #[.int .i64 cat, .int .i64 cdel, .slice (some ⟨gb, 0, none⟩) cn cbc] 24 (0, 0)) := by rw [← hwx, ← hxb]; exact World.alloc_heap_new wr _
      obtain ⟨x0, x1, x2⟩ := cells3 hXB
      have r0x := grown_cell hkX r0
      have r1x := grown_cell hkX r1
      have r2x := grown_cell hkX r2
      have q3x := grown_cell hkX q3
      have hc1 : ∀ n, (convert 22 9 (.slice ba cn bc)).run Try.prog (wx.drewN n) = .ok (.string sy) (wx.drewN n) := fun n => HC1.out _ (gtrans hkX (drewN_kept _ _))
      have hc2 : ∀ n, (convert 22 9 (.slice (some ⟨gb, 0, none⟩) cn cbc)).run Try.prog (wx.drewN n) = .ok (.string sy) (wx.drewN n) := fun n => HC2.out _ (gtrans hkX (drewN_kept _ _))
      have HKX := hide1 hkX
      rw [hwx, hxb]
      clear hwx hxb hXB hkX r0 r1 r2 q0 q1 q2 q3 HC1 HC2 he hy
      have hbcI : (cn : Int) ≤ (bc : Int) := by omega
      go_upto_region 8 with fail
      go_quiet (fail)
      go_wp2_with fail
      exact ⟨⟨j + 1, by simp, by omega, gtrans HI.out HKX.out⟩, by simp [intOf]; omega⟩
    · obtain rfl : j = m := by omega
      have HI := hide1 hI.out
      clear hI
      go_wp2_with fail
      go_ret
      exact ⟨rfl, HI.out⟩

end Tr
end Ex
end Go.Proofs.Ytemfnbccjbojfaa
namespace Go.Proofs.Ytemfnbccjbojfaa
open Go.RowKit
attribute [local go_sem] Oper.semAt_some
namespace Ex
namespace Tr

theorem run_copy_sz {P : Program} (w : World) (dT sT ty elem : TypeId) (sz g n dCap : Nat) (a : Addr) (sCap : Nat) (cur : Array Value) (t : TypeId) (cs : List Value)
    (hu : P.underlying dT = some (.slice elem)) (hs : (P.info? elem).map (·.size) = some sz)
    (hg : w.heap[g]? = some (.cells cur t (0, 0))) (hn : cs.length = n * sz)
    (hsrc : ∀ j v, cs[j]? = some v → w.cell? (a.add j) = some v) (hfit : cs.length ≤ cur.size) (h1 : ∀ v ∈ cs, v.oneCell' = true) :
    (Builtin.copy_ #[dT, sT] ty #[.slice (some ⟨g, 0, none⟩) n dCap, .slice (some a) n sCap]).run P w =
      .ok (goInt n) (w.setRow g (cs ++ cur.toList.drop cs.length).toArray) := by
  have hl := run_loadCells_list (P := P) w a cs hsrc
  have hst := run_storeCells_at P g 0 t cs 0 cur w hg (by simpa using hfit) h1
  have hmin : Nat.min n n = n := Nat.min_self n
  cases hq : P.info? elem with
  | none => simp [hq] at hs
  | some i =>
    have hi : i.size = sz := by simpa [hq] using hs
    simp [Builtin.copy_, run_underlying hu, Builtin.lenOf, Builtin.firstCells, sizeOf, typeInfo, hq, hi, hmin, ← hn, hl, hst]
set_option maxRecDepth 100000 in
/-- copy of a list over another one that is as long, with one more element behind it. -/
theorem lo_copy {α : Type} {E : ElK α} {w : World} {base base4 g ec g4 ec4 m : Nat} {cs ds : List α} {x z : α} (h : LO E w base (.slice (some ⟨g, 0, none⟩) (m + 1) ec) (cs ++ [x])) (hcs : cs.length = m) (h4 : LO E w base4 (.slice (some ⟨g4, 0, none⟩) (m + 1) ec4) (ds ++ [z])) (hds : ds.length = m) (ty : TypeId) :
    ∃ w', (Builtin.copy_ #[E.TT, E.TT] ty #[.slice (some ⟨g, 0, none⟩) m ec, .slice (some ⟨g4, 0, none⟩) m ec4]).run Try.prog w = .ok (goInt m) w' ∧ LO E w' base (.slice (some ⟨g, 0, none⟩) (m + 1) ec) (ds ++ [x]) ∧ w.grownBy w' (some g) := by
  obtain ⟨i0, hi, hz0, hz1, hz2⟩ := info_parts E.info
  have hx1 := h.1
  rcases h.2 with ⟨h0, _⟩ | ⟨g', cap', cur, he, hb, hg, hc, hm, hsz, hx⟩
  · cases h0
  injection he with e1 e2 e3
  injection e1 with e1
  injection e1 with e1
  subst e1 e3
  have HM := hide1 hm
  clear hm
  have hlc : (cs ++ [x]).length = m + 1 := by simp [hcs]
  have hld : (ds ++ [x]).length = m + 1 := by simp [hds]
  rw [hlc] at hc hx hx1
  have hdl : (flatE E ds).length = m * E.sz := by rw [flatE_lenT, hds]
  have hs1 : (m + 1) * E.sz = m * E.sz + E.sz := Nat.succ_mul m E.sz
  have hmul : m * E.sz + E.sz ≤ cur.size := by
    rw [hsz]
    have := Nat.mul_le_mul_right E.sz hc
    rw [hs1] at this
    exact this
  refine ⟨_, run_copy_sz (P := Try.prog) w E.TT E.TT ty E.T E.sz g m ec ⟨g4, 0, none⟩ ec4 cur E.T (flatE E ds) E.und (by rw [hi]; simp [hz1]) hg hdl (fun j v hj => ?_) (by omega) (flatE_one E ds), ?_, ?_⟩
  · rcases h4.2 with ⟨h0, _⟩ | ⟨g', cap', cur, he, hb, hg, hc, hm, hsz, hx⟩
    · cases h0
    injection he with e1 e2 e3
    injection e1 with e1
    injection e1 with e1
    subst e1
    rw [Addr.add_lit]
    simp only [Nat.zero_add]
    refine row_cells hg hx j v ?_
    rw [flatE_app2, List.getElem?_append_left (List.getElem?_eq_some_iff.1 hj).1]
    exact hj
  · refine ⟨?_, Or.inr ⟨g, ec, _, by rw [hld], hb, setRow_heap w g cur _ E.T _ hg, by rw [hld]; exact hc, HM.out, ?_, ?_⟩⟩
    · rw [flatE_lenT]
    · simp [hdl]
      omega
    · rw [hld, flatE_app2]
      have hx3 : flatE E cs ++ flatE E [x] = cur.toList.take ((m + 1) * E.sz) := by rw [← flatE_app2]; exact hx.symm
      have hcl : (flatE E cs).length = m * E.sz := by rw [flatE_lenT, hcs]
      have hq : flatE E [x] = (cur.toList.drop (m * E.sz)).take E.sz := by
        have := congrArg (List.drop (m * E.sz)) hx3
        rw [List.drop_append_of_le_length (by omega), List.drop_of_length_le (by omega), List.nil_append, List.drop_take] at this
        have hsub : (m + 1) * E.sz - m * E.sz = E.sz := by rw [hs1]; exact Nat.add_sub_cancel_left ..
        rw [hsub] at this
        exact this
      rw [hq]
      simp only [hdl]
      rw [List.take_append, hdl, List.take_of_length_le (by rw [hdl, hs1]; omega)]
      have hsub : (m + 1) * E.sz - m * E.sz = E.sz := by rw [hs1]; exact Nat.add_sub_cancel_left ..
      rw [hsub]
  · exact ⟨rfl, rfl, rfl, by simp [World.setRow], fun k hk hne => by
      unfold World.setRow
      simp only [Array.getElem?_modify]
      rw [if_neg (fun e => hne (by rw [e]))]⟩

end Tr
end Ex
end Go.Proofs.Ytemfnbccjbojfaa
namespace Go.Proofs.Ytemfnbccjbojfaa
open Go.RowKit
attribute [local go_sem] Oper.semAt_some
namespace Ex
namespace Tr

section
variable {α : Type} {E : ElK α} {w : World} {ops : Array Oper} {rest : List Oper} {o : Oper} {a : Act} {Q : Exit → Act → World → Prop}
theorem wpl_copy (hgd : o.guard = none) (s x : Operand) (ho : o.op = .call { callee := .builtin .copy, args := #[s, x], argTypes := #[E.TT, E.TT] }) (base base4 g ec g4 ec4 m : Nat) (cs ds : List α) (y z : α) (hs : a.eval s = .slice (some ⟨g, 0, none⟩) m ec) (hx : a.eval x = .slice (some ⟨g4, 0, none⟩) m ec4) (h1 : LO E w base (.slice (some ⟨g, 0, none⟩) (m + 1) ec) (cs ++ [y])) (hcs : cs.length = m) (h4 : LO E w base4 (.slice (some ⟨g4, 0, none⟩) (m + 1) ec4) (ds ++ [z])) (hds : ds.length = m)
    (h : ∀ w', LO E w' base (.slice (some ⟨g, 0, none⟩) (m + 1) ec) (ds ++ [y]) → w.grownBy w' (some g) → wpList Try.prog ops Q rest (a.put o.dst (goInt m)) w') : wpList Try.prog ops Q (o :: rest) a w := by
  obtain ⟨w', hr, h2, h3⟩ := lo_copy h1 hcs h4 hds o.type
  refine wpList_plain hgd fun K hK => ?_
  unfold Oper.wp
  simp [execOp, ho, resolve, invoke, builtin, hs, hx, hr, Result.andThen]
  exact hK _ _ (h w' h2 h3)
end
/-- The edits and their copies, at the begin of a round. -/
def MvI (w : World) (m base g ec : Nat) (l : List EdX) (bs : List (List Int)) (cs : List EdX) (a : Option Addr) (c : Nat) (wr : World) : Prop :=
  Kept w wr ∧ w.heap.size ≤ base ∧ l.length = m ∧ EdIn wr (.slice a m c) l bs ∧ (∀ (i : Nat) (e : EdX) (y : List Int), l[i]? = some e → bs[i]? = some y → e.n = y.length ∧ e.n ≤ e.bc ∧ e.n ≤ 140737488351232 ∧ Src u8E w e.ba y) ∧ EdMade wr base g ec l bs cs
theorem MvI.keep {w wr w' : World} {m base g ec c : Nat} {l cs : List EdX} {bs : List (List Int)} {a : Option Addr} (h : MvI w m base g ec l bs cs a c wr) (hk : Kept wr w') : MvI w m base g ec l bs cs a c w' := by
  obtain ⟨h1, h2, h3, h4, h5, h6⟩ := h
  exact ⟨gtrans h1 hk, h2, h3, h4.keep hk, h5, h6.1, h6.2.1.keep hk, fun i e y c0 q1 q2 q3 => (h6.2.2 i e y c0 q1 q2 q3).same (fun d hd => hk.2.2.2.2 d ((h6.2.2 i e y c0 q1 q2 q3).2.2.2.2.lt' d hd).2)⟩
theorem rev_pair {α β : Type} {l : List α} {bs : List β} (hb : bs.length = l.length) {i : Nat} {e : α} {y : β} (h1 : l.reverse[i]? = some e) (h2 : bs.reverse[i]? = some y) : ∃ k : Nat, l[k]? = some e ∧ bs[k]? = some y := by
  have hi : i < l.length := by have := (List.getElem?_eq_some_iff.1 h1).1; rw [List.length_reverse] at this; exact this
  rw [List.getElem?_reverse hi] at h1
  rw [List.getElem?_reverse (by omega), hb] at h2
  exact ⟨_, h1, h2⟩
theorem EdCp.low {w : World} {base base' : Nat} {e : EdX} {y : List Int} {c : EdX} (h : EdCp w base e y c) (hb : base' ≤ base) : EdCp w base' e y c := ⟨h.1, h.2.1, h.2.2.1, h.2.2.2.1, h.2.2.2.2.low hb⟩
theorem MvI.rev {w w2 w3 : World} {m base g ec c c' : Nat} {l cs : List EdX} {bs : List (List Int)} {a a' : Option Addr} (h : MvI w m base g ec l bs cs a c w2) (ho : LO edE w3 w2.heap.size (.slice a' m c') l.reverse) (hk : Kept w2 w3) : EdIn w3 (.slice a' m c') l.reverse bs.reverse := by
  obtain ⟨h1, h2, h3, h4, h5, h6⟩ := h
  have hb := h4.2.1
  refine ⟨ho.edRd, by simp [hb], fun i e y q1 q2 => ?_⟩
  obtain ⟨k, k1, k2⟩ := rev_pair hb q1 q2
  obtain ⟨n1, n2, n3, n4⟩ := h5 k e y k1 k2
  exact ⟨n1, n2, n3, n4.keep (gtrans h1 hk)⟩
theorem MvI.next {w w2 w3 w4 w5 : World} {m base g ec c c' g4 ec4 : Nat} {l cs cs4 : List EdX} {bs : List (List Int)} {a a' : Option Addr} (h : MvI w m base g ec l bs cs a c w2) (ho : LO edE w3 w2.heap.size (.slice a' m c') l.reverse) (hk : Kept w2 w3) (hm : EdMade w4 w3.heap.size g4 ec4 l.reverse bs.reverse cs4) (hk4 : Kept w3 w4) (h5 : LO edE w5 base (.slice (some ⟨g, 0, none⟩) (m + 1) ec) (cs4 ++ [⟨77, 0, none, 0, 0⟩])) (hg : w4.grownBy w5 (some g)) : MvI w m base g ec l.reverse bs.reverse cs4 a' c' w5 := by
  have hrev := h.rev ho hk
  obtain ⟨h1, h2, h3, h4, h6, h7⟩ := h
  have hgl := h7.2.1.lt' g rfl
  have hk24 := gtrans hk hk4
  have ho4 : LO edE w4 base (.slice (some ⟨g, 0, none⟩) (l.length + 1) ec) (cs ++ [⟨77, 0, none, 0, 0⟩]) := h7.2.1.keep hk24
  have hk5 : Kept w w5 := Kept.lob (gtrans h1 hk24) h2 ho4 hg
  have hb := h4.2.1
  have ho5 : LO edE w5 w2.heap.size (.slice a' m c') l.reverse := (ho.keep hk4).same (fun d hd => by
    have hd1 := ho.lt' d hd
    exact hg.block d (Nat.lt_of_lt_of_le hd1.2 hk4.size) (fun e => by injection e with e; omega))
  refine ⟨hk5, h2, by simp [h3], ⟨ho5.edRd, by simp [hb], fun i e y q1 q2 => ?_⟩, fun i e y q1 q2 => ?_, ?_, ?_, fun i e y c0 q1 q2 q3 => ?_⟩
  · obtain ⟨k, k1, k2⟩ := rev_pair hb q1 q2
    obtain ⟨n1, n2, n3, n4⟩ := h6 k e y k1 k2
    exact ⟨n1, n2, n3, n4.keep hk5⟩
  · obtain ⟨k, k1, k2⟩ := rev_pair hb q1 q2
    exact h6 k e y k1 k2
  · exact hm.1
  · rw [List.length_reverse, h3]; exact h5
  · have hcp := hm.2.2 i e y c0 q1 q2 q3
    refine (hcp.same (fun d hd => ?_)).low (by have := hk.size; omega)
    obtain ⟨cur, hc1⟩ := hcp.2.2.2.2.type hd
    obtain ⟨cur2, hc2⟩ := ho4.type rfl
    refine hg.block d (hcp.2.2.2.2.lt' d hd).2 (fun e => ?_)
    injection e with e
    subst e
    exact block_ne hc1 hc2 (show (5 : TypeId) ≠ 24 by decide) rfl

set_option linter.unusedSimpArgs false in
set_option maxRecDepth 100000 in
set_option maxHeartbeats 4000000 in
theorem moves_is (v0 : Value) (ps : List Int) (bias : Int) (v : Value) (l : List EdX) (bs : List (List Int)) (w : World) (hp : SliceOf w 1 (fun cs z => cs = [.int .i64 z]) v0 ps) (h : EdIn w v l bs) (hl : l.length * 40 ≤ 140737488351232) :
    Calls Try.prog 5 #[v0, .int .i64 bias, v] w fun e w' => e = .returned (.bool true) ∧ Kept w w' := by
  obtain ⟨m, hm⟩ : ∃ m, l.length = m := ⟨_, rfl⟩
  obtain ⟨va, vc, rfl⟩ : ∃ a c, v = .slice a m c := by obtain ⟨⟨a, c, h, _⟩, _⟩ := h; exact ⟨a, c, by rw [← hm]; exact h⟩
  obtain ⟨np, hnp⟩ : ∃ n, ps.length = n := ⟨_, rfl⟩
  obtain ⟨pa, pc, rfl, hp1, hp2, hp3⟩ := hp
  rw [hnp] at hp1 hp2
  rw [hnp]
  have HPR : Hid (∀ w', Kept w w' → ∀ (j : Nat), j < np → ∃ z g o, ps[j]? = some z ∧ pa = some ⟨g, o, none⟩ ∧ w'.cell? ⟨g, o + j, none⟩ = some (.int .i64 z)) := fun w' hk j hj => by
    rcases hp3 with hp3 | ⟨g, o, rfl, _, hx⟩
    · rw [hp3] at hnp; simp at hnp; omega
    · obtain ⟨z, hz⟩ : ∃ z, ps[j]? = some z := ⟨_, List.getElem?_eq_getElem (by omega)⟩
      obtain ⟨cs, _, h2, rfl⟩ := hx j z hz
      have := h2 0 _ rfl
      simp only [Nat.mul_one, Nat.add_zero] at this
      exact ⟨z, g, o, hz, rfl, grown_cell hk this⟩
  have HIN := hide1 h
  have HM := hide1 hm
  have hmI : (m : Int) ≤ 3518437208780 := by omega
  have hpI : (np : Int) ≤ (pc : Int) := by omega
  have hpI2 : (np : Int) ≤ 17592186044416 := by omega
  clear h hm hl hp1 hp2 hp3 hnp
  go_enter Try.func5, Try.ntmps5
  go_wp2_with (first
    | (go_at_call 9; refine (headD_is _).mono ?_; rintro e w1 ⟨rfl, hk1⟩; have HK1 := hide1 hk1; clear hk1)
    | (go_at_call 11; refine (edits_is _ l bs _ (HIN.out.keep HK1.out) (by rw [HM.out]; omega)).mono ?_; rintro e w2 ⟨g2, ec2, cs2, rfl, hm2, hk2⟩; rw [HM.out]; have HO2 := hide1 hm2; have HK2 := hide1 hk2; clear hm2 hk2))
  have hi0 : MvI w m w1.heap.size g2 ec2 l bs cs2 va vc w2 := ⟨gtrans HK1.out HK2.out, HK1.out.size, HM.out, HIN.out.keep (gtrans HK1.out HK2.out), HIN.out.2.2, HO2.out⟩
  obtain ⟨base, hbase⟩ : ∃ b, w1.heap.size = b := ⟨_, rfl⟩
  rw [hbase] at hi0
  have HI0 := hide1 hi0
  clear hi0 hbase HO2 HK1 HK2 HIN HM
  go_loopw [2, 8] (fun v2 v8 wr => ∃ (r : Nat) (l' cs' : List EdX) (bs' : List (List Int)) (a : Option Addr) (c : Nat), v2 = .slice a m c ∧ v8 = .int .i64 (r : Int) ∧ r ≤ 2 ∧ Hid (MvI w m base g2 ec2 l' bs' cs' a c wr)) (fun _ v8 _ => 2 - (intOf v8).toNat)
  case atStart => exact ⟨0, l, cs2, bs, va, vc, rfl, rfl, by omega, HI0.out⟩
  case round =>
    obtain ⟨r, l', cs', bs', a, c, rfl, rfl, hr, hI⟩ := hrel
    clear HI0
    by_cases hr2 : r < 2
    · have HI := hide1 hI.out
      have HMV : Hid (∀ (z : Int) (w' : World), Kept wr w' → Calls Try.prog 10 #[.int .i64 z, .int .i64 bias, .slice (some ⟨g2, 0, none⟩) m ec2] w' fun e w3 => e = .returned (.tuple #[.int .i64 (moveP z bias l').1, .int .i64 (moveP z bias l').2]) ∧ Kept w' w3) := fun z w' hk => by
        have hmi := hI.out.keep hk
        obtain ⟨h1, h2, h3, h4, h5, h6⟩ := hmi
        have hlo := h6.lo
        rw [h3] at hlo
        have h := moveD_is z bias _ cs' w' hlo.edRd (by rw [h6.1, h3]; omega)
        rw [moveP_k z bias (made_k h4.2.1 h6)] at h
        exact h
      have HRV : Hid (∀ (z : Int) (w' : World), Kept wr w' → Calls Try.prog 12 #[.int .i64 z, .int .i64 bias, .slice a m c] w' fun e w3 => e = .returned (.tuple #[.int .i64 (moveP z bias l').1, .int .i64 (moveP z bias l').2]) ∧ Kept w' w3) := fun z w' hk => by
        have hmi := hI.out.keep hk
        obtain ⟨h1, h2, h3, h4, h5, h6⟩ := hmi
        exact moveR_is z bias _ l' w' h4.1 (by rw [h3]; omega)
      have HLF : Hid (∀ (w' : World), Kept wr w' → Calls Try.prog 13 #[.slice (some ⟨g2, 0, none⟩) m ec2, .slice a m c] w' fun e w3 => e = .returned (.bool true) ∧ Kept w' w3) := fun w' hk => by
        have hmi := hI.out.keep hk
        obtain ⟨h1, h2, h3, h4, h5, h6⟩ := hmi
        have h := left_is _ l' bs' cs' base g2 ec2 w' h4 (by rw [h3]; omega) h6
        rw [h3] at h
        exact h
      clear hI
      have hrI : (r : Int) < 2 := by omega
      go_wp2_with fail
      go_loopw [9] (fun v9 wx => ∃ (j : Nat), v9 = .int .i64 (j : Int) ∧ j ≤ np ∧ Hid (Kept wr wx)) (fun v9 _ => np - (intOf v9).toNat)
      case atStart => exact ⟨0, rfl, Nat.zero_le _, Kept.refl wr⟩
      case round =>
        obtain ⟨j, rfl, hj, hX⟩ := hrel
        by_cases hjp : j < np
        · obtain ⟨z, gp, op, hz, hpa, hcell⟩ := HPR.out _ (gtrans HI.out.1 hX.out) j hjp
          subst hpa
          have HX := hide1 hX.out
          have HPC : Hid (∀ w', Kept wr w' → w'.cell? ⟨gp, op + j, none⟩ = some (.int .i64 z)) := fun w' hk => grown_cell hk hcell
          obtain ⟨⟨q1, q2⟩, hq⟩ : ∃ q, moveP z bias l' = q := ⟨_, rfl⟩
          have HM1 := HMV.out z
          have HR1 := HRV.out z
          rw [hq] at HM1 HR1
          have HM1 := hide1 HM1
          have HR1 := hide1 HR1
          have hjI : (j : Int) < (np : Int) := by omega
          clear hX hz hq
          go_upto_region 11 with (go_at_call 10; refine (HM1.out _ HX.out).mono ?_; rintro e w4 ⟨rfl, hk4⟩; dsimp only; have HK4 := hide1 hk4; clear hk4)
          have hcell4 := HPC.out _ HK4.out
          clear hcell HPC
          go_wp2_with (first
            | (go_at_call 12; refine (HR1.out _ (gtrans HX.out HK4.out)).mono ?_; rintro e w5 ⟨rfl, hk5⟩; dsimp only; have HK5 := hide1 (gtrans HX.out (gtrans HK4.out hk5)); clear hk5)
            | (go_at_call 13; refine (HLF.out _ HK5.out).mono ?_; rintro e w6 ⟨rfl, hk6⟩; have HK6 := hide1 (gtrans HK5.out hk6); clear hk6))
          exact ⟨⟨j + 1, by simp, by omega, HK6.out⟩, by simp [intOf]; omega⟩
        · obtain rfl : j = np := by omega
          have HX := hide1 hX.out
          clear hX
          have HLE : Hid (∀ (w' : World), MvI w m base g2 ec2 l' bs' cs' a c w' → l'.reverse.length * 40 ≤ 140737488351232) := fun w' h => by rw [List.length_reverse, h.2.2.1]; omega
          by_cases hn0 : j = 0
          · subst hn0
            have HX2 := hide1 (HI.out.keep HX.out)
            go_wp2_with (first
              | (go_at_call 14; refine (turned_is _ l' _ HX2.out.2.2.2.1.1 (by rw [HX2.out.2.2.1]; omega)).mono ?_; rintro e w3 ⟨v3, rfl, ho3, hk3⟩; obtain ⟨a3, c3, rfl⟩ := ho3.form; have HL3 : Hid (l'.reverse.length = m) := (by rw [List.length_reverse]; exact HX2.out.2.2.1 : l'.reverse.length = m); rw [HL3.out] at ho3 ⊢; have HO3 := hide1 ho3; have HK3 := hide1 hk3; clear ho3 hk3)
              | (go_at_call 11; refine (edits_is _ l'.reverse bs'.reverse _ (HX2.out.rev HO3.out HK3.out) (HLE.out _ HX2.out)).mono ?_; rintro e w4 ⟨g4, ec4, cs4, rfl, hm4, hk4⟩; rw [HL3.out]; have HM4 := hide1 hm4; have HK4 := hide1 hk4; clear hm4 hk4))
            rename_i K9 hK9
            obtain ⟨w5, hr5, ho5, hg5⟩ := lo_copy (E := edE) (w := w4) (base := base) (base4 := w3.heap.size) (g := g2) (ec := ec2) (g4 := g4) (ec4 := ec4) (m := m) (cs := cs') (ds := cs4) (x := ⟨77, 0, none, 0, 0⟩) (z := ⟨77, 0, none, 0, 0⟩) (by have h := ((HX2.out.keep HK3.out).keep HK4.out).2.2.2.2.2.2.1; rw [HX2.out.2.2.1] at h; exact h) (by have h := HX2.out.2.2.2.2.2.1; rw [HX2.out.2.2.1] at h; exact h) (by have h := HM4.out.2.1; rw [HL3.out] at h; exact h) (by have h := HM4.out.1; rw [HL3.out] at h; exact h) 3
            have hr9 : (Builtin.copy_ #[29, 29] 3 #[.slice (some ⟨g2, 0, none⟩) m ec2, .slice (some ⟨g4, 0, none⟩) m ec4]).run Try.prog w4 = .ok (goInt m) w5 := hr5
            have HM5 := hide1 (HX2.out.next HO3.out HK3.out HM4.out HK4.out ho5 hg5)
            simp only [hr9, Result.andThen]
            refine hK9 _ _ ?_
            clear hr5 hr9 ho5 hg5
            go_wp2_with fail
            exact ⟨⟨r + 1, l'.reverse, cs4, bs'.reverse, a3, c3, rfl, by simp, by omega, HM5.out⟩, by simp [intOf]; omega⟩
          · obtain ⟨z, gp, op, hz, hpa, hcell⟩ := HPR.out _ (gtrans HI.out.1 HX.out) 0 (by omega)
            subst hpa
            rw [Nat.add_zero] at hcell
            have HPC : Hid (∀ w', Kept wr w' → w'.cell? ⟨gp, op, none⟩ = some (.int .i64 z)) := fun w' hk => grown_cell hk hcell
            obtain ⟨⟨q1, q2⟩, hq⟩ : ∃ q, moveP z bias l' = q := ⟨_, rfl⟩
            have HM1 := HMV.out z
            have HR1 := HRV.out z
            rw [hq] at HM1 HR1
            have HM1 := hide1 HM1
            have HR1 := hide1 HR1
            have hjI : (0 : Int) < (j : Int) := by omega
            clear hz hq
            go_upto_region 16 with (go_at_call 10; refine (HM1.out _ HX.out).mono ?_; rintro e w6 ⟨rfl, hk6⟩; dsimp only; have HK6 := hide1 hk6; clear hk6)
            have hcell4 := HPC.out _ HK6.out
            clear hcell HPC
            go_upto_region 19 with (go_at_call 12; refine (HR1.out _ (gtrans HX.out HK6.out)).mono ?_; rintro e w7 ⟨rfl, hk7⟩; dsimp only; have HK7 := hide1 (gtrans HX.out (gtrans HK6.out hk7)); clear hk7)
            have HX2 := hide1 (HI.out.keep HK7.out)
            go_wp2_with (first
              | (go_at_call 14; refine (turned_is _ l' _ HX2.out.2.2.2.1.1 (by rw [HX2.out.2.2.1]; omega)).mono ?_; rintro e w3 ⟨v3, rfl, ho3, hk3⟩; obtain ⟨a3, c3, rfl⟩ := ho3.form; have HL3 : Hid (l'.reverse.length = m) := (by rw [List.length_reverse]; exact HX2.out.2.2.1 : l'.reverse.length = m); rw [HL3.out] at ho3 ⊢; have HO3 := hide1 ho3; have HK3 := hide1 hk3; clear ho3 hk3)
              | (go_at_call 11; refine (edits_is _ l'.reverse bs'.reverse _ (HX2.out.rev HO3.out HK3.out) (HLE.out _ HX2.out)).mono ?_; rintro e w4 ⟨g4, ec4, cs4, rfl, hm4, hk4⟩; rw [HL3.out]; have HM4 := hide1 hm4; have HK4 := hide1 hk4; clear hm4 hk4))
            rename_i K9 hK9
            obtain ⟨w5, hr5, ho5, hg5⟩ := lo_copy (E := edE) (w := w4) (base := base) (base4 := w3.heap.size) (g := g2) (ec := ec2) (g4 := g4) (ec4 := ec4) (m := m) (cs := cs') (ds := cs4) (x := ⟨77, 0, none, 0, 0⟩) (z := ⟨77, 0, none, 0, 0⟩) (by have h := ((HX2.out.keep HK3.out).keep HK4.out).2.2.2.2.2.2.1; rw [HX2.out.2.2.1] at h; exact h) (by have h := HX2.out.2.2.2.2.2.1; rw [HX2.out.2.2.1] at h; exact h) (by have h := HM4.out.2.1; rw [HL3.out] at h; exact h) (by have h := HM4.out.1; rw [HL3.out] at h; exact h) 3
            have hr9 : (Builtin.copy_ #[29, 29] 3 #[.slice (some ⟨g2, 0, none⟩) m ec2, .slice (some ⟨g4, 0, none⟩) m ec4]).run Try.prog w4 = .ok (goInt m) w5 := hr5
            have HM5 := hide1 (HX2.out.next HO3.out HK3.out HM4.out HK4.out ho5 hg5)
            simp only [hr9, Result.andThen]
            refine hK9 _ _ ?_
            clear hr5 hr9 ho5 hg5
            go_wp2_with fail
            exact ⟨⟨r + 1, l'.reverse, cs4, bs'.reverse, a3, c3, rfl, by simp, by omega, HM5.out⟩, by simp [intOf]; omega⟩
    · obtain rfl : r = 2 := by omega
      have HI := hide1 hI.out
      clear hI
      go_wp2_with fail
      go_ret
      exact ⟨rfl, HI.out.1⟩

end Tr
end Ex
end Go.Proofs.Ytemfnbccjbojfaa
namespace Go.Proofs.Ytemfnbccjbojfaa
open Go.ChangeShapes Go.WideShapes Go.ChangeAt Go.RowKit
namespace Ex
namespace Tr

theorem ownD : ownKnob Try.prog.godebug = none := by kernel_rfl
theorem laidOutD : laidOutB Try.prog = true := by kernel_rfl
theorem edit_cells : Try.prog.cellsOf 24 = 3 := by kernel_rfl
theorem edit_bytes : Try.prog.bytesOf 24 = 40 := by kernel_rfl
theorem int_cellsD : Try.prog.cellsOf 3 = 1 := by kernel_rfl
theorem u8_cellsD : Try.prog.cellsOf 5 = 1 := by kernel_rfl
theorem u8_bytesD : Try.prog.bytesOf 5 = 1 := by kernel_rfl
theorem row_cellsD : Try.prog.cellsOf 22 = 1 := by kernel_rfl
theorem three {α : Type} : ∀ {l : List α}, l.length = 3 → ∃ a b c, l = [a, b, c]
  | [a, b, c], _ => ⟨a, b, c, rfl⟩
theorem flat_u8 : ∀ l : List Int, flatE u8E l = l.map (Value.int .u8)
  | [] => rfl
  | x :: l => by
    have ih := flat_u8 l
    show Value.int .u8 x :: flatE u8E l = _
    rw [ih]; rfl
section
variable {H : Type} {enc : TypeId × Value → H}
set_option maxRecDepth 100000 in
/-- A row of bytes that came in. -/
theorem bytes_src {W : World} {fuel : Nat} {v : Value} {x : DataW H × List MemPlace} (h : DataW.trod enc Try.prog W 0 (fun _ => true) true fuel 22 [v] = some x) (hz : ∀ n ∈ x.1.weights Try.prog 22, n ≤ reachBytes) :
    ∃ a len cap y, v = .slice a len cap ∧ len = y.length ∧ len ≤ cap ∧ len ≤ 140737488351232 ∧ Src u8E W a y := by
  obtain ⟨d, p⟩ := x
  rcases DataW.trod_slice Try.underlying22 h with ⟨hcs, _⟩ | ⟨a, len, cap, elems, rest, n, hn, hcs, hx, _, hl, hm, hlen, hall, _, _⟩
  · simp only [List.cons.injEq, and_true] at hcs
    subst hcs
    exact ⟨none, 0, 0, [], rfl, rfl, Nat.le_refl _, by decide, Or.inl rfl⟩
  · simp only [List.cons.injEq, and_true] at hcs
    subst hcs
    injection hx with hx1 hx2
    have hb : len ≤ 140737488351232 := by
      have := hz (_ * _) (by rw [hx1]; simp only [DataW.weights, Try.underlying22]; exact List.mem_cons_self)
      rw [u8_bytesD] at this
      simp only [List.length_map] at this
      rw [hlen] at this
      unfold reachBytes at this
      omega
    have hone : ∀ i, i < len → ∃ q : Int, W.cell? (a.add i) = some (.int .u8 q) := by
      intro i hi
      have hei := hall i hi
      obtain ⟨ei, hei2⟩ : ∃ y, elems[i]? = some y := ⟨_, List.getElem?_eq_getElem (by omega)⟩
      rw [hei2, u8_cellsD] at hei
      obtain ⟨cs', hc1, hc2⟩ := Option.bind_eq_some_iff.1 hei
      obtain ⟨_, hc3, hc4⟩ := World.cells?_some hc1
      obtain ⟨z, e1, _, _⟩ := DataW.trod_int Try.underlying5 hc2
      refine ⟨z, ?_⟩
      have h9 := hc4 0 (by omega)
      rw [e1] at h9
      rw [Nat.mul_one] at h9
      simpa [Addr.add] using h9
    by_cases h0 : len = 0
    · subst h0
      exact ⟨some a, 0, cap, [], rfl, rfl, hl, hb, Or.inl rfl⟩
    obtain ⟨Q, hQ⟩ := Go.Deep.choose_lt hone
    obtain ⟨c1, o1, t1⟩ := a
    have hspot : t1 = none := by simpa [Addr.add] using World.cell?_spot (hQ 0 (by omega))
    subst hspot
    refine ⟨some ⟨c1, o1, none⟩, len, cap, (List.range len).map Q, rfl, by simp, hl, hb, Or.inr ⟨c1, o1, rfl, fun j u hj => ?_⟩⟩
    rw [flat_u8, List.map_map, List.getElem?_map] at hj
    obtain ⟨i', hi', rfl⟩ := Option.map_eq_some_iff.1 hj
    obtain ⟨hi, he⟩ := List.getElem?_eq_some_iff.1 hi'
    rw [List.length_range] at hi
    rw [List.getElem_range] at he
    subst he
    have := hQ j hi
    rw [Addr.add_lit] at this
    exact this
/-- An edit's cells that came in. -/
def EdC (W : World) (cs : List Value) (x : EdX × List Int) : Prop := cs = [.int .i64 x.1.at_, .int .i64 x.1.del, .slice x.1.ba x.1.n x.1.bc] ∧ x.1.n = x.2.length ∧ x.1.n ≤ x.1.bc ∧ x.1.n ≤ 140737488351232 ∧ Src u8E W x.1.ba x.2
set_option maxRecDepth 100000 in
theorem edit_el {W : World} {m : Nat} {cs : List Value} {y : DataW H × List MemPlace} (hl : cs.length = 3) (h : DataW.trod enc Try.prog W 0 (fun _ => true) true m 24 cs = some y) (hz : ∀ n ∈ y.1.weights Try.prog 24, n ≤ reachBytes) : ∃ x, EdC W cs x := by
  obtain ⟨d, p⟩ := y
  obtain ⟨xs, n', hn', hx1, _, hx3, hx4⟩ := DataW.trod_struct Try.underlying24 h
  obtain ⟨v0, v1, v2, rfl⟩ := three hl
  obtain ⟨y0, y1, y2, rfl⟩ := three hx3
  have f0 : DataW.trod enc Try.prog W 0 (fun _ => true) true n' 3 [v0] = some y0 := by have := hx4 0 _ rfl; simpa [int_cellsD] using this
  have f1 : DataW.trod enc Try.prog W 0 (fun _ => true) true n' 3 [v1] = some y1 := by have := hx4 1 _ rfl; simpa [int_cellsD] using this
  have f2 : DataW.trod enc Try.prog W 0 (fun _ => true) true n' 22 [v2] = some y2 := by have := hx4 2 _ rfl; simpa [row_cellsD] using this
  obtain ⟨z0, e0, _, _⟩ := DataW.trod_int Try.underlying3 f0
  obtain ⟨z1, e1, _, _⟩ := DataW.trod_int Try.underlying3 f1
  obtain ⟨a, n, c, r, e2, h1, h2, h3, h4⟩ := bytes_src f2 (fun q hq => hz q (by
    show q ∈ d.weights Try.prog 24
    rw [(Prod.mk.inj hx1).1]
    simp only [DataW.weights, Try.underlying24]
    exact DataW.weights_mem_each (j := 2) (by rfl) (by rfl) q hq))
  simp only [List.cons.injEq, and_true] at e0 e1
  subst e0 e1 e2
  exact ⟨⟨⟨z0, z1, a, n, c⟩, r⟩, rfl, h1, h2, h3, h4⟩
set_option maxRecDepth 100000 in
/-- A list of edits that came in. -/
theorem edits_arg {W : World} {v : Value} {d : DataW H} {p : List MemPlace} (hv : ∃ a len cap, v = .slice a len cap) (h : DataW.Trod enc Try.prog W 0 (fun _ => true) true 29 v d p) (hz : ∀ n ∈ d.weights Try.prog 29, n ≤ reachBytes) : ∃ l bs, EdIn W v l bs ∧ l.length * 40 ≤ 140737488351232 := by
  obtain ⟨a0, len0, cap0, rfl⟩ := hv
  obtain ⟨fuel, hf⟩ := h
  have hf2 : DataW.trod enc Try.prog W 0 (fun _ => true) true fuel 29 [.slice a0 len0 cap0] = some (d, p) := hf
  obtain ⟨xs, hxs⟩ := slice_gen (α := EdX × List Int) ⟨⟨0, 0, none, 0, 0⟩, []⟩ Try.underlying29 3 40 edit_cells (by decide) edit_bytes (by decide) (EdC W) hf2 hz (fun m cs y _ hl hy hw => edit_el hl hy hw)
  obtain ⟨a, cap, e, h2, h3, h4⟩ := hxs
  injection e with e1 e2 e3
  subst e1 e3
  have hb : len0 * 40 ≤ 140737488351232 := by
    rcases DataW.trod_slice Try.underlying29 hf2 with ⟨hcs, _⟩ | ⟨a, len, cap, elems, rest, n, hn, hcs, hx, _, hl, hm, hlen, hall, _, _⟩
    · simp only [List.cons.injEq, and_true, Value.slice.injEq] at hcs
      omega
    · simp only [List.cons.injEq, and_true, Value.slice.injEq] at hcs
      obtain ⟨_, rfl, _⟩ := hcs
      have := hz (_ * _) (by rw [(Prod.mk.inj hx).1]; simp only [DataW.weights, Try.underlying29]; exact List.mem_cons_self)
      rw [edit_bytes] at this
      simp only [List.length_map] at this
      rw [hlen] at this
      unfold reachBytes at this
      omega
  refine ⟨xs.map (·.1), xs.map (·.2), ⟨⟨a0, cap0, ?_, ?_, fun i e he => ?_⟩, by simp, fun i e y he hy => ?_⟩, ?_⟩
  · rw [List.length_map, e2]
  · rw [List.length_map]; exact h2
  · rw [List.getElem?_map] at he
    obtain ⟨x, hx, rfl⟩ := Option.map_eq_some_iff.1 he
    rcases h4 with rfl | ⟨c, o, h5, h6, h7⟩
    · cases hx
    obtain ⟨cs, g1, g2, g3⟩ := h7 i x hx
    obtain ⟨rfl, _⟩ := g3
    exact ⟨c, o, h5, g2 0 _ rfl, g2 1 _ rfl, g2 2 _ rfl⟩
  · rw [List.getElem?_map] at he hy
    obtain ⟨x, hx, rfl⟩ := Option.map_eq_some_iff.1 he
    rw [hx] at hy
    cases hy
    rcases h4 with rfl | ⟨c, o, h5, h6, h7⟩
    · cases hx
    obtain ⟨cs, g1, g2, g3⟩ := h7 i x hx
    exact g3.2
  · rw [List.length_map, ← e2]; exact hb
end

end Tr
end Ex
end Go.Proofs.Ytemfnbccjbojfaa
namespace Go.Proofs.Ytemfnbccjbojfaa
open Go.ChangeShapes Go.WideShapes Go.ChangeAt Go.RowKit
set_option linter.unusedVariables false
namespace Ex
namespace Tr
namespace Fm

theorem int_bytesD : Try.prog.bytesOf 3 = 8 := by kernel_rfl
theorem one {α : Type} : ∀ {l : List α}, l.length = 1 → ∃ a, l = [a]
  | [a], _ => ⟨a, rfl⟩
section
variable {H : Type} {enc : TypeId × Value → H}
theorem ints_argD {W : World} {v : Value} {d : DataW H} {p : List MemPlace} (hv : ∃ a len cap, v = .slice a len cap) (h : DataW.Trod enc Try.prog W 0 (fun _ => true) true 33 v d p) (hz : ∀ n ∈ d.weights Try.prog 33, n ≤ reachBytes) : ∃ ps, SliceOf W 1 (fun cs z => cs = [.int .i64 z]) v ps := by
  obtain ⟨a0, len0, cap0, rfl⟩ := hv
  obtain ⟨fuel, hf⟩ := h
  have hf2 : DataW.trod enc Try.prog W 0 (fun _ => true) true fuel 33 [.slice a0 len0 cap0] = some (d, p) := hf
  exact slice_gen (α := Int) 0 Try.underlying33 1 8 int_cellsD (by decide) int_bytesD (by decide) _ hf2 hz (fun m cs y _ hl hy _ => by
    obtain ⟨u, rfl⟩ := one hl
    obtain ⟨z, e, _, _⟩ := DataW.trod_int Try.underlying3 hy
    exact ⟨z, e⟩)
end
set_option maxRecDepth 100000 in
theorem lifted (os : Os) (started : os.Started) (H : Type) (enc : TypeId × Value → H) :
    ReturnsInHanded {} Try.checked os 5 .any (Rows.deltaMovesSpec.pre6 enc Try.prog Try.f5 Rows.deltaMovesRow.domain false) (Rows.deltaMovesSpec.post enc Try.prog Try.f5 false true false false) := by
  refine returnsInHanded_of_change_sized (C := Try.checked) ownD started (by kernel_rfl) Try.func5
    (ChangeSpec.witness6 (enc := enc) (C := Try.checked) false ⟨#[], #[.slice none 0 0, .int .i64 0, .slice none 0 0], []⟩ 8 (by kernel_rfl) (by kernel_rfl) (by kernel_rfl) (by kernel_rfl)) ?_
  intro W base args ds gs before hval0 hW hcnd hsz _
  have hval : ∀ (j : Nat) t v, Try.f5.params[j]? = some t → args[j]? = some v → Value.okWide Try.prog W .any base t v := hval0
  have hW' := hW
  obtain ⟨p, q, hA0, hV, rfl, hfz, hnd⟩ := hW
  have hA : DataW.TrodAll enc Try.prog W 0 (fun _ => true) true Try.f5.params.toList args.toList ds p := hA0
  rw [Try.params5] at hA hval
  obtain ⟨v0, vs0, d0, ds0, p0, q0, hargs, rfl, rfl, h0, r0⟩ := trodAll_cons hA
  obtain ⟨v1, vs1, d1, ds1, p1, q1, rfl, rfl, rfl, h1, r1⟩ := trodAll_cons r0
  obtain ⟨v2, vs2, d2, ds2, p2, q2, rfl, rfl, rfl, h2, r2⟩ := trodAll_cons r1
  obtain ⟨rfl, rfl, rfl⟩ := trodAll_nil r2
  obtain rfl : args = #[v0, v1, v2] := by cases args; simp_all
  obtain ⟨rfl, rfl⟩ := trodVars_none hV
  have s0 := okWide_slice Try.underlying33 (hval 0 33 v0 rfl rfl)
  have s2 := okWide_slice Try.underlying29 (hval 2 29 v2 rfl rfl)
  have k0 := h0
  have k2 := h2
  have lt0 : ∀ x ∈ p0, x.block < W.heap.size := by obtain ⟨m, hm⟩ := k0; exact DataW.trod_lt m _ _ _ hm
  have lt2 : ∀ x ∈ p2, x.block < W.heap.size := by obtain ⟨m, hm⟩ := k2; exact DataW.trod_lt m _ _ _ hm
  have wt0 : ∀ n ∈ d0.weights Try.prog 33, n ≤ reachBytes := fun n hn => by
    have := List.all_eq_true.1 hsz n (DataW.weights_mem_each (j := 0) (by rfl) (by rfl) n hn)
    simpa using this
  have wt2 : ∀ n ∈ d2.weights Try.prog 29, n ≤ reachBytes := fun n hn => by
    have := List.all_eq_true.1 hsz n (DataW.weights_mem_each (j := 2) (by rfl) (by rfl) n hn)
    simpa using this
  obtain ⟨ps, x0⟩ := ints_argD s0 k0 wt0
  obtain ⟨l2, bs2, x2, y2⟩ := edits_arg s2 k2 wt2
  obtain ⟨a1, rfl, rfl, rfl, w1⟩ := open_int Try.underlying3 (hval 1 3 v1 rfl rfl) h1
  clear hA0 hval0
  refine Calls.mono (R := fun e w' => e = .returned (.bool true) ∧ Below W.heap.size W w') ((moves_is v0 ps a1 v2 l2 bs2 W x0 x2 y2).mono fun _ _ h => ⟨h.1, h.2.below⟩) fun e W' ⟨he, bel⟩ => ?_
  subst he
  exact ⟨_, rfl, _, _, _, [], _, [], hW', trodAll_mk1 (shut_bool Try.underlying4 _), (trodAll_cons_mk (Below.trod laidOutD (by kernel_rfl) (of_decide_eq_true (by kernel_rfl)) k0 bel lt0) (trodAll_cons_mk (shut_int Try.underlying3 w1) (trodAll_cons_mk (Below.trod laidOutD (by kernel_rfl) (of_decide_eq_true (by kernel_rfl)) k2 bel lt2) trodAll_mk0))), rfl, bel.frame _, fun h => by cases h⟩

theorem over : Rows.deltaMovesRow.holds Try.pinned (OpenSpec.ofChange Rows.deltaMovesSpec) :=
  OpenClaim.holds_of_wide 5 Try.f5 rfl rfl rfl rfl rfl rfl rfl ⟨rfl, rfl, rfl, rfl, rfl⟩ rfl rfl rfl rfl rfl (by kernel_rfl) Try.func5 (by kernel_rfl)
    (of_decide_eq_true (by kernel_rfl)) (by unfold Func.isWrapper; first | (rw [if_pos (by decide +kernel)]; kernel_rfl) | (rw [if_neg (by decide +kernel)]; exact ⟨rfl, rfl⟩))
    (fun os started H enc _ => lifted os started H enc)

end Fm
end Tr
end Ex
theorem deltaMoves_holds : Rows.DeltaMovesSaid := Ex.Tr.Fm.over
#print axioms deltaMoves_holds
end Go.Proofs.Ytemfnbccjbojfaa
