import Derived.Test.YtlgojnodhbmlkaaGreatDoorMExRef
import Derived.Test.YtlgojnodhbmlkaaGreatDoorMExRight
import Derived.Deep.RegionHeld3
namespace Go.Proofs.YtlgojnodhbmlkaaGreatDoor
open Go.RowKit
attribute [local go_sem] Oper.semAt_some
namespace Ex

set_option maxRecDepth 100000 in
set_option maxHeartbeats 4000000 in
theorem rpos_is (S : Nat → Prop) : ∀ (n : Nat) (p : PatN (n + 1)) (v : Value) (w : World), KidsAt S w n (kids p) v → rightP (n + 1) p = true →
    Calls Tryz.prog 45 #[valOf p v] w fun e w' => e = .returned (.int .i64 (posP (n + 1) p)) ∧ Kept w w' := by
  intro n
  induction n with
  | zero =>
    intro p v w h hr
    have HRP := hide1 hr
    obtain ⟨a, cap, rfl⟩ := h.form
    rw [valOf_eq]
    have HPO : Hid (posP (0 + 1) p = if kind p = 1 then 1 else if kind p = 4 then min ((kids p).foldl (fun acc q => min (acc + posP 0 q) 4097) 0 * copiesP (min_ p) (max_ p)) 4097 else (kids p).foldl (fun acc q => min (acc + posP 0 q) 4097) 0) := rfl
    rw [none_of (kids p)] at HPO ⊢
    clear h hr
    go_enter Tryz.func45, Tryz.ntmps45
    go_wp2_with fail
    obtain ⟨w5, hw5⟩ : ∃ w5, w5 = w.alloc (.cells #[.int .i64 (kind p), .int .i64 (from_ p), .int .i64 (to_ p), .int .i64 (min_ p), .int .i64 (max_ p), .slice a 0 cap] 24) := ⟨_, rfl⟩
    rw [← hw5]
    have HK5 : Hid (Kept w w5) := by rw [hw5]; exact (Kept.refl w).alloc _ _
    obtain ⟨b0, b1, b2, b3, b4, b5⟩ := box_at w (.int .i64 (kind p)) (.int .i64 (from_ p)) (.int .i64 (to_ p)) (.int .i64 (min_ p)) (.int .i64 (max_ p)) (.slice a 0 cap) 24
    rw [← hw5] at b0 b1 b2 b3 b4 b5
    have HB := hide1 (And.intro b0 (And.intro b1 (And.intro b2 (And.intro b3 (And.intro b4 b5)))))
    clear hw5 b0 b1 b2 b3 b4 b5
    go_loopw [3, 4] (fun x i wr => x = .int .i64 0 ∧ i = .int .i64 0 ∧ Hid (Kept w5 wr)) (fun _ _ _ => 0)
    case atStart => exact ⟨rfl, rfl, Kept.refl _⟩
    case round =>
      obtain ⟨rfl, rfl, HKr⟩ := hrel
      obtain ⟨b0, b1, b2, b3, b4, b5⟩ := HB.out
      have c0 := grown_cell HKr.out b0
      have c3 := grown_cell HKr.out b3
      have c4 := grown_cell HKr.out b4
      have c5 := grown_cell HKr.out b5
      clear b0 b1 b2 b3 b4 b5
      by_cases hk1 : kind p = 1
      · have ek : (kind p == 1) = true := by simpa using hk1
        have HK1 := hide1 hk1
        clear hk1
        go_wp2_with fail
        go_ret
        exact ⟨by rw [HPO.out, if_pos HK1.out]; rfl, gtrans HK5.out HKr.out⟩
      · have ek : (kind p == 1) = false := by simpa using hk1
        have HK1 := hide1 hk1
        clear hk1
        have HPV : Hid (posP (0 + 1) p = 0) := by
          show _ = _
          rw [HPO.out, if_neg HK1.out]
          split
          · show min ((0 : Int) * _) 4097 = 0
            rw [Int.zero_mul]; decide
          · rfl
        by_cases hk4 : kind p = 4
        · have e4 : (kind p == 4) = true := by simpa using hk4
          clear hk4
          by_cases hmx : 0 ≤ max_ p
          · go_wp2_with fail
            all_goals
              go_ret
              exact ⟨by rw [HPV.out]; rfl, gtrans HK5.out HKr.out⟩
          · by_cases hmn : 1 < min_ p
            · go_wp2_with fail
              all_goals
                go_ret
                exact ⟨by rw [HPV.out]; rfl, gtrans HK5.out HKr.out⟩
            · go_wp2_with fail
              all_goals
                go_ret
                exact ⟨by rw [HPV.out]; rfl, gtrans HK5.out HKr.out⟩
        · have e4 : (kind p == 4) = false := by simpa using hk4
          clear hk4
          go_wp2_with fail
          all_goals
            go_ret
            exact ⟨by rw [HPV.out]; rfl, gtrans HK5.out HKr.out⟩
  | succ n ih =>
    intro p v w h hr
    have IH := hide1 ih
    have HK := hide1 h
    have HR := hide1 (right_kid hr)
    have HRP := hide1 hr
    obtain ⟨a, cap, rfl⟩ := h.form
    obtain ⟨a', cap', e', hlc, hcm, _⟩ := h
    simp only [Value.slice.injEq] at e'
    obtain ⟨rfl, _, rfl⟩ := e'
    rw [valOf_eq]
    have HPO : Hid (posP (n + 1 + 1) p = if kind p = 1 then 1 else if kind p = 4 then min ((kids p).foldl (fun acc q => min (acc + posP (n + 1) q) 4097) 0 * copiesP (min_ p) (max_ p)) 4097 else (kids p).foldl (fun acc q => min (acc + posP (n + 1) q) 4097) 0) := rfl
    obtain ⟨L, hL⟩ : ∃ L, kids p = L := ⟨_, rfl⟩
    rw [hL] at hlc hcm HK HR HPO
    have gl : (L.length : Int) ≤ 17592186044416 := by omega
    have gc : (L.length : Int) ≤ (cap : Int) := by omega
    rw [hL]
    clear ih hlc hcm hL hr
    go_enter Tryz.func45, Tryz.ntmps45
    go_wp2_with fail
    obtain ⟨w5, hw5⟩ : ∃ w5, w5 = w.alloc (.cells #[.int .i64 (kind p), .int .i64 (from_ p), .int .i64 (to_ p), .int .i64 (min_ p), .int .i64 (max_ p), .slice a L.length cap] 24) := ⟨_, rfl⟩
    rw [← hw5]
    have HK5 : Hid (Kept w w5) := by rw [hw5]; exact (Kept.refl w).alloc _ _
    obtain ⟨b0, b1, b2, b3, b4, b5⟩ := box_at w (.int .i64 (kind p)) (.int .i64 (from_ p)) (.int .i64 (to_ p)) (.int .i64 (min_ p)) (.int .i64 (max_ p)) (.slice a L.length cap) 24
    rw [← hw5] at b0 b1 b2 b3 b4 b5
    have HB := hide1 (And.intro b0 (And.intro b1 (And.intro b2 (And.intro b3 (And.intro b4 b5)))))
    clear hw5 b0 b1 b2 b3 b4 b5
    go_loopw [3, 4] (fun x i wr => ∃ (j : Nat) (y : Int), x = .int .i64 y ∧ i = .int .i64 (j : Int) ∧ j ≤ L.length ∧ 0 ≤ y ∧ y ≤ 4097 ∧ Hid (Kept w5 wr) ∧ Hid (y = (L.take j).foldl (fun acc q => min (acc + posP (n + 1) q) 4097) 0)) (fun _ i _ => L.length - (intOf i).toNat)
    case atStart => exact ⟨0, 0, rfl, rfl, Nat.zero_le _, by decide, by decide, Kept.refl _, rfl⟩
    case round =>
      obtain ⟨j, y, rfl, rfl, hj, hy0, hy1, HKr, HY⟩ := hrel
      obtain ⟨b0, b1, b2, b3, b4, b5⟩ := HB.out
      have c0 := grown_cell HKr.out b0
      have c3 := grown_cell HKr.out b3
      have c4 := grown_cell HKr.out b4
      have c5 := grown_cell HKr.out b5
      clear b0 b1 b2 b3 b4 b5
      by_cases hlt : (j : Int) < (L.length : Int)
      · obtain ⟨q, hq⟩ : ∃ q, L[j]? = some q := ⟨_, List.getElem?_eq_getElem (by omega)⟩
        obtain ⟨a2, cap2, e2, _, _, h4⟩ := HK.out.kept (gtrans HK5.out HKr.out)
        simp only [Value.slice.injEq] at e2
        obtain ⟨rfl, _, rfl⟩ := e2
        rcases h4 with h4 | ⟨c, o, rfl, hSc, h7⟩
        · rw [h4] at hq; simp at hq
        · obtain ⟨v', g0, g1, g2, g3, g4, g5, g6⟩ := h7 j q hq
          obtain ⟨a3, cap3, rfl⟩ := g6.form
          have HG6 := hide1 g6
          have HQ := hide1 hq
          have hrq := HR.out q (List.mem_of_getElem? hq)
          obtain ⟨hp0, hp1⟩ := pos_in (n + 1) q hrq
          obtain ⟨z, hz⟩ : ∃ z, posP (n + 1) q = z := ⟨_, rfl⟩
          have HZ := hide1 hz
          rw [hz] at hp0 hp1
          have HRQ := hide1 hrq
          clear h7 g6 hq hrq hz c0 c3 c4
          go_wp2_with (go_at_call 45; refine (IH.out q _ _ HG6.out HRQ.out).mono ?_; rintro e w6 ⟨rfl, hk6⟩; rw [HZ.out]; have HK6 := hide1 (gtrans HKr.out hk6); clear hk6)
          all_goals
            go_roundw
            case rel => exact ⟨j + 1, _, rfl, by go_num, by omega, by omega, by omega, HK6, by rw [fold_snoc HQ.out, ← HY.out, HZ.out]; show _ = _; omega⟩
            case measure => simp [intOf]; omega
      · have HYL : Hid (y = L.foldl (fun acc q => min (acc + posP (n + 1) q) 4097) 0) := by have := HY.out; rw [List.take_of_length_le (by omega)] at this; exact this
        by_cases hk1 : kind p = 1
        · have ek : (kind p == 1) = true := by simpa using hk1
          have HK1 := hide1 hk1
          clear hk1
          go_wp2_with fail
          go_ret
          exact ⟨by rw [HPO.out, if_pos HK1.out]; rfl, gtrans HK5.out HKr.out⟩
        · have ek : (kind p == 1) = false := by simpa using hk1
          have HK1 := hide1 hk1
          clear hk1
          by_cases hk4 : kind p = 4
          · have e4 : (kind p == 4) = true := by simpa using hk4
            have ht := right_times HRP.out hk4
            obtain ⟨hc0, hc1⟩ := copies_in ht
            have HT := hide1 ht
            have HPV : Hid (posP (n + 1 + 1) p = min (y * copiesP (min_ p) (max_ p)) 4097) := by show _ = _; rw [HPO.out, if_neg HK1.out, if_pos hk4, ← HYL.out]
            clear hk4 ht
            generalize kind p = k at *
            generalize min_ p = mn at *
            generalize max_ p = mx at *
            by_cases hmx : 0 ≤ mx
            · have ec : copiesP mn mx = mx := by unfold copiesP; rw [if_neg (by omega)]
              rw [ec] at hc0 hc1 HPV
              have hprod := Int.mul_nonneg hy0 hc0
              have hprod2 : y * mx ≤ 4097 * 1000 := Int.le_trans (Int.mul_le_mul_of_nonneg_right hy1 hc0) (Int.mul_le_mul_of_nonneg_left hc1 (by decide))
              clear ec
              go_wp2_with fail
              all_goals
                go_ret
                exact ⟨by rw [HPV.out]; exact congrArg (fun x => Ending.returned (Value.int .i64 x)) (by omega), gtrans HK5.out HKr.out⟩
            · have em : mx = -1 := by have := HT.out; omega
              by_cases hmn : 1 < mn
              · have ec : copiesP mn mx = mn := by unfold copiesP; rw [if_pos em]; omega
                rw [ec] at hc0 hc1 HPV
                have hprod := Int.mul_nonneg hy0 hc0
                have hprod2 : y * mn ≤ 4097 * 1000 := Int.le_trans (Int.mul_le_mul_of_nonneg_right hy1 hc0) (Int.mul_le_mul_of_nonneg_left hc1 (by decide))
                clear ec em
                go_wp2_with fail
                all_goals
                  go_ret
                  exact ⟨by rw [HPV.out]; exact congrArg (fun x => Ending.returned (Value.int .i64 x)) (by omega), gtrans HK5.out HKr.out⟩
              · have ec : copiesP mn mx = 1 := by unfold copiesP; rw [if_pos em]; omega
                rw [ec, Int.mul_one] at HPV
                clear ec em hc0 hc1
                go_wp2_with fail
                all_goals
                  go_ret
                  exact ⟨by rw [HPV.out]; exact congrArg (fun x => Ending.returned (Value.int .i64 x)) (by omega), gtrans HK5.out HKr.out⟩
          · have e4 : (kind p == 4) = false := by simpa using hk4
            have HPV : Hid (posP (n + 1 + 1) p = y) := by show _ = _; rw [HPO.out, if_neg HK1.out, if_neg hk4, ← HYL.out]
            clear hk4
            go_wp2_with fail
            all_goals
              go_ret
              exact ⟨by rw [HPV.out]; exact congrArg (fun x => Ending.returned (Value.int .i64 x)) (by omega), gtrans HK5.out HKr.out⟩

end Ex
end Go.Proofs.YtlgojnodhbmlkaaGreatDoor
namespace Go.Proofs.YtlgojnodhbmlkaaGreatDoor
open Go.RowKit
attribute [local go_sem] Oper.semAt_some
namespace Ex

theorem right_two {n : Nat} {p : PatN (n + 1)} (h : rightP (n + 1) p = true) (h1 : ¬ kind p = 1) (h3 : ¬ kind p = 3) (h4 : ¬ kind p = 4) : kind p = 2 := by
  have h' : (topOf p && (kids p).all (rightP n)) = true := h
  rw [Bool.and_eq_true] at h'
  have h2 := h'.1
  unfold topOf topP at h2
  rw [if_neg h1] at h2
  by_cases hk : kind p = 2
  · exact hk
  · rw [if_neg hk, if_neg h3, if_neg h4] at h2; cases h2

end Ex
end Go.Proofs.YtlgojnodhbmlkaaGreatDoor
