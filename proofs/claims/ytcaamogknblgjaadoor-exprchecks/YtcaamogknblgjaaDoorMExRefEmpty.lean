import Derived.Test.YtcaamogknblgjaaDoorMExRefPos
import Derived.Deep.RegionHeld3
namespace Go.Proofs.YtcaamogknblgjaaDoor
open Go.RowKit
attribute [local go_sem] Oper.semAt_some
namespace Ex

theorem right_two {n : Nat} {p : PatN (n + 1)} (h : rightP (n + 1) p = true) (h1 : ¬ kind p = 1) (h3 : ¬ kind p = 3) (h4 : ¬ kind p = 4) : kind p = 2 := by
  have h' : (topOf p && (kids p).all (rightP n)) = true := h
  rw [Bool.and_eq_true] at h'
  have h2 := h'.1
  unfold topOf topP at h2
  rw [if_neg h1] at h2
  by_cases hk : kind p = 2
  · exact hk
  · rw [if_neg hk, if_neg h3, if_neg h4] at h2; cases h2

set_option linter.unusedSimpArgs false in
set_option maxRecDepth 100000 in
set_option maxHeartbeats 4000000 in
theorem rempty_is (S : Nat → Prop) : ∀ (n : Nat) (p : PatN (n + 1)) (v : Value) (w : World), KidsAt S w n (kids p) v → rightP (n + 1) p = true →
    Calls Tryd.prog 20 #[valOf p v] w fun e w' => e = .returned (.bool (emptyP (n + 1) p)) ∧ Kept w w' := by
  intro n
  induction n with
  | zero =>
    intro p v w h hr
    have HN4 : Hid (¬ kind p = 4) := fun hk => by have := right_one hr hk; rw [none_of (kids p)] at this; simp at this
    have HN2 := hide1 (right_two hr)
    obtain ⟨a, cap, rfl⟩ := h.form
    rw [valOf_eq]
    have HEM : Hid (emptyP 1 p = if kind p = 1 then false else if kind p = 3 then (kids p).any (emptyP 0) else if kind p = 4 then min_ p == 0 || ((kids p).head?.map (emptyP 0)).getD false else (kids p).all (emptyP 0)) := rfl
    rw [none_of (kids p)] at HEM ⊢
    clear h hr
    go_enter Tryd.func20, Tryd.ntmps20
    by_cases hk1 : kind p = 1
    · have ek : (kind p == 1) = true := by simpa using hk1
      have HK1 := hide1 hk1
      clear hk1
      go_wp2_with fail
      go_ret
      exact ⟨by rw [HEM.out, if_pos HK1.out]; rfl, (Kept.refl w).alloc _ _⟩
    · have ek : (kind p == 1) = false := by simpa using hk1
      have HK1 := hide1 hk1
      clear hk1
      have e4 : (kind p == 4) = false := by simpa using HN4.out
      by_cases hk3 : kind p = 3
      · have e3 : (kind p == 3) = true := by simpa using hk3
        have e2 : (kind p == 2) = false := by rw [hk3]; rfl
        have HEV : Hid (emptyP 1 p = false) := by show _ = _; rw [HEM.out, if_neg HK1.out, if_pos hk3]; rfl
        clear hk3
        go_wp2_with fail
        obtain ⟨w5, hw5⟩ : ∃ w5, w5 = w.alloc (.cells #[.int .i64 (kind p), .int .i64 (from_ p), .int .i64 (to_ p), .int .i64 (min_ p), .int .i64 (max_ p), .slice a 0 cap] 24) := ⟨_, rfl⟩
        rw [← hw5]
        have HK5 : Hid (Kept w w5) := by rw [hw5]; exact (Kept.refl w).alloc _ _
        obtain ⟨b0, b1, b2, b3, b4, b5⟩ := box_at w (.int .i64 (kind p)) (.int .i64 (from_ p)) (.int .i64 (to_ p)) (.int .i64 (min_ p)) (.int .i64 (max_ p)) (.slice a 0 cap) 24
        rw [← hw5] at b0 b1 b2 b3 b4 b5
        have HB := hide1 (And.intro b0 b5)
        clear hw5 b0 b1 b2 b3 b4 b5
        go_loopw [3] (fun i wr => i = .int .i64 0 ∧ Hid (Kept w5 wr)) (fun _ _ => 0)
        case atStart => exact ⟨rfl, Kept.refl _⟩
        case round =>
          obtain ⟨rfl, HKr⟩ := hrel
          have c0 := grown_cell HKr.out HB.out.1
          have c5 := grown_cell HKr.out HB.out.2
          go_wp2_with fail
          go_ret
          exact ⟨by rw [HEV.out]; rfl, gtrans HK5.out HKr.out⟩
      · have e3 : (kind p == 3) = false := by simpa using hk3
        have e2 : (kind p == 2) = true := by rw [HN2.out HK1.out hk3 HN4.out]; rfl
        have HEV : Hid (emptyP 1 p = true) := by show _ = _; rw [HEM.out, if_neg HK1.out, if_neg hk3, if_neg HN4.out]; rfl
        clear hk3
        go_wp2_with fail
        obtain ⟨w5, hw5⟩ : ∃ w5, w5 = w.alloc (.cells #[.int .i64 (kind p), .int .i64 (from_ p), .int .i64 (to_ p), .int .i64 (min_ p), .int .i64 (max_ p), .slice a 0 cap] 24) := ⟨_, rfl⟩
        rw [← hw5]
        have HK5 : Hid (Kept w w5) := by rw [hw5]; exact (Kept.refl w).alloc _ _
        obtain ⟨b0, b1, b2, b3, b4, b5⟩ := box_at w (.int .i64 (kind p)) (.int .i64 (from_ p)) (.int .i64 (to_ p)) (.int .i64 (min_ p)) (.int .i64 (max_ p)) (.slice a 0 cap) 24
        rw [← hw5] at b0 b1 b2 b3 b4 b5
        have HB := hide1 (And.intro b0 b5)
        clear hw5 b0 b1 b2 b3 b4 b5
        go_loopw [3] (fun i wr => i = .int .i64 0 ∧ Hid (Kept w5 wr)) (fun _ _ => 0)
        case atStart => exact ⟨rfl, Kept.refl _⟩
        case round =>
          obtain ⟨rfl, HKr⟩ := hrel
          have c0 := grown_cell HKr.out HB.out.1
          have c5 := grown_cell HKr.out HB.out.2
          go_wp2_with fail
          go_ret
          exact ⟨by rw [HEV.out]; rfl, gtrans HK5.out HKr.out⟩
  | succ n ih =>
    intro p v w h hr
    have IH := hide1 ih
    have HK := hide1 h
    have HR := hide1 (right_kid hr)
    have HN2 := hide1 (right_two hr)
    have HONE : Hid (kind p = 4 → (kids p).length = 1) := fun hk => right_one hr hk
    obtain ⟨a, cap, rfl⟩ := h.form
    obtain ⟨a', cap', e', hlc, hcm, _⟩ := h
    simp only [Value.slice.injEq] at e'
    obtain ⟨rfl, _, rfl⟩ := e'
    rw [valOf_eq]
    have HEM : Hid (emptyP (n + 1 + 1) p = if kind p = 1 then false else if kind p = 3 then (kids p).any (emptyP (n + 1)) else if kind p = 4 then min_ p == 0 || ((kids p).head?.map (emptyP (n + 1))).getD false else (kids p).all (emptyP (n + 1))) := rfl
    obtain ⟨L, hL⟩ : ∃ L, kids p = L := ⟨_, rfl⟩
    rw [hL] at hlc hcm HK HR HEM HONE
    have gl : (L.length : Int) ≤ 17592186044416 := by omega
    have gc : (L.length : Int) ≤ (cap : Int) := by omega
    rw [hL]
    clear ih hlc hcm hL hr
    go_enter Tryd.func20, Tryd.ntmps20
    by_cases hk1 : kind p = 1
    · have ek : (kind p == 1) = true := by simpa using hk1
      have HK1 := hide1 hk1
      clear hk1
      go_wp2_with fail
      go_ret
      exact ⟨by rw [HEM.out, if_pos HK1.out]; rfl, (Kept.refl w).alloc _ _⟩
    · have ek : (kind p == 1) = false := by simpa using hk1
      have HK1 := hide1 hk1
      clear hk1
      by_cases hk4 : kind p = 4
      · have e4 : (kind p == 4) = true := by simpa using hk4
        have HK3 : Hid (¬ kind p = 3) := fun hk => by rw [hk4] at hk; exact absurd hk (by decide)
        have hone := HONE.out hk4
        have hlt : (0 : Int) < (L.length : Int) := by omega
        obtain ⟨q, hq⟩ : ∃ q, L[0]? = some q := ⟨_, List.getElem?_eq_getElem (by omega)⟩
        have HV : Hid (emptyP (n + 1 + 1) p = (min_ p == 0 || emptyP (n + 1) q)) := by
          show _ = _
          rw [HEM.out, if_neg HK1.out, if_neg HK3.out, if_pos hk4, List.head?_eq_getElem?, hq]; rfl
        clear hk4 hone
        by_cases hm : min_ p = 0
        · have em : (min_ p == 0) = true := by simpa using hm
          have HM := hide1 em
          clear hm hq
          go_wp2_with fail
          go_ret
          exact ⟨by rw [HV.out, HM.out]; rfl, (Kept.refl w).alloc _ _⟩
        · have em : (min_ p == 0) = false := by simpa using hm
          have HM := hide1 em
          obtain ⟨W, hW⟩ : ∃ W, W = w.alloc (.cells #[.int .i64 (kind p), .int .i64 (from_ p), .int .i64 (to_ p), .int .i64 (min_ p), .int .i64 (max_ p), .slice a L.length cap] 24) := ⟨_, rfl⟩
          have HKW : Hid (Kept w W) := by rw [hW]; exact (Kept.refl w).alloc _ _
          obtain ⟨a2, cap2, e2, _, _, h4⟩ := HK.out.kept HKW.out
          simp only [Value.slice.injEq] at e2
          obtain ⟨rfl, _, rfl⟩ := e2
          rcases h4 with h4 | ⟨c, o, rfl, hSc, h7⟩
          · rw [h4] at hq; simp at hq
          · obtain ⟨v', g0, g1, g2, g3, g4, g5, g6⟩ := h7 0 q hq
            obtain ⟨a3, cap3, rfl⟩ := g6.form
            have HG6 := hide1 g6
            have HRQ := hide1 (HR.out q (List.mem_of_getElem? hq))
            simp only [Nat.zero_mul, Nat.add_zero] at g0 g1 g2 g3 g4 g5
            clear h7 g6 hq hm
            rw [hW] at g0 g1 g2 g3 g4 g5
            go_wp2_with (go_at_call 20; rw [← hW]; refine (IH.out q _ _ HG6.out HRQ.out).mono ?_; rintro e w6 ⟨rfl, hk6⟩; have HK6 := hide1 (gtrans HKW.out hk6); clear hk6)
            go_ret
            exact ⟨by rw [HV.out, HM.out]; rfl, HK6.out⟩
      · have e4 : (kind p == 4) = false := by simpa using hk4
        have HK4 := hide1 hk4
        clear hk4
        by_cases hk3 : kind p = 3
        · have e3 : (kind p == 3) = true := by simpa using hk3
          have e2 : (kind p == 2) = false := by rw [hk3]; rfl
          have HK3 := hide1 hk3
          clear hk3
          go_wp2_with fail
          obtain ⟨w5, hw5⟩ : ∃ w5, w5 = w.alloc (.cells #[.int .i64 (kind p), .int .i64 (from_ p), .int .i64 (to_ p), .int .i64 (min_ p), .int .i64 (max_ p), .slice a L.length cap] 24) := ⟨_, rfl⟩
          rw [← hw5]
          have HK5 : Hid (Kept w w5) := by rw [hw5]; exact (Kept.refl w).alloc _ _
          obtain ⟨b0, b1, b2, b3, b4, b5⟩ := box_at w (.int .i64 (kind p)) (.int .i64 (from_ p)) (.int .i64 (to_ p)) (.int .i64 (min_ p)) (.int .i64 (max_ p)) (.slice a L.length cap) 24
          rw [← hw5] at b0 b1 b2 b3 b4 b5
          have HB := hide1 (And.intro b0 b5)
          clear hw5 b0 b1 b2 b3 b4 b5
          go_loopw [3] (fun i wr => ∃ j : Nat, i = .int .i64 (j : Int) ∧ j ≤ L.length ∧ Hid (Kept w5 wr) ∧ Hid ((L.take j).any (emptyP (n + 1)) = false)) (fun i _ => L.length - (intOf i).toNat)
          case atStart => exact ⟨0, rfl, Nat.zero_le _, Kept.refl _, rfl⟩
          case round =>
            obtain ⟨j, rfl, hj, HKr, HALL⟩ := hrel
            have c0 := grown_cell HKr.out HB.out.1
            have c5 := grown_cell HKr.out HB.out.2
            by_cases hlt : (j : Int) < (L.length : Int)
            · obtain ⟨q, hq⟩ : ∃ q, L[j]? = some q := ⟨_, List.getElem?_eq_getElem (by omega)⟩
              obtain ⟨a2, cap2, e2', _, _, h4⟩ := HK.out.kept (gtrans HK5.out HKr.out)
              simp only [Value.slice.injEq] at e2'
              obtain ⟨rfl, _, rfl⟩ := e2'
              rcases h4 with h4 | ⟨c, o, rfl, hSc, h7⟩
              · rw [h4] at hq; simp at hq
              · obtain ⟨v', g0, g1, g2, g3, g4, g5, g6⟩ := h7 j q hq
                obtain ⟨a3, cap3, rfl⟩ := g6.form
                have HG6 := hide1 g6
                have HQ := hide1 hq
                have HRQ := hide1 (HR.out q (List.mem_of_getElem? hq))
                clear h7 g6 hq
                by_cases hrq : emptyP (n + 1) q = false
                · have HRE := hide1 hrq
                  clear hrq
                  have hkr : Kept wr wr := Kept.refl wr
                  have q0 := keeps c0
                  have q5 := keeps c5
                  have r0 := keeps g0
                  have r1 := keeps g1
                  have r2 := keeps g2
                  have r3 := keeps g3
                  have r4 := keeps g4
                  have r5 := keeps g5
                  go_wp2_with fail
                  go_region_held3 (fun w' => Kept wr w') (first | assumption | exact Kept.refl _ | exact gtrans (by assumption) (by assumption))
                    ((first | (go_at_call 20; refine (IH.out q _ _ (HG6.out.kept (by assumption)) HRQ.out).mono ?_; rintro e w6 ⟨rfl, hk6⟩; rw [HRE.out])))
                  have hk06 : Kept wr w6 := by assumption
                  have HK6 := hide1 (gtrans HKr.out hk06)
                  have c60 := q0 w6 hk06
                  have c65 := q5 w6 hk06
                  clear hk6 hk06 q0 q5 r0 r1 r2 r3 r4 r5 c0 c5 g0 g1 g2 g3 g4 g5 hkr
                  go_wp2_with fail
                  go_roundw
                  case rel => exact ⟨j + 1, by go_num, by omega, HK6, any_snoc HQ.out HALL.out HRE.out⟩
                  case measure => simp [intOf]; omega
                · have HRE : Hid (emptyP (n + 1) q = true) := by show _ = _; simpa using hrq
                  clear hrq
                  have hkr : Kept wr wr := Kept.refl wr
                  have q0 := keeps c0
                  have q5 := keeps c5
                  have r0 := keeps g0
                  have r1 := keeps g1
                  have r2 := keeps g2
                  have r3 := keeps g3
                  have r4 := keeps g4
                  have r5 := keeps g5
                  go_wp2_with fail
                  go_region_held3 (fun w' => Kept wr w') (first | assumption | exact Kept.refl _ | exact gtrans (by assumption) (by assumption))
                    ((first | (go_at_call 20; refine (IH.out q _ _ (HG6.out.kept (by assumption)) HRQ.out).mono ?_; rintro e w6 ⟨rfl, hk6⟩; rw [HRE.out])))
                  have hk06 : Kept wr w6 := by assumption
                  have HK6 := hide1 (gtrans HKr.out hk06)
                  have c60 := q0 w6 hk06
                  have c65 := q5 w6 hk06
                  clear hk6 hk06 q0 q5 r0 r1 r2 r3 r4 r5 c0 c5 g0 g1 g2 g3 g4 g5 hkr
                  go_wp2_with fail
                  go_ret
                  exact ⟨by rw [HEM.out, if_neg HK1.out, if_pos HK3.out, any_yes HQ.out HRE.out]; rfl, gtrans HK5.out HK6.out⟩
            · have HAL := HALL.out
              rw [List.take_of_length_le (by omega)] at HAL
              have HA2 := hide1 HAL
              clear HAL
              go_wp2_with fail
              go_ret
              exact ⟨by rw [HEM.out, if_neg HK1.out, if_pos HK3.out, HA2.out]; rfl, gtrans HK5.out HKr.out⟩
        · have e3 : (kind p == 3) = false := by simpa using hk3
          have e2 : (kind p == 2) = true := by rw [HN2.out HK1.out hk3 HK4.out]; rfl
          have HK3 := hide1 hk3
          clear hk3
          go_wp2_with fail
          obtain ⟨w5, hw5⟩ : ∃ w5, w5 = w.alloc (.cells #[.int .i64 (kind p), .int .i64 (from_ p), .int .i64 (to_ p), .int .i64 (min_ p), .int .i64 (max_ p), .slice a L.length cap] 24) := ⟨_, rfl⟩
          rw [← hw5]
          have HK5 : Hid (Kept w w5) := by rw [hw5]; exact (Kept.refl w).alloc _ _
          obtain ⟨b0, b1, b2, b3, b4, b5⟩ := box_at w (.int .i64 (kind p)) (.int .i64 (from_ p)) (.int .i64 (to_ p)) (.int .i64 (min_ p)) (.int .i64 (max_ p)) (.slice a L.length cap) 24
          rw [← hw5] at b0 b1 b2 b3 b4 b5
          have HB := hide1 (And.intro b0 b5)
          clear hw5 b0 b1 b2 b3 b4 b5
          go_loopw [3] (fun i wr => ∃ j : Nat, i = .int .i64 (j : Int) ∧ j ≤ L.length ∧ Hid (Kept w5 wr) ∧ Hid ((L.take j).all (emptyP (n + 1)) = true)) (fun i _ => L.length - (intOf i).toNat)
          case atStart => exact ⟨0, rfl, Nat.zero_le _, Kept.refl _, rfl⟩
          case round =>
            obtain ⟨j, rfl, hj, HKr, HALL⟩ := hrel
            have c0 := grown_cell HKr.out HB.out.1
            have c5 := grown_cell HKr.out HB.out.2
            by_cases hlt : (j : Int) < (L.length : Int)
            · obtain ⟨q, hq⟩ : ∃ q, L[j]? = some q := ⟨_, List.getElem?_eq_getElem (by omega)⟩
              obtain ⟨a2, cap2, e2', _, _, h4⟩ := HK.out.kept (gtrans HK5.out HKr.out)
              simp only [Value.slice.injEq] at e2'
              obtain ⟨rfl, _, rfl⟩ := e2'
              rcases h4 with h4 | ⟨c, o, rfl, hSc, h7⟩
              · rw [h4] at hq; simp at hq
              · obtain ⟨v', g0, g1, g2, g3, g4, g5, g6⟩ := h7 j q hq
                obtain ⟨a3, cap3, rfl⟩ := g6.form
                have HG6 := hide1 g6
                have HQ := hide1 hq
                have HRQ := hide1 (HR.out q (List.mem_of_getElem? hq))
                clear h7 g6 hq
                by_cases hrq : emptyP (n + 1) q = true
                · have HRE := hide1 hrq
                  clear hrq
                  have hkr : Kept wr wr := Kept.refl wr
                  have q0 := keeps c0
                  have q5 := keeps c5
                  have r0 := keeps g0
                  have r1 := keeps g1
                  have r2 := keeps g2
                  have r3 := keeps g3
                  have r4 := keeps g4
                  have r5 := keeps g5
                  go_wp2_with fail
                  go_region_held3 (fun w' => Kept wr w') (first | assumption | exact Kept.refl _ | exact gtrans (by assumption) (by assumption))
                    ((first | (go_at_call 20; refine (IH.out q _ _ (HG6.out.kept (by assumption)) HRQ.out).mono ?_; rintro e w6 ⟨rfl, hk6⟩; rw [HRE.out])))
                  have hk06 : Kept wr w6 := by assumption
                  have HK6 := hide1 (gtrans HKr.out hk06)
                  have c60 := q0 w6 hk06
                  have c65 := q5 w6 hk06
                  clear hk6 hk06 q0 q5 r0 r1 r2 r3 r4 r5 c0 c5 g0 g1 g2 g3 g4 g5 hkr
                  go_wp2_with fail
                  go_roundw
                  case rel => exact ⟨j + 1, by go_num, by omega, HK6, all_snoc HQ.out HALL.out HRE.out⟩
                  case measure => simp [intOf]; omega
                · have HRE : Hid (emptyP (n + 1) q = false) := by show _ = _; simpa using hrq
                  clear hrq
                  have hkr : Kept wr wr := Kept.refl wr
                  have q0 := keeps c0
                  have q5 := keeps c5
                  have r0 := keeps g0
                  have r1 := keeps g1
                  have r2 := keeps g2
                  have r3 := keeps g3
                  have r4 := keeps g4
                  have r5 := keeps g5
                  go_wp2_with fail
                  go_region_held3 (fun w' => Kept wr w') (first | assumption | exact Kept.refl _ | exact gtrans (by assumption) (by assumption))
                    ((first | (go_at_call 20; refine (IH.out q _ _ (HG6.out.kept (by assumption)) HRQ.out).mono ?_; rintro e w6 ⟨rfl, hk6⟩; rw [HRE.out])))
                  have hk06 : Kept wr w6 := by assumption
                  have HK6 := hide1 (gtrans HKr.out hk06)
                  have c60 := q0 w6 hk06
                  have c65 := q5 w6 hk06
                  clear hk6 hk06 q0 q5 r0 r1 r2 r3 r4 r5 c0 c5 g0 g1 g2 g3 g4 g5 hkr
                  go_wp2_with fail
                  go_ret
                  exact ⟨by rw [HEM.out, if_neg HK1.out, if_neg HK3.out, if_neg HK4.out, all_not HQ.out HRE.out]; rfl, gtrans HK5.out HK6.out⟩
            · have HAL := HALL.out
              rw [List.take_of_length_le (by omega)] at HAL
              have HA2 := hide1 HAL
              clear HAL
              go_wp2_with fail
              go_ret
              exact ⟨by rw [HEM.out, if_neg HK1.out, if_neg HK3.out, if_neg HK4.out, HA2.out]; rfl, gtrans HK5.out HKr.out⟩

end Ex
end Go.Proofs.YtcaamogknblgjaaDoor
