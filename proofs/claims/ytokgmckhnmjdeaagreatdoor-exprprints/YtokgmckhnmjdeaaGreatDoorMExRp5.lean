import Derived.Test.YtokgmckhnmjdeaaGreatDoorMExRp1
import Derived.Deep.RegionHeld3
import Derived.Deep.Cut
namespace Go.Proofs.YtokgmckhnmjdeaaGreatDoor
open Go.RowKit
attribute [local go_sem] Oper.semAt_some
namespace Ex

theorem dec_two (n : Int) (w : World) (h0 : 0 ≤ n) (h1 : n < 100) : Calls Tryz.prog 45 #[.int .i64 n] w fun r w' => SGives (decW n) w r w' := by
  by_cases h : n < 10
  · exact dec_one n w h0 h
  · exact dec_step n w (by omega) (by omega) (fun w => dec_one (n / 10) w (by omega) (by omega))
theorem dec_three (n : Int) (w : World) (h0 : 0 ≤ n) (h1 : n < 1000) : Calls Tryz.prog 45 #[.int .i64 n] w fun r w' => SGives (decW n) w r w' := by
  by_cases h : n < 10
  · exact dec_one n w h0 h
  · exact dec_step n w (by omega) (by omega) (fun w => dec_two (n / 10) w (by omega) (by omega))
theorem decimal_is (n : Int) (w : World) (h0 : 0 ≤ n) (h1 : n ≤ 1000) : Calls Tryz.prog 45 #[.int .i64 n] w fun r w' => SGives (decW n) w r w' := by
  by_cases h : n < 10
  · exact dec_one n w h0 h
  · exact dec_step n w (by omega) (by omega) (fun w => dec_three (n / 10) w (by omega) (by omega))
theorem size_dec {s : ByteArray} {n : Int} (h : strI s = decW n) : (s.size : Int) ≤ 4 := by rw [strI_size _ _ h]; have := (decW_len n).2; omega
set_option linter.unusedSimpArgs false in
set_option maxRecDepth 100000 in
set_option maxHeartbeats 4000000 in
theorem rtimes_is (k f t mn mx : Int) (v : Value) (w : World) (h0 : 0 ≤ mn) (h1 : mn ≤ 1000) (h2 : mx = -1 ∨ mn ≤ mx ∧ mx ≤ 1000) : Calls Tryz.prog 32 #[.agg #[.int .i64 k, .int .i64 f, .int .i64 t, .int .i64 mn, .int .i64 mx, v]] w fun r w' => SGives (timesA mn mx) w r w' := by
  have HT : Hid (timesA mn mx = if mn = 0 ∧ mx = -1 then [42] else if mn = 1 ∧ mx = -1 then [43] else if mn = 0 ∧ mx = 1 then [63] else if mx = mn then 123 :: (decW mn ++ [125]) else if mx = -1 then 123 :: (decW mn ++ [44, 125]) else 123 :: (decW mn ++ 44 :: (decW mx ++ [125]))) := rfl
  go_enter Tryz.func32, Tryz.ntmps32
  by_cases hm : mx = -1
  · clear h2
    subst hm
    by_cases hm0 : mn = 0
    · subst hm0
      go_wp2_with fail
      go_ret
      exact ⟨⟨_, rfl, rfl⟩, (Kept.refl w).alloc _ _⟩
    · by_cases hm1 : mn = 1
      · subst hm1
        go_wp2_with fail
        go_ret
        exact ⟨⟨_, rfl, rfl⟩, (Kept.refl w).alloc _ _⟩
      · have b0 : (mn == 0) = false := by simpa using hm0
        have b1 : (mn == 1) = false := by simpa using hm1
        rw [if_neg (by omega), if_neg (by omega), if_neg (by omega), if_neg (by omega), if_pos rfl] at HT
        go_wp2_with (go_at_call 45; refine (decimal_is mn _ h0 h1).mono ?_; rintro e w8 ⟨⟨s8, rfl, hs8⟩, hk8⟩; have hz8 := size_dec hs8; have c4 := grown_cell hk8 (box_at w _ _ _ _ _ _ _).2.2.2.2.1; have HS8 := hide1 hs8; have HK8 := hide1 (gtrans ((Kept.refl w).alloc _ _) hk8); clear hs8 hk8)
        go_ret
        refine ⟨⟨_, rfl, ?_⟩, HK8.out⟩
        rw [HT.out]
        simp only [strI_app, HS8.out, List.append_assoc]
        rfl
  · have h2 : mn ≤ mx ∧ mx ≤ 1000 := by omega
    have hn1 : ¬ mx < 0 := by omega
    by_cases he : mx = mn
    · subst he
      rw [if_neg (by omega), if_neg (by omega), if_neg (by omega), if_pos rfl] at HT
      by_cases hz : mx = 0
      · subst hz
        go_wp2_with (go_at_call 45; refine (decimal_is 0 _ (by omega) (by omega)).mono ?_; rintro e w8 ⟨⟨s8, rfl, hs8⟩, hk8⟩; have hz8 := size_dec hs8; have c4 := grown_cell hk8 (box_at w _ _ _ _ _ _ _).2.2.2.2.1; have HS8 := hide1 hs8; have HK8 := hide1 (gtrans ((Kept.refl w).alloc _ _) hk8); clear hs8 hk8)
        go_ret
        refine ⟨⟨_, rfl, ?_⟩, HK8.out⟩
        rw [HT.out]
        simp only [strI_app, HS8.out, List.append_assoc]
        rfl
      · have hz0 : (mx == 0) = false := by simpa using hz
        by_cases hu : mx = 1
        · subst hu
          go_wp2_with (go_at_call 45; refine (decimal_is 1 _ (by omega) (by omega)).mono ?_; rintro e w8 ⟨⟨s8, rfl, hs8⟩, hk8⟩; have hz8 := size_dec hs8; have c4 := grown_cell hk8 (box_at w _ _ _ _ _ _ _).2.2.2.2.1; have HS8 := hide1 hs8; have HK8 := hide1 (gtrans ((Kept.refl w).alloc _ _) hk8); clear hs8 hk8)
          go_ret
          refine ⟨⟨_, rfl, ?_⟩, HK8.out⟩
          rw [HT.out]
          simp only [strI_app, HS8.out, List.append_assoc]
          rfl
        · have hu0 : (mx == 1) = false := by simpa using hu
          go_wp2_with (go_at_call 45; refine (decimal_is mx _ (by omega) (by omega)).mono ?_; rintro e w8 ⟨⟨s8, rfl, hs8⟩, hk8⟩; have hz8 := size_dec hs8; have c4 := grown_cell hk8 (box_at w _ _ _ _ _ _ _).2.2.2.2.1; have HS8 := hide1 hs8; have HK8 := hide1 (gtrans ((Kept.refl w).alloc _ _) hk8); clear hs8 hk8)
          go_ret
          refine ⟨⟨_, rfl, ?_⟩, HK8.out⟩
          rw [HT.out]
          simp only [strI_app, HS8.out, List.append_assoc]
          rfl
    · have he0 : (mx == mn) = false := by simpa using he
      by_cases hq : mn = 0 ∧ mx = 1
      · obtain ⟨rfl, rfl⟩ := hq
        go_wp2_with fail
        go_ret
        exact ⟨⟨_, rfl, rfl⟩, (Kept.refl w).alloc _ _⟩
      · rw [if_neg (by omega), if_neg (by omega), if_neg hq, if_neg he, if_neg hm] at HT
        by_cases hz : mn = 0
        · subst hz
          have hx1 : (mx == 1) = false := by rw [beq_eq_false_iff_ne]; omega
          go_wp2_with fail
          obtain ⟨W1, hW1⟩ : ∃ W1, W1 = w.alloc (.cells #[.int .i64 k, .int .i64 f, .int .i64 t, .int .i64 0, .int .i64 mx, v] 24) := ⟨_, rfl⟩
          rw [← hW1]
          have HKW : Hid (Kept w W1) := by rw [hW1]; exact (Kept.refl w).alloc _ _
          obtain ⟨_, _, _, c3, c4, _⟩ := box_at w (.int .i64 k) (.int .i64 f) (.int .i64 t) (.int .i64 0) (.int .i64 mx) v 24
          rw [← hW1] at c3 c4
          have q3 := keeps c3
          have q4 := keeps c4
          have hkr : Kept W1 W1 := Kept.refl W1
          clear hW1
          go_region_held3 (fun w' => Kept W1 w') (first | assumption | exact Kept.refl _ | exact gtrans (by assumption) (by assumption))
            ((first
              | (have _g := hs8; clear _g; go_at_call 45; refine (decimal_is mx _ (by omega) (by omega)).mono ?_; rintro e w9 ⟨⟨s9, rfl, hs9⟩, hk9⟩; have k9 : Kept W1 w9 := gtrans (by assumption) hk9; have z9 := size_dec hs9; have n3 : ¬ 9223372036854775807 < 1 + s8.size + 1 + s9.size := (by omega); have n4 : ¬ 9223372036854775807 < 1 + s8.size + 1 + s9.size + 1 := (by omega))
              | (go_at_call 45; refine (decimal_is 0 _ (by omega) (by omega)).mono ?_; rintro e w8 ⟨⟨s8, rfl, hs8⟩, hk8⟩; have k8 : Kept W1 w8 := gtrans (by assumption) hk8; have z8 := size_dec hs8; have n1 : ¬ 9223372036854775807 < 1 + s8.size := (by omega); have n2 : ¬ 9223372036854775807 < 1 + s8.size + 1 := (by omega))))
          all_goals
            have HS8 := hide1 hs8
            have HS9 := hide1 hs9
            have HK9 := hide1 (gtrans HKW.out k9)
            go_wp2_with fail
            go_ret
            refine ⟨⟨_, rfl, ?_⟩, HK9.out⟩
            rw [HT.out]
            simp only [strI_app, HS8.out, HS9.out, List.append_assoc]
            rfl
        · have hz0 : (mn == 0) = false := by simpa using hz
          by_cases hu : mn = 1
          · subst hu
            go_wp2_with fail
            obtain ⟨W1, hW1⟩ : ∃ W1, W1 = w.alloc (.cells #[.int .i64 k, .int .i64 f, .int .i64 t, .int .i64 1, .int .i64 mx, v] 24) := ⟨_, rfl⟩
            rw [← hW1]
            have HKW : Hid (Kept w W1) := by rw [hW1]; exact (Kept.refl w).alloc _ _
            obtain ⟨_, _, _, c3, c4, _⟩ := box_at w (.int .i64 k) (.int .i64 f) (.int .i64 t) (.int .i64 1) (.int .i64 mx) v 24
            rw [← hW1] at c3 c4
            have q3 := keeps c3
            have q4 := keeps c4
            have hkr : Kept W1 W1 := Kept.refl W1
            clear hW1
            go_region_held3 (fun w' => Kept W1 w') (first | assumption | exact Kept.refl _ | exact gtrans (by assumption) (by assumption))
              ((first
                | (have _g := hs8; clear _g; go_at_call 45; refine (decimal_is mx _ (by omega) (by omega)).mono ?_; rintro e w9 ⟨⟨s9, rfl, hs9⟩, hk9⟩; have k9 : Kept W1 w9 := gtrans (by assumption) hk9; have z9 := size_dec hs9; have n3 : ¬ 9223372036854775807 < 1 + s8.size + 1 + s9.size := (by omega); have n4 : ¬ 9223372036854775807 < 1 + s8.size + 1 + s9.size + 1 := (by omega))
                | (go_at_call 45; refine (decimal_is 1 _ (by omega) (by omega)).mono ?_; rintro e w8 ⟨⟨s8, rfl, hs8⟩, hk8⟩; have k8 : Kept W1 w8 := gtrans (by assumption) hk8; have z8 := size_dec hs8; have n1 : ¬ 9223372036854775807 < 1 + s8.size := (by omega); have n2 : ¬ 9223372036854775807 < 1 + s8.size + 1 := (by omega))))
            all_goals
              have HS8 := hide1 hs8
              have HS9 := hide1 hs9
              have HK9 := hide1 (gtrans HKW.out k9)
              go_wp2_with fail
              go_ret
              refine ⟨⟨_, rfl, ?_⟩, HK9.out⟩
              rw [HT.out]
              simp only [strI_app, HS8.out, HS9.out, List.append_assoc]
              rfl
          · have hu0 : (mn == 1) = false := by simpa using hu
            go_wp2_with fail
            obtain ⟨W1, hW1⟩ : ∃ W1, W1 = w.alloc (.cells #[.int .i64 k, .int .i64 f, .int .i64 t, .int .i64 mn, .int .i64 mx, v] 24) := ⟨_, rfl⟩
            rw [← hW1]
            have HKW : Hid (Kept w W1) := by rw [hW1]; exact (Kept.refl w).alloc _ _
            obtain ⟨_, _, _, c3, c4, _⟩ := box_at w (.int .i64 k) (.int .i64 f) (.int .i64 t) (.int .i64 mn) (.int .i64 mx) v 24
            rw [← hW1] at c3 c4
            have q3 := keeps c3
            have q4 := keeps c4
            have hkr : Kept W1 W1 := Kept.refl W1
            clear hW1
            go_region_held3 (fun w' => Kept W1 w') (first | assumption | exact Kept.refl _ | exact gtrans (by assumption) (by assumption))
              ((first
                | (have _g := hs8; clear _g; go_at_call 45; refine (decimal_is mx _ (by omega) (by omega)).mono ?_; rintro e w9 ⟨⟨s9, rfl, hs9⟩, hk9⟩; have k9 : Kept W1 w9 := gtrans (by assumption) hk9; have z9 := size_dec hs9; have n3 : ¬ 9223372036854775807 < 1 + s8.size + 1 + s9.size := (by omega); have n4 : ¬ 9223372036854775807 < 1 + s8.size + 1 + s9.size + 1 := (by omega))
                | (go_at_call 45; refine (decimal_is mn _ (by omega) (by omega)).mono ?_; rintro e w8 ⟨⟨s8, rfl, hs8⟩, hk8⟩; have k8 : Kept W1 w8 := gtrans (by assumption) hk8; have z8 := size_dec hs8; have n1 : ¬ 9223372036854775807 < 1 + s8.size := (by omega); have n2 : ¬ 9223372036854775807 < 1 + s8.size + 1 := (by omega))))
            all_goals
              have HS8 := hide1 hs8
              have HS9 := hide1 hs9
              have HK9 := hide1 (gtrans HKW.out k9)
              go_wp2_with fail
              go_ret
              refine ⟨⟨_, rfl, ?_⟩, HK9.out⟩
              rw [HT.out]
              simp only [strI_app, HS8.out, HS9.out, List.append_assoc]
              rfl

end Ex
end Go.Proofs.YtokgmckhnmjdeaaGreatDoor
namespace Go.Proofs.YtokgmckhnmjdeaaGreatDoor
open Go.RowKit
attribute [local go_sem] Oper.semAt_some
namespace Ex

theorem size_byte {s t : ByteArray} {c : Int} (h : strI s = byteW t c) : (s.size : Int) ≤ 4 := by rw [strI_size _ _ h]; have := byteW_len t c; omega
set_option linter.unusedSimpArgs false in
set_option maxRecDepth 100000 in
set_option maxHeartbeats 4000000 in
theorem member_ref (k f t mn mx : Int) (v : Value) (w : World) (h0 : 0 ≤ f) (h1 : f ≤ t) (h2 : t ≤ 255) : Calls Tryz.prog 30 #[.agg #[.int .i64 k, .int .i64 f, .int .i64 t, .int .i64 mn, .int .i64 mx, v]] w fun r w' => SGives (byteW escS f ++ if f < t then 45 :: byteW escS t else []) w r w' := by
  go_enter Tryz.func30, Tryz.ntmps30
  by_cases he : f = t
  · subst he
    rw [if_neg (by omega), List.append_nil]
    go_wp2_with (go_at_call 44; refine (inClass_is f _ (by omega) (by omega)).mono ?_; rintro e w8 ⟨⟨s8, rfl, hs8⟩, hk8⟩; have HS8 := hide1 hs8; have HK8 := hide1 (gtrans ((Kept.refl w).alloc _ _) hk8); clear hs8 hk8)
    go_ret
    exact ⟨⟨_, rfl, HS8.out⟩, HK8.out⟩
  · have he0 : (f == t) = false := by simpa using he
    rw [if_pos (by omega)]
    go_wp2_with fail
    obtain ⟨W1, hW1⟩ : ∃ W1, W1 = w.alloc (.cells #[.int .i64 k, .int .i64 f, .int .i64 t, .int .i64 mn, .int .i64 mx, v] 24) := ⟨_, rfl⟩
    rw [← hW1]
    have HKW : Hid (Kept w W1) := by rw [hW1]; exact (Kept.refl w).alloc _ _
    obtain ⟨_, c1, c2, _⟩ := box_at w (.int .i64 k) (.int .i64 f) (.int .i64 t) (.int .i64 mn) (.int .i64 mx) v 24
    rw [← hW1] at c1 c2
    have q1 := keeps c1
    have q2 := keeps c2
    have hkr : Kept W1 W1 := Kept.refl W1
    clear hW1
    go_region_held3 (fun w' => Kept W1 w') (first | assumption | exact Kept.refl _ | exact gtrans (by assumption) (by assumption))
      ((first
        | (have _g := hs8; clear _g; go_at_call 44; refine (inClass_is t _ (by omega) (by omega)).mono ?_; rintro e w9 ⟨⟨s9, rfl, hs9⟩, hk9⟩; have k9 : Kept W1 w9 := gtrans (by assumption) hk9; have z9 := size_byte hs9; have n2 : ¬ 9223372036854775807 < s8.size + 1 + s9.size := (by omega))
        | (go_at_call 44; refine (inClass_is f _ (by omega) (by omega)).mono ?_; rintro e w8 ⟨⟨s8, rfl, hs8⟩, hk8⟩; have k8 : Kept W1 w8 := gtrans (by assumption) hk8; have z8 := size_byte hs8; have n1 : ¬ 9223372036854775807 < s8.size + 1 := (by omega))))
    all_goals
      have HS8 := hide1 hs8
      have HS9 := hide1 hs9
      have HK9 := hide1 (gtrans HKW.out k9)
      go_wp2_with fail
      go_ret
      refine ⟨⟨_, rfl, ?_⟩, HK9.out⟩
      simp only [strI_app, HS8.out, HS9.out, List.append_assoc]
      rfl

end Ex
end Go.Proofs.YtokgmckhnmjdeaaGreatDoor
namespace Go.Proofs.YtokgmckhnmjdeaaGreatDoor
open Go.RowKit
attribute [local go_sem] Oper.semAt_some
namespace Ex

set_option linter.unusedSimpArgs false in
set_option maxRecDepth 100000 in
set_option maxHeartbeats 4000000 in
theorem ranges_is (S : Nat → Prop) (n : Nat) (p : PatN (n + 1)) (v : Value) (w : World) (h : KidsAt S w n (kids p) v) :
    Calls Tryz.prog 33 #[valOf p v] w fun e w' => e = .returned (.bool (isClassP p)) ∧ Kept w w' := by
  have HK := hide1 h
  obtain ⟨a, cap, rfl⟩ := h.form
  rw [valOf_eq]
  obtain ⟨L, hL⟩ : ∃ L, kids p = L := ⟨_, rfl⟩
  have hlm2 : (L.length : Int) ≤ 17592186044416 := by have := h.short; rw [hL] at this; omega
  have HP : Hid (isClassP p = (kind p == 3 && L.all (fun q => kindN n q == 1))) := by show _ = _; unfold isClassP; rw [hL]
  rw [hL] at HK ⊢
  clear h hL
  obtain ⟨W1, hW1⟩ : ∃ W1, W1 = w.alloc (.cells #[.int .i64 (kind p), .int .i64 (from_ p), .int .i64 (to_ p), .int .i64 (min_ p), .int .i64 (max_ p), .slice a L.length cap] 24) := ⟨_, rfl⟩
  have HKW : Hid (Kept w W1) := by rw [hW1]; exact (Kept.refl w).alloc _ _
  have HBX : Hid (BoxAt W1 w.heap.size (.int .i64 (kind p)) (.int .i64 (from_ p)) (.int .i64 (to_ p)) (.int .i64 (min_ p)) (.int .i64 (max_ p)) (.slice a L.length cap)) := by rw [hW1]; exact BoxAt.new w _ _ _ _ _ _
  have HW1 := hide1 hW1
  clear hW1
  go_enter Tryz.func33, Tryz.ntmps33
  go_wp2_with fail
  rw [← HW1.out]
  go_loopw [3] (fun i wr => ∃ j : Nat, i = .int .i64 (j : Int) ∧ j ≤ L.length ∧ Hid (Kept W1 wr) ∧ Hid ((L.take j).all (fun q => kindN n q == 1) = true)) (fun i _ => L.length - (intOf i).toNat)
  case atStart => exact ⟨0, rfl, Nat.zero_le _, Kept.refl _, rfl⟩
  case round =>
    obtain ⟨j, rfl, hj, HKr, HALL⟩ := hrel
    obtain ⟨⟨c0, _, _, _, _, c5⟩, _⟩ := (HBX.out.keep HKr.out).facts
    by_cases hlt : (j : Int) < (L.length : Int)
    · obtain ⟨q, hq⟩ : ∃ q, L[j]? = some q := ⟨_, List.getElem?_eq_getElem (by omega)⟩
      cases n with
      | zero => exact (show Empty from q).elim
      | succ n =>
        obtain ⟨a2, cap2, e2, hl2, _, h4⟩ := HK.out.kept (gtrans HKW.out HKr.out)
        simp only [Value.slice.injEq] at e2
        obtain ⟨rfl, _, rfl⟩ := e2
        have gc : (L.length : Int) ≤ (cap : Int) := by omega
        rcases h4 with h4 | ⟨c, o, rfl, hSc, h7⟩
        · rw [h4] at hq; simp at hq
        · obtain ⟨v', g0, g1, g2, g3, g4, g5, g6⟩ := h7 j q hq
          have HQ := hide1 hq
          clear h7 g6 hq hl2 g1 g2 g3 g4 g5
          by_cases hrq : kind q = 1
          · have HR : Hid ((kindN (n + 1) q == 1) = true) := by show (kind q == 1) = true; simpa using hrq
            go_wp2_with fail
            go_roundw
            case rel => exact ⟨j + 1, by go_num, by omega, HKr, all_snoc HQ.out HALL.out HR.out⟩
            case measure => simp [intOf]; omega
          · have hrq0 : (kind q == 1) = false := by simpa using hrq
            have HR : Hid ((kindN (n + 1) q == 1) = false) := hrq0
            go_wp2_with fail
            go_ret
            refine ⟨?_, gtrans HKW.out HKr.out⟩
            rw [HP.out, all_not (f := fun q => kindN (n + 1) q == 1) HQ.out HR.out]
            simp
    · go_wp2_with fail
      go_ret
      have hall : L.all (fun q => kindN n q == 1) = true := by have := HALL.out; rwa [List.take_of_length_le (by omega)] at this
      refine ⟨?_, gtrans HKW.out HKr.out⟩
      rw [HP.out, hall]
      simp

end Ex
end Go.Proofs.YtokgmckhnmjdeaaGreatDoor
namespace Go.Proofs.YtokgmckhnmjdeaaGreatDoor
open Go.RowKit
attribute [local go_sem] Oper.semAt_some
namespace Ex

/-- What the document's print does with one pattern. -/
def RPrC (n : Nat) (q : PatN (n + 1)) (ys : List Int) : Prop :=
  ∀ (S : Nat → Prop) (vk : Value) (w : World), KidsAt S w n (kids q) vk → Calls Tryz.prog 14 #[valOf q vk] w fun r w' => SGives ys w r w'
set_option linter.unusedSimpArgs false in
set_option maxRecDepth 100000 in
set_option maxHeartbeats 4000000 in
theorem rpart_is (n : Nat) (q : PatN (n + 1)) (ys : List Int) (hC : RPrC n q ys) (k : Int) (S : Nat → Prop) (vk : Value) (w : World) (hk : KidsAt S w n (kids q) vk) (hl : ys.length ≤ 1000000) :
    Calls Tryz.prog 31 #[valOf q vk, .int .i64 k] w fun r w' => SGives (partW q k ys) w r w' := by
  have HC := hide1 hC
  have HK := hide1 hk
  have hln := hk.short
  obtain ⟨a, cap, rfl⟩ := hk.form
  rw [valOf_eq]
  clear hk hC
  obtain ⟨W1, hW1⟩ : ∃ W1, W1 = w.alloc (.cells #[.int .i64 (kind q), .int .i64 (from_ q), .int .i64 (to_ q), .int .i64 (min_ q), .int .i64 (max_ q), .slice a (kids q).length cap] 24) := ⟨_, rfl⟩
  have HKW : Hid (Kept w W1) := by rw [hW1]; exact (Kept.refl w).alloc _ _
  have HBX : Hid (BoxAt W1 w.heap.size (.int .i64 (kind q)) (.int .i64 (from_ q)) (.int .i64 (to_ q)) (.int .i64 (min_ q)) (.int .i64 (max_ q)) (.slice a (kids q).length cap)) := by rw [hW1]; exact BoxAt.new w _ _ _ _ _ _
  have HW1 := hide1 hW1
  clear hW1
  go_enter Tryz.func31, Tryz.ntmps31
  obtain ⟨kd, hkd⟩ : ∃ x, kind q = x := ⟨_, rfl⟩
  have HV : Hid (∀ u, Value.agg #[.int .i64 kd, .int .i64 (from_ q), .int .i64 (to_ q), .int .i64 (min_ q), .int .i64 (max_ q), u] = valOf q u) := fun u => by rw [valOf_eq, hkd]
  by_cases h3 : kd = 3
  · have hk2 : (kd == 2) = false := by rw [beq_eq_false_iff_ne]; omega
    by_cases hcl : isClassP q = true
    · have HCL := hide1 hcl
      have HPT : Hid (partW q k ys = ys) := by
        show _ = _
        unfold partW bracketP
        rw [hkd, if_pos h3, hcl]; rfl
      rw [hkd] at HW1 HBX ⊢
      clear hcl hkd
      subst h3
      go_wp2_with (first
        | (go_at_call 14; rw [← HW1.out, HV.out]; refine (HC.out S _ _ (HK.out.kept HKW.out)).mono ?_; rintro e w8 ⟨⟨s8, rfl, hs8⟩, hk8⟩; obtain ⟨⟨c0, c1, c2, c3, c4, c5⟩, _⟩ := (HBX.out.keep hk8).facts; have z8 : (s8.size : Int) ≤ 1000000 := (by rw [strI_size _ _ hs8]; omega); have n1 : ¬ 9223372036854775807 < 1 + s8.size := (by omega); have n2 : ¬ 9223372036854775807 < 1 + s8.size + 1 := (by omega); have HS8 := hide1 hs8; have HK8 := hide1 hk8; clear hs8 hk8)
        | (go_at_call 33; rw [HV.out]; refine (ranges_is S n q _ _ (HK.out.kept (gtrans HKW.out HK8.out))).mono ?_; rintro e w9 ⟨rfl, hk9⟩; rw [HCL.out]; have HK9 := hide1 (gtrans HK8.out hk9); obtain ⟨⟨d0, d1, d2, d3, d4, d5⟩, _⟩ := (HBX.out.keep HK9.out).facts; clear hk9))
      go_ret
      exact ⟨⟨_, rfl, by rw [HPT.out, HS8.out]⟩, gtrans HKW.out HK9.out⟩
    · have hcl' : isClassP q = false := by simpa using hcl
      have HCL := hide1 hcl'
      have HPT : Hid (partW q k ys = 40 :: (ys ++ [41])) := by
        show _ = _
        unfold partW bracketP
        rw [hkd, if_pos h3, hcl']; rfl
      rw [hkd] at HW1 HBX ⊢
      clear hcl hcl' hkd
      subst h3
      go_wp2_with (first
        | (go_at_call 14; rw [← HW1.out, HV.out]; refine (HC.out S _ _ (HK.out.kept HKW.out)).mono ?_; rintro e w8 ⟨⟨s8, rfl, hs8⟩, hk8⟩; obtain ⟨⟨c0, c1, c2, c3, c4, c5⟩, _⟩ := (HBX.out.keep hk8).facts; have z8 : (s8.size : Int) ≤ 1000000 := (by rw [strI_size _ _ hs8]; omega); have n1 : ¬ 9223372036854775807 < 1 + s8.size := (by omega); have n2 : ¬ 9223372036854775807 < 1 + s8.size + 1 := (by omega); have HS8 := hide1 hs8; have HK8 := hide1 hk8; clear hs8 hk8)
        | (go_at_call 33; rw [HV.out]; refine (ranges_is S n q _ _ (HK.out.kept (gtrans HKW.out HK8.out))).mono ?_; rintro e w9 ⟨rfl, hk9⟩; rw [HCL.out]; have HK9 := hide1 (gtrans HK8.out hk9); obtain ⟨⟨d0, d1, d2, d3, d4, d5⟩, _⟩ := (HBX.out.keep HK9.out).facts; clear hk9))
      go_ret
      refine ⟨⟨_, rfl, ?_⟩, gtrans HKW.out HK9.out⟩
      rw [HPT.out]
      simp only [strI_app, HS8.out, List.append_assoc]
      rfl
  · have hk3 : (kd == 3) = false := by simpa using h3
    by_cases h2 : kd = 2
    · by_cases hof : k = 3
      · by_cases hz : (kids q).length = 0
        · have hz0 : (((kids q).length : Int) == 0) = true := by rw [hz]; rfl
          have HPT : Hid (partW q k ys = 40 :: (ys ++ [41])) := by
            show _ = _
            unfold partW bracketP
            rw [hkd, if_neg h3, if_pos h2, hof, hz]; rfl
          rw [hkd] at HW1 HBX ⊢
          have HZ := hide1 hz
          clear hkd hz
          subst h2 hof
          go_wp2_with (first
            | (go_at_call 14; rw [← HW1.out, HV.out]; refine (HC.out S _ _ (HK.out.kept HKW.out)).mono ?_; rintro e w8 ⟨⟨s8, rfl, hs8⟩, hk8⟩; obtain ⟨⟨c0, c1, c2, c3, c4, c5⟩, _⟩ := (HBX.out.keep hk8).facts; have z8 : (s8.size : Int) ≤ 1000000 := (by rw [strI_size _ _ hs8]; omega); have n1 : ¬ 9223372036854775807 < 1 + s8.size := (by omega); have n2 : ¬ 9223372036854775807 < 1 + s8.size + 1 := (by omega); have HS8 := hide1 hs8; have HK8 := hide1 hk8; clear hs8 hk8))
          go_ret
          refine ⟨⟨_, rfl, ?_⟩, gtrans HKW.out HK8.out⟩
          rw [HPT.out]
          simp only [strI_app, HS8.out, List.append_assoc]
          rfl
        · have hz0 : (((kids q).length : Int) == 0) = false := by rw [beq_eq_false_iff_ne]; omega
          have HPT : Hid (partW q k ys = ys) := by
            show _ = _
            unfold partW bracketP
            rw [hkd, if_neg h3, if_pos h2, hof, show ((3 : Int) != 3 || (kids q).length == 0) = false from by simpa using hz]; rfl
          rw [hkd] at HW1 HBX ⊢
          clear hkd hz
          subst h2 hof
          go_wp2_with (first
            | (go_at_call 14; rw [← HW1.out, HV.out]; refine (HC.out S _ _ (HK.out.kept HKW.out)).mono ?_; rintro e w8 ⟨⟨s8, rfl, hs8⟩, hk8⟩; obtain ⟨⟨c0, c1, c2, c3, c4, c5⟩, _⟩ := (HBX.out.keep hk8).facts; have z8 : (s8.size : Int) ≤ 1000000 := (by rw [strI_size _ _ hs8]; omega); have n1 : ¬ 9223372036854775807 < 1 + s8.size := (by omega); have n2 : ¬ 9223372036854775807 < 1 + s8.size + 1 := (by omega); have HS8 := hide1 hs8; have HK8 := hide1 hk8; clear hs8 hk8))
          go_ret
          exact ⟨⟨_, rfl, by rw [HPT.out, HS8.out]⟩, gtrans HKW.out HK8.out⟩
      · have hof0 : (k != 3) = true := by simpa using hof
        have HPT : Hid (partW q k ys = 40 :: (ys ++ [41])) := by
          show _ = _
          unfold partW bracketP
          rw [hkd, if_neg h3, if_pos h2, hof0]; rfl
        rw [hkd] at HW1 HBX ⊢
        clear hkd
        subst h2
        go_wp2_with (first
          | (go_at_call 14; rw [← HW1.out, HV.out]; refine (HC.out S _ _ (HK.out.kept HKW.out)).mono ?_; rintro e w8 ⟨⟨s8, rfl, hs8⟩, hk8⟩; obtain ⟨⟨c0, c1, c2, c3, c4, c5⟩, _⟩ := (HBX.out.keep hk8).facts; have z8 : (s8.size : Int) ≤ 1000000 := (by rw [strI_size _ _ hs8]; omega); have n1 : ¬ 9223372036854775807 < 1 + s8.size := (by omega); have n2 : ¬ 9223372036854775807 < 1 + s8.size + 1 := (by omega); have HS8 := hide1 hs8; have HK8 := hide1 hk8; clear hs8 hk8))
        go_ret
        refine ⟨⟨_, rfl, ?_⟩, gtrans HKW.out HK8.out⟩
        rw [HPT.out]
        simp only [strI_app, HS8.out, List.append_assoc]
        rfl
    · have hk2 : (kd == 2) = false := by simpa using h2
      have HPT : Hid (partW q k ys = ys) := by
        show _ = _
        unfold partW bracketP
        rw [hkd, if_neg h3, if_neg h2]; rfl
      rw [hkd] at HW1 HBX ⊢
      clear hkd
      go_wp2_with (first
        | (go_at_call 14; rw [← HW1.out, HV.out]; refine (HC.out S _ _ (HK.out.kept HKW.out)).mono ?_; rintro e w8 ⟨⟨s8, rfl, hs8⟩, hk8⟩; obtain ⟨⟨c0, c1, c2, c3, c4, c5⟩, _⟩ := (HBX.out.keep hk8).facts; have z8 : (s8.size : Int) ≤ 1000000 := (by rw [strI_size _ _ hs8]; omega); have n1 : ¬ 9223372036854775807 < 1 + s8.size := (by omega); have n2 : ¬ 9223372036854775807 < 1 + s8.size + 1 := (by omega); have HS8 := hide1 hs8; have HK8 := hide1 hk8; clear hs8 hk8))
      go_ret
      exact ⟨⟨_, rfl, by rw [HPT.out, HS8.out]⟩, gtrans HKW.out HK8.out⟩

end Ex
end Go.Proofs.YtokgmckhnmjdeaaGreatDoor
