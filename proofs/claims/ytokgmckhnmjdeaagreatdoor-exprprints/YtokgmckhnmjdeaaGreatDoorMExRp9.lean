import Derived.Test.YtokgmckhnmjdeaaGreatDoorMExRp5
import Derived.Deep.RegionHeld3
import Derived.Test.YtokgmckhnmjdeaaGreatDoorMExTw0
import Derived.Test.YtokgmckhnmjdeaaGreatDoorMExRn1
import Derived.Deep.Cut
namespace Go.Proofs.YtokgmckhnmjdeaaGreatDoor
open Go.RowKit
attribute [local go_sem] Oper.semAt_some
namespace Ex

def RPrN : (n : Nat) → PatN n → List Int → Prop
  | 0, _, _ => True
  | n + 1, q, ys => RPrC n q ys
set_option linter.unusedSimpArgs false in
set_option maxRecDepth 100000 in
set_option maxHeartbeats 4000000 in
theorem rprint_step (n : Nat) (p : PatN (n + 1)) (hN : NiceA (n + 1) p) (hsz : sizeP (n + 1) p ≤ 4096) (ih : ∀ q ∈ kids p, RPrN n q (writeA n q)) : RPrC n p (writeA (n + 1) p) := by
  intro S vk w hk
  have HK := hide1 hk
  have HI := hide1 ih
  have HN := hide1 hN
  have HWL := hide1 (writeA_len n p)
  have hln := hk.short
  obtain ⟨a, cap, rfl⟩ := hk.form
  rw [valOf_eq]
  clear hk ih hN
  have HP : Hid (writeA (n + 1) p = if kind p = 1 then rangeW p else if kind p = 4 then ((kids p).take 1).flatMap (fun q => partN n q 4 (writeA n q)) ++ timesA (min_ p) (max_ p) else if isClassP p then classN n (kids p) else (kids p).zipIdx.flatMap fun x => (if 0 < x.2 ∧ kind p = 3 then [124] else []) ++ partN n x.1 (kind p) (writeA n x.1)) := rfl
  obtain ⟨W1, hW1⟩ : ∃ W1, W1 = w.alloc (.cells #[.int .i64 (kind p), .int .i64 (from_ p), .int .i64 (to_ p), .int .i64 (min_ p), .int .i64 (max_ p), .slice a (kids p).length cap] 24) := ⟨_, rfl⟩
  have HKW : Hid (Kept w W1) := by rw [hW1]; exact (Kept.refl w).alloc _ _
  have HBX : Hid (BoxAt W1 w.heap.size (.int .i64 (kind p)) (.int .i64 (from_ p)) (.int .i64 (to_ p)) (.int .i64 (min_ p)) (.int .i64 (max_ p)) (.slice a (kids p).length cap)) := by rw [hW1]; exact BoxAt.new w _ _ _ _ _ _
  have HW1 := hide1 hW1
  clear hW1
  have kc := fun (w : World) (b : Int) (t : TypeId) => conv_one w b t
  go_enter Tryz.func14, Tryz.ntmps14
  by_cases h1 : kind p = 1
  · have hr := HN.out.1 h1
    rw [if_pos h1] at HP
    obtain ⟨fr, hfr⟩ : ∃ x, from_ p = x := ⟨_, rfl⟩
    obtain ⟨to, hto⟩ : ∃ x, to_ p = x := ⟨_, rfl⟩
    have HPR : Hid (rangeW p = if fr = to then byteW signsS fr else if fr = 0 ∧ to = 255 then [46] else classW [p]) := by show _ = _; unfold rangeW; rw [hfr, hto]
    have HMW : Hid (memW p = byteW escS fr ++ if fr < to then 45 :: byteW escS to else []) := by show _ = _; unfold memW; rw [hfr, hto]
    rw [hfr, hto] at hr
    rw [h1, hfr, hto] at HW1 HBX ⊢
    clear h1 hfr hto
    obtain ⟨hr0, hr1, hr2⟩ := hr
    by_cases he : fr = to
    · subst he
      rw [if_pos rfl] at HPR
      by_cases hpl : plainP fr = true
      · have HPL := hide1 hpl
        have HB : Hid (byteW signsS fr = [fr]) := by
          show _ = _
          unfold plainP at hpl
          rw [Bool.and_eq_true] at hpl
          have h2 : 32 ≤ fr ∧ fr ≤ 126 := by have := hpl.1; unfold printedP at this; simpa using this
          unfold byteW
          rw [if_neg (by omega), if_neg (by omega), if_neg (by omega), hpl.1, if_neg (by simp), show inS signsS fr = false by simpa using hpl.2, if_neg (by simp)]
        have HS1 := hide1 (strI_strOf1 fr (by omega) (by omega))
        clear hpl
        go_wp2_with (go_at_call 28; rw [← HW1.out]; refine (rplain_is fr _ (by omega) (by omega)).mono ?_; rintro e w8 ⟨rfl, hk8⟩; rw [HPL.out]; obtain ⟨⟨c0, c1, c2, c3, c4, c5⟩, _⟩ := (HBX.out.keep hk8).facts; have HK8 := hide1 hk8; clear hk8)
        go_ret
        exact ⟨⟨_, rfl, by rw [HS1.out, HP.out, HPR.out, HB.out]⟩, (gtrans HKW.out HK8.out).alloc _ _⟩
      · have hpl' : plainP fr = false := by simpa using hpl
        have HPL := hide1 hpl'
        have HB : Hid (byteW signsS fr = codedW fr) := by
          refine byteW_coded signsS fr ?_
          unfold plainP at hpl'
          by_cases hq : printedP fr = true
          · rw [hq] at hpl'
            refine .inr ⟨by simpa using hpl', fun e => ?_⟩
            rw [e] at hpl'
            revert hpl'
            decide +kernel
          · exact .inl (by simpa using hq)
        clear hpl hpl'
        go_wp2_with (first
          | (go_at_call 28; rw [← HW1.out]; refine (rplain_is fr _ (by omega) (by omega)).mono ?_; rintro e w8 ⟨rfl, hk8⟩; rw [HPL.out]; obtain ⟨⟨c0, c1, c2, c3, c4, c5⟩, _⟩ := (HBX.out.keep hk8).facts; have HK8 := hide1 hk8; clear hk8)
          | (go_at_call 29; refine (coded_is fr _ (by omega) (by omega)).mono ?_; rintro e w9 ⟨⟨s9, rfl, hs9⟩, hk9⟩; have HS9 := hide1 hs9; have HK9 := hide1 (gtrans HK8.out hk9); clear hs9 hk9))
        go_ret
        exact ⟨⟨_, rfl, by rw [HS9.out, HP.out, HPR.out, HB.out]⟩, gtrans HKW.out HK9.out⟩
    · have he0 : (fr == to) = false := by simpa using he
      rw [if_neg he] at HPR
      by_cases h0 : fr = 0 ∧ to = 255
      · rw [if_pos h0] at HPR
        obtain ⟨rfl, rfl⟩ := h0
        go_wp2_with fail
        go_ret
        exact ⟨⟨_, rfl, by rw [HP.out, HPR.out]; rfl⟩, (Kept.refl w).alloc _ _⟩
      · rw [if_neg h0] at HPR
        by_cases hz : fr = 0
        · have hz2 : (to == 255) = false := by rw [beq_eq_false_iff_ne]; omega
          subst hz
          go_wp2_with (first
            | (go_at_call 30; rw [← HW1.out]; refine (member_ref 1 0 to _ _ _ _ (by omega) (by omega) (by omega)).mono ?_; rintro e w8 ⟨⟨s8, rfl, hs8⟩, hk8⟩; rw [← HMW.out] at hs8; have z8 : (s8.size : Int) ≤ 9 := (by rw [strI_size _ _ hs8]; have := memW_len p; omega); have n1 : ¬ 9223372036854775807 < 1 + s8.size := (by omega); have n2 : ¬ 9223372036854775807 < 1 + s8.size + 1 := (by omega); have HS8 := hide1 hs8; have HK8 := hide1 hk8; clear hs8 hk8))
          go_ret
          refine ⟨⟨_, rfl, ?_⟩, gtrans HKW.out HK8.out⟩
          rw [HP.out, HPR.out]
          simp only [strI_app, HS8.out, List.append_assoc]
          unfold classW
          simp
          rfl
        · have hz2 : (fr == 0) = false := by simpa using hz
          go_wp2_with (first
            | (go_at_call 30; rw [← HW1.out]; refine (member_ref 1 fr to _ _ _ _ (by omega) (by omega) (by omega)).mono ?_; rintro e w8 ⟨⟨s8, rfl, hs8⟩, hk8⟩; rw [← HMW.out] at hs8; have z8 : (s8.size : Int) ≤ 9 := (by rw [strI_size _ _ hs8]; have := memW_len p; omega); have n1 : ¬ 9223372036854775807 < 1 + s8.size := (by omega); have n2 : ¬ 9223372036854775807 < 1 + s8.size + 1 := (by omega); have HS8 := hide1 hs8; have HK8 := hide1 hk8; clear hs8 hk8))
          go_ret
          refine ⟨⟨_, rfl, ?_⟩, gtrans HKW.out HK8.out⟩
          rw [HP.out, HPR.out]
          simp only [strI_app, HS8.out, List.append_assoc]
          unfold classW
          simp
          rfl
  · have b1 : (kind p == 1) = false := by simpa using h1
    rw [if_neg h1] at HP
    by_cases h4 : kind p = 4
    · rw [if_pos h4] at HP
      obtain ⟨hone, hm0, hm1, hmx⟩ := HN.out.2.1 h4
      obtain ⟨q, hq⟩ := List.length_eq_one_iff.1 hone
      cases n with
      | zero => exact (show Empty from q).elim
      | succ n =>
        have HCQ : Hid (RPrC n q (writeA (n + 1) q)) := HI.out q (by rw [hq]; exact List.mem_singleton.2 rfl)
        obtain ⟨ys, hys⟩ : ∃ ys, writeA (n + 1) q = ys := ⟨_, rfl⟩
        have e0 : ((kids p).take 1).flatMap (fun q => partN (n + 1) q 4 (writeA (n + 1) q)) = partW q 4 ys := by rw [hq, ← hys]; simp [partN]
        rw [e0] at HP
        rw [hys] at HCQ
        have hyl : ys.length ≤ 100000 := by
          have h5 := writeA_len n q
          have h6 := size_succ p
          rw [hys] at h5
          rw [hq] at h6
          have h7 : sizesP (n + 1) [q] = sizeP (n + 1) q + 0 := rfl
          omega
        have hpl : (partW q 4 ys).length ≤ 200000 := by have := partN_len (n + 1) q 4 ys; simp only [partN] at this; omega
        obtain ⟨mn, hmn⟩ : ∃ x, min_ p = x := ⟨_, rfl⟩
        obtain ⟨mx, hmx2⟩ : ∃ x, max_ p = x := ⟨_, rfl⟩
        rw [hmn] at hm0 hm1 hmx HP
        rw [hmx2] at hmx HP
        have hkk := HK.out.kept HKW.out
        rw [hq] at hkk
        obtain ⟨a2, cap2, e2, hc2, _, h7⟩ := hkk
        simp only [Value.slice.injEq] at e2
        obtain ⟨rfl, _, rfl⟩ := e2
        have gc : (1 : Int) ≤ (cap : Int) := by have := hc2; simp at this; omega
        rw [h4, hone, hmn, hmx2] at HW1 HBX ⊢
        rcases h7 with h7 | ⟨c, o, rfl, hSc, h7⟩
        · simp at h7
        · obtain ⟨u, g0, g1, g2, g3, g4, g5, g6⟩ := h7 0 q rfl
          obtain ⟨a3, cap3, rfl⟩ := g6.form
          rw [Nat.zero_mul, Nat.add_zero] at g0 g1 g2 g3 g4 g5
          have HG6 := hide1 g6
          obtain ⟨⟨c0, c1, c2, c3, c4, c5⟩, _⟩ := HBX.out.facts
          have ht := timesA_len mn mx
          clear h7 g6 hq e0 hys hc2 h4 hmn hmx2 hone b1
          go_wp2_with fail
          rw [← HW1.out]
          have q0 := keeps c0
          have q1 := keeps c1
          have q2 := keeps c2
          have q3 := keeps c3
          have q4 := keeps c4
          have q5 := keeps c5
          have r0 := keeps g0
          have r1 := keeps g1
          have r2 := keeps g2
          have r3 := keeps g3
          have r4 := keeps g4
          have r5 := keeps g5
          have hkr : Kept W1 W1 := Kept.refl W1
          have HVQ : Hid (∀ u, Value.agg #[.int .i64 (kind q), .int .i64 (from_ q), .int .i64 (to_ q), .int .i64 (min_ q), .int .i64 (max_ q), u] = valOf q u) := fun u => rfl
          go_region_held3 (fun w' => Kept W1 w') (first | assumption | exact Kept.refl _ | exact gtrans (by assumption) (by assumption))
            ((first
              | (go_at_call 32; refine (rtimes_is _ _ _ mn mx _ _ (by omega) (by omega) hmx).mono ?_; rintro e w9 ⟨⟨s9, rfl, hs9⟩, hk9⟩; have k9 : Kept W1 w9 := gtrans (by assumption) hk9; have n1 : ¬ 9223372036854775807 < s8.size + s9.size := (by rw [strI_size _ _ hs8, strI_size _ _ hs9]; omega))
              | (go_at_call 31; rw [HVQ.out]; refine (rpart_is n q ys HCQ.out 4 S _ _ (HG6.out.kept (by assumption)) (by omega)).mono ?_; rintro e w8 ⟨⟨s8, rfl, hs8⟩, hk8⟩; have k8 : Kept W1 w8 := gtrans (by assumption) hk8)))
          all_goals
            have HS8 := hide1 hs8
            have HS9 := hide1 hs9
            have HK9 := hide1 (gtrans HKW.out k9)
            clear q0 q1 q2 q3 q4 q5 r0 r1 r2 r3 r4 r5 hkr hs8 hs9 hk8 hk9 k8 k9
            go_wp2_with fail
            go_ret
            refine ⟨⟨_, rfl, ?_⟩, HK9.out⟩
            rw [HP.out, strI_app, HS8.out, HS9.out]
    · have b4 : (kind p == 4) = false := by simpa using h4
      rw [if_neg h4] at HP
      obtain ⟨kd, hkd⟩ : ∃ x, kind p = x := ⟨_, rfl⟩
      have HV : Hid (∀ u, Value.agg #[.int .i64 kd, .int .i64 (from_ p), .int .i64 (to_ p), .int .i64 (min_ p), .int .i64 (max_ p), u] = valOf p u) := fun u => by rw [valOf_eq, hkd]
      have hll : (kids p).length ≤ 4096 := by have h5 := size_succ p; have h6 := sizes_len (kids p); omega
      by_cases hcl : isClassP p = true
      · rw [if_pos hcl] at HP
        have HCL := hide1 hcl
        have hk3 : kind p = 3 ∧ (kids p).all (fun q => kindN n q == 1) = true := by have := hcl; unfold isClassP at this; simpa using this
        have hne := HN.out.2.2.1 hk3.1
        cases n with
        | zero => exact absurd (none_of (kids p)) hne
        | succ n =>
          have HFI : Hid (FineA (kids p)) := by
            intro q hq
            have h5 := List.all_eq_true.1 hk3.2 q hq
            have h6 : kindN (n + 1) q = 1 := by simpa using h5
            exact (HN.out.2.2.2.2 q hq).1 h6
          have HP2 : Hid (writeA (n + 1 + 1) p = classW (kids p)) := HP.out
          obtain ⟨L, hL⟩ : ∃ L, kids p = L := ⟨_, rfl⟩
          rw [hkd] at b1 b4 HW1 HBX ⊢
          rw [hL] at HW1 HBX HK HFI HP2 hll ⊢
          clear hcl hk3 hne h1 h4 hkd HP
          have gl : (L.length : Int) ≤ 4096 := by omega
          have gc : (L.length : Int) ≤ (cap : Int) := by obtain ⟨_, _, e5, h5, _⟩ := HK.out; simp only [Value.slice.injEq] at e5; omega
          go_wp2_with (go_at_call 33; rw [← HW1.out, HV.out]; refine (ranges_is S (n + 1) p _ _ (by rw [hL]; exact HK.out.kept HKW.out)).mono ?_; rintro e w7 ⟨rfl, hk7⟩; rw [HCL.out]; have HK7 := hide1 hk7; have HBX7 := hide1 (HBX.out.keep hk7); clear hk7)
          go_loopw [3, 4] (fun sv iv wr => ∃ (j : Nat) (sb : ByteArray), sv = .string sb ∧ iv = .int .i64 (j : Int) ∧ j ≤ L.length ∧ Hid (Kept w7 wr) ∧ Hid (strI sb = (L.take j).flatMap memW)) (fun _ iv _ => L.length - (intOf iv).toNat)
          case atStart => exact ⟨0, _, rfl, rfl, Nat.zero_le _, Kept.refl _, rfl⟩
          case round =>
            obtain ⟨j, sb, rfl, rfl, hj, HKr, HSB⟩ := hrel
            obtain ⟨⟨c0, c1, c2, c3, c4, c5⟩, _⟩ := (HBX7.out.keep HKr.out).facts
            have hsl : sb.size ≤ 40000 := by
              rw [strI_size _ _ HSB.out]
              have h5 := flat_len (memW (n := n)) 9 memW_len (L.take j)
              rw [List.length_take] at h5
              omega
            by_cases hlt : (j : Int) < (L.length : Int)
            · obtain ⟨q, hq⟩ : ∃ q, L[j]? = some q := ⟨_, List.getElem?_eq_getElem (by omega)⟩
              obtain ⟨a2, cap2, e2, _, _, h4⟩ := HK.out.kept (gtrans HKW.out (gtrans HK7.out HKr.out))
              simp only [Value.slice.injEq] at e2
              obtain ⟨rfl, _, rfl⟩ := e2
              rcases h4 with h4 | ⟨c, o, rfl, hSc, h7⟩
              · rw [h4] at hq; simp at hq
              · obtain ⟨v', g0, g1, g2, g3, g4, g5, g6⟩ := h7 j q hq
                have hfq := HFI.out q (List.mem_of_getElem? hq)
                have HQ := hide1 hq
                have HMW : Hid (memW q = byteW escS (from_ q) ++ if from_ q < to_ q then 45 :: byteW escS (to_ q) else []) := rfl
                clear h7 g6 hq
                go_wp2_with (go_at_call 30; refine (member_ref _ (from_ q) (to_ q) _ _ _ _ (by omega) (by omega) (by omega)).mono ?_; rintro e w8 ⟨⟨s8, rfl, hs8⟩, hk8⟩; rw [← HMW.out] at hs8; have n1 : ¬ 9223372036854775807 < sb.size + s8.size := (by rw [strI_size _ _ hs8]; have := memW_len q; omega); have HS8 := hide1 hs8; have HK8 := hide1 (gtrans HKr.out hk8); clear hs8 hk8)
                clear c0 c1 c2 c3 c4 c5 g0 g1 g2 g3 g4 g5
                go_roundw
                case rel => exact ⟨j + 1, _, rfl, by go_num, by omega, HK8, (show _ = _ from by rw [strI_app, HSB.out, HS8.out, flat_snoc HQ.out])⟩
                case measure => simp [intOf]; omega
            · have n1 : ¬ 9223372036854775807 < 1 + sb.size := by omega
              have n2 : ¬ 9223372036854775807 < 1 + sb.size + 1 := by omega
              go_wp2_with fail
              go_ret
              refine ⟨⟨_, rfl, ?_⟩, gtrans HKW.out (gtrans HK7.out HKr.out)⟩
              have h9 := HSB.out
              rw [List.take_of_length_le (by omega)] at h9
              rw [HP2.out, strI_app, strI_app, h9]
              unfold classW
              simp
              rfl
      · rw [if_neg hcl] at HP
        have HCL : Hid (isClassP p = false) := by show _ = _; simpa using hcl
        obtain ⟨L, hL⟩ : ∃ L, kids p = L := ⟨_, rfl⟩
        have HP2 : Hid (writeA (n + 1) p = L.zipIdx.flatMap (writeFA n kd)) := by show _ = _; rw [HP.out, hL, hkd]; rfl
        have hwl : (L.zipIdx.flatMap (writeFA n kd)).length ≤ 82000 := by have h5 := HWL.out; rw [HP2.out] at h5; omega
        have HIL : Hid (∀ q ∈ L, RPrN n q (writeA n q)) := by rw [← hL]; exact HI.out
        rw [hkd] at b1 b4 HW1 HBX ⊢
        rw [hL] at HW1 HBX HK hll ⊢
        clear hcl h1 h4 hkd HP
        have gl : (L.length : Int) ≤ 4096 := by omega
        go_wp2_with (go_at_call 33; rw [← HW1.out, HV.out]; refine (ranges_is S n p _ _ (by rw [hL]; exact HK.out.kept HKW.out)).mono ?_; rintro e w7 ⟨rfl, hk7⟩; rw [HCL.out]; have HK7 := hide1 hk7; have HBX7 := hide1 (HBX.out.keep hk7); clear hk7)
        go_loopw [3, 5] (fun sv iv wr => ∃ (j : Nat) (sb : ByteArray), sv = .string sb ∧ iv = .int .i64 (j : Int) ∧ j ≤ L.length ∧ Hid (Kept w7 wr) ∧ Hid (strI sb = (L.zipIdx.take j).flatMap (writeFA n kd))) (fun _ iv _ => L.length - (intOf iv).toNat)
        case atStart => exact ⟨0, _, rfl, rfl, Nat.zero_le _, Kept.refl _, rfl⟩
        case round =>
          obtain ⟨j, sb, rfl, rfl, hj, HKr, HSB⟩ := hrel
          obtain ⟨⟨c0, c1, c2, c3, c4, c5⟩, _⟩ := (HBX7.out.keep HKr.out).facts
          have hsl : sb.size ≤ 82000 := by
            rw [strI_size _ _ HSB.out]
            have h5 := take_len (writeFA n kd) L.zipIdx j
            omega
          by_cases hlt : (j : Int) < (L.length : Int)
          · obtain ⟨q, hq⟩ : ∃ q, L[j]? = some q := ⟨_, List.getElem?_eq_getElem (by omega)⟩
            cases n with
            | zero => exact (show Empty from q).elim
            | succ n =>
              obtain ⟨a2, cap2, e2, hl2, _, h4⟩ := HK.out.kept (gtrans HKW.out (gtrans HK7.out HKr.out))
              simp only [Value.slice.injEq] at e2
              obtain ⟨rfl, _, rfl⟩ := e2
              have gc : (L.length : Int) ≤ (cap : Int) := by omega
              rcases h4 with h4 | ⟨c, o, rfl, hSc, h7⟩
              · rw [h4] at hq; simp at hq
              · obtain ⟨v', g0, g1, g2, g3, g4, g5, g6⟩ := h7 j q hq
                obtain ⟨a3, cap3, rfl⟩ := g6.form
                have HG6 := hide1 g6
                have HCQ : Hid (RPrC n q (writeA (n + 1) q)) := HIL.out q (List.mem_of_getElem? hq)
                have hws : sizeP (n + 1) q ≤ 4096 := by have h5 := size_succ p; rw [hL] at h5; have h6 := sizes_mem (List.mem_of_getElem? hq); omega
                have hwq := writeA_len n q
                obtain ⟨yq, hyq⟩ : ∃ y, writeA (n + 1) q = y := ⟨_, rfl⟩
                rw [hyq] at HCQ hwq
                have hyl : yq.length ≤ 82000 := by omega
                have hpl : (partW q kd yq).length ≤ 100000 := by have := partN_len (n + 1) q kd yq; simp only [partN] at this; omega
                have hF : writeFA (n + 1) kd (q, j) = (if 0 < j ∧ kd = 3 then [124] else []) ++ partW q kd yq := by unfold writeFA; simp only [partN, hyq]
                have HQ := hide1 hq
                have HVQ : Hid (∀ u, Value.agg #[.int .i64 (kind q), .int .i64 (from_ q), .int .i64 (to_ q), .int .i64 (min_ q), .int .i64 (max_ q), u] = valOf q u) := fun u => rfl
                clear h7 g6 hq hl2 hwq hws hyq
                have n1 : ¬ 9223372036854775807 < sb.size + 1 := by omega
                by_cases hj0 : j = 0
                · have HF : Hid (writeFA (n + 1) kd (q, j) = partW q kd yq) := by show _ = _; rw [hF, if_neg (by omega)]; rfl
                  have hj1 : ¬ (0 : Int) < (j : Int) := by omega
                  clear hF hj0
                  go_wp2_with fail
                  have q0 := keeps c0
                  have q5 := keeps c5
                  have r0 := keeps g0
                  have r1 := keeps g1
                  have r2 := keeps g2
                  have r3 := keeps g3
                  have r4 := keeps g4
                  have r5 := keeps g5
                  have hkr : Kept wr wr := Kept.refl wr
                  go_region_held3 (fun w' => Kept wr w') (first | assumption | exact Kept.refl _ | exact gtrans (by assumption) (by assumption))
                    ((first
                      | (go_at_call 31; rw [HVQ.out]; refine (rpart_is n q yq HCQ.out kd S _ _ (HG6.out.kept (by assumption)) (by omega)).mono ?_; rintro e w8 ⟨⟨s8, rfl, hs8⟩, hk8⟩; have k8 : Kept wr w8 := gtrans (by assumption) hk8; have n9 : ¬ 9223372036854775807 < sb.size + s8.size := (by rw [strI_size _ _ hs8]; omega))))
                  have HS8 := hide1 hs8
                  have HK8 := hide1 (gtrans HKr.out k8)
                  clear q0 q5 r0 r1 r2 r3 r4 r5 hkr hs8 hk8 k8 c0 c1 c2 c3 c4 c5 g0 g1 g2 g3 g4 g5
                  go_wp2_with fail
                  go_roundw
                  case rel => exact ⟨j + 1, _, rfl, by go_num, by omega, HK8, (show _ = _ from by rw [flat_snoc (hzi HQ.out), HF.out]; simp only [strI_app, HSB.out, HS8.out, List.append_assoc] <;> rfl)⟩
                  case measure => simp [intOf]; omega
                · have hj1 : (0 : Int) < (j : Int) := by omega
                  by_cases hk3 : kd = 3
                  · have HF : Hid (writeFA (n + 1) kd (q, j) = [124] ++ partW q kd yq) := by show _ = _; rw [hF, if_pos ⟨by omega, hk3⟩]
                    clear hF hj0
                    subst hk3
                    go_wp2_with fail
                    have q0 := keeps c0
                    have q5 := keeps c5
                    have r0 := keeps g0
                    have r1 := keeps g1
                    have r2 := keeps g2
                    have r3 := keeps g3
                    have r4 := keeps g4
                    have r5 := keeps g5
                    have hkr : Kept wr wr := Kept.refl wr
                    go_region_held3 (fun w' => Kept wr w') (first | assumption | exact Kept.refl _ | exact gtrans (by assumption) (by assumption))
                      ((first
                        | (go_at_call 31; rw [HVQ.out]; refine (rpart_is n q yq HCQ.out 3 S _ _ (HG6.out.kept (by assumption)) (by omega)).mono ?_; rintro e w8 ⟨⟨s8, rfl, hs8⟩, hk8⟩; have k8 : Kept wr w8 := gtrans (by assumption) hk8; have n9 : ¬ 9223372036854775807 < sb.size + 1 + s8.size := (by rw [strI_size _ _ hs8]; omega))))
                    have HS8 := hide1 hs8
                    have HK8 := hide1 (gtrans HKr.out k8)
                    clear q0 q5 r0 r1 r2 r3 r4 r5 hkr hs8 hk8 k8 c0 c1 c2 c3 c4 c5 g0 g1 g2 g3 g4 g5
                    go_wp2_with fail
                    go_roundw
                    case rel => exact ⟨j + 1, _, rfl, by go_num, by omega, HK8, (show _ = _ from by rw [flat_snoc (hzi HQ.out), HF.out]; simp only [strI_app, HSB.out, HS8.out, List.append_assoc] <;> rfl)⟩
                    case measure => simp [intOf]; omega
                  · have HF : Hid (writeFA (n + 1) kd (q, j) = partW q kd yq) := by show _ = _; rw [hF, if_neg (fun h => hk3 h.2)]; rfl
                    have hk30 : (kd == 3) = false := by simpa using hk3
                    clear hF hj0 hk3
                    go_wp2_with fail
                    have q0 := keeps c0
                    have q5 := keeps c5
                    have r0 := keeps g0
                    have r1 := keeps g1
                    have r2 := keeps g2
                    have r3 := keeps g3
                    have r4 := keeps g4
                    have r5 := keeps g5
                    have hkr : Kept wr wr := Kept.refl wr
                    go_region_held3 (fun w' => Kept wr w') (first | assumption | exact Kept.refl _ | exact gtrans (by assumption) (by assumption))
                      ((first
                        | (go_at_call 31; rw [HVQ.out]; refine (rpart_is n q yq HCQ.out kd S _ _ (HG6.out.kept (by assumption)) (by omega)).mono ?_; rintro e w8 ⟨⟨s8, rfl, hs8⟩, hk8⟩; have k8 : Kept wr w8 := gtrans (by assumption) hk8; have n9 : ¬ 9223372036854775807 < sb.size + s8.size := (by rw [strI_size _ _ hs8]; omega))))
                    have HS8 := hide1 hs8
                    have HK8 := hide1 (gtrans HKr.out k8)
                    clear q0 q5 r0 r1 r2 r3 r4 r5 hkr hs8 hk8 k8 c0 c1 c2 c3 c4 c5 g0 g1 g2 g3 g4 g5
                    go_wp2_with fail
                    go_roundw
                    case rel => exact ⟨j + 1, _, rfl, by go_num, by omega, HK8, (show _ = _ from by rw [flat_snoc (hzi HQ.out), HF.out]; simp only [strI_app, HSB.out, HS8.out, List.append_assoc] <;> rfl)⟩
                    case measure => simp [intOf]; omega
          · go_wp2_with fail
            go_ret
            refine ⟨⟨_, rfl, ?_⟩, gtrans HKW.out (gtrans HK7.out HKr.out)⟩
            have h9 := HSB.out
            rw [List.take_of_length_le (by rw [List.length_zipIdx]; omega)] at h9
            rw [HP2.out, h9]

end Ex
end Go.Proofs.YtokgmckhnmjdeaaGreatDoor
namespace Go.Proofs.YtokgmckhnmjdeaaGreatDoor
open Go.RowKit
attribute [local go_sem] Oper.semAt_some
namespace Ex

theorem rprint_is : ∀ (n : Nat) (p : PatN (n + 1)), NiceA (n + 1) p → sizeP (n + 1) p ≤ 4096 → RPrC n p (writeA (n + 1) p)
  | 0, p, h, hs => rprint_step 0 p h hs (fun _ _ => trivial)
  | n + 1, p, h, hs => rprint_step (n + 1) p h hs (fun q hq => rprint_is n q (h.2.2.2.2 q hq) (by have h1 := size_succ p; have h2 := sizes_mem hq; omega))
theorem strI_is {s : ByteArray} {zs : List Int} (h : strI s = zs) : s = strOf zs := by
  refine strI_inj ?_
  rw [h]
  refine (strI_of (fun z hz => ?_)).symm
  rw [← h] at hz
  unfold strI at hz
  obtain ⟨b, _, rfl⟩ := List.mem_map.1 hz
  have := b.toNat_lt
  unfold IsB
  omega

set_option linter.unusedSimpArgs false in
set_option maxRecDepth 100000 in
set_option maxHeartbeats 4000000 in
theorem rPrint_is (S : Nat → Prop) (n : Nat) (p : PatN (n + 1)) (v : Value) (w : World) (h : KidsAt S w n (kids p) v) :
    Calls Tryz.prog 6 #[valOf p v] w fun r w' => r = .returned (.tuple #[.string (printS p), .int .i64 (printE p)]) ∧ Kept w w' := by
  have HK := hide1 h
  obtain ⟨a, cap, rfl⟩ := h.form
  rw [valOf_eq]
  have HPS : Hid (printS p = if checkP p = 0 then if 4096 < (writeA (n + 1) p).length then strOf [] else strOf (writeA (n + 1) p) else strOf []) := rfl
  have HPE : Hid (printE p = if checkP p = 0 then if 4096 < (writeA (n + 1) p).length then 2 else 0 else checkP p) := rfl
  clear h
  obtain ⟨ck, hck⟩ : ∃ x, checkP p = x := ⟨_, rfl⟩
  have HC := hide1 hck
  rw [hck] at HPS HPE
  go_enter Tryz.func6, Tryz.ntmps6
  by_cases hc : ck = 0
  · rw [if_pos hc] at HPS HPE
    have hsz := check_size (hck.trans hc)
    have HW := hide1 (rprint_is n p (nice_ofA (n + 1) p (check_right (hck.trans hc)) hsz) hsz)
    obtain ⟨zs, hzs⟩ : ∃ zs, writeA (n + 1) p = zs := ⟨_, rfl⟩
    rw [hzs] at HW HPS HPE
    have ec : (ck != 0) = false := by simpa using hc
    clear hsz hzs hck hc
    by_cases hlong : (4096 : Int) < (zs.length : Int)
    · rw [if_pos (by omega)] at HPS HPE
      go_wp2_with (first
        | (go_at_call 13; refine (rCheck_is S n p _ _ (HK.out.kept ((Kept.refl _).alloc _ _))).mono ?_; rintro r w6 ⟨rfl, hk6⟩; rw [HC.out]; have HK6 := hide1 (gtrans ((Kept.refl w).alloc _ _) hk6); obtain ⟨⟨q0, q1, q2, q3, q4, q5⟩, _⟩ := ((BoxAt.new w _ _ _ _ _ _).keep hk6).facts; clear hk6)
        | (go_at_call 14; refine (HW.out S _ _ (HK.out.kept HK6.out)).mono ?_; rintro r w7 ⟨⟨s7, rfl, hs7⟩, hk7⟩; have z7 : (4096 : Int) < (s7.size : Int) := (by rw [strI_size _ _ hs7]; exact hlong); have HK7 := hide1 (gtrans HK6.out hk7); clear hk7 hs7))
      go_ret2
      exact ⟨by rw [HPS.out, HPE.out]; rfl, HK7.out⟩
    · rw [if_neg (by omega)] at HPS HPE
      go_wp2_with (first
        | (go_at_call 13; refine (rCheck_is S n p _ _ (HK.out.kept ((Kept.refl _).alloc _ _))).mono ?_; rintro r w6 ⟨rfl, hk6⟩; rw [HC.out]; have HK6 := hide1 (gtrans ((Kept.refl w).alloc _ _) hk6); obtain ⟨⟨q0, q1, q2, q3, q4, q5⟩, _⟩ := ((BoxAt.new w _ _ _ _ _ _).keep hk6).facts; clear hk6)
        | (go_at_call 14; refine (HW.out S _ _ (HK.out.kept HK6.out)).mono ?_; rintro r w7 ⟨⟨s7, rfl, hs7⟩, hk7⟩; have z7 : (s7.size : Int) ≤ 4096 := (by rw [strI_size _ _ hs7]; omega); have HS7 := hide1 (strI_is hs7); have HK7 := hide1 (gtrans HK6.out hk7); clear hk7 hs7))
      go_ret2
      exact ⟨by rw [HPS.out, HPE.out, HS7.out]; rfl, HK7.out⟩
  · rw [if_neg hc] at HPS HPE
    have ec : (ck != 0) = true := by simpa using hc
    clear hck hc
    go_wp2_with (go_at_call 13; refine (rCheck_is S n p _ _ (HK.out.kept ((Kept.refl _).alloc _ _))).mono ?_; rintro r w6 ⟨rfl, hk6⟩; rw [HC.out]; have HK6 := hide1 (gtrans ((Kept.refl w).alloc _ _) hk6); clear hk6)
    go_ret2
    exact ⟨by rw [HPS.out, HPE.out]; rfl, HK6.out⟩

end Ex
end Go.Proofs.YtokgmckhnmjdeaaGreatDoor
