import Derived.Test.YtjdhnjckochihaaTrRnd
namespace Go.Proofs.Ytjdhnjckochihaa
open Go.RowKit
attribute [local go_sem] Oper.semAt_some
namespace Ex
namespace Tr

/-- The tree after so many doublings: its block, the store's count. -/
def FullI (w : World) (s j w0 bx : Nat) (W : World) : Prop := Kept w W ∧ StoreAt W s (j + 1) ∧ ∃ X : Nd, NodeAt W.heap.size W bx X ∧ X.st = s ∧ X.size = 2 ^ (j + 1) - 1 ∧ X.leafs = 2 ^ j ∧ X.width = 2 ^ j * w0
theorem pow_le {j : Nat} (h : j ≤ 21) : 1 ≤ 2 ^ j ∧ 2 ^ j ≤ 2097152 ∧ 2 ^ (j + 1) = 2 * 2 ^ j := by
  refine ⟨Nat.one_le_two_pow, ?_, by rw [Nat.pow_succ, Nat.mul_comm]⟩
  have := Nat.pow_le_pow_right (n := 2) (by decide) h
  exact this
theorem pow_lt {j : Nat} (h : 2 ^ j < 2097152) : j < 21 := by
  rcases Nat.lt_or_ge j 21 with h1 | h1
  · exact h1
  · have := Nat.pow_le_pow_right (n := 2) (by decide) h1
    omega
theorem full_ok {X : Nd} {j w0 : Nat} (hj : j ≤ 21) (hw : w0 ≤ 524288) (h1 : X.size = 2 ^ (j + 1) - 1) (h2 : X.leafs = 2 ^ j) (h3 : X.width = 2 ^ j * w0) : NdOk X := by
  obtain ⟨a, b, c⟩ := pow_le hj
  have hm : 2 ^ j * w0 ≤ 2 ^ j * 524288 := Nat.mul_le_mul_left _ hw
  unfold NdOk
  rw [h1, h2, h3, c]
  refine ⟨by omega, by omega, ?_, by omega⟩
  rw [Nat.sub_mul]
  omega

set_option linter.unusedSimpArgs false in
set_option maxRecDepth 100000 in
set_option maxHeartbeats 4000000 in
theorem law_is (l0 l1 l2 l3 extra : Int) (w : World) :
    Calls Try.prog 3 #[.agg #[.int .i64 l0, .int .i64 l1, .int .i64 l2, .int .i64 l3], .int .i64 extra] w fun e w' => e = .returned (.bool true) ∧ Kept w w' := by
  obtain ⟨w0, hw0⟩ : ∃ w0, countP l1 + countP l2 = w0 := ⟨_, rfl⟩
  have hw0b : w0 ≤ 524288 := by have := count_le l1; have := count_le l2; omega
  have HW0 := hide1 hw0
  clear hw0
  go_enter Try.func3, Try.ntmps3
  go_upto_region 4 with (first
    | (go_at_call 4; refine (new_is _).mono ?_; rintro e w1 ⟨rfl, hk1, hs1⟩; have HK1 := hide1 hk1; have HS1 := hide1 hs1; have hsl := hs1.lt; clear hk1 hs1)
    | (go_at_call 5; refine (head_is _).mono ?_; rintro e w2 ⟨rfl, hk2⟩; have HK2 := hide1 hk2; clear hk2))
  obtain ⟨s, hs⟩ : ∃ s, w.heap.size + 1 = s := ⟨_, rfl⟩
  obtain ⟨wA, hwA⟩ : ∃ wA, w.alloc (.cells #[.int .i64 l0, .int .i64 l1, .int .i64 l2, .int .i64 l3] 23) = wA := ⟨_, rfl⟩
  have hsA : wA.heap.size = s := by rw [← hwA, ← hs]; simp
  have hkA : Kept w wA := by rw [← hwA]; exact (Kept.refl w).alloc _ _
  have hbA : wA.heap[w.heap.size]? = some (.cells #[.int .i64 l0, .int .i64 l1, .int .i64 l2, .int .i64 l3] 23 (0, 0)) := by rw [← hwA]; exact World.alloc_heap_new w _
  rw [hwA] at HK1
  rw [hwA, hsA] at HS1
  rw [hs]
  have hk2 : Kept wA w2 := gtrans HK1.out HK2.out
  have hb2 := (hk2.2.2.2.2 w.heap.size (by omega)).trans hbA
  have q0 : w2.cell? ⟨w.heap.size, 0, none⟩ = some (.int .i64 l0) := by simp [World.cell?, hb2]
  have q1 : w2.cell? ⟨w.heap.size, 1, none⟩ = some (.int .i64 l1) := by simp [World.cell?, hb2]
  have q2 : w2.cell? ⟨w.heap.size, 2, none⟩ = some (.int .i64 l2) := by simp [World.cell?, hb2]
  have q3 : w2.cell? ⟨w.heap.size, 3, none⟩ = some (.int .i64 l3) := by simp [World.cell?, hb2]
  have HS2 := hide1 (HS1.out.keep HK2.out)
  have HK02 := hide1 (gtrans hkA hk2)
  have hws : w.heap.size ≤ s := by omega
  have hw0I : (w0 : Int) ≤ 524288 := by omega
  clear hwA hsA hkA hbA hk2 hb2 HK1 HK2 HS1 hs hsl
  go_upto_region 12 with (first
    | (go_at_call 6; refine (leaf_is _ _ _ _ s 0 _ HS2.out (by decide)).mono ?_; rintro e w3 ⟨ba, rfl, hb3, hk3, hs3, hn3⟩; have HI3 : Hid (FullI w s 0 w0 ba w3) := ⟨KeptBut.new HK02.out hk3 hws, hs3, _, hn3, rfl, rfl, rfl, by show countP l1 + countP l2 = 2 ^ 0 * w0; rw [HW0.out, Nat.pow_zero, Nat.one_mul]⟩; have HWD : Hid (Calls Try.prog 7 #[.pointer (some ⟨ba, 0, none⟩)] w3 fun e w' => e = .returned (.int .i64 (w0 : Int)) ∧ w' = w3) := (by have h := width_is hn3; rw [show (leafN s 0 l0 l1 l2 l3).width = w0 from HW0.out] at h; exact h); clear hk3 hs3 hn3 hb3)
    | (go_at_call 7; refine HWD.out.mono ?_; rintro e w4 ⟨rfl, hw4⟩; have hw4 := hw4.symm; subst hw4))
  clear q0 q1 q2 q3 HS2 HK02 HWD
  go_wp2_with fail
  go_loopw [6, 7, 8, 9] (fun v6 v7 v8 v9 wr => ∃ j bx : Nat, j ≤ 21 ∧ v6 = .pointer (some ⟨bx, 0, none⟩) ∧ v7 = .int .i64 ((2 ^ (j + 1) - 1 : Nat) : Int) ∧ v8 = .int .i64 ((2 ^ j : Nat) : Int) ∧ v9 = .int .i64 ((2 ^ j * w0 : Nat) : Int) ∧ Hid (FullI w s j w0 bx wr)) (fun _ v7 _ _ _ => 4194304 - (intOf v7).toNat)
  case atStart => exact ⟨0, ba, by decide, rfl, rfl, rfl, by rw [Nat.pow_zero, Nat.one_mul], HI3⟩
  case round =>
    obtain ⟨j, bx, hj, rfl, rfl, rfl, rfl, HI⟩ := hrel
    clear HI3
    obtain ⟨pa, pb, pc⟩ := pow_le hj
    obtain ⟨hkr, hsr, X, hX, hXs, hX1, hX2, hX3⟩ := HI.out
    have hok := full_ok hj hw0b hX1 hX2 hX3
    have hj21 : ∀ h : 2 * (2 ^ (j + 1) - 1) + 1 ≤ 4194304, j < 21 := fun h => pow_lt (by omega)
    obtain ⟨P, hP⟩ : ∃ P, 2 ^ j = P := ⟨_, rfl⟩
    obtain ⟨r, hr⟩ : ∃ r, 2 ^ (j + 1) - 1 = r := ⟨_, rfl⟩
    obtain ⟨Wd, hWd⟩ : ∃ Wd, P * w0 = Wd := ⟨_, rfl⟩
    have hWb : Wd ≤ 1099511627776 := by
      have h1 : P * w0 ≤ 2097152 * 524288 := Nat.mul_le_mul (by omega) hw0b
      omega
    rw [hP] at hX2 hX3 pa pb pc
    rw [hWd] at hX3
    rw [hr] at hX1 hj21
    rw [hP, hr, hWd]
    have hrP : r + 1 = 2 * P := by omega
    have hrI : (r : Int) ≤ 4194303 := by omega
    have hPI : (P : Int) ≤ 2097152 := by omega
    have hWI : (Wd : Int) ≤ 1099511627776 := by omega
    have HX := hide1 hX
    have HXS := hide1 hXs
    have HX1 := hide1 hX1
    have HX2 := hide1 hX2
    have HX3 := hide1 hX3
    have HOK := hide1 hok
    have HKR := hide1 hkr
    have HSR := hide1 hsr
    have HP := hide1 hP
    have HRR := hide1 hr
    have HRP := hide1 hrP
    have HWD := hide1 hWd
    have HJ := hide1 hj21
    have HJ2 := hide1 hj
    clear hkr hsr hX hXs hX1 hX2 hX3 hok hP hr hWd hWb hrP hj21 hj pa pb pc HI
    by_cases hg : 2 * (r : Int) + 1 ≤ 4194304
    · go_upto_region 17 with (go_at_call 8; refine (make_ok (fun _ => X) wr.heap.size s (j + 1) 3 0 [bx, bx] _ _ (HSR.out.keep ((Kept.refl _).alloc _ _)) (ptrs2 (World.alloc_heap_new wr _)) (fun d hd => by simp only [List.mem_cons, List.not_mem_nil, or_false, or_self] at hd; subst hd; exact HX.out.keep ((Kept.refl _).alloc _ _)) (alloc_le wr _) (fun d hd => HOK.out) (by have := HJ2.out; omega) (by decide) (by simp [ownP, HXS.out]) (by simp [sizeS, HX1.out]; omega)).mono ?_; rintro e w4 ⟨bb, rfl, hb4, hk4, hs4, hn4⟩; have HK4 := hide1 hk4; have HS4 := hide1 hs4; have HN4 := hide1 hn4; clear hk4 hs4 hn4 hb4)
      obtain ⟨Y, hY⟩ : ∃ Y, makeN (fun _ => X) s (j + 1) 3 0 [bx, bx] = Y := ⟨_, rfl⟩
      have y1 : Y.size = 2 * r + 1 := by rw [← hY]; simp only [makeN, sizeS, List.map_cons, List.map_nil, List.sum_cons, List.sum_nil, HX1.out]; omega
      have y2 : Y.leafs = 2 * P := by rw [← hY]; simp only [makeN, leafS, List.map_cons, List.map_nil, List.sum_cons, List.sum_nil, HX2.out]; omega
      have y3 : Y.width = 2 * Wd := by rw [← hY]; simp only [makeN, widthS, List.map_cons, List.map_nil, List.sum_cons, List.sum_nil, HX3.out]; omega
      have y4 : Y.failed = true := by rw [← hY]; simp [makeN, failS]
      have y5 : Y.st = s := by rw [← hY]; rfl
      rw [hY] at HN4
      have HLF : Hid (Calls Try.prog 9 #[.pointer (some ⟨bb, 0, none⟩)] w4 fun e w' => e = .returned (.int .i64 (2 * (P : Int))) ∧ w' = w4) := by
        have h := leafs_is HN4.out
        rw [y2, show ((2 * P : Nat) : Int) = 2 * (P : Int) by omega] at h
        exact h
      have HWF : Hid (Calls Try.prog 7 #[.pointer (some ⟨bb, 0, none⟩)] w4 fun e w' => e = .returned (.int .i64 (2 * (Wd : Int))) ∧ w' = w4) := by
        have h := width_is HN4.out
        rw [y3, show ((2 * Wd : Nat) : Int) = 2 * (Wd : Int) by omega] at h
        exact h
      have HSF : Hid (Calls Try.prog 10 #[.pointer (some ⟨bb, 0, none⟩)] w4 fun e w' => e = .returned (.int .i64 (2 * (r : Int) + 1)) ∧ w' = w4) := by
        have h := size_is HN4.out
        rw [y1, show ((2 * r + 1 : Nat) : Int) = 2 * (r : Int) + 1 by omega] at h
        exact h
      have HFF : Hid (Calls Try.prog 11 #[.pointer (some ⟨bb, 0, none⟩)] w4 fun e w' => e = .returned (.bool true) ∧ w' = w4) := by
        have h := failed_is HN4.out
        rw [y4] at h
        exact h
      have hj1 : j < 21 := HJ.out (by omega)
      have HI4 : Hid (FullI w s (j + 1) w0 bb w4) := by
        refine ⟨KeptBut.new (gtrans HKR.out ((Kept.refl wr).alloc _ _)) HK4.out hws, HS4.out, Y, HN4.out, y5, ?_, ?_, ?_⟩
        · rw [y1, Nat.pow_succ, Nat.pow_succ, HP.out]
          have := HRP.out
          omega
        · rw [y2, Nat.pow_succ, HP.out]
          omega
        · rw [y3, Nat.pow_succ, HP.out, ← HWD.out, Nat.mul_right_comm]
          omega
      have HV : Hid (((2 ^ (j + 1 + 1) - 1 : Nat) : Int) = 2 * (r : Int) + 1 ∧ ((2 ^ (j + 1) : Nat) : Int) = 2 * (P : Int) ∧ ((2 ^ (j + 1) * w0 : Nat) : Int) = 2 * (Wd : Int)) := by
        have h1 := HRP.out
        have h2 : 2 ^ (j + 1 + 1) = 4 * P := by rw [Nat.pow_succ, Nat.pow_succ, HP.out]; omega
        have h3 : 2 ^ (j + 1) = 2 * P := by rw [Nat.pow_succ, HP.out]; omega
        have h4 : 2 ^ (j + 1) * w0 = 2 * Wd := by rw [h3, ← HWD.out, Nat.mul_assoc]
        refine ⟨?_, ?_, ?_⟩
        · rw [h2]
          omega
        · rw [h3]
          omega
        · rw [h4]
          omega
      clear y1 y2 y3 y4 y5 hY HK4 HS4 HN4 HX HXS HX1 HX2 HX3 HOK HKR HSR
      go_wp2_with (first
        | (go_at_call 9; refine HLF.out.mono ?_; rintro e w5 ⟨rfl, hw5⟩; have hw5 := hw5.symm; subst hw5)
        | (go_at_call 7; refine HWF.out.mono ?_; rintro e w5 ⟨rfl, hw5⟩; have hw5 := hw5.symm; subst hw5)
        | (go_at_call 10; refine HSF.out.mono ?_; rintro e w5 ⟨rfl, hw5⟩; have hw5 := hw5.symm; subst hw5)
        | (go_at_call 11; refine HFF.out.mono ?_; rintro e w5 ⟨rfl, hw5⟩; have hw5 := hw5.symm; subst hw5))
      go_roundw
      case rel => exact ⟨j + 1, bb, by omega, rfl, by rw [HV.out.1], by rw [HV.out.2.1], by rw [HV.out.2.2], HI4⟩
      case measure => simp [intOf]; omega
    · have hP21 : P = 2097152 := by
        have h1 := HRP.out
        rcases Nat.lt_or_ge j 21 with h | h
        · exfalso
          have h2 : 2 ^ j ≤ 2 ^ 20 := Nat.pow_le_pow_right (by decide) (by omega)
          rw [HP.out] at h2
          have : (2 : Nat) ^ 20 = 1048576 := by decide
          omega
        · have h2 : j = 21 := by have := HJ2.out; omega
          rw [← HP.out, h2]
      have hr4 : r = 4194303 := by have := HRP.out; omega
      subst hP21
      subst hr4
      have HB1 : Hid (∀ n : Int, 0 ≤ n → mkErr (fun _ => X) s 2 n [bx, bx] = 6) := fun n hn => by
        have e1 : mayP 2 n = true := by simp [mayP, hn]
        have e2 : ownP (fun _ => X) s [bx, bx] = true := by simp [ownP, HXS.out]
        have e3 : sizeS (fun _ => X) [bx, bx] = 8388606 := by simp [sizeS, HX1.out]
        unfold mkErr
        rw [e1, e2, e3]
        decide
      have hkA : Kept wr (wr.alloc (.cells #[.pointer (some ⟨bx, 0, none⟩), .pointer (some ⟨bx, 0, none⟩)] 27)) := (Kept.refl wr).alloc _ _
      have HKA := hide1 hkA
      clear hkA
      go_upto_region 23 with (first
        | (go_at_call 12; refine (round_is _ _).mono ?_; rintro e w5 ⟨rn, hr0, hr1, rfl, hw5⟩; have hw5 := hw5.symm; subst hw5; have HB2 := hide1 (HB1.out rn hr0))
        | (go_at_call 8; refine (make_bad (fun _ => X) wr.heap.size s (j + 1) 2 rn [bx, bx] _ _ (HSR.out.keep HKA.out) (ptrs2 (World.alloc_heap_new wr _)) (fun d hd => by simp only [List.mem_cons, List.not_mem_nil, or_false, or_self] at hd; subst hd; exact HX.out.keep HKA.out) (fun d hd => HOK.out) (fun d hd => ⟨j + 1, by rw [HXS.out]; exact HSR.out.keep HKA.out⟩) (by rw [HB2.out]; decide)).mono ?_; rintro e w6 ⟨rfl, hw6⟩; rw [HB2.out]; have HK6 : Hid (Kept wr w6) := (by rw [hw6]; exact HKA.out); clear hw6))
      have HX6 := hide1 ((HX.out.keep HK6.out).wide HK6.out.size)
      have HS6 := hide1 (HSR.out.keep HK6.out)
      have HKB : Hid (Kept w6 (w6.alloc (.cells #[.pointer (some ⟨bx, 0, none⟩)] 27))) := (Kept.refl w6).alloc _ _
      obtain ⟨Y, hY⟩ : ∃ Y, makeN (fun _ => X) s (j + 1) 4 0 [bx] = Y := ⟨_, rfl⟩
      have y1 : Y.size = 4194304 := by rw [← hY]; simp [makeN, sizeS, HX1.out]
      have y2 : Y.leafs = 2097152 := by rw [← hY]; simp [makeN, leafS, HX2.out]
      have HYS : Hid (Y.st = s) := by rw [← hY]; rfl
      have HY1 := hide1 y1
      have HYO : Hid (NdOk Y) := by rw [← hY]; exact makeN_ok (fun d hd => HOK.out) (by simp [sizeS, HX1.out])
      have HYE := hide1 hY
      have HY2 := hide1 y2
      clear y1 y2 hY HX HSR HKA
      go_upto_region 26 with (first
        | (go_at_call 8; refine (make_ok (fun _ => X) w6.heap.size s (j + 1) 4 0 [bx] _ _ (HS6.out.keep HKB.out) (ptrs1 (World.alloc_heap_new w6 _)) (fun d hd => by rw [List.mem_singleton.1 hd]; exact HX6.out.keep HKB.out) (alloc_le w6 _) (fun d hd => HOK.out) (by have := HJ2.out; omega) (by decide) (by simp [ownP, HXS.out]) (by simp [sizeS, HX1.out])).mono ?_; rintro e w7 ⟨by7, rfl, hb7, hk7, hs7, hn7⟩; rw [HYE.out] at hn7; have HK7 := hide1 hk7; have HS7 := hide1 hs7; have HN7 := hide1 hn7; have HLF : Hid (Calls Try.prog 9 #[.pointer (some ⟨by7, 0, none⟩)] w7 fun e w' => e = .returned (.int .i64 2097152) ∧ w' = w7) := (by have h := leafs_is hn7; rw [HY2.out] at h; exact h); clear hk7 hs7 hn7 hb7)
        | (go_at_call 9; refine HLF.out.mono ?_; rintro e w8 ⟨rfl, hw8⟩; have hw8 := hw8.symm; subst hw8))
      have HKC : Hid (Kept w7 (w7.alloc (.cells #[.pointer (some ⟨by7, 0, none⟩)] 27))) := (Kept.refl w7).alloc _ _
      have HB4 : Hid (mkErr (fun _ => Y) s 4 0 [by7] = 6) := by
        show mkErr (fun _ => Y) s 4 0 [by7] = 6
        have e1 : mayP 4 0 = true := by decide
        have e2 : ownP (fun _ => Y) s [by7] = true := by simp [ownP, HYS.out]
        have e3 : sizeS (fun _ => Y) [by7] = 4194304 := by simp [sizeS, HY1.out]
        unfold mkErr
        rw [e1, e2, e3]
        decide
      go_wp2_with (go_at_call 8; refine (make_bad (fun _ => Y) w7.heap.size s (j + 1 + 1) 4 0 [by7] _ _ (HS7.out.keep HKC.out) (ptrs1 (World.alloc_heap_new w7 _)) (fun d hd => by rw [List.mem_singleton.1 hd]; exact HN7.out.keep HKC.out) (fun d hd => HYO.out) (fun d hd => ⟨j + 1 + 1, by rw [HYS.out]; exact HS7.out.keep HKC.out⟩) (by rw [HB4.out]; decide)).mono ?_; rintro e w9 ⟨rfl, hw9⟩; rw [HB4.out]; have HK9 : Hid (Kept w7 w9) := (by rw [hw9]; exact HKC.out); clear hw9)
      go_ret
      exact ⟨rfl, gtrans (KeptBut.new (gtrans HKR.out (gtrans HK6.out HKB.out)) HK7.out hws) HK9.out⟩

end Tr
end Ex
end Go.Proofs.Ytjdhnjckochihaa
