import Derived.Test.YtemfnbccjbojfaaMDeLc
import Derived.BigQuiet
import Derived.Test.YtemfnbccjbojfaaMDeLe
import Derived.Test.YtemfnbccjbojfaaMExPat
import Derived.Test.YtemfnbccjbojfaaRows
import Derived.WalkKit
import Derived.ProofKit
import Derived.OpenShut
import Derived.ShutString
import Derived.ChangeOld
import Derived.Below
import Derived.SizedLaws
namespace Go.Proofs.Ytemfnbccjbojfaa
open Go.RowKit
attribute [local go_sem] Oper.semAt_some
namespace Ex
namespace Tr

set_option linter.unusedSimpArgs false
set_option linter.unusedVariables false
set_option maxRecDepth 100000
set_option maxHeartbeats 4000000
theorem bytes_long (tg to_ L : Nat) (tc : Nat) (ty : List Int) (at_ del : Int) (ba : Option Addr) (n bc : Nat) (y : List Int) (w : World) (hL : ty.length = L) (hLc : L ≤ tc) (hL2 : L ≤ 140737488351232) (hb : Src u8E w ba y) (hn : y.length = n) (hnc : n ≤ bc) (hn2 : n ≤ 140737488351232) (ht : Src u8E w (some ⟨tg, to_, none⟩) ty) (hbig : (300 : Int) < (L : Int)) :
    Calls Try.prog 3 #[.slice (some ⟨tg, to_, none⟩) L tc, .agg #[.int .i64 at_, .int .i64 del, .slice ba n bc]] w fun e w' => e = .returned (.bool true) ∧ Kept w w' := by
  have HB := hide1 hb
  have HN := hide1 hn
  have hLI : (L : Int) ≤ (tc : Int) := by omega
  have hLI2 : (L : Int) ≤ 140737488351232 := by omega
  have hnI : (n : Int) ≤ (bc : Int) := by omega
  have hnI2 : (n : Int) ≤ 140737488351232 := by omega
  obtain ⟨N, hN⟩ : ∃ N : Nat, N = 300 := ⟨_, rfl⟩
  obtain ⟨tb, htb⟩ : ∃ tb, ty.take N = tb := ⟨_, rfl⟩
  have hTB : tb.length = N := by rw [← htb, List.length_take]; omega
  have hST : Src u8E w (some ⟨tg, to_, none⟩) tb := by rw [← htb]; exact ht.cut N
  have hNL : (N : Int) ≤ (L : Int) := by omega
  have hN3 : (N : Int) ≤ 300 := by omega
  clear hb hn hLc hL2 hnc hn2 htb ht hL
  go_enter Try.func3, Try.ntmps3
  go_upto_region 6 with (go_at_call 9; refine (headD_is _).mono ?_; rintro e w1 ⟨rfl, hk1⟩; have HK1 := hide1 hk1; clear hk1)
  rw [← hN]
  clear hN hbig
  obtain ⟨bx, hbx⟩ : ∃ b, w.heap.size = b := ⟨_, rfl⟩
  have hXB : w1.heap[bx]? = some (.cells #[.int .i64 at_, .int .i64 del, .slice ba n bc] 24 (0, 0)) := by rw [← hbx]; exact (HK1.out.2.2.2.2 _ (by simp)).trans (World.alloc_heap_new w _)
  have HKW : Hid (Kept w w1) := gtrans ((Kept.refl w).alloc _ _) HK1.out
  have hbl := (Array.getElem?_eq_some_iff.1 hXB).1
  have HBX : Hid (∀ w', Kept w1 w' → w'.heap[bx]? = some (.cells #[.int .i64 at_, .int .i64 del, .slice ba n bc] 24 (0, 0))) := fun w' hk => (hk.2.2.2.2 bx hbl).trans hXB
  obtain ⟨x0, x1, x2⟩ := cells3 hXB
  rw [hbx]
  clear HK1 hbx hXB hbl
  by_cases c1 : at_ < 0
  · go_wp2_with fail
    go_ret
    exact ⟨rfl, HKW.out⟩
  by_cases c2 : del < 0
  · go_wp2_with fail
    go_ret
    exact ⟨rfl, HKW.out⟩
  by_cases c3 : (N : Int) < at_
  · go_wp2_with fail
    go_ret
    exact ⟨rfl, HKW.out⟩
  by_cases c4 : (N : Int) - at_ < del
  · go_wp2_with fail
    go_ret
    exact ⟨rfl, HKW.out⟩
  by_cases c5 : (1000 : Int) < (n : Int)
  · go_wp2_with fail
    go_ret
    exact ⟨rfl, HKW.out⟩
  obtain ⟨A, rfl⟩ : ∃ A : Nat, at_ = (A : Int) := ⟨at_.toNat, by omega⟩
  obtain ⟨D, rfl⟩ : ∃ D : Nat, del = (D : Int) := ⟨del.toNat, by omega⟩
  have hAN : (A : Int) ≤ (N : Int) := by omega
  have hDN : (A : Int) + (D : Int) ≤ (N : Int) := by omega
  have hNc : (N : Int) ≤ (tc : Int) := by omega
  have HTB : Hid (tb.length = N) := hTB
  have HSA : Hid (Src u8E w (some ⟨tg, to_, none⟩) (tb.take A)) := hST.cut A
  have hAl : (tb.take A).length = A := by rw [List.length_take, hTB]; omega
  have HAL := hide1 hAl
  have hDl : (tb.drop (A + D)).length = N - (A + D) := by rw [List.length_drop, hTB]
  have HDL := hide1 hDl
  have HST := hide1 hST
  clear hST hTB hAl hDl
  go_upto_region 10 with (at_builtin; refine wpl_many (E := u8E) rfl _ _ rfl w1.heap.size (.slice none 0 0) [] (tb.take A) 0 A A rfl HAL.out (Nat.zero_add A) rfl (LO.nil _ _) (some ⟨tg, to_, none⟩) tc rfl (HSA.out.keep HKW.out) (by show A * 1 ≤ 140737488355328; omega) (by unfold maxLen; omega) (Nat.le_refl _) ?_; intro a2 c2' w2 ho2 hg2 hor2; have HO2 := hide1 ho2; have HK2 := hide1 (Kept.lo (Kept.refl w1) (LO.nil (E := u8E) w1 w1.heap.size) hg2); clear ho2 hg2 hor2)
  obtain ⟨y0, y1, y2⟩ := cells3 (HBX.out _ HK2.out)
  go_upto_region 11 with (at_builtin; refine wpl_many (E := u8E) rfl _ _ rfl w1.heap.size (.slice a2 A c2') ([] ++ tb.take A) y A n (A + n) (by rw [List.nil_append]; exact HAL.out) HN.out rfl rfl HO2.out ba bc rfl (HB.out.keep (gtrans HKW.out HK2.out)) (by show (A + n) * 1 ≤ 140737488355328; omega) (by unfold maxLen; omega) HK2.out.size ?_; intro a3 c3' w3 ho3 hg3 hor3; have HO3 := hide1 ho3; have HK3 := hide1 (Kept.lo HK2.out HO2.out hg3); clear ho3 hg3 hor3)
  obtain ⟨z0, z1, z2⟩ := cells3 (HBX.out _ HK3.out)
  clear x0 x1 x2 y0 y1 y2 HO2
  obtain ⟨M, hM⟩ : ∃ M, A + n + (N - (A + D)) = M := ⟨_, rfl⟩
  have HME := hide1 hM
  have hMI : (M : Int) = (A : Int) + (n : Int) + ((N : Int) - ((A : Int) + (D : Int))) := by omega
  clear hM
  by_cases htc : tc = A + D
  · go_upto_region 12 with (at_builtin; refine wpl_many (E := u8E) rfl _ _ rfl w1.heap.size (.slice a3 (A + n) c3') ([] ++ tb.take A ++ y) (tb.drop (A + D)) (A + n) (N - (A + D)) M (by rw [List.length_append, List.nil_append, HAL.out, HN.out]) HDL.out HME.out rfl HO3.out _ _ rfl (by first | exact Or.inl (List.drop_of_length_le (by rw [HTB.out]; omega)) | exact Or.inl (List.drop_of_length_le (by rw [HTB.out]; have := HSM.out; omega)) | exact Src.past (HST.out.keep (gtrans HKW.out HK3.out)) (A + D) (by rw [HTB.out]; omega)) (by show M * 1 ≤ 140737488355328; omega) (by unfold maxLen; omega) HK3.out.size ?_; intro a4 c4' w4 ho4 hg4 hor4; have HO4 := hide1 ho4; have HK4 := hide1 (Kept.lo HK3.out HO3.out hg4); clear ho4 hg4 hor4)
    clear HO3 HK3 z0 z1 z2 HK2 HSA HAL HDL
    have HW4 : Hid (Kept w w4) := gtrans HKW.out HK4.out
    go_wp2_with fail
    go_loopw [7, 8, 9] (fun v7 v8 v9 wr => ∃ (j : Nat) (lv bv : Int), v7 = .int .i64 lv ∧ v8 = .int .i64 bv ∧ v9 = .int .i64 (j : Int) ∧ j ≤ N + 1 ∧ Hid (lv ≤ (xF A D n j : Int) ∧ bv ≤ (yF A D n j : Int) ∧ Kept w4 wr)) (fun _ _ v9 _ => N + 1 - (intOf v9).toNat)
    case atStart => exact ⟨0, 0, 0, rfl, rfl, rfl, by omega, by omega, by omega, Kept.refl w4⟩
    case round =>
      obtain ⟨j, lv, bv, rfl, rfl, rfl, hj, hI⟩ := hrel
      by_cases hjN : j ≤ N
      · obtain ⟨i1, i2, i3⟩ := hI.out
        have hyx := yF_xF A D n j
        have htop := xF_top A D n j N (by omega) (by omega) hjN
        have hmx := xF_mono A D n j
        have hmy := yF_mono A D n j
        have hMX := move_x A D n ba bc j (by omega) (by omega) (by omega) (by omega)
        have hMY := move_y A D n ba bc j (by omega) (by omega) (by omega) (by omega)
        have hMZ := move_y A D n ba bc (j + 1) (by omega) (by omega) (by omega) (by omega)
        have HYN := hide1 (yF_next A D n j)
        have HNX := hide1 (fun (h1 : j < N) h2 => next_at A D n j N tb y HTB.out HN.out (by omega) h1 h2)
        obtain ⟨xn, hxn⟩ : ∃ x, xF A D n j = x := ⟨_, rfl⟩
        obtain ⟨yn, hyn⟩ : ∃ x, yF A D n j = x := ⟨_, rfl⟩
        rw [hxn] at hyx htop hmx hMX i1 HYN HNX
        rw [hyn] at hyx hmy hMY i2
        have HMX := hide1 hMX
        have HMY := hide1 hMY
        have HMZ := hide1 hMZ
        have HMO := hide1 (And.intro hmx hmy)
        have hyxI : (yn : Int) ≤ (xn : Int) := by omega
        have hxM : (xn : Int) ≤ (M : Int) := by rw [← HME.out]; omega
        have hjI : (j : Int) ≤ (N : Int) := by omega
        have hxB : (xn : Int) ≤ 2000 := by omega
        have HKR := hide1 i3
        obtain ⟨x0, x1, x2⟩ := cells3 (HBX.out _ (gtrans HK4.out i3))
        clear hI hmx hmy hMX hMY hMZ hxn hyn i3 htop hyx
        go_upto_region 18 with (first
        | (go_at_call 11; refine (edits1_is (A : Int) (D : Int) ba n bc y _ _ (World.alloc_heap_new _ _) (HB.out.keep (gtrans HW4.out (gtrans HKR.out ((Kept.refl _).alloc _ _)))) HN.out.symm (by omega) (by omega)).mono ?_; rintro e w5 ⟨gw5, ecw5, csw5, rfl, hr5, hc5, hk5⟩; have HR5 := hide1 hr5; have HC5 := hide1 hc5; have HKA := hide1 (gtrans (gtrans HKR.out ((Kept.refl _).alloc _ _)) hk5); clear hr5 hc5 hk5)
        | (go_at_call 10; refine (move1_is (j : Int) 0 _ _ _ _ (xn : Int) HR5.out HC5.out trivial HMX.out).mono ?_; rintro e w6 ⟨rfl, hk6⟩; have HKw6 := hide1 (gtrans HKA.out hk6); clear hk6))
        obtain ⟨y0, y1, y2⟩ := cells3 (HBX.out _ (gtrans HK4.out HKw6.out))
        clear HR5 HC5 HKA x0 x1 x2
        go_upto_region 19 with (first
        | (go_at_call 11; refine (edits1_is (A : Int) (D : Int) ba n bc y _ _ (World.alloc_heap_new _ _) (HB.out.keep (gtrans HW4.out (gtrans HKw6.out ((Kept.refl _).alloc _ _)))) HN.out.symm (by omega) (by omega)).mono ?_; rintro e w7 ⟨gw7, ecw7, csw7, rfl, hr5, hc5, hk5⟩; have HR5 := hide1 hr5; have HC5 := hide1 hc5; have HKA := hide1 (gtrans (gtrans HKw6.out ((Kept.refl _).alloc _ _)) hk5); clear hr5 hc5 hk5)
        | (go_at_call 10; refine (move1_is (j : Int) (-1) _ _ _ _ (yn : Int) HR5.out HC5.out trivial HMY.out).mono ?_; rintro e w8 ⟨rfl, hk6⟩; have HKw8 := hide1 (gtrans HKA.out hk6); clear hk6))
        obtain ⟨z0, z1, z2⟩ := cells3 (HBX.out _ (gtrans HK4.out HKw8.out))
        clear HR5 HC5 HKA y0 y1 y2
        by_cases e1 : j = N
        · have e1I : (j : Int) = (N : Int) := by omega
          subst e1
          go_wp2_with fail
          exact ⟨⟨j + 1, (xn : Int), (yn : Int), rfl, rfl, by simp, by omega, by have := HMO.out.1; omega, by have := HMO.out.2; omega, HKw8.out⟩, by simp [intOf] <;> omega⟩
        have e1I : (j : Int) < (N : Int) := by omega
        have eB : ((j : Int) == (N : Int)) = false := by simp; omega
        by_cases e2 : A ≤ j ∧ j < A + D
        · have e2I : (A : Int) ≤ (j : Int) := by omega
          have e3I : (j : Int) < (A : Int) + (D : Int) := by omega
          go_wp2_with fail
          exact ⟨⟨j + 1, (xn : Int), (yn : Int), rfl, rfl, by simp, by omega, by have := HMO.out.1; omega, by have := HMO.out.2; omega, HKw8.out⟩, by simp [intOf] <;> omega⟩
        have hnx := HNX.out (by omega) e2
        have hMZ := HMZ.out
        rw [HYN.out e2] at hMZ
        have HMZ2 : Hid (moveP ((j : Int) + 1) (-1) [⟨(A : Int), (D : Int), ba, n, bc⟩] = ((xn : Int) + 1, 0)) := hMZ
        obtain ⟨u, hu⟩ : ∃ u, tb[j]? = some u := ⟨_, List.getElem?_eq_getElem (by rw [HTB.out]; omega)⟩
        rw [hu] at hnx
        have ho4 := HO4.out
        rw [List.nil_append] at ho4
        obtain ⟨g4, rfl⟩ := ho4.some (by intro h; rw [h] at hnx; simp at hnx)
        have hxM2 : (xn : Int) < (M : Int) := by
          have h1 := (List.getElem?_eq_some_iff.1 hnx).1
          rw [List.length_append, List.length_append, List.length_take, List.length_drop, HTB.out, HN.out] at h1
          have := HME.out
          omega
        have hM4 : (M : Int) ≤ (c4' : Int) := by
          have h1 := ho4.cap
          rw [List.length_append, List.length_append, List.length_take, List.length_drop, HTB.out, HN.out] at h1
          have := HME.out
          omega
        have HNC : Hid (∀ w', Kept w4 w' → w'.cell? ⟨g4, xn, none⟩ = some (.int .u8 u) ∧ w'.cell? ⟨tg, to_ + j, none⟩ = some (.int .u8 u)) := fun w' hk => by
          refine ⟨?_, ?_⟩
          · have h1 := (ho4.keep hk).cell (j := 0) hnx (u := .int .u8 u) rfl
            rw [show xn * u8E.sz + 0 = xn from by show xn * 1 + 0 = xn; omega] at h1
            exact h1
          · rcases HST.out.keep (gtrans HW4.out hk) with h | ⟨g', o', h1, h2⟩
            · rw [h] at hu; simp at hu
            · injection h1 with h1
              injection h1 with h1 h3
              subst h1 h3
              exact h2 j _ (by rw [flat_u8c, List.getElem?_map, hu]; rfl)
        clear hnx hMZ HMZ HYN HNX hu ho4
        go_upto_region 25 with (first
          | (go_at_call 11; refine (edits1_is (A : Int) (D : Int) ba n bc y _ _ (World.alloc_heap_new _ _) (HB.out.keep (gtrans HW4.out (gtrans HKw8.out ((Kept.refl _).alloc _ _)))) HN.out.symm (by omega) (by omega)).mono ?_; rintro e w9 ⟨gw9, ecw9, csw9, rfl, hr5, hc5, hk5⟩; have HR5 := hide1 hr5; have HC5 := hide1 hc5; have HKA := hide1 (gtrans (gtrans HKw8.out ((Kept.refl _).alloc _ _)) hk5); clear hr5 hc5 hk5)
          | (go_at_call 10; refine (move1_is ((j : Int) + 1) (-1) _ _ _ _ ((xn : Int) + 1) HR5.out HC5.out trivial HMZ2.out).mono ?_; rintro e w10 ⟨rfl, hk6⟩; have HKw10 := hide1 (gtrans HKA.out hk6); clear hk6))
        obtain ⟨k1, k2⟩ := HNC.out _ HKw10.out
        clear HR5 HC5 HKA z0 z1 z2 HNC
        go_quiet (fail)
        go_wp2_with fail
        exact ⟨⟨j + 1, (xn : Int), (yn : Int), rfl, rfl, by simp, by omega, by have := HMO.out.1; omega, by have := HMO.out.2; omega, gtrans HKw10.out (drewN_kept _ _)⟩, by simp [intOf] <;> omega⟩
      · obtain rfl : j = N + 1 := by omega
        have HI := hide1 hI.out
        clear hI
        go_wp2_with fail
        go_ret
        exact ⟨rfl, gtrans HW4.out HI.out.2.2⟩
  · go_upto_region 12 with (at_builtin; refine wpl_many (E := u8E) rfl _ _ rfl w1.heap.size (.slice a3 (A + n) c3') ([] ++ tb.take A ++ y) (tb.drop (A + D)) (A + n) (N - (A + D)) M (by rw [List.length_append, List.nil_append, HAL.out, HN.out]) HDL.out HME.out rfl HO3.out _ _ rfl (by first | exact Or.inl (List.drop_of_length_le (by rw [HTB.out]; omega)) | exact Or.inl (List.drop_of_length_le (by rw [HTB.out]; have := HSM.out; omega)) | exact Src.past (HST.out.keep (gtrans HKW.out HK3.out)) (A + D) (by rw [HTB.out]; omega)) (by show M * 1 ≤ 140737488355328; omega) (by unfold maxLen; omega) HK3.out.size ?_; intro a4 c4' w4 ho4 hg4 hor4; have HO4 := hide1 ho4; have HK4 := hide1 (Kept.lo HK3.out HO3.out hg4); clear ho4 hg4 hor4)
    clear HO3 HK3 z0 z1 z2 HK2 HSA HAL HDL
    have HW4 : Hid (Kept w w4) := gtrans HKW.out HK4.out
    go_wp2_with fail
    go_loopw [7, 8, 9] (fun v7 v8 v9 wr => ∃ (j : Nat) (lv bv : Int), v7 = .int .i64 lv ∧ v8 = .int .i64 bv ∧ v9 = .int .i64 (j : Int) ∧ j ≤ N + 1 ∧ Hid (lv ≤ (xF A D n j : Int) ∧ bv ≤ (yF A D n j : Int) ∧ Kept w4 wr)) (fun _ _ v9 _ => N + 1 - (intOf v9).toNat)
    case atStart => exact ⟨0, 0, 0, rfl, rfl, rfl, by omega, by omega, by omega, Kept.refl w4⟩
    case round =>
      obtain ⟨j, lv, bv, rfl, rfl, rfl, hj, hI⟩ := hrel
      by_cases hjN : j ≤ N
      · obtain ⟨i1, i2, i3⟩ := hI.out
        have hyx := yF_xF A D n j
        have htop := xF_top A D n j N (by omega) (by omega) hjN
        have hmx := xF_mono A D n j
        have hmy := yF_mono A D n j
        have hMX := move_x A D n ba bc j (by omega) (by omega) (by omega) (by omega)
        have hMY := move_y A D n ba bc j (by omega) (by omega) (by omega) (by omega)
        have hMZ := move_y A D n ba bc (j + 1) (by omega) (by omega) (by omega) (by omega)
        have HYN := hide1 (yF_next A D n j)
        have HNX := hide1 (fun (h1 : j < N) h2 => next_at A D n j N tb y HTB.out HN.out (by omega) h1 h2)
        obtain ⟨xn, hxn⟩ : ∃ x, xF A D n j = x := ⟨_, rfl⟩
        obtain ⟨yn, hyn⟩ : ∃ x, yF A D n j = x := ⟨_, rfl⟩
        rw [hxn] at hyx htop hmx hMX i1 HYN HNX
        rw [hyn] at hyx hmy hMY i2
        have HMX := hide1 hMX
        have HMY := hide1 hMY
        have HMZ := hide1 hMZ
        have HMO := hide1 (And.intro hmx hmy)
        have hyxI : (yn : Int) ≤ (xn : Int) := by omega
        have hxM : (xn : Int) ≤ (M : Int) := by rw [← HME.out]; omega
        have hjI : (j : Int) ≤ (N : Int) := by omega
        have hxB : (xn : Int) ≤ 2000 := by omega
        have HKR := hide1 i3
        obtain ⟨x0, x1, x2⟩ := cells3 (HBX.out _ (gtrans HK4.out i3))
        clear hI hmx hmy hMX hMY hMZ hxn hyn i3 htop hyx
        go_upto_region 18 with (first
        | (go_at_call 11; refine (edits1_is (A : Int) (D : Int) ba n bc y _ _ (World.alloc_heap_new _ _) (HB.out.keep (gtrans HW4.out (gtrans HKR.out ((Kept.refl _).alloc _ _)))) HN.out.symm (by omega) (by omega)).mono ?_; rintro e w5 ⟨gw5, ecw5, csw5, rfl, hr5, hc5, hk5⟩; have HR5 := hide1 hr5; have HC5 := hide1 hc5; have HKA := hide1 (gtrans (gtrans HKR.out ((Kept.refl _).alloc _ _)) hk5); clear hr5 hc5 hk5)
        | (go_at_call 10; refine (move1_is (j : Int) 0 _ _ _ _ (xn : Int) HR5.out HC5.out trivial HMX.out).mono ?_; rintro e w6 ⟨rfl, hk6⟩; have HKw6 := hide1 (gtrans HKA.out hk6); clear hk6))
        obtain ⟨y0, y1, y2⟩ := cells3 (HBX.out _ (gtrans HK4.out HKw6.out))
        clear HR5 HC5 HKA x0 x1 x2
        go_upto_region 19 with (first
        | (go_at_call 11; refine (edits1_is (A : Int) (D : Int) ba n bc y _ _ (World.alloc_heap_new _ _) (HB.out.keep (gtrans HW4.out (gtrans HKw6.out ((Kept.refl _).alloc _ _)))) HN.out.symm (by omega) (by omega)).mono ?_; rintro e w7 ⟨gw7, ecw7, csw7, rfl, hr5, hc5, hk5⟩; have HR5 := hide1 hr5; have HC5 := hide1 hc5; have HKA := hide1 (gtrans (gtrans HKw6.out ((Kept.refl _).alloc _ _)) hk5); clear hr5 hc5 hk5)
        | (go_at_call 10; refine (move1_is (j : Int) (-1) _ _ _ _ (yn : Int) HR5.out HC5.out trivial HMY.out).mono ?_; rintro e w8 ⟨rfl, hk6⟩; have HKw8 := hide1 (gtrans HKA.out hk6); clear hk6))
        obtain ⟨z0, z1, z2⟩ := cells3 (HBX.out _ (gtrans HK4.out HKw8.out))
        clear HR5 HC5 HKA y0 y1 y2
        by_cases e1 : j = N
        · have e1I : (j : Int) = (N : Int) := by omega
          subst e1
          go_wp2_with fail
          exact ⟨⟨j + 1, (xn : Int), (yn : Int), rfl, rfl, by simp, by omega, by have := HMO.out.1; omega, by have := HMO.out.2; omega, HKw8.out⟩, by simp [intOf] <;> omega⟩
        have e1I : (j : Int) < (N : Int) := by omega
        have eB : ((j : Int) == (N : Int)) = false := by simp; omega
        by_cases e2 : A ≤ j ∧ j < A + D
        · have e2I : (A : Int) ≤ (j : Int) := by omega
          have e3I : (j : Int) < (A : Int) + (D : Int) := by omega
          go_wp2_with fail
          exact ⟨⟨j + 1, (xn : Int), (yn : Int), rfl, rfl, by simp, by omega, by have := HMO.out.1; omega, by have := HMO.out.2; omega, HKw8.out⟩, by simp [intOf] <;> omega⟩
        rcases (by omega : (j : Int) < (A : Int) ∨ ((A : Int) ≤ (j : Int) ∧ (A : Int) + (D : Int) ≤ (j : Int))) with e4 | ⟨e4, e5⟩
        · have hnx := HNX.out (by omega) e2
          have hMZ := HMZ.out
          rw [HYN.out e2] at hMZ
          have HMZ2 : Hid (moveP ((j : Int) + 1) (-1) [⟨(A : Int), (D : Int), ba, n, bc⟩] = ((xn : Int) + 1, 0)) := hMZ
          obtain ⟨u, hu⟩ : ∃ u, tb[j]? = some u := ⟨_, List.getElem?_eq_getElem (by rw [HTB.out]; omega)⟩
          rw [hu] at hnx
          have ho4 := HO4.out
          rw [List.nil_append] at ho4
          obtain ⟨g4, rfl⟩ := ho4.some (by intro h; rw [h] at hnx; simp at hnx)
          have hxM2 : (xn : Int) < (M : Int) := by
            have h1 := (List.getElem?_eq_some_iff.1 hnx).1
            rw [List.length_append, List.length_append, List.length_take, List.length_drop, HTB.out, HN.out] at h1
            have := HME.out
            omega
          have hM4 : (M : Int) ≤ (c4' : Int) := by
            have h1 := ho4.cap
            rw [List.length_append, List.length_append, List.length_take, List.length_drop, HTB.out, HN.out] at h1
            have := HME.out
            omega
          have HNC : Hid (∀ w', Kept w4 w' → w'.cell? ⟨g4, xn, none⟩ = some (.int .u8 u) ∧ w'.cell? ⟨tg, to_ + j, none⟩ = some (.int .u8 u)) := fun w' hk => by
            refine ⟨?_, ?_⟩
            · have h1 := (ho4.keep hk).cell (j := 0) hnx (u := .int .u8 u) rfl
              rw [show xn * u8E.sz + 0 = xn from by show xn * 1 + 0 = xn; omega] at h1
              exact h1
            · rcases HST.out.keep (gtrans HW4.out hk) with h | ⟨g', o', h1, h2⟩
              · rw [h] at hu; simp at hu
              · injection h1 with h1
                injection h1 with h1 h3
                subst h1 h3
                exact h2 j _ (by rw [flat_u8c, List.getElem?_map, hu]; rfl)
          clear hnx hMZ HMZ HYN HNX hu ho4
          go_upto_region 25 with (first
            | (go_at_call 11; refine (edits1_is (A : Int) (D : Int) ba n bc y _ _ (World.alloc_heap_new _ _) (HB.out.keep (gtrans HW4.out (gtrans HKw8.out ((Kept.refl _).alloc _ _)))) HN.out.symm (by omega) (by omega)).mono ?_; rintro e w9 ⟨gw9, ecw9, csw9, rfl, hr5, hc5, hk5⟩; have HR5 := hide1 hr5; have HC5 := hide1 hc5; have HKA := hide1 (gtrans (gtrans HKw8.out ((Kept.refl _).alloc _ _)) hk5); clear hr5 hc5 hk5)
            | (go_at_call 10; refine (move1_is ((j : Int) + 1) (-1) _ _ _ _ ((xn : Int) + 1) HR5.out HC5.out trivial HMZ2.out).mono ?_; rintro e w10 ⟨rfl, hk6⟩; have HKw10 := hide1 (gtrans HKA.out hk6); clear hk6))
          obtain ⟨k1, k2⟩ := HNC.out _ HKw10.out
          clear HR5 HC5 HKA z0 z1 z2 HNC
          go_quiet (fail)
          go_wp2_with fail
          exact ⟨⟨j + 1, (xn : Int), (yn : Int), rfl, rfl, by simp, by omega, by have := HMO.out.1; omega, by have := HMO.out.2; omega, gtrans HKw10.out (drewN_kept _ _)⟩, by simp [intOf] <;> omega⟩
        · have hnx := HNX.out (by omega) e2
          have hMZ := HMZ.out
          rw [HYN.out e2] at hMZ
          have HMZ2 : Hid (moveP ((j : Int) + 1) (-1) [⟨(A : Int), (D : Int), ba, n, bc⟩] = ((xn : Int) + 1, 0)) := hMZ
          obtain ⟨u, hu⟩ : ∃ u, tb[j]? = some u := ⟨_, List.getElem?_eq_getElem (by rw [HTB.out]; omega)⟩
          rw [hu] at hnx
          have ho4 := HO4.out
          rw [List.nil_append] at ho4
          obtain ⟨g4, rfl⟩ := ho4.some (by intro h; rw [h] at hnx; simp at hnx)
          have hxM2 : (xn : Int) < (M : Int) := by
            have h1 := (List.getElem?_eq_some_iff.1 hnx).1
            rw [List.length_append, List.length_append, List.length_take, List.length_drop, HTB.out, HN.out] at h1
            have := HME.out
            omega
          have hM4 : (M : Int) ≤ (c4' : Int) := by
            have h1 := ho4.cap
            rw [List.length_append, List.length_append, List.length_take, List.length_drop, HTB.out, HN.out] at h1
            have := HME.out
            omega
          have HNC : Hid (∀ w', Kept w4 w' → w'.cell? ⟨g4, xn, none⟩ = some (.int .u8 u) ∧ w'.cell? ⟨tg, to_ + j, none⟩ = some (.int .u8 u)) := fun w' hk => by
            refine ⟨?_, ?_⟩
            · have h1 := (ho4.keep hk).cell (j := 0) hnx (u := .int .u8 u) rfl
              rw [show xn * u8E.sz + 0 = xn from by show xn * 1 + 0 = xn; omega] at h1
              exact h1
            · rcases HST.out.keep (gtrans HW4.out hk) with h | ⟨g', o', h1, h2⟩
              · rw [h] at hu; simp at hu
              · injection h1 with h1
                injection h1 with h1 h3
                subst h1 h3
                exact h2 j _ (by rw [flat_u8c, List.getElem?_map, hu]; rfl)
          clear hnx hMZ HMZ HYN HNX hu ho4
          go_upto_region 25 with (first
            | (go_at_call 11; refine (edits1_is (A : Int) (D : Int) ba n bc y _ _ (World.alloc_heap_new _ _) (HB.out.keep (gtrans HW4.out (gtrans HKw8.out ((Kept.refl _).alloc _ _)))) HN.out.symm (by omega) (by omega)).mono ?_; rintro e w9 ⟨gw9, ecw9, csw9, rfl, hr5, hc5, hk5⟩; have HR5 := hide1 hr5; have HC5 := hide1 hc5; have HKA := hide1 (gtrans (gtrans HKw8.out ((Kept.refl _).alloc _ _)) hk5); clear hr5 hc5 hk5)
            | (go_at_call 10; refine (move1_is ((j : Int) + 1) (-1) _ _ _ _ ((xn : Int) + 1) HR5.out HC5.out trivial HMZ2.out).mono ?_; rintro e w10 ⟨rfl, hk6⟩; have HKw10 := hide1 (gtrans HKA.out hk6); clear hk6))
          obtain ⟨k1, k2⟩ := HNC.out _ HKw10.out
          clear HR5 HC5 HKA z0 z1 z2 HNC
          go_quiet (fail)
          go_wp2_with fail
          exact ⟨⟨j + 1, (xn : Int), (yn : Int), rfl, rfl, by simp, by omega, by have := HMO.out.1; omega, by have := HMO.out.2; omega, gtrans HKw10.out (drewN_kept _ _)⟩, by simp [intOf] <;> omega⟩
      · obtain rfl : j = N + 1 := by omega
        have HI := hide1 hI.out
        clear hI
        go_wp2_with fail
        go_ret
        exact ⟨rfl, gtrans HW4.out HI.out.2.2⟩

end Tr
end Ex
end Go.Proofs.Ytemfnbccjbojfaa
namespace Go.Proofs.Ytemfnbccjbojfaa
open Go.RowKit
attribute [local go_sem] Oper.semAt_some
namespace Ex
namespace Tr

set_option linter.unusedSimpArgs false
set_option linter.unusedVariables false
set_option maxRecDepth 100000
set_option maxHeartbeats 4000000
theorem bytes_short (tg to_ : Nat) (N : Nat) (tc : Nat) (ty : List Int) (at_ del : Int) (ba : Option Addr) (n bc : Nat) (y : List Int) (w : World) (hN0 : ty.length = N) (hNc0 : N ≤ tc) (hN20 : N ≤ 140737488351232) (hb : Src u8E w ba y) (hn : y.length = n) (hnc : n ≤ bc) (hn2 : n ≤ 140737488351232) (ht : Src u8E w (some ⟨tg, to_, none⟩) ty) (hsm : (N : Int) ≤ 300) :
    Calls Try.prog 3 #[.slice (some ⟨tg, to_, none⟩) N tc, .agg #[.int .i64 at_, .int .i64 del, .slice ba n bc]] w fun e w' => e = .returned (.bool true) ∧ Kept w w' := by
  have HB := hide1 hb
  have HN := hide1 hn
  have hLI : (N : Int) ≤ (tc : Int) := by omega
  have hLI2 : (N : Int) ≤ 140737488351232 := by omega
  have hnI : (n : Int) ≤ (bc : Int) := by omega
  have hnI2 : (n : Int) ≤ 140737488351232 := by omega
  obtain ⟨tb, htb⟩ : ∃ tb, ty = tb := ⟨_, rfl⟩
  have hTB : tb.length = N := by rw [← htb]; exact hN0
  have hST : Src u8E w (some ⟨tg, to_, none⟩) tb := by rw [← htb]; exact ht
  have hN3 : (N : Int) ≤ 300 := by omega
  have HSM := hide1 hsm
  clear hsm
  clear hb hn hnc hn2 htb hN0 hNc0 hN20 ht
  go_enter Try.func3, Try.ntmps3
  go_upto_region 6 with (go_at_call 9; refine (headD_is _).mono ?_; rintro e w1 ⟨rfl, hk1⟩; have HK1 := hide1 hk1; clear hk1)
  obtain ⟨bx, hbx⟩ : ∃ b, w.heap.size = b := ⟨_, rfl⟩
  have hXB : w1.heap[bx]? = some (.cells #[.int .i64 at_, .int .i64 del, .slice ba n bc] 24 (0, 0)) := by rw [← hbx]; exact (HK1.out.2.2.2.2 _ (by simp)).trans (World.alloc_heap_new w _)
  have HKW : Hid (Kept w w1) := gtrans ((Kept.refl w).alloc _ _) HK1.out
  have hbl := (Array.getElem?_eq_some_iff.1 hXB).1
  have HBX : Hid (∀ w', Kept w1 w' → w'.heap[bx]? = some (.cells #[.int .i64 at_, .int .i64 del, .slice ba n bc] 24 (0, 0))) := fun w' hk => (hk.2.2.2.2 bx hbl).trans hXB
  obtain ⟨x0, x1, x2⟩ := cells3 hXB
  rw [hbx]
  clear HK1 hbx hXB hbl
  by_cases c1 : at_ < 0
  · go_wp2_with fail
    go_ret
    exact ⟨rfl, HKW.out⟩
  by_cases c2 : del < 0
  · go_wp2_with fail
    go_ret
    exact ⟨rfl, HKW.out⟩
  by_cases c3 : (N : Int) < at_
  · go_wp2_with fail
    go_ret
    exact ⟨rfl, HKW.out⟩
  by_cases c4 : (N : Int) - at_ < del
  · go_wp2_with fail
    go_ret
    exact ⟨rfl, HKW.out⟩
  by_cases c5 : (1000 : Int) < (n : Int)
  · go_wp2_with fail
    go_ret
    exact ⟨rfl, HKW.out⟩
  obtain ⟨A, rfl⟩ : ∃ A : Nat, at_ = (A : Int) := ⟨at_.toNat, by omega⟩
  obtain ⟨D, rfl⟩ : ∃ D : Nat, del = (D : Int) := ⟨del.toNat, by omega⟩
  have hAN : (A : Int) ≤ (N : Int) := by omega
  have hDN : (A : Int) + (D : Int) ≤ (N : Int) := by omega
  have hNc : (N : Int) ≤ (tc : Int) := by omega
  have HTB : Hid (tb.length = N) := hTB
  have HSA : Hid (Src u8E w (some ⟨tg, to_, none⟩) (tb.take A)) := hST.cut A
  have hAl : (tb.take A).length = A := by rw [List.length_take, hTB]; omega
  have HAL := hide1 hAl
  have hDl : (tb.drop (A + D)).length = N - (A + D) := by rw [List.length_drop, hTB]
  have HDL := hide1 hDl
  have HST := hide1 hST
  clear hST hTB hAl hDl
  go_upto_region 10 with (at_builtin; refine wpl_many (E := u8E) rfl _ _ rfl w1.heap.size (.slice none 0 0) [] (tb.take A) 0 A A rfl HAL.out (Nat.zero_add A) rfl (LO.nil _ _) (some ⟨tg, to_, none⟩) tc rfl (HSA.out.keep HKW.out) (by show A * 1 ≤ 140737488355328; omega) (by unfold maxLen; omega) (Nat.le_refl _) ?_; intro a2 c2' w2 ho2 hg2 hor2; have HO2 := hide1 ho2; have HK2 := hide1 (Kept.lo (Kept.refl w1) (LO.nil (E := u8E) w1 w1.heap.size) hg2); clear ho2 hg2 hor2)
  obtain ⟨y0, y1, y2⟩ := cells3 (HBX.out _ HK2.out)
  go_upto_region 11 with (at_builtin; refine wpl_many (E := u8E) rfl _ _ rfl w1.heap.size (.slice a2 A c2') ([] ++ tb.take A) y A n (A + n) (by rw [List.nil_append]; exact HAL.out) HN.out rfl rfl HO2.out ba bc rfl (HB.out.keep (gtrans HKW.out HK2.out)) (by show (A + n) * 1 ≤ 140737488355328; omega) (by unfold maxLen; omega) HK2.out.size ?_; intro a3 c3' w3 ho3 hg3 hor3; have HO3 := hide1 ho3; have HK3 := hide1 (Kept.lo HK2.out HO2.out hg3); clear ho3 hg3 hor3)
  obtain ⟨z0, z1, z2⟩ := cells3 (HBX.out _ HK3.out)
  clear x0 x1 x2 y0 y1 y2 HO2
  obtain ⟨M, hM⟩ : ∃ M, A + n + (N - (A + D)) = M := ⟨_, rfl⟩
  have HME := hide1 hM
  have hMI : (M : Int) = (A : Int) + (n : Int) + ((N : Int) - ((A : Int) + (D : Int))) := by omega
  clear hM
  by_cases htc : tc = A + D
  · go_upto_region 12 with (at_builtin; refine wpl_many (E := u8E) rfl _ _ rfl w1.heap.size (.slice a3 (A + n) c3') ([] ++ tb.take A ++ y) (tb.drop (A + D)) (A + n) (N - (A + D)) M (by rw [List.length_append, List.nil_append, HAL.out, HN.out]) HDL.out HME.out rfl HO3.out _ _ rfl (by first | exact Or.inl (List.drop_of_length_le (by rw [HTB.out]; omega)) | exact Or.inl (List.drop_of_length_le (by rw [HTB.out]; have := HSM.out; omega)) | exact Src.past (HST.out.keep (gtrans HKW.out HK3.out)) (A + D) (by rw [HTB.out]; omega)) (by show M * 1 ≤ 140737488355328; omega) (by unfold maxLen; omega) HK3.out.size ?_; intro a4 c4' w4 ho4 hg4 hor4; have HO4 := hide1 ho4; have HK4 := hide1 (Kept.lo HK3.out HO3.out hg4); clear ho4 hg4 hor4)
    clear HO3 HK3 z0 z1 z2 HK2 HSA HAL HDL
    have HW4 : Hid (Kept w w4) := gtrans HKW.out HK4.out
    go_wp2_with fail
    go_loopw [7, 8, 9] (fun v7 v8 v9 wr => ∃ (j : Nat) (lv bv : Int), v7 = .int .i64 lv ∧ v8 = .int .i64 bv ∧ v9 = .int .i64 (j : Int) ∧ j ≤ N + 1 ∧ Hid (lv ≤ (xF A D n j : Int) ∧ bv ≤ (yF A D n j : Int) ∧ Kept w4 wr)) (fun _ _ v9 _ => N + 1 - (intOf v9).toNat)
    case atStart => exact ⟨0, 0, 0, rfl, rfl, rfl, by omega, by omega, by omega, Kept.refl w4⟩
    case round =>
      obtain ⟨j, lv, bv, rfl, rfl, rfl, hj, hI⟩ := hrel
      by_cases hjN : j ≤ N
      · obtain ⟨i1, i2, i3⟩ := hI.out
        have hyx := yF_xF A D n j
        have htop := xF_top A D n j N (by omega) (by omega) hjN
        have hmx := xF_mono A D n j
        have hmy := yF_mono A D n j
        have hMX := move_x A D n ba bc j (by omega) (by omega) (by omega) (by omega)
        have hMY := move_y A D n ba bc j (by omega) (by omega) (by omega) (by omega)
        have hMZ := move_y A D n ba bc (j + 1) (by omega) (by omega) (by omega) (by omega)
        have HYN := hide1 (yF_next A D n j)
        have HNX := hide1 (fun (h1 : j < N) h2 => next_at A D n j N tb y HTB.out HN.out (by omega) h1 h2)
        obtain ⟨xn, hxn⟩ : ∃ x, xF A D n j = x := ⟨_, rfl⟩
        obtain ⟨yn, hyn⟩ : ∃ x, yF A D n j = x := ⟨_, rfl⟩
        rw [hxn] at hyx htop hmx hMX i1 HYN HNX
        rw [hyn] at hyx hmy hMY i2
        have HMX := hide1 hMX
        have HMY := hide1 hMY
        have HMZ := hide1 hMZ
        have HMO := hide1 (And.intro hmx hmy)
        have hyxI : (yn : Int) ≤ (xn : Int) := by omega
        have hxM : (xn : Int) ≤ (M : Int) := by rw [← HME.out]; omega
        have hjI : (j : Int) ≤ (N : Int) := by omega
        have hxB : (xn : Int) ≤ 2000 := by omega
        have HKR := hide1 i3
        obtain ⟨x0, x1, x2⟩ := cells3 (HBX.out _ (gtrans HK4.out i3))
        clear hI hmx hmy hMX hMY hMZ hxn hyn i3 htop hyx
        go_upto_region 18 with (first
        | (go_at_call 11; refine (edits1_is (A : Int) (D : Int) ba n bc y _ _ (World.alloc_heap_new _ _) (HB.out.keep (gtrans HW4.out (gtrans HKR.out ((Kept.refl _).alloc _ _)))) HN.out.symm (by omega) (by omega)).mono ?_; rintro e w5 ⟨gw5, ecw5, csw5, rfl, hr5, hc5, hk5⟩; have HR5 := hide1 hr5; have HC5 := hide1 hc5; have HKA := hide1 (gtrans (gtrans HKR.out ((Kept.refl _).alloc _ _)) hk5); clear hr5 hc5 hk5)
        | (go_at_call 10; refine (move1_is (j : Int) 0 _ _ _ _ (xn : Int) HR5.out HC5.out trivial HMX.out).mono ?_; rintro e w6 ⟨rfl, hk6⟩; have HKw6 := hide1 (gtrans HKA.out hk6); clear hk6))
        obtain ⟨y0, y1, y2⟩ := cells3 (HBX.out _ (gtrans HK4.out HKw6.out))
        clear HR5 HC5 HKA x0 x1 x2
        go_upto_region 19 with (first
        | (go_at_call 11; refine (edits1_is (A : Int) (D : Int) ba n bc y _ _ (World.alloc_heap_new _ _) (HB.out.keep (gtrans HW4.out (gtrans HKw6.out ((Kept.refl _).alloc _ _)))) HN.out.symm (by omega) (by omega)).mono ?_; rintro e w7 ⟨gw7, ecw7, csw7, rfl, hr5, hc5, hk5⟩; have HR5 := hide1 hr5; have HC5 := hide1 hc5; have HKA := hide1 (gtrans (gtrans HKw6.out ((Kept.refl _).alloc _ _)) hk5); clear hr5 hc5 hk5)
        | (go_at_call 10; refine (move1_is (j : Int) (-1) _ _ _ _ (yn : Int) HR5.out HC5.out trivial HMY.out).mono ?_; rintro e w8 ⟨rfl, hk6⟩; have HKw8 := hide1 (gtrans HKA.out hk6); clear hk6))
        obtain ⟨z0, z1, z2⟩ := cells3 (HBX.out _ (gtrans HK4.out HKw8.out))
        clear HR5 HC5 HKA y0 y1 y2
        by_cases e1 : j = N
        · have e1I : (j : Int) = (N : Int) := by omega
          subst e1
          go_wp2_with fail
          exact ⟨⟨j + 1, (xn : Int), (yn : Int), rfl, rfl, by simp, by omega, by have := HMO.out.1; omega, by have := HMO.out.2; omega, HKw8.out⟩, by simp [intOf] <;> omega⟩
        have e1I : (j : Int) < (N : Int) := by omega
        have eB : ((j : Int) == (N : Int)) = false := by simp; omega
        by_cases e2 : A ≤ j ∧ j < A + D
        · have e2I : (A : Int) ≤ (j : Int) := by omega
          have e3I : (j : Int) < (A : Int) + (D : Int) := by omega
          go_wp2_with fail
          exact ⟨⟨j + 1, (xn : Int), (yn : Int), rfl, rfl, by simp, by omega, by have := HMO.out.1; omega, by have := HMO.out.2; omega, HKw8.out⟩, by simp [intOf] <;> omega⟩
        have hnx := HNX.out (by omega) e2
        have hMZ := HMZ.out
        rw [HYN.out e2] at hMZ
        have HMZ2 : Hid (moveP ((j : Int) + 1) (-1) [⟨(A : Int), (D : Int), ba, n, bc⟩] = ((xn : Int) + 1, 0)) := hMZ
        obtain ⟨u, hu⟩ : ∃ u, tb[j]? = some u := ⟨_, List.getElem?_eq_getElem (by rw [HTB.out]; omega)⟩
        rw [hu] at hnx
        have ho4 := HO4.out
        rw [List.nil_append] at ho4
        obtain ⟨g4, rfl⟩ := ho4.some (by intro h; rw [h] at hnx; simp at hnx)
        have hxM2 : (xn : Int) < (M : Int) := by
          have h1 := (List.getElem?_eq_some_iff.1 hnx).1
          rw [List.length_append, List.length_append, List.length_take, List.length_drop, HTB.out, HN.out] at h1
          have := HME.out
          omega
        have hM4 : (M : Int) ≤ (c4' : Int) := by
          have h1 := ho4.cap
          rw [List.length_append, List.length_append, List.length_take, List.length_drop, HTB.out, HN.out] at h1
          have := HME.out
          omega
        have HNC : Hid (∀ w', Kept w4 w' → w'.cell? ⟨g4, xn, none⟩ = some (.int .u8 u) ∧ w'.cell? ⟨tg, to_ + j, none⟩ = some (.int .u8 u)) := fun w' hk => by
          refine ⟨?_, ?_⟩
          · have h1 := (ho4.keep hk).cell (j := 0) hnx (u := .int .u8 u) rfl
            rw [show xn * u8E.sz + 0 = xn from by show xn * 1 + 0 = xn; omega] at h1
            exact h1
          · rcases HST.out.keep (gtrans HW4.out hk) with h | ⟨g', o', h1, h2⟩
            · rw [h] at hu; simp at hu
            · injection h1 with h1
              injection h1 with h1 h3
              subst h1 h3
              exact h2 j _ (by rw [flat_u8c, List.getElem?_map, hu]; rfl)
        clear hnx hMZ HMZ HYN HNX hu ho4
        go_upto_region 25 with (first
          | (go_at_call 11; refine (edits1_is (A : Int) (D : Int) ba n bc y _ _ (World.alloc_heap_new _ _) (HB.out.keep (gtrans HW4.out (gtrans HKw8.out ((Kept.refl _).alloc _ _)))) HN.out.symm (by omega) (by omega)).mono ?_; rintro e w9 ⟨gw9, ecw9, csw9, rfl, hr5, hc5, hk5⟩; have HR5 := hide1 hr5; have HC5 := hide1 hc5; have HKA := hide1 (gtrans (gtrans HKw8.out ((Kept.refl _).alloc _ _)) hk5); clear hr5 hc5 hk5)
          | (go_at_call 10; refine (move1_is ((j : Int) + 1) (-1) _ _ _ _ ((xn : Int) + 1) HR5.out HC5.out trivial HMZ2.out).mono ?_; rintro e w10 ⟨rfl, hk6⟩; have HKw10 := hide1 (gtrans HKA.out hk6); clear hk6))
        obtain ⟨k1, k2⟩ := HNC.out _ HKw10.out
        clear HR5 HC5 HKA z0 z1 z2 HNC
        go_quiet (fail)
        go_wp2_with fail
        exact ⟨⟨j + 1, (xn : Int), (yn : Int), rfl, rfl, by simp, by omega, by have := HMO.out.1; omega, by have := HMO.out.2; omega, gtrans HKw10.out (drewN_kept _ _)⟩, by simp [intOf] <;> omega⟩
      · obtain rfl : j = N + 1 := by omega
        have HI := hide1 hI.out
        clear hI
        go_wp2_with fail
        go_ret
        exact ⟨rfl, gtrans HW4.out HI.out.2.2⟩
  · go_upto_region 12 with (at_builtin; refine wpl_many (E := u8E) rfl _ _ rfl w1.heap.size (.slice a3 (A + n) c3') ([] ++ tb.take A ++ y) (tb.drop (A + D)) (A + n) (N - (A + D)) M (by rw [List.length_append, List.nil_append, HAL.out, HN.out]) HDL.out HME.out rfl HO3.out _ _ rfl (by first | exact Or.inl (List.drop_of_length_le (by rw [HTB.out]; omega)) | exact Or.inl (List.drop_of_length_le (by rw [HTB.out]; have := HSM.out; omega)) | exact Src.past (HST.out.keep (gtrans HKW.out HK3.out)) (A + D) (by rw [HTB.out]; omega)) (by show M * 1 ≤ 140737488355328; omega) (by unfold maxLen; omega) HK3.out.size ?_; intro a4 c4' w4 ho4 hg4 hor4; have HO4 := hide1 ho4; have HK4 := hide1 (Kept.lo HK3.out HO3.out hg4); clear ho4 hg4 hor4)
    clear HO3 HK3 z0 z1 z2 HK2 HSA HAL HDL
    have HW4 : Hid (Kept w w4) := gtrans HKW.out HK4.out
    go_wp2_with fail
    go_loopw [7, 8, 9] (fun v7 v8 v9 wr => ∃ (j : Nat) (lv bv : Int), v7 = .int .i64 lv ∧ v8 = .int .i64 bv ∧ v9 = .int .i64 (j : Int) ∧ j ≤ N + 1 ∧ Hid (lv ≤ (xF A D n j : Int) ∧ bv ≤ (yF A D n j : Int) ∧ Kept w4 wr)) (fun _ _ v9 _ => N + 1 - (intOf v9).toNat)
    case atStart => exact ⟨0, 0, 0, rfl, rfl, rfl, by omega, by omega, by omega, Kept.refl w4⟩
    case round =>
      obtain ⟨j, lv, bv, rfl, rfl, rfl, hj, hI⟩ := hrel
      by_cases hjN : j ≤ N
      · obtain ⟨i1, i2, i3⟩ := hI.out
        have hyx := yF_xF A D n j
        have htop := xF_top A D n j N (by omega) (by omega) hjN
        have hmx := xF_mono A D n j
        have hmy := yF_mono A D n j
        have hMX := move_x A D n ba bc j (by omega) (by omega) (by omega) (by omega)
        have hMY := move_y A D n ba bc j (by omega) (by omega) (by omega) (by omega)
        have hMZ := move_y A D n ba bc (j + 1) (by omega) (by omega) (by omega) (by omega)
        have HYN := hide1 (yF_next A D n j)
        have HNX := hide1 (fun (h1 : j < N) h2 => next_at A D n j N tb y HTB.out HN.out (by omega) h1 h2)
        obtain ⟨xn, hxn⟩ : ∃ x, xF A D n j = x := ⟨_, rfl⟩
        obtain ⟨yn, hyn⟩ : ∃ x, yF A D n j = x := ⟨_, rfl⟩
        rw [hxn] at hyx htop hmx hMX i1 HYN HNX
        rw [hyn] at hyx hmy hMY i2
        have HMX := hide1 hMX
        have HMY := hide1 hMY
        have HMZ := hide1 hMZ
        have HMO := hide1 (And.intro hmx hmy)
        have hyxI : (yn : Int) ≤ (xn : Int) := by omega
        have hxM : (xn : Int) ≤ (M : Int) := by rw [← HME.out]; omega
        have hjI : (j : Int) ≤ (N : Int) := by omega
        have hxB : (xn : Int) ≤ 2000 := by omega
        have HKR := hide1 i3
        obtain ⟨x0, x1, x2⟩ := cells3 (HBX.out _ (gtrans HK4.out i3))
        clear hI hmx hmy hMX hMY hMZ hxn hyn i3 htop hyx
        go_upto_region 18 with (first
        | (go_at_call 11; refine (edits1_is (A : Int) (D : Int) ba n bc y _ _ (World.alloc_heap_new _ _) (HB.out.keep (gtrans HW4.out (gtrans HKR.out ((Kept.refl _).alloc _ _)))) HN.out.symm (by omega) (by omega)).mono ?_; rintro e w5 ⟨gw5, ecw5, csw5, rfl, hr5, hc5, hk5⟩; have HR5 := hide1 hr5; have HC5 := hide1 hc5; have HKA := hide1 (gtrans (gtrans HKR.out ((Kept.refl _).alloc _ _)) hk5); clear hr5 hc5 hk5)
        | (go_at_call 10; refine (move1_is (j : Int) 0 _ _ _ _ (xn : Int) HR5.out HC5.out trivial HMX.out).mono ?_; rintro e w6 ⟨rfl, hk6⟩; have HKw6 := hide1 (gtrans HKA.out hk6); clear hk6))
        obtain ⟨y0, y1, y2⟩ := cells3 (HBX.out _ (gtrans HK4.out HKw6.out))
        clear HR5 HC5 HKA x0 x1 x2
        go_upto_region 19 with (first
        | (go_at_call 11; refine (edits1_is (A : Int) (D : Int) ba n bc y _ _ (World.alloc_heap_new _ _) (HB.out.keep (gtrans HW4.out (gtrans HKw6.out ((Kept.refl _).alloc _ _)))) HN.out.symm (by omega) (by omega)).mono ?_; rintro e w7 ⟨gw7, ecw7, csw7, rfl, hr5, hc5, hk5⟩; have HR5 := hide1 hr5; have HC5 := hide1 hc5; have HKA := hide1 (gtrans (gtrans HKw6.out ((Kept.refl _).alloc _ _)) hk5); clear hr5 hc5 hk5)
        | (go_at_call 10; refine (move1_is (j : Int) (-1) _ _ _ _ (yn : Int) HR5.out HC5.out trivial HMY.out).mono ?_; rintro e w8 ⟨rfl, hk6⟩; have HKw8 := hide1 (gtrans HKA.out hk6); clear hk6))
        obtain ⟨z0, z1, z2⟩ := cells3 (HBX.out _ (gtrans HK4.out HKw8.out))
        clear HR5 HC5 HKA y0 y1 y2
        by_cases e1 : j = N
        · have e1I : (j : Int) = (N : Int) := by omega
          subst e1
          go_wp2_with fail
          exact ⟨⟨j + 1, (xn : Int), (yn : Int), rfl, rfl, by simp, by omega, by have := HMO.out.1; omega, by have := HMO.out.2; omega, HKw8.out⟩, by simp [intOf] <;> omega⟩
        have e1I : (j : Int) < (N : Int) := by omega
        have eB : ((j : Int) == (N : Int)) = false := by simp; omega
        by_cases e2 : A ≤ j ∧ j < A + D
        · have e2I : (A : Int) ≤ (j : Int) := by omega
          have e3I : (j : Int) < (A : Int) + (D : Int) := by omega
          go_wp2_with fail
          exact ⟨⟨j + 1, (xn : Int), (yn : Int), rfl, rfl, by simp, by omega, by have := HMO.out.1; omega, by have := HMO.out.2; omega, HKw8.out⟩, by simp [intOf] <;> omega⟩
        rcases (by omega : (j : Int) < (A : Int) ∨ ((A : Int) ≤ (j : Int) ∧ (A : Int) + (D : Int) ≤ (j : Int))) with e4 | ⟨e4, e5⟩
        · have hnx := HNX.out (by omega) e2
          have hMZ := HMZ.out
          rw [HYN.out e2] at hMZ
          have HMZ2 : Hid (moveP ((j : Int) + 1) (-1) [⟨(A : Int), (D : Int), ba, n, bc⟩] = ((xn : Int) + 1, 0)) := hMZ
          obtain ⟨u, hu⟩ : ∃ u, tb[j]? = some u := ⟨_, List.getElem?_eq_getElem (by rw [HTB.out]; omega)⟩
          rw [hu] at hnx
          have ho4 := HO4.out
          rw [List.nil_append] at ho4
          obtain ⟨g4, rfl⟩ := ho4.some (by intro h; rw [h] at hnx; simp at hnx)
          have hxM2 : (xn : Int) < (M : Int) := by
            have h1 := (List.getElem?_eq_some_iff.1 hnx).1
            rw [List.length_append, List.length_append, List.length_take, List.length_drop, HTB.out, HN.out] at h1
            have := HME.out
            omega
          have hM4 : (M : Int) ≤ (c4' : Int) := by
            have h1 := ho4.cap
            rw [List.length_append, List.length_append, List.length_take, List.length_drop, HTB.out, HN.out] at h1
            have := HME.out
            omega
          have HNC : Hid (∀ w', Kept w4 w' → w'.cell? ⟨g4, xn, none⟩ = some (.int .u8 u) ∧ w'.cell? ⟨tg, to_ + j, none⟩ = some (.int .u8 u)) := fun w' hk => by
            refine ⟨?_, ?_⟩
            · have h1 := (ho4.keep hk).cell (j := 0) hnx (u := .int .u8 u) rfl
              rw [show xn * u8E.sz + 0 = xn from by show xn * 1 + 0 = xn; omega] at h1
              exact h1
            · rcases HST.out.keep (gtrans HW4.out hk) with h | ⟨g', o', h1, h2⟩
              · rw [h] at hu; simp at hu
              · injection h1 with h1
                injection h1 with h1 h3
                subst h1 h3
                exact h2 j _ (by rw [flat_u8c, List.getElem?_map, hu]; rfl)
          clear hnx hMZ HMZ HYN HNX hu ho4
          go_upto_region 25 with (first
            | (go_at_call 11; refine (edits1_is (A : Int) (D : Int) ba n bc y _ _ (World.alloc_heap_new _ _) (HB.out.keep (gtrans HW4.out (gtrans HKw8.out ((Kept.refl _).alloc _ _)))) HN.out.symm (by omega) (by omega)).mono ?_; rintro e w9 ⟨gw9, ecw9, csw9, rfl, hr5, hc5, hk5⟩; have HR5 := hide1 hr5; have HC5 := hide1 hc5; have HKA := hide1 (gtrans (gtrans HKw8.out ((Kept.refl _).alloc _ _)) hk5); clear hr5 hc5 hk5)
            | (go_at_call 10; refine (move1_is ((j : Int) + 1) (-1) _ _ _ _ ((xn : Int) + 1) HR5.out HC5.out trivial HMZ2.out).mono ?_; rintro e w10 ⟨rfl, hk6⟩; have HKw10 := hide1 (gtrans HKA.out hk6); clear hk6))
          obtain ⟨k1, k2⟩ := HNC.out _ HKw10.out
          clear HR5 HC5 HKA z0 z1 z2 HNC
          go_quiet (fail)
          go_wp2_with fail
          exact ⟨⟨j + 1, (xn : Int), (yn : Int), rfl, rfl, by simp, by omega, by have := HMO.out.1; omega, by have := HMO.out.2; omega, gtrans HKw10.out (drewN_kept _ _)⟩, by simp [intOf] <;> omega⟩
        · have hnx := HNX.out (by omega) e2
          have hMZ := HMZ.out
          rw [HYN.out e2] at hMZ
          have HMZ2 : Hid (moveP ((j : Int) + 1) (-1) [⟨(A : Int), (D : Int), ba, n, bc⟩] = ((xn : Int) + 1, 0)) := hMZ
          obtain ⟨u, hu⟩ : ∃ u, tb[j]? = some u := ⟨_, List.getElem?_eq_getElem (by rw [HTB.out]; omega)⟩
          rw [hu] at hnx
          have ho4 := HO4.out
          rw [List.nil_append] at ho4
          obtain ⟨g4, rfl⟩ := ho4.some (by intro h; rw [h] at hnx; simp at hnx)
          have hxM2 : (xn : Int) < (M : Int) := by
            have h1 := (List.getElem?_eq_some_iff.1 hnx).1
            rw [List.length_append, List.length_append, List.length_take, List.length_drop, HTB.out, HN.out] at h1
            have := HME.out
            omega
          have hM4 : (M : Int) ≤ (c4' : Int) := by
            have h1 := ho4.cap
            rw [List.length_append, List.length_append, List.length_take, List.length_drop, HTB.out, HN.out] at h1
            have := HME.out
            omega
          have HNC : Hid (∀ w', Kept w4 w' → w'.cell? ⟨g4, xn, none⟩ = some (.int .u8 u) ∧ w'.cell? ⟨tg, to_ + j, none⟩ = some (.int .u8 u)) := fun w' hk => by
            refine ⟨?_, ?_⟩
            · have h1 := (ho4.keep hk).cell (j := 0) hnx (u := .int .u8 u) rfl
              rw [show xn * u8E.sz + 0 = xn from by show xn * 1 + 0 = xn; omega] at h1
              exact h1
            · rcases HST.out.keep (gtrans HW4.out hk) with h | ⟨g', o', h1, h2⟩
              · rw [h] at hu; simp at hu
              · injection h1 with h1
                injection h1 with h1 h3
                subst h1 h3
                exact h2 j _ (by rw [flat_u8c, List.getElem?_map, hu]; rfl)
          clear hnx hMZ HMZ HYN HNX hu ho4
          go_upto_region 25 with (first
            | (go_at_call 11; refine (edits1_is (A : Int) (D : Int) ba n bc y _ _ (World.alloc_heap_new _ _) (HB.out.keep (gtrans HW4.out (gtrans HKw8.out ((Kept.refl _).alloc _ _)))) HN.out.symm (by omega) (by omega)).mono ?_; rintro e w9 ⟨gw9, ecw9, csw9, rfl, hr5, hc5, hk5⟩; have HR5 := hide1 hr5; have HC5 := hide1 hc5; have HKA := hide1 (gtrans (gtrans HKw8.out ((Kept.refl _).alloc _ _)) hk5); clear hr5 hc5 hk5)
            | (go_at_call 10; refine (move1_is ((j : Int) + 1) (-1) _ _ _ _ ((xn : Int) + 1) HR5.out HC5.out trivial HMZ2.out).mono ?_; rintro e w10 ⟨rfl, hk6⟩; have HKw10 := hide1 (gtrans HKA.out hk6); clear hk6))
          obtain ⟨k1, k2⟩ := HNC.out _ HKw10.out
          clear HR5 HC5 HKA z0 z1 z2 HNC
          go_quiet (fail)
          go_wp2_with fail
          exact ⟨⟨j + 1, (xn : Int), (yn : Int), rfl, rfl, by simp, by omega, by have := HMO.out.1; omega, by have := HMO.out.2; omega, gtrans HKw10.out (drewN_kept _ _)⟩, by simp [intOf] <;> omega⟩
      · obtain rfl : j = N + 1 := by omega
        have HI := hide1 hI.out
        clear hI
        go_wp2_with fail
        go_ret
        exact ⟨rfl, gtrans HW4.out HI.out.2.2⟩

end Tr
end Ex
end Go.Proofs.Ytemfnbccjbojfaa
namespace Go.Proofs.Ytemfnbccjbojfaa
open Go.ChangeShapes Go.WideShapes Go.ChangeAt Go.RowKit
namespace Ex
namespace Tr

theorem ownD : ownKnob Try.prog.godebug = none := by kernel_rfl
theorem laidOutD : laidOutB Try.prog = true := by kernel_rfl
theorem edit_cells : Try.prog.cellsOf 24 = 3 := by kernel_rfl
theorem edit_bytes : Try.prog.bytesOf 24 = 40 := by kernel_rfl
theorem int_cellsD : Try.prog.cellsOf 3 = 1 := by kernel_rfl
theorem u8_cellsD : Try.prog.cellsOf 5 = 1 := by kernel_rfl
theorem u8_bytesD : Try.prog.bytesOf 5 = 1 := by kernel_rfl
theorem row_cellsD : Try.prog.cellsOf 22 = 1 := by kernel_rfl
theorem three {α : Type} : ∀ {l : List α}, l.length = 3 → ∃ a b c, l = [a, b, c]
  | [a, b, c], _ => ⟨a, b, c, rfl⟩
theorem flat_u8 : ∀ l : List Int, flatE u8E l = l.map (Value.int .u8)
  | [] => rfl
  | x :: l => by
    have ih := flat_u8 l
    show Value.int .u8 x :: flatE u8E l = _
    rw [ih]; rfl
section
variable {H : Type} {enc : TypeId × Value → H}
set_option maxRecDepth 100000 in
/-- A row of bytes that came in. -/
theorem bytes_src {W : World} {fuel : Nat} {v : Value} {x : DataW H × List MemPlace} (h : DataW.trod enc Try.prog W 0 (fun _ => true) true fuel 22 [v] = some x) (hz : ∀ n ∈ x.1.weights Try.prog 22, n ≤ reachBytes) :
    ∃ a len cap y, v = .slice a len cap ∧ len = y.length ∧ len ≤ cap ∧ len ≤ 140737488351232 ∧ Src u8E W a y := by
  obtain ⟨d, p⟩ := x
  rcases DataW.trod_slice Try.underlying22 h with ⟨hcs, _⟩ | ⟨a, len, cap, elems, rest, n, hn, hcs, hx, _, hl, hm, hlen, hall, _, _⟩
  · simp only [List.cons.injEq, and_true] at hcs
    subst hcs
    exact ⟨none, 0, 0, [], rfl, rfl, Nat.le_refl _, by decide, Or.inl rfl⟩
  · simp only [List.cons.injEq, and_true] at hcs
    subst hcs
    injection hx with hx1 hx2
    have hb : len ≤ 140737488351232 := by
      have := hz (_ * _) (by rw [hx1]; simp only [DataW.weights, Try.underlying22]; exact List.mem_cons_self)
      rw [u8_bytesD] at this
      simp only [List.length_map] at this
      rw [hlen] at this
      unfold reachBytes at this
      omega
    have hone : ∀ i, i < len → ∃ q : Int, W.cell? (a.add i) = some (.int .u8 q) := by
      intro i hi
      have hei := hall i hi
      obtain ⟨ei, hei2⟩ : ∃ y, elems[i]? = some y := ⟨_, List.getElem?_eq_getElem (by omega)⟩
      rw [hei2, u8_cellsD] at hei
      obtain ⟨cs', hc1, hc2⟩ := Option.bind_eq_some_iff.1 hei
      obtain ⟨_, hc3, hc4⟩ := World.cells?_some hc1
      obtain ⟨z, e1, _, _⟩ := DataW.trod_int Try.underlying5 hc2
      refine ⟨z, ?_⟩
      have h9 := hc4 0 (by omega)
      rw [e1] at h9
      rw [Nat.mul_one] at h9
      simpa [Addr.add] using h9
    by_cases h0 : len = 0
    · subst h0
      exact ⟨some a, 0, cap, [], rfl, rfl, hl, hb, Or.inl rfl⟩
    obtain ⟨Q, hQ⟩ := Go.Deep.choose_lt hone
    obtain ⟨c1, o1, t1⟩ := a
    have hspot : t1 = none := by simpa [Addr.add] using World.cell?_spot (hQ 0 (by omega))
    subst hspot
    refine ⟨some ⟨c1, o1, none⟩, len, cap, (List.range len).map Q, rfl, by simp, hl, hb, Or.inr ⟨c1, o1, rfl, fun j u hj => ?_⟩⟩
    rw [flat_u8, List.map_map, List.getElem?_map] at hj
    obtain ⟨i', hi', rfl⟩ := Option.map_eq_some_iff.1 hj
    obtain ⟨hi, he⟩ := List.getElem?_eq_some_iff.1 hi'
    rw [List.length_range] at hi
    rw [List.getElem_range] at he
    subst he
    have := hQ j hi
    rw [Addr.add_lit] at this
    exact this
/-- An edit's cells that came in. -/
def EdC (W : World) (cs : List Value) (x : EdX × List Int) : Prop := cs = [.int .i64 x.1.at_, .int .i64 x.1.del, .slice x.1.ba x.1.n x.1.bc] ∧ x.1.n = x.2.length ∧ x.1.n ≤ x.1.bc ∧ x.1.n ≤ 140737488351232 ∧ Src u8E W x.1.ba x.2
set_option maxRecDepth 100000 in
theorem edit_el {W : World} {m : Nat} {cs : List Value} {y : DataW H × List MemPlace} (hl : cs.length = 3) (h : DataW.trod enc Try.prog W 0 (fun _ => true) true m 24 cs = some y) (hz : ∀ n ∈ y.1.weights Try.prog 24, n ≤ reachBytes) : ∃ x, EdC W cs x := by
  obtain ⟨d, p⟩ := y
  obtain ⟨xs, n', hn', hx1, _, hx3, hx4⟩ := DataW.trod_struct Try.underlying24 h
  obtain ⟨v0, v1, v2, rfl⟩ := three hl
  obtain ⟨y0, y1, y2, rfl⟩ := three hx3
  have f0 : DataW.trod enc Try.prog W 0 (fun _ => true) true n' 3 [v0] = some y0 := by have := hx4 0 _ rfl; simpa [int_cellsD] using this
  have f1 : DataW.trod enc Try.prog W 0 (fun _ => true) true n' 3 [v1] = some y1 := by have := hx4 1 _ rfl; simpa [int_cellsD] using this
  have f2 : DataW.trod enc Try.prog W 0 (fun _ => true) true n' 22 [v2] = some y2 := by have := hx4 2 _ rfl; simpa [row_cellsD] using this
  obtain ⟨z0, e0, _, _⟩ := DataW.trod_int Try.underlying3 f0
  obtain ⟨z1, e1, _, _⟩ := DataW.trod_int Try.underlying3 f1
  obtain ⟨a, n, c, r, e2, h1, h2, h3, h4⟩ := bytes_src f2 (fun q hq => hz q (by
    show q ∈ d.weights Try.prog 24
    rw [(Prod.mk.inj hx1).1]
    simp only [DataW.weights, Try.underlying24]
    exact DataW.weights_mem_each (j := 2) (by rfl) (by rfl) q hq))
  simp only [List.cons.injEq, and_true] at e0 e1
  subst e0 e1 e2
  exact ⟨⟨⟨z0, z1, a, n, c⟩, r⟩, rfl, h1, h2, h3, h4⟩
set_option maxRecDepth 100000 in
/-- A list of edits that came in. -/
theorem edits_arg {W : World} {v : Value} {d : DataW H} {p : List MemPlace} (hv : ∃ a len cap, v = .slice a len cap) (h : DataW.Trod enc Try.prog W 0 (fun _ => true) true 29 v d p) (hz : ∀ n ∈ d.weights Try.prog 29, n ≤ reachBytes) : ∃ l bs, EdIn W v l bs ∧ l.length * 40 ≤ 140737488351232 := by
  obtain ⟨a0, len0, cap0, rfl⟩ := hv
  obtain ⟨fuel, hf⟩ := h
  have hf2 : DataW.trod enc Try.prog W 0 (fun _ => true) true fuel 29 [.slice a0 len0 cap0] = some (d, p) := hf
  obtain ⟨xs, hxs⟩ := slice_gen (α := EdX × List Int) ⟨⟨0, 0, none, 0, 0⟩, []⟩ Try.underlying29 3 40 edit_cells (by decide) edit_bytes (by decide) (EdC W) hf2 hz (fun m cs y _ hl hy hw => edit_el hl hy hw)
  obtain ⟨a, cap, e, h2, h3, h4⟩ := hxs
  injection e with e1 e2 e3
  subst e1 e3
  have hb : len0 * 40 ≤ 140737488351232 := by
    rcases DataW.trod_slice Try.underlying29 hf2 with ⟨hcs, _⟩ | ⟨a, len, cap, elems, rest, n, hn, hcs, hx, _, hl, hm, hlen, hall, _, _⟩
    · simp only [List.cons.injEq, and_true, Value.slice.injEq] at hcs
      omega
    · simp only [List.cons.injEq, and_true, Value.slice.injEq] at hcs
      obtain ⟨_, rfl, _⟩ := hcs
      have := hz (_ * _) (by rw [(Prod.mk.inj hx).1]; simp only [DataW.weights, Try.underlying29]; exact List.mem_cons_self)
      rw [edit_bytes] at this
      simp only [List.length_map] at this
      rw [hlen] at this
      unfold reachBytes at this
      omega
  refine ⟨xs.map (·.1), xs.map (·.2), ⟨⟨a0, cap0, ?_, ?_, fun i e he => ?_⟩, by simp, fun i e y he hy => ?_⟩, ?_⟩
  · rw [List.length_map, e2]
  · rw [List.length_map]; exact h2
  · rw [List.getElem?_map] at he
    obtain ⟨x, hx, rfl⟩ := Option.map_eq_some_iff.1 he
    rcases h4 with rfl | ⟨c, o, h5, h6, h7⟩
    · cases hx
    obtain ⟨cs, g1, g2, g3⟩ := h7 i x hx
    obtain ⟨rfl, _⟩ := g3
    exact ⟨c, o, h5, g2 0 _ rfl, g2 1 _ rfl, g2 2 _ rfl⟩
  · rw [List.getElem?_map] at he hy
    obtain ⟨x, hx, rfl⟩ := Option.map_eq_some_iff.1 he
    rw [hx] at hy
    cases hy
    rcases h4 with rfl | ⟨c, o, h5, h6, h7⟩
    · cases hx
    obtain ⟨cs, g1, g2, g3⟩ := h7 i x hx
    exact g3.2
  · rw [List.length_map, ← e2]; exact hb
end

end Tr
end Ex
end Go.Proofs.Ytemfnbccjbojfaa
namespace Go.Proofs.Ytemfnbccjbojfaa
open Go.ChangeShapes Go.WideShapes Go.ChangeAt Go.RowKit
set_option linter.unusedVariables false
namespace Ex
namespace Tr
namespace Fb

theorem bytesL_is (ta : Option Addr) (L tc : Nat) (ty : List Int) (at_ del : Int) (ba : Option Addr) (n bc : Nat) (y : List Int) (w : World) (ht : Src u8E w ta ty) (hL : L = ty.length) (hLc : L ≤ tc) (hL2 : L ≤ 140737488351232) (hb : Src u8E w ba y) (hn : n = y.length) (hnc : n ≤ bc) (hn2 : n ≤ 140737488351232) :
    Calls Try.prog 3 #[.slice ta L tc, .agg #[.int .i64 at_, .int .i64 del, .slice ba n bc]] w fun e w' => e = .returned (.bool true) ∧ Kept w w' := by
  rcases ht with rfl | ⟨g, o, rfl, hc⟩
  · have h0 : (L : Int) = 0 := by simp only [List.length_nil] at hL; omega
    cases ta with
    | none => exact bytes_none L tc [] at_ del ba n bc y w hL.symm hLc hL2 hb hn.symm hnc hn2 rfl h0
    | some a0 => exact bytes_empty a0 L tc [] at_ del ba n bc y w hL.symm hLc hL2 hb hn.symm hnc hn2 rfl h0
  · have ht : Src u8E w (some ⟨g, o, none⟩) ty := Or.inr ⟨g, o, rfl, hc⟩
    by_cases hbig : (300 : Int) < (L : Int)
    · exact bytes_long g o L tc ty at_ del ba n bc y w hL.symm hLc hL2 hb hn.symm hnc hn2 ht hbig
    · exact bytes_short g o L tc ty at_ del ba n bc y w hL.symm hLc hL2 hb hn.symm hnc hn2 ht (by omega)
set_option maxRecDepth 100000 in
theorem lifted (os : Os) (started : os.Started) (H : Type) (enc : TypeId × Value → H) :
    ReturnsInHanded {} Try.checked os 3 .any (Rows.deltaBytesSpec.pre6 enc Try.prog Try.f3 Rows.deltaBytesRow.domain false) (Rows.deltaBytesSpec.post enc Try.prog Try.f3 false true false false) := by
  refine returnsInHanded_of_change_sized (C := Try.checked) ownD started (by kernel_rfl) Try.func3
    (ChangeSpec.witness6 (enc := enc) (C := Try.checked) false ⟨#[], #[.slice none 0 0, .agg #[.int .i64 0, .int .i64 0, .slice none 0 0]], []⟩ 8 (by kernel_rfl) (by kernel_rfl) (by kernel_rfl) (by kernel_rfl)) ?_
  intro W base args ds gs before hval0 hW hcnd hsz _
  have hval : ∀ (j : Nat) t v, Try.f3.params[j]? = some t → args[j]? = some v → Value.okWide Try.prog W .any base t v := hval0
  have hW' := hW
  obtain ⟨p, q, hA0, hV, rfl, hfz, hnd⟩ := hW
  have hA : DataW.TrodAll enc Try.prog W 0 (fun _ => true) true Try.f3.params.toList args.toList ds p := hA0
  rw [Try.params3] at hA hval
  obtain ⟨v0, vs0, d0, ds0, p0, q0, hargs, rfl, rfl, h0, r0⟩ := trodAll_cons hA
  obtain ⟨v1, vs1, d1, ds1, p1, q1, rfl, rfl, rfl, h1, r1⟩ := trodAll_cons r0
  obtain ⟨rfl, rfl, rfl⟩ := trodAll_nil r1
  obtain rfl : args = #[v0, v1] := by cases args; simp_all
  obtain ⟨rfl, rfl⟩ := trodVars_none hV
  have s0 := okWide_slice Try.underlying22 (hval 0 22 v0 rfl rfl)
  have s1 := okWide_struct Try.underlying24 (hval 1 24 v1 rfl rfl)
  have k0 := h0
  have k1 := h1
  have lt0 : ∀ x ∈ p0, x.block < W.heap.size := by obtain ⟨m, hm⟩ := k0; exact DataW.trod_lt m _ _ _ hm
  have lt1 : ∀ x ∈ p1, x.block < W.heap.size := by obtain ⟨m, hm⟩ := k1; exact DataW.trod_lt m _ _ _ hm
  have wt0 : ∀ n ∈ d0.weights Try.prog 22, n ≤ reachBytes := fun n hn => by
    have := List.all_eq_true.1 hsz n (DataW.weights_mem_each (j := 0) (by rfl) (by rfl) n hn)
    simpa using this
  have wt1 : ∀ n ∈ d1.weights Try.prog 24, n ≤ reachBytes := fun n hn => by
    have := List.all_eq_true.1 hsz n (DataW.weights_mem_each (j := 1) (by rfl) (by rfl) n hn)
    simpa using this
  obtain ⟨ta, L, tc, ty, e0, g1, g2, g3, g4⟩ : ∃ a len cap y, v0 = .slice a len cap ∧ len = y.length ∧ len ≤ cap ∧ len ≤ 140737488351232 ∧ Src u8E W a y := by
    obtain ⟨a0, len0, cap0, rfl⟩ := s0
    obtain ⟨m, hm⟩ := k0
    exact bytes_src (x := (d0, p0)) (show DataW.trod enc Try.prog W 0 (fun _ => true) true m 22 [.slice a0 len0 cap0] = some (d0, p0) from hm) wt0
  obtain ⟨E, y, e1, g5, g6, g7, g8⟩ : ∃ (E : EdX) (y : List Int), v1 = .agg #[.int .i64 E.at_, .int .i64 E.del, .slice E.ba E.n E.bc] ∧ E.n = y.length ∧ E.n ≤ E.bc ∧ E.n ≤ 140737488351232 ∧ Src u8E W E.ba y := by
    obtain ⟨cs, rfl, hc⟩ := s1
    rw [edit_cells] at hc
    obtain ⟨m, hm⟩ := k1
    obtain ⟨⟨E, y⟩, hE, h2⟩ := edit_el (y := (d1, p1)) (by rw [Array.length_toList]; exact hc) (show DataW.trod enc Try.prog W 0 (fun _ => true) true m 24 cs.toList = some (d1, p1) from hm) wt1
    refine ⟨E, y, ?_, h2⟩
    have e : cs = #[.int .i64 E.at_, .int .i64 E.del, .slice E.ba E.n E.bc] := by
      apply Array.toList_inj.1
      rw [hE]
    rw [e]
  clear hA0 hval0
  refine Calls.mono (R := fun e w' => e = .returned (.bool true) ∧ Below W.heap.size W w') (by rw [e0, e1]; exact ((bytesL_is ta L tc ty E.at_ E.del E.ba E.n E.bc y W g4 g1 g2 g3 g8 g5 g6 g7).mono fun _ _ h => ⟨h.1, h.2.below⟩)) fun e W' ⟨he, bel⟩ => ?_
  subst he
  exact ⟨_, rfl, _, _, _, [], _, [], hW', trodAll_mk1 (shut_bool Try.underlying4 _), (trodAll_cons_mk (Below.trod laidOutD (by kernel_rfl) (of_decide_eq_true (by kernel_rfl)) k0 bel lt0) (trodAll_cons_mk (Below.trod laidOutD (by kernel_rfl) (of_decide_eq_true (by kernel_rfl)) k1 bel lt1) trodAll_mk0)), rfl, bel.frame _, fun h => by cases h⟩

theorem over : Rows.deltaBytesRow.holds Try.pinned (OpenSpec.ofChange Rows.deltaBytesSpec) :=
  OpenClaim.holds_of_wide 3 Try.f3 rfl rfl rfl rfl rfl rfl rfl ⟨rfl, rfl, rfl, rfl, rfl⟩ rfl rfl rfl rfl rfl (by kernel_rfl) Try.func3 (by kernel_rfl)
    (of_decide_eq_true (by kernel_rfl)) (by unfold Func.isWrapper; first | (rw [if_pos (by decide +kernel)]; kernel_rfl) | (rw [if_neg (by decide +kernel)]; exact ⟨rfl, rfl⟩))
    (fun os started H enc _ => lifted os started H enc)

end Fb
end Tr
end Ex
theorem deltaBytes_holds : Rows.DeltaBytesSaid := Ex.Tr.Fb.over
#print axioms deltaBytes_holds
end Go.Proofs.Ytemfnbccjbojfaa
