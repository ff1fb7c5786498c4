import Derived.Test.YthpampfbmpdmoaaMTrC8
import Derived.Test.YthpampfbmpdmoaaMTrR2
import Derived.Deep.CutRange
namespace Go.Proofs.Ythpampfbmpdmoaa
open Go.RowKit
attribute [local go_sem] Oper.semAt_some
namespace Ex
namespace Tr

theorem node_sameC (w : World) (b : Nat) : (binOp .neq 29 (.pointer (some ⟨b, 0, none⟩)) (.pointer (some ⟨b, 0, none⟩))).run Try.prog w = .ok (.bool false) w := by
  obtain ⟨j, h1, _⟩ := node_info
  exact Lib.run_neq_ptr_same w _ Try.underlying29 h1
attribute [local go_sem] node_sameC
set_option linter.unusedSimpArgs false in
set_option maxRecDepth 100000 in
set_option maxHeartbeats 8000000 in
theorem law_cursors (v mv : Value) (l : List StepM) (ms : List (Int × Int × Int)) (w : World) (hS : ScriptA w.heap.size w v l) (hMv : MovesA w.heap.size w mv ms) : Calls Try.prog 3 #[v, mv] w fun e w' => e = .returned (.bool true) ∧ Kept w w' := by
  have HSC := hide1 hS
  have hl : l.length ≤ 1048576 := hS.choose_spec.choose_spec.2.2.1
  obtain ⟨ma, mc, rfl, _, hml, hmc⟩ := hMv
  have HMC := hide1 hmc
  obtain ⟨nm, hnm⟩ : ∃ nm, ms.length = nm := ⟨_, rfl⟩
  have HNM := hide1 hnm
  rw [hnm] at hml ⊢
  have hmI : (nm : Int) ≤ 1048576 := by omega
  clear hS hmc hnm
  go_enter Try.func3, Try.ntmps3
  go_upto_region 4 with (go_at_call 5; refine (grown_is v l w HSC.out).mono ?_; rintro e w1 ⟨base, fb, s0, s1, rfl, hF1, hk1, _, _, _⟩; have HF1 := hide1 hF1; have HK1 := hide1 hk1; clear hF1 hk1)
  obtain ⟨V, P, Q, N, X, m0, m1, vP, vR, vB, hM, hT, hP⟩ := HF1.out
  have HM := hide1 hM
  have HT := hide1 hT
  have HLAST := hide1 (last_is base fb s0 s1 V P Q N X m0 m1 vP vR vB w1 hM hT (by omega))
  clear hM hT HF1
  go_upto_region 5 with (go_at_call 6; refine HLAST.out.mono ?_; rintro e w2 ⟨hw2, hl2⟩; have hw2 := hw2.symm; subst hw2; obtain ⟨r, rfl, hr⟩ := lastJ_of hl2; have HR := hide1 hr; clear hl2 hr)
  rcases HR.out with hr | ⟨i, b, hr, hi, hb⟩
  · subst hr
    go_wp2_with fail
    go_ret
    exact ⟨rfl, HK1.out⟩
  · subst hr
    have hbm : b ∈ P := List.mem_of_getElem? hi
    obtain ⟨gp, cp, rfl, _, cP⟩ := HM.out.2.2.2.1.cell hi
    have c2 : w1.cell? ⟨fb, 2, none⟩ = some (.slice (some ⟨gp, 0, none⟩) P.length cp) := by simp [World.cell?, HM.out.1]
    have hiP := (List.getElem?_eq_some_iff.1 hi).1
    have hiI : (i : Int) < (P.length : Int) := by omega
    obtain ⟨d, hd⟩ : ∃ d, Q[i]? = some d := ⟨_, List.getElem?_eq_getElem (by rw [← HT.out.1]; exact hiP)⟩
    obtain ⟨gq, cq, hvR, _, cQ⟩ := HM.out.2.2.2.2.1.cell hd
    subst hvR
    have c3 : w1.cell? ⟨fb, 3, none⟩ = some (.slice (some ⟨gq, 0, none⟩) Q.length cq) := by simp [World.cell?, HM.out.1]
    rw [← HT.out.1] at c3
    obtain ⟨n, hn⟩ : ∃ n, P.length = n := ⟨_, rfl⟩
    rw [hn] at c2 c3 hiI
    have HNL := hide1 hn
    have HI := hide1 hi
    have HD := hide1 hd
    have k2 := keeps c2
    have kP := keeps cP
    have C2 := hide1 c2
    have C3 := hide1 c3
    have CQ := hide1 cQ
    have CP := hide1 cP
    clear hi hd hn HR HLAST c2 c3 cP cQ hiP
    go_upto_region 7 with fail
    go_cut [8] from 25 to 41 (fun v8 wx => ∃ bp C0 C1, v8 = .pointer (some ⟨bp, 0, none⟩) ∧ TwoC w1 wx b bp C0 C1)
    case first =>
      go_region_held3 (fun W => Kept w1 W) (first | assumption | exact Kept.refl _ | exact drew_kept _ | exact gtrans (by assumption) (drew_kept _) | exact (Kept.refl _).alloc _ _ | exact (drew_kept _).alloc _ _ | exact Kept.alloc (by assumption) _ _ | exact KeptBut.new (by assumption) (but2c _ _ _ _) (Nat.le_refl _) | exact KeptBut.new (by assumption) (but2c _ _ _ _) (Kept.size (by assumption)))
        ((first
          | (have _g := kk2; clear _g; go_at_call 7; refine (curZ_new (fun k => k < _) w1 b (World.alloc w2 (.cells #[.pointer none, .pointer none] 37)) (Kept.alloc kk2 _ _) (fun _ h => h)).mono ?_; rintro e w3 ⟨rfl, hk3, hc3⟩; have kk3 : Kept w1 w3 := gtrans (Kept.alloc kk2 _ _) hk3; obtain ⟨n0, n1, n2, n3, n4, n9⟩ := new2 rfl hk3)
          | (have _g := kk2; clear _g; have _h := n0; clear _h; go_at_call 7; refine (curZ_new (fun k => k < _) w1 b w2 kk2 (fun _ h => h)).mono ?_; rintro e w3 ⟨rfl, hk3, hc3⟩; have kk3 : Kept w1 w3 := gtrans kk2 hk3; obtain ⟨o0, o1, o2, o3, o4, o9⟩ := keep2 n0 hk3)
          | (have _g := kk2; clear _g; go_at_call 7; refine (curZ_new (fun k => k < _) w1 b w2 kk2 (fun _ h => h)).mono ?_; rintro e w3 ⟨rfl, hk3, hc3⟩; have kk3 : Kept w1 w3 := gtrans kk2 hk3)
          | (go_at_call 7; refine (curZ_new (fun k => k < _) w1 b (World.alloc w1.drew (.cells #[.pointer none, .pointer none] 37)) ((drew_kept _).alloc _ _) (fun _ h => h)).mono ?_; rintro e w2 ⟨rfl, hk2, hc2⟩; have kk2 : Kept w1 w2 := gtrans ((drew_kept _).alloc _ _) hk2; obtain ⟨n0, n1, n2, n3, n4, n9⟩ := new2 (g := w1.heap.size) rfl hk2)
          | (go_at_call 7; refine (curZ_new (fun k => k < _) w1 b w1.drew (drew_kept _) (fun _ h => h)).mono ?_; rintro e w2 ⟨rfl, hk2, hc2⟩; have kk2 : Kept w1 w2 := gtrans (drew_kept _) hk2)))
      · go_wp2_with fail
        go_meet
        exact ⟨_, _, _, rfl, twoC_mk (drew_kept _) hk2 hc2 (Kept.refl _) hk3 hc3 rfl rfl (Or.inr (Or.inr (Nat.le_refl _))) (((Kept.refl _).alloc _ _).tbut _) (World.alloc_heap_new _ _)⟩
      · go_wp2_with fail
        go_meet
        exact ⟨_, _, _, rfl, twoC_mk (drew_kept _) hk2 hc2 ((Kept.refl _).alloc _ _) hk3 hc3 rfl (by simp) (Or.inr (Or.inl ⟨Nat.le_refl _, by simp⟩)) (but2c _ _ _ _) (set2c n0 _ _)⟩
      · go_wp2_with fail
        go_meet
        exact ⟨_, _, _, rfl, twoC_mk ((drew_kept _).alloc _ _) hk2 hc2 (Kept.refl _) hk3 hc3 (by simp) rfl (Or.inl ⟨Nat.le_refl _, by simp⟩) (but2c _ _ _ _) (set2c o0 _ _)⟩
    case rest =>
      obtain ⟨bp, C0, C1, rfl, hc7⟩ := hcut
      have HC7 := hide1 hc7
      clear hc7 k2 kP
      have r3 := grown_cell HC7.out.1 C3.out
      have rQ := grown_cell HC7.out.1 CQ.out
      go_upto_region 8 with fail
      obtain ⟨w7, hw7⟩ : ∃ w7, w7 = wc := ⟨_, rfl⟩
      subst hw7
      have j3 := keeps r3
      have jQ := keeps rQ
      clear r3 rQ
      go_cut [9] from 42 to 60 (fun v9 wx => ∃ br c0 c1, v9 = .pointer (some ⟨br, 0, none⟩) ∧ TwoR w7 wx d br c0 c1)
      case first =>
        go_region_held3 (fun W => Kept w7 W) (first | assumption | exact Kept.refl _ | exact drew_kept _ | exact gtrans (by assumption) (drew_kept _) | exact (Kept.refl _).alloc _ _ | exact (drew_kept _).alloc _ _ | exact Kept.alloc (by assumption) _ _ | exact KeptBut.new (by assumption) (but2c _ _ _ _) (Nat.le_refl _) | exact KeptBut.new (by assumption) (but2c _ _ _ _) (Kept.size (by assumption)) | exact gtrans ((Kept.refl _).alloc _ _) (drew_kept _) | exact gtrans (((Kept.refl _).alloc _ _).alloc _ _) (drew_kept _) | exact gtrans ((((Kept.refl _).alloc _ _).alloc _ _).alloc _ _) (drew_kept _)) (fail)
        · go_wp2_with fail
          go_meet
          exact ⟨w7.heap.size + 1 + 1, w7.heap.size, w7.heap.size + 1, rfl, kept3 _ _ _ _ _ _ _, by omega, by omega, by omega, by omega, by omega, by omega, (heap3 _ _ _ _).1, (heap3 _ _ _ _).2.1, (heap3 _ _ _ _).2.2⟩
        · go_wp2_with fail
          go_meet
          exact ⟨w7.heap.size + 1, w7.heap.size, w7.heap.size + 1 + 1, rfl, kept3 _ _ _ _ _ _ _, by omega, by omega, by omega, by omega, by omega, by omega, (heap3 _ _ _ _).1, (heap3 _ _ _ _).2.2, (heap3 _ _ _ _).2.1⟩
        · go_wp2_with fail
          go_meet
          exact ⟨w7.heap.size + 1 + 1, w7.heap.size + 1, w7.heap.size, rfl, kept3 _ _ _ _ _ _ _, by omega, by omega, by omega, by omega, by omega, by omega, (heap3 _ _ _ _).2.1, (heap3 _ _ _ _).1, (heap3 _ _ _ _).2.2⟩
        · go_wp2_with fail
          go_meet
          exact ⟨w7.heap.size + 1, w7.heap.size + 1 + 1, w7.heap.size, rfl, kept3 _ _ _ _ _ _ _, by omega, by omega, by omega, by omega, by omega, by omega, (heap3 _ _ _ _).2.2, (heap3 _ _ _ _).1, (heap3 _ _ _ _).2.1⟩
        · go_wp2_with fail
          go_meet
          exact ⟨w7.heap.size, w7.heap.size + 1, w7.heap.size + 1 + 1, rfl, kept3 _ _ _ _ _ _ _, by omega, by omega, by omega, by omega, by omega, by omega, (heap3 _ _ _ _).2.1, (heap3 _ _ _ _).2.2, (heap3 _ _ _ _).1⟩
        · go_wp2_with fail
          go_meet
          exact ⟨w7.heap.size, w7.heap.size + 1 + 1, w7.heap.size + 1, rfl, kept3 _ _ _ _ _ _ _, by omega, by omega, by omega, by omega, by omega, by omega, (heap3 _ _ _ _).2.2, (heap3 _ _ _ _).2.1, (heap3 _ _ _ _).1⟩
      case rest =>
        obtain ⟨br, c0, c1, rfl, hr8⟩ := hcut
        obtain ⟨A0, A1, hTwo, hbp8, hbr8⟩ := two_of HC7.out hr8
        have hbt : btw P X d = b := by
          unfold btw
          rw [(HT.out.2.2.2.1 i b d HI.out HD.out).st.1]
          exact at_some HI.out
        have HG : Hid (Grd P Q N X w1.heap.size w1 d) := ⟨forest_of HM.out HT.out, rfor_of HM.out HT.out, ⟨_, _, _, _, HT.out⟩, fwid_of HT.out, Nat.le_refl _, List.mem_of_getElem? HD.out⟩
        have HL0 : Hid (LawI P N X w1 wc bp br C0 C1 c0 c1 d) := ⟨A0, A1, _, _, by rw [hbt]; exact path_one hbm, by rw [hbt]; exact path_one hbm, hTwo, hbp8, hbr8⟩
        have HCP : Hid (∀ (i x : Nat), P[i]? = some x → (i : Int) < (n : Int) ∧ w1.cell? ⟨gp, i, none⟩ = some (.pointer (some ⟨x, 0, none⟩))) := fun i x hx => by
          obtain ⟨g', c', e, _, h⟩ := HM.out.2.2.2.1.cell hx
          injection e with e _ _
          injection e with e
          injection e with e
          have := (List.getElem?_eq_some_iff.1 hx).1
          have := HNL.out
          exact ⟨by omega, by rw [e]; exact h⟩
        obtain ⟨p0, p1, r0, r1⟩ := HL0.out.cells
        clear hTwo hbp8 hbr8 hr8 j3 jQ hbt HC7
        go_wp2_with fail
        clear p0 p1 r0 r1
        go_loopw [10] (fun vk wr => ∃ k : Nat, k ≤ nm ∧ vk = .int .i64 (k : Int) ∧ Hid (LawI P N X w1 wr bp br C0 C1 c0 c1 d)) (fun vk _ => nm - (intOf vk).toNat)
        case atStart => exact ⟨0, Nat.zero_le _, rfl, HL0⟩
        case round =>
          obtain ⟨k, hk, rfl, HL⟩ := hrel
          clear HL0
          by_cases hlt : k < nm
          · obtain ⟨x, hx⟩ : ∃ x, ms[k]? = some x := ⟨_, List.getElem?_eq_getElem (by have := HNM.out; omega)⟩
            rcases HMC.out with h0 | ⟨mb, mo, hma, hmb, hmx⟩
            · rw [h0] at hx
              simp at hx
            subst hma
            obtain ⟨x0, x1, x2, hx3, hx4⟩ := hmx k x hx
            obtain ⟨wh, mk, ma⟩ := x
            dsimp only at x0 x1 x2 hx3 hx4
            have hkI : (k : Int) < (nm : Int) := by omega
            have hK1r := gtrans HK1.out HL.out.kept
            have y0 := grown_cell hK1r x0
            have kS : ∀ V, LawI P N X w1 V bp br C0 C1 c0 c1 d → V.cell? ⟨mb, mo + k * 3, none⟩ = some (.int .i64 wh) := fun V h => grown_cell (gtrans HK1.out h.kept) x0
            have kT : ∀ V, LawI P N X w1 V bp br C0 C1 c0 c1 d → V.cell? ⟨mb, mo + k * 3 + 1, none⟩ = some (.int .i64 mk) := fun V h => grown_cell (gtrans HK1.out h.kept) x1
            have kU : ∀ V, LawI P N X w1 V bp br C0 C1 c0 c1 d → V.cell? ⟨mb, mo + k * 3 + 2, none⟩ = some (.int .i64 ma) := fun V h => grown_cell (gtrans HK1.out h.kept) x2
            have k0 : ∀ V, LawI P N X w1 V bp br C0 C1 c0 c1 d → V.cell? ⟨bp, 0, none⟩ = some (.pointer (some ⟨C0, 0, none⟩)) := fun V h => h.cells.1
            have k1 : ∀ V, LawI P N X w1 V bp br C0 C1 c0 c1 d → V.cell? ⟨bp, 1, none⟩ = some (.pointer (some ⟨C1, 0, none⟩)) := fun V h => h.cells.2.1
            have k2 : ∀ V, LawI P N X w1 V bp br C0 C1 c0 c1 d → V.cell? ⟨br, 0, none⟩ = some (.pointer (some ⟨c0, 0, none⟩)) := fun V h => h.cells.2.2.1
            have k3 : ∀ V, LawI P N X w1 V bp br C0 C1 c0 c1 d → V.cell? ⟨br, 1, none⟩ = some (.pointer (some ⟨c1, 0, none⟩)) := fun V h => h.cells.2.2.2
            have HX3 := hide1 hx3
            have HX4 := hide1 hx4
            have HMA := hide1 (And.intro HX3.out HX4.out)
            clear hx hmx x0 x1 x2 hK1r hx3 hx4 HX3 HX4
            rcases low_bit wh with hlb | hlb
            · go_upto_region 15 with fail
              have hls := HL.out
              go_region_held3 (fun V => LawI P N X w1 V bp br C0 C1 c0 c1 d) (first | assumption | exact LawI.keep (by assumption) (drew_kept _))
                ((go_at_call 8; refine ((HL.out.keep (drew_kept _)).moved0 HG.out _ _ _ HMA.out.1 HMA.out.2).mono ?_; rintro e w2 ⟨rfl, hl2⟩; have HL2 := hide1 hl2))
              clear hls hl2 kS kT kU k0 k1 k2 k3 y0
              go_wp2_with fail
              go_loopw [12] (fun vj wq => ∃ j : Nat, j ≤ 2 ∧ vj = .int .i64 (j : Int) ∧ Hid (LawI P N X w1 wq bp br C0 C1 c0 c1 d)) (fun vj _ => 2 - (intOf vj).toNat)
              case atStart => exact ⟨0, by omega, rfl, HL2⟩
              case round =>
                obtain ⟨j, hj, rfl, HJ⟩ := hrel
                clear HL2 HL
                by_cases hj2 : j < 2
                · obtain ⟨p0, p1, r0, r1⟩ := HJ.out.cells
                  obtain ⟨hk0, hk1⟩ := HJ.out.look HG.out
                  have hKw := HJ.out.kept
                  rcases (by omega : j = 0 ∨ j = 1) with e | e
                  · subst e
                    obtain ⟨dn, at_, pv, p, ix, o1, o2, o3, o4, hpv, hdn, hPi⟩ := hk0
                    obtain ⟨hixI, hcx⟩ := HCP.out ix _ hPi
                    obtain ⟨pa, pn, pc, hpve⟩ := hpv.slice
                    subst hpve
                    have O2 := hide1 o2
                    have O3 := hide1 o3
                    have O4 := hide1 o4
                    have HPV := hide1 hpv
                    have HDN := hide1 hdn
                    have P0 := hide1 p0
                    have HCX := hide1 hcx
                    have HKW := hide1 hKw
                    obtain ⟨bn, hbn⟩ : ∃ bn, btw P X dn = bn := ⟨_, rfl⟩
                    rw [hbn] at HCX O2
                    clear o2 o3 o4 hpv hdn hPi hcx hbn hk1 p0 p1 hKw
                    go_upto_region 21 with (go_at_call 9; refine (o1 _ (Kept.refl _)).mono ?_; rintro e w3 ⟨rfl, hk3⟩; have HK3 := hide1 hk3; clear hk3)
                    clear r0 r1 o1
                    obtain ⟨wB, hwB⟩ : ∃ wB, w3.alloc (.cells #[.pointer (some ⟨dn, 0, none⟩), .int .i64 (at_ : Int), .slice pa pn pc] 48) = wB := ⟨_, rfl⟩
                    have HKB : Hid (Kept wr wB) := by rw [← hwB]; exact gtrans HK3.out ((Kept.refl w3).alloc _ _)
                    have hbx : wB.heap[w3.heap.size]? = some (.cells #[.pointer (some ⟨dn, 0, none⟩), .int .i64 (at_ : Int), .slice pa pn pc] 48 (0, 0)) := by rw [← hwB]; exact World.alloc_heap_new w3 _
                    obtain ⟨gb, hgb⟩ : ∃ gb, w3.heap.size = gb := ⟨_, rfl⟩
                    rw [hwB, hgb]
                    rw [hgb] at hbx
                    have z0 := keeps (show wB.cell? ⟨gb, 0, none⟩ = some (.pointer (some ⟨dn, 0, none⟩)) by simp [World.cell?, hbx])
                    have z1 := keeps (show wB.cell? ⟨gb, 1, none⟩ = some (.int .i64 (at_ : Int)) by simp [World.cell?, hbx])
                    have z2 := keeps (show wB.cell? ⟨gb, 2, none⟩ = some (.slice pa pn pc) by simp [World.cell?, hbx])
                    have z3 := keeps (grown_cell HKB.out P0.out)
                    have z4 := keeps (grown_cell (gtrans HKW.out HKB.out) C2.out)
                    have z5 := keeps (grown_cell HKB.out HDN.out)
                    have z6 := keeps (grown_cell (gtrans HKW.out HKB.out) HCX.out)
                    have hat : ((at_ : Int) != (at_ : Int)) = false := by simp
                    have hnq := fun W' => node_sameC W' bn
                    have kr : Kept wB wB := Kept.refl _
                    clear hbx hwB hgb
                    go_region_held3 (fun V => Kept wB V) (first | assumption | exact gtrans (by assumption) (drew_kept _))
                      ((first
                        | (go_at_call 10; refine (O2.out _ (gtrans HKB.out (drew_kept _))).mono ?_; rintro e w4 ⟨rfl, h4⟩; have k4 : Kept wB w4 := gtrans (drew_kept _) h4; clear h4)
                        | (go_at_call 11; refine (O3.out _ (gtrans HKB.out k4)).mono ?_; rintro e w5 ⟨rfl, h5⟩; have k5 : Kept wB w5 := gtrans k4 h5; clear h5)
                        | (go_at_call 13; refine (O4.out _ (gtrans HKB.out k5)).mono ?_; rintro e w6 ⟨⟨v6, rfl, h7⟩, h6⟩; obtain ⟨e6, f6, g6, hv6⟩ := h7.slice; subst hv6; have k6 : Kept wB w6 := gtrans k5 h6; have HP6 := hide1 h7; clear h6 h7)
                        | (go_at_call 12; refine (sameInts_is p _ _ _ HP6.out (HPV.out.keep (gtrans HKB.out k6))).mono ?_; rintro e w7 ⟨rfl, h8⟩; have k7 : Kept wB w7 := gtrans k6 h8; clear h8)))
                    have HK7 := hide1 k7
                    clear k4 k5 k6 k7 z0 z1 z2 z3 z4 z5 z6 kr hnq hat
                    go_wp2_with fail
                    go_roundw
                    case rel => exact ⟨1, by omega, by go_num, (show LawI P N X w1 _ bp br C0 C1 c0 c1 d from HJ.out.keep (gtrans HKB.out HK7.out))⟩
                    case measure => simp [intOf]
                  · subst e
                    obtain ⟨dn, at_, pv, p, ix, o1, o2, o3, o4, hpv, hdn, hPi⟩ := hk1
                    obtain ⟨hixI, hcx⟩ := HCP.out ix _ hPi
                    obtain ⟨pa, pn, pc, hpve⟩ := hpv.slice
                    subst hpve
                    have O2 := hide1 o2
                    have O3 := hide1 o3
                    have O4 := hide1 o4
                    have HPV := hide1 hpv
                    have HDN := hide1 hdn
                    have P0 := hide1 p1
                    have HCX := hide1 hcx
                    have HKW := hide1 hKw
                    obtain ⟨bn, hbn⟩ : ∃ bn, btw P X dn = bn := ⟨_, rfl⟩
                    rw [hbn] at HCX O2
                    clear o2 o3 o4 hpv hdn hPi hcx hbn hk0 p0 p1 hKw
                    go_upto_region 21 with (go_at_call 9; refine (o1 _ (Kept.refl _)).mono ?_; rintro e w3 ⟨rfl, hk3⟩; have HK3 := hide1 hk3; clear hk3)
                    clear r0 r1 o1
                    obtain ⟨wB, hwB⟩ : ∃ wB, w3.alloc (.cells #[.pointer (some ⟨dn, 0, none⟩), .int .i64 (at_ : Int), .slice pa pn pc] 48) = wB := ⟨_, rfl⟩
                    have HKB : Hid (Kept wr wB) := by rw [← hwB]; exact gtrans HK3.out ((Kept.refl w3).alloc _ _)
                    have hbx : wB.heap[w3.heap.size]? = some (.cells #[.pointer (some ⟨dn, 0, none⟩), .int .i64 (at_ : Int), .slice pa pn pc] 48 (0, 0)) := by rw [← hwB]; exact World.alloc_heap_new w3 _
                    obtain ⟨gb, hgb⟩ : ∃ gb, w3.heap.size = gb := ⟨_, rfl⟩
                    rw [hwB, hgb]
                    rw [hgb] at hbx
                    have z0 := keeps (show wB.cell? ⟨gb, 0, none⟩ = some (.pointer (some ⟨dn, 0, none⟩)) by simp [World.cell?, hbx])
                    have z1 := keeps (show wB.cell? ⟨gb, 1, none⟩ = some (.int .i64 (at_ : Int)) by simp [World.cell?, hbx])
                    have z2 := keeps (show wB.cell? ⟨gb, 2, none⟩ = some (.slice pa pn pc) by simp [World.cell?, hbx])
                    have z3 := keeps (grown_cell HKB.out P0.out)
                    have z4 := keeps (grown_cell (gtrans HKW.out HKB.out) C2.out)
                    have z5 := keeps (grown_cell HKB.out HDN.out)
                    have z6 := keeps (grown_cell (gtrans HKW.out HKB.out) HCX.out)
                    have hat : ((at_ : Int) != (at_ : Int)) = false := by simp
                    have hnq := fun W' => node_sameC W' bn
                    have kr : Kept wB wB := Kept.refl _
                    clear hbx hwB hgb
                    go_region_held3 (fun V => Kept wB V) (first | assumption | exact gtrans (by assumption) (drew_kept _))
                      ((first
                        | (go_at_call 10; refine (O2.out _ (gtrans HKB.out (drew_kept _))).mono ?_; rintro e w4 ⟨rfl, h4⟩; have k4 : Kept wB w4 := gtrans (drew_kept _) h4; clear h4)
                        | (go_at_call 11; refine (O3.out _ (gtrans HKB.out k4)).mono ?_; rintro e w5 ⟨rfl, h5⟩; have k5 : Kept wB w5 := gtrans k4 h5; clear h5)
                        | (go_at_call 13; refine (O4.out _ (gtrans HKB.out k5)).mono ?_; rintro e w6 ⟨⟨v6, rfl, h7⟩, h6⟩; obtain ⟨e6, f6, g6, hv6⟩ := h7.slice; subst hv6; have k6 : Kept wB w6 := gtrans k5 h6; have HP6 := hide1 h7; clear h6 h7)
                        | (go_at_call 12; refine (sameInts_is p _ _ _ HP6.out (HPV.out.keep (gtrans HKB.out k6))).mono ?_; rintro e w7 ⟨rfl, h8⟩; have k7 : Kept wB w7 := gtrans k6 h8; clear h8)))
                    have HK7 := hide1 k7
                    clear k4 k5 k6 k7 z0 z1 z2 z3 z4 z5 z6 kr hnq hat
                    go_wp2_with fail
                    go_roundw
                    case rel => exact ⟨2, by omega, by go_num, (show LawI P N X w1 _ bp br C0 C1 c0 c1 d from HJ.out.keep (gtrans HKB.out HK7.out))⟩
                    case measure => simp [intOf]
                · have hje : j = 2 := by omega
                  subst hje
                  go_wp2_with fail
                  go_roundw
                  case rel => exact ⟨k + 1, by omega, by go_num, HJ⟩
                  case measure => simp [intOf]; omega
            · go_upto_region 15 with fail
              have hls := HL.out
              go_region_held3 (fun V => LawI P N X w1 V bp br C0 C1 c0 c1 d) (first | assumption | exact LawI.keep (by assumption) (drew_kept _))
                ((go_at_call 8; refine ((HL.out.keep (drew_kept _)).moved1 HG.out _ _ _ HMA.out.1 HMA.out.2).mono ?_; rintro e w2 ⟨rfl, hl2⟩; have HL2 := hide1 hl2))
              clear hls hl2 kS kT kU k0 k1 k2 k3 y0
              go_wp2_with fail
              go_loopw [12] (fun vj wq => ∃ j : Nat, j ≤ 2 ∧ vj = .int .i64 (j : Int) ∧ Hid (LawI P N X w1 wq bp br C0 C1 c0 c1 d)) (fun vj _ => 2 - (intOf vj).toNat)
              case atStart => exact ⟨0, by omega, rfl, HL2⟩
              case round =>
                obtain ⟨j, hj, rfl, HJ⟩ := hrel
                clear HL2 HL
                by_cases hj2 : j < 2
                · obtain ⟨p0, p1, r0, r1⟩ := HJ.out.cells
                  obtain ⟨hk0, hk1⟩ := HJ.out.look HG.out
                  have hKw := HJ.out.kept
                  rcases (by omega : j = 0 ∨ j = 1) with e | e
                  · subst e
                    obtain ⟨dn, at_, pv, p, ix, o1, o2, o3, o4, hpv, hdn, hPi⟩ := hk0
                    obtain ⟨hixI, hcx⟩ := HCP.out ix _ hPi
                    obtain ⟨pa, pn, pc, hpve⟩ := hpv.slice
                    subst hpve
                    have O2 := hide1 o2
                    have O3 := hide1 o3
                    have O4 := hide1 o4
                    have HPV := hide1 hpv
                    have HDN := hide1 hdn
                    have P0 := hide1 p0
                    have HCX := hide1 hcx
                    have HKW := hide1 hKw
                    obtain ⟨bn, hbn⟩ : ∃ bn, btw P X dn = bn := ⟨_, rfl⟩
                    rw [hbn] at HCX O2
                    clear o2 o3 o4 hpv hdn hPi hcx hbn hk1 p0 p1 hKw
                    go_upto_region 21 with (go_at_call 9; refine (o1 _ (Kept.refl _)).mono ?_; rintro e w3 ⟨rfl, hk3⟩; have HK3 := hide1 hk3; clear hk3)
                    clear r0 r1 o1
                    obtain ⟨wB, hwB⟩ : ∃ wB, w3.alloc (.cells #[.pointer (some ⟨dn, 0, none⟩), .int .i64 (at_ : Int), .slice pa pn pc] 48) = wB := ⟨_, rfl⟩
                    have HKB : Hid (Kept wr wB) := by rw [← hwB]; exact gtrans HK3.out ((Kept.refl w3).alloc _ _)
                    have hbx : wB.heap[w3.heap.size]? = some (.cells #[.pointer (some ⟨dn, 0, none⟩), .int .i64 (at_ : Int), .slice pa pn pc] 48 (0, 0)) := by rw [← hwB]; exact World.alloc_heap_new w3 _
                    obtain ⟨gb, hgb⟩ : ∃ gb, w3.heap.size = gb := ⟨_, rfl⟩
                    rw [hwB, hgb]
                    rw [hgb] at hbx
                    have z0 := keeps (show wB.cell? ⟨gb, 0, none⟩ = some (.pointer (some ⟨dn, 0, none⟩)) by simp [World.cell?, hbx])
                    have z1 := keeps (show wB.cell? ⟨gb, 1, none⟩ = some (.int .i64 (at_ : Int)) by simp [World.cell?, hbx])
                    have z2 := keeps (show wB.cell? ⟨gb, 2, none⟩ = some (.slice pa pn pc) by simp [World.cell?, hbx])
                    have z3 := keeps (grown_cell HKB.out P0.out)
                    have z4 := keeps (grown_cell (gtrans HKW.out HKB.out) C2.out)
                    have z5 := keeps (grown_cell HKB.out HDN.out)
                    have z6 := keeps (grown_cell (gtrans HKW.out HKB.out) HCX.out)
                    have hat : ((at_ : Int) != (at_ : Int)) = false := by simp
                    have hnq := fun W' => node_sameC W' bn
                    have kr : Kept wB wB := Kept.refl _
                    clear hbx hwB hgb
                    go_region_held3 (fun V => Kept wB V) (first | assumption | exact gtrans (by assumption) (drew_kept _))
                      ((first
                        | (go_at_call 10; refine (O2.out _ (gtrans HKB.out (drew_kept _))).mono ?_; rintro e w4 ⟨rfl, h4⟩; have k4 : Kept wB w4 := gtrans (drew_kept _) h4; clear h4)
                        | (go_at_call 11; refine (O3.out _ (gtrans HKB.out k4)).mono ?_; rintro e w5 ⟨rfl, h5⟩; have k5 : Kept wB w5 := gtrans k4 h5; clear h5)
                        | (go_at_call 13; refine (O4.out _ (gtrans HKB.out k5)).mono ?_; rintro e w6 ⟨⟨v6, rfl, h7⟩, h6⟩; obtain ⟨e6, f6, g6, hv6⟩ := h7.slice; subst hv6; have k6 : Kept wB w6 := gtrans k5 h6; have HP6 := hide1 h7; clear h6 h7)
                        | (go_at_call 12; refine (sameInts_is p _ _ _ HP6.out (HPV.out.keep (gtrans HKB.out k6))).mono ?_; rintro e w7 ⟨rfl, h8⟩; have k7 : Kept wB w7 := gtrans k6 h8; clear h8)))
                    have HK7 := hide1 k7
                    clear k4 k5 k6 k7 z0 z1 z2 z3 z4 z5 z6 kr hnq hat
                    go_wp2_with fail
                    go_roundw
                    case rel => exact ⟨1, by omega, by go_num, (show LawI P N X w1 _ bp br C0 C1 c0 c1 d from HJ.out.keep (gtrans HKB.out HK7.out))⟩
                    case measure => simp [intOf]
                  · subst e
                    obtain ⟨dn, at_, pv, p, ix, o1, o2, o3, o4, hpv, hdn, hPi⟩ := hk1
                    obtain ⟨hixI, hcx⟩ := HCP.out ix _ hPi
                    obtain ⟨pa, pn, pc, hpve⟩ := hpv.slice
                    subst hpve
                    have O2 := hide1 o2
                    have O3 := hide1 o3
                    have O4 := hide1 o4
                    have HPV := hide1 hpv
                    have HDN := hide1 hdn
                    have P0 := hide1 p1
                    have HCX := hide1 hcx
                    have HKW := hide1 hKw
                    obtain ⟨bn, hbn⟩ : ∃ bn, btw P X dn = bn := ⟨_, rfl⟩
                    rw [hbn] at HCX O2
                    clear o2 o3 o4 hpv hdn hPi hcx hbn hk0 p0 p1 hKw
                    go_upto_region 21 with (go_at_call 9; refine (o1 _ (Kept.refl _)).mono ?_; rintro e w3 ⟨rfl, hk3⟩; have HK3 := hide1 hk3; clear hk3)
                    clear r0 r1 o1
                    obtain ⟨wB, hwB⟩ : ∃ wB, w3.alloc (.cells #[.pointer (some ⟨dn, 0, none⟩), .int .i64 (at_ : Int), .slice pa pn pc] 48) = wB := ⟨_, rfl⟩
                    have HKB : Hid (Kept wr wB) := by rw [← hwB]; exact gtrans HK3.out ((Kept.refl w3).alloc _ _)
                    have hbx : wB.heap[w3.heap.size]? = some (.cells #[.pointer (some ⟨dn, 0, none⟩), .int .i64 (at_ : Int), .slice pa pn pc] 48 (0, 0)) := by rw [← hwB]; exact World.alloc_heap_new w3 _
                    obtain ⟨gb, hgb⟩ : ∃ gb, w3.heap.size = gb := ⟨_, rfl⟩
                    rw [hwB, hgb]
                    rw [hgb] at hbx
                    have z0 := keeps (show wB.cell? ⟨gb, 0, none⟩ = some (.pointer (some ⟨dn, 0, none⟩)) by simp [World.cell?, hbx])
                    have z1 := keeps (show wB.cell? ⟨gb, 1, none⟩ = some (.int .i64 (at_ : Int)) by simp [World.cell?, hbx])
                    have z2 := keeps (show wB.cell? ⟨gb, 2, none⟩ = some (.slice pa pn pc) by simp [World.cell?, hbx])
                    have z3 := keeps (grown_cell HKB.out P0.out)
                    have z4 := keeps (grown_cell (gtrans HKW.out HKB.out) C2.out)
                    have z5 := keeps (grown_cell HKB.out HDN.out)
                    have z6 := keeps (grown_cell (gtrans HKW.out HKB.out) HCX.out)
                    have hat : ((at_ : Int) != (at_ : Int)) = false := by simp
                    have hnq := fun W' => node_sameC W' bn
                    have kr : Kept wB wB := Kept.refl _
                    clear hbx hwB hgb
                    go_region_held3 (fun V => Kept wB V) (first | assumption | exact gtrans (by assumption) (drew_kept _))
                      ((first
                        | (go_at_call 10; refine (O2.out _ (gtrans HKB.out (drew_kept _))).mono ?_; rintro e w4 ⟨rfl, h4⟩; have k4 : Kept wB w4 := gtrans (drew_kept _) h4; clear h4)
                        | (go_at_call 11; refine (O3.out _ (gtrans HKB.out k4)).mono ?_; rintro e w5 ⟨rfl, h5⟩; have k5 : Kept wB w5 := gtrans k4 h5; clear h5)
                        | (go_at_call 13; refine (O4.out _ (gtrans HKB.out k5)).mono ?_; rintro e w6 ⟨⟨v6, rfl, h7⟩, h6⟩; obtain ⟨e6, f6, g6, hv6⟩ := h7.slice; subst hv6; have k6 : Kept wB w6 := gtrans k5 h6; have HP6 := hide1 h7; clear h6 h7)
                        | (go_at_call 12; refine (sameInts_is p _ _ _ HP6.out (HPV.out.keep (gtrans HKB.out k6))).mono ?_; rintro e w7 ⟨rfl, h8⟩; have k7 : Kept wB w7 := gtrans k6 h8; clear h8)))
                    have HK7 := hide1 k7
                    clear k4 k5 k6 k7 z0 z1 z2 z3 z4 z5 z6 kr hnq hat
                    go_wp2_with fail
                    go_roundw
                    case rel => exact ⟨2, by omega, by go_num, (show LawI P N X w1 _ bp br C0 C1 c0 c1 d from HJ.out.keep (gtrans HKB.out HK7.out))⟩
                    case measure => simp [intOf]
                · have hje : j = 2 := by omega
                  subst hje
                  go_wp2_with fail
                  go_roundw
                  case rel => exact ⟨k + 1, by omega, by go_num, HJ⟩
                  case measure => simp [intOf]; omega
          · have hkk : ¬ (k : Int) < (nm : Int) := by omega
            go_wp2_with fail
            go_ret
            exact ⟨rfl, gtrans HK1.out HL.out.kept⟩

end Tr
end Ex
end Go.Proofs.Ythpampfbmpdmoaa
