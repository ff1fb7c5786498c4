import Derived.Test.YthpampfbmpdmoaaMTrB8
import Derived.Deep.CutRange
namespace Go.Proofs.Ythpampfbmpdmoaa
open Go.RowKit
attribute [local go_sem] Oper.semAt_some
namespace Ex
namespace Tr
namespace Bk

set_option linter.unusedSimpArgs false in
set_option maxRecDepth 100000 in
set_option maxHeartbeats 8000000 in
theorem law_book (v mv : Value) (l : List StepM) (ms : List (Int × Int × Int)) (w : World) (hS : ScriptA w.heap.size w v l) (hMv : MovesA w.heap.size w mv ms) : Calls Try.prog 4 #[v, mv] w fun e w' => e = .returned (.bool true) ∧ Kept w w' := by
  have HSC := hide1 hS
  have hl : l.length ≤ 1048576 := hS.choose_spec.choose_spec.2.2.1
  obtain ⟨ma, mc, rfl, _, hml, hmc⟩ := hMv
  have HMC := hide1 hmc
  obtain ⟨nm, hnm⟩ : ∃ nm, ms.length = nm := ⟨_, rfl⟩
  have HNM := hide1 hnm
  rw [hnm] at hml ⊢
  have hmI : (nm : Int) ≤ 1048576 := by omega
  clear hS hmc hnm
  go_enter Try.func4, Try.ntmps4
  go_upto_region 4 with (go_at_call 5; refine (grown_is v l w HSC.out).mono ?_; rintro e w1 ⟨base, fb, s0, s1, rfl, hF1, hk1, _, _, _⟩; have HF1 := hide1 hF1; have HK1 := hide1 hk1; clear hF1 hk1)
  obtain ⟨V, P, Q, N, X, m0, m1, vP, vR, vB, hM, hT, hP⟩ := HF1.out
  have HM := hide1 hM
  have HT := hide1 hT
  have HLAST := hide1 (last_is base fb s0 s1 V P Q N X m0 m1 vP vR vB w1 hM hT (by omega))
  clear hM hT HF1
  go_upto_region 5 with (go_at_call 6; refine HLAST.out.mono ?_; rintro e w2 ⟨hw2, hl2⟩; have hw2 := hw2.symm; subst hw2; obtain ⟨r, rfl, hr⟩ := lastJ_of hl2; have HR := hide1 hr; clear hl2 hr)
  rcases HR.out with hr | ⟨i, b, hr, hi, hb⟩
  · subst hr
    go_wp2_with fail
    go_ret
    exact ⟨rfl, HK1.out⟩
  · subst hr
    have hbm : b ∈ P := List.mem_of_getElem? hi
    obtain ⟨gp, cp, rfl, _, cP⟩ := HM.out.2.2.2.1.cell hi
    have c2 : w1.cell? ⟨fb, 2, none⟩ = some (.slice (some ⟨gp, 0, none⟩) P.length cp) := by simp [World.cell?, HM.out.1]
    have hiP := (List.getElem?_eq_some_iff.1 hi).1
    have hiI : (i : Int) < (P.length : Int) := by omega
    obtain ⟨d, hd⟩ : ∃ d, Q[i]? = some d := ⟨_, List.getElem?_eq_getElem (by rw [← HT.out.1]; exact hiP)⟩
    obtain ⟨gq, cq, hvR, _, cQ⟩ := HM.out.2.2.2.2.1.cell hd
    subst hvR
    have c3 : w1.cell? ⟨fb, 3, none⟩ = some (.slice (some ⟨gq, 0, none⟩) Q.length cq) := by simp [World.cell?, HM.out.1]
    rw [← HT.out.1] at c3
    obtain ⟨n, hn⟩ : ∃ n, P.length = n := ⟨_, rfl⟩
    rw [hn] at c2 c3 hiI
    have HNL := hide1 hn
    have HI := hide1 hi
    have HD := hide1 hd
    have k2 := keeps c2
    have kP := keeps cP
    have C2 := hide1 c2
    have C3 := hide1 c3
    have CQ := hide1 cQ
    have CP := hide1 cP
    clear hi hd hn HR HLAST c2 c3 cP cQ hiP
    have p2 := C2.out
    have pP := CP.out
    have HF0 := hide1 (forest_of HM.out HT.out)
    have HG : Hid (Grd P Q N X w1.heap.size w1 d) := ⟨forest_of HM.out HT.out, rfor_of HM.out HT.out, ⟨_, _, _, _, HT.out⟩, fwid_of HT.out, Nat.le_refl _, List.mem_of_getElem? HD.out⟩
    clear k2 kP
    obtain ⟨L, hL⟩ : ∃ L, ((wl N (N b).size [b] 0).map fun q => N q.2) = L := ⟨_, rfl⟩
    have HRW : Hid (∀ V, Kept w1 V → Calls Try.prog 14 #[.pointer (some ⟨b, 0, none⟩)] V (RowsR L V)) := fun V hV => by
      rw [← hL]
      exact rowsG_is (HF0.out.kb (hV.kb (Nat.le_refl _))) hbm hV.size
    have hLn : L.length ≤ 4194304 := by
      rw [← hL, List.length_map]
      have h1 := wl_len N (N b).size [b] 0
      have h2 := (HF0.out b hbm).2.1.2.1
      omega
    have hL1 : 0 < L.length := by
      rw [← hL, List.length_map, wl_length HF0.out _ [b] 0 (fun p hp => by rw [List.mem_singleton.1 hp]; exact hbm) (by simp [sizeS])]
      have := (HF0.out b hbm).2.1.1
      omega
    clear hL
    have HLN := hide1 hLn
    obtain ⟨nL, hnL⟩ : ∃ nL, L.length = nL := ⟨_, rfl⟩
    rw [hnL] at hL1 hLn
    have HNL2 := hide1 hnL
    have hnLI : (nL : Int) ≤ 4194304 := by omega
    clear hnL
    have HRW2 : Hid (∀ V, Kept w1 V → Calls Try.prog 14 #[.pointer (some ⟨b, 0, none⟩)] V fun e w' => ∃ g cap E, e = .returned (.slice (some ⟨g, 0, none⟩) nL cap) ∧ RowsG V w' L g cap E ∧ Kept V w') := fun V hV => by
      rw [← HNL2.out]
      exact HRW.out V hV
    have HRD : Hid (∀ (V w0 : World) (g c : Nat) (E : List (List Value)), RowsG w0 V L g c E → RowsRd V (.slice (some ⟨g, 0, none⟩) nL c) L) := fun V w0 g c E h => by
      rw [← HNL2.out]
      exact h.rd HLN.out
    clear HRW
    go_upto_region 8 with fail
    have he0 : (w1.alloc (.cells #[] 88)).heap[w1.heap.size]? = some (.cells #[] 88 (0, 0)) := World.alloc_heap_new w1 _
    have HE0 := hide1 he0
    clear he0
    go_upto_region 9 with (first
      | (go_at_call 14; refine (HRW2.out _ (by exact (Kept.refl _).alloc _ _)).mono ?_; rintro e w2 ⟨g2, cap2, E2, rfl, hg2, hk2⟩; have HG2 := hide1 hg2; have HK2 := hide1 hk2; clear hg2 hk2)
      | (at_builtin; go_must (refine wpl_want rfl _ _ rfl _ w1.heap.size (by rfl) ((HK2.out.2.2.2.2 w1.heap.size (by simp)).trans HE0.out) HG2.out HNL2.out (by rfl) hL1 hLn (wb := w1) (Nat.le_refl _) (by have := HK2.out.size; simp at this; omega) ?_; intro gw cw Ew w3 hgw hb3 hs3 ho3 ht3 hu3; have HGW := hide1 hgw; have HK3 : Hid (Kept w1 w3) := ⟨ho3.trans HK2.out.1, ht3.trans HK2.out.2.1, hu3.trans HK2.out.2.2.1, by (have h1 := HK2.out.size; simp at h1; omega), fun k hk => (hb3 k (by (have h1 := HK2.out.size; simp at h1; omega)) (by omega)).trans ((HK2.out.2.2.2.2 k (by simp; omega)).trans (heap_alloc_old w1 _ hk))⟩; clear hgw hb3 hs3 ho3 ht3 hu3)))
    clear HG2 HK2 HE0
    go_upto_region 10 with (go_at_call 7; refine (curZ_new (fun k => k < w3.heap.size) w1 b w3 HK3.out (fun _ h => h)).mono ?_; rintro e w4 ⟨rfl, hk4, hc4⟩; have HK4 := hide1 hk4; have HC4 := hide1 hc4; clear hk4 hc4)
    obtain ⟨C, hC⟩ : ∃ C, w3.heap.size + 1 = C := ⟨_, rfl⟩
    rw [hC] at HC4
    rw [hC]
    have HB1 : Hid (Bk1 w1 w4 C b gw cw Ew L (.slice none 0 0) []) := by
      have hgl := HGW.out.row.lt
      refine ⟨fun k => w3.heap.size ≤ k ∧ k < w4.heap.size, HC4.out.more (Kept.refl _) (fun k hk => ?_), fun k hk => hk.2, HGW.out.same (HK4.out.2.2.2.2 gw hgl), fun h => by omega, Lists.nil _ _ _, fun k hk => absurd hk (LB_nil k), LB_nil gw⟩
      rcases Nat.lt_or_ge k w3.heap.size with h | h
      · exact Or.inl h
      · exact Or.inr (Or.inr (by omega))
    clear hC HC4 HGW
    go_wp2_with fail
    go_loopw [11, 13] (fun v11 v13 wr => ∃ (k rc : Nat) (ra : Option Addr) (ri : Its), k ≤ 4 ∧ v13 = .int .i64 (k : Int) ∧ v11 = .slice ra k rc ∧ Hid (ri.length = k) ∧ Hid (Bk1 w1 wr C b gw cw Ew L (.slice ra k rc) ri)) (fun _ v13 _ => 4 - (intOf v13).toNat)
    case atStart => exact ⟨0, 0, none, [], by omega, rfl, rfl, rfl, HB1⟩
    case round =>
      obtain ⟨k, rc, ra, ri, hk, rfl, rfl, HRI, HB⟩ := hrel
      clear HB1
      by_cases hlt : k < 4
      · have hkI : (k : Int) < 4 := by omega
        have HWR := hide1 HB.out.kept
        go_wp2_with (first
          | (go_at_call 14; refine (HRW2.out _ HWR.out).mono ?_; rintro e w5 ⟨ga, ca, Ea, rfl, hg5, hk5⟩; have HG5 := hide1 hg5; have HK5 := hide1 hk5; clear hg5 hk5)
          | (go_at_call 15; refine (sameRows_is _ _ L L _ (HRD.out _ _ _ _ _ HG5.out) (HRD.out _ _ _ _ _ ((HB.out.keep HK5.out).wantG)) rfl).mono ?_; rintro e w6 ⟨rfl, hk6⟩; have HK6 := hide1 hk6; clear hk6)
          | (at_builtin; go_must (refine grown_rows_add rfl _ _ rfl w6 _ ((Kept.refl w6).alloc _ _) w1.heap.size (.slice ra k rc) k (valsI ri) (by rfl) (HB.out.spine HRI.out (gtrans HK5.out HK6.out)) (some ⟨ga, 0, none⟩) nL ca w6.heap.size (by rfl) (World.alloc_heap_new w6 _) (by omega) (by exact Nat.le_trans HWR.out.size (gtrans HK5.out HK6.out).size) ?_; intro g7 c7 w7 ho7 hg7 hgg7 hlt7; rw [← HNL2.out] at ho7; have HB7 := hide1 (HB.out.add HK5.out HG5.out (gtrans HK6.out ((Kept.refl w6).alloc _ _)) HLN.out (by have := HRI.out; omega) HRI.out ho7 hg7 hgg7); clear ho7 hg7 hgg7 hlt7)))
        go_roundw
        case rel => exact ⟨k + 1, c7, some ⟨g7, 0, none⟩, ri ++ [(ga, L.length, ca)], by omega, by go_num, rfl, by show _ = _; rw [List.length_append, HRI.out]; rfl, HB7⟩
        case measure => simp [intOf]; omega
      · have hk4 : k = 4 := by omega
        subst hk4
        rw [show ((4 : Nat) : Int) = 4 from rfl]
        have HWR := hide1 HB.out.kept
        have r3 := grown_cell HWR.out C3.out
        have rQ := grown_cell HWR.out CQ.out
        have hbt : btw P X d = b := by
          unfold btw
          rw [(HT.out.2.2.2.1 i b d HI.out HD.out).st.1]
          exact at_some HI.out
        have HI0 := hide1 (HB.out.begin (P := P) (N := N) (X := X) hbt hbm)
        clear hbt
        go_upto_region 22 with fail
        obtain ⟨w8, hw8⟩ : ∃ w8, wr.alloc (.cells #[.pointer (some ⟨d, 0, none⟩), .slice none 0 0] 42) = w8 := ⟨_, rfl⟩
        obtain ⟨cb, hcb⟩ : ∃ cb, wr.heap.size = cb := ⟨_, rfl⟩
        rw [hw8, hcb] at HI0
        rw [hw8, hcb]
        clear hw8 hcb r3 rQ HI
        go_wp2_with fail
        go_loopw [12, 16] (fun v12 v16 wq => ∃ (k m pc : Nat) (pa : Option Addr) (pi : Its), k ≤ nm ∧ k ≤ 30 ∧ v16 = .int .i64 (k : Int) ∧ v12 = .slice pa m pc ∧ Hid (m = 2 * k) ∧ Hid (pi.length = m) ∧ Hid (BkI P N X w1 wq C cb d gw cw Ew L (.slice ra 4 rc) ri (.slice pa m pc) pi)) (fun _ v16 _ => nm - (intOf v16).toNat)
        case atStart => exact ⟨0, 0, 0, none, [], Nat.zero_le _, by omega, rfl, rfl, rfl, rfl, HI0⟩
        case round =>
          obtain ⟨k, m, pc, pa, pi, hk, hk30, rfl, rfl, HM2, HPI, HI⟩ := hrel
          clear HI0 HB HWR
          by_cases hlt : k < nm ∧ k < 30
          · obtain ⟨x, hx⟩ : ∃ x, ms[k]? = some x := ⟨_, List.getElem?_eq_getElem (by have := HNM.out; omega)⟩
            rcases HMC.out with h0 | ⟨mb, mo, hma, hmb, hmx⟩
            · rw [h0] at hx
              simp at hx
            subst hma
            obtain ⟨x0, x1, x2, hx3, hx4⟩ := hmx k x hx
            obtain ⟨wh, mk, mv⟩ := x
            dsimp only at x0 x1 x2 hx3 hx4
            have hkI : (k : Int) < (nm : Int) := by omega
            have hk3I : (k : Int) < 30 := by omega
            have hK1r := gtrans HK1.out HI.out.kept
            have y0 := grown_cell hK1r x0
            have y1 := grown_cell hK1r x1
            have y2 := grown_cell hK1r x2
            have HMA := hide1 (And.intro hx3 hx4)
            have HLT := hide1 hlt
            clear hx hmx x0 x1 x2 hK1r hx3 hx4 hlt
            go_wp2_with (first
              | (go_at_call 8; refine (HI.out.moved HG.out _ _ _ HMA.out.1 HMA.out.2).mono ?_; rintro e w2 ⟨rfl, hi2⟩; have HI2 := hide1 hi2; obtain ⟨p, qv, hqc, hqp, hcl, hpt⟩ := hi2.paths HG.out; obtain ⟨qa, qn, qc, hqv⟩ := hqp.slice; subst hqv; obtain ⟨np, hnp⟩ : ∃ np, p.length = np := ⟨_, rfl⟩; have HNP := hide1 hnp; have HPT : Hid (∀ V, Kept w2 V → Calls Try.prog 13 #[.pointer (some ⟨C, 0, none⟩)] V fun e w' => ∃ g cap E, e = .returned (.slice (some ⟨g, 0, none⟩) np cap) ∧ PathG V w' p g cap E ∧ Kept V w') := (fun V hV => by (have h := hpt V hV; unfold PathR at h; rw [hnp] at h; exact h)); have HQC := hide1 hqc; have HQP := hide1 hqp; have HRP : Hid (∀ (V w0 : World) (g c : Nat) (E : List (List Value)), PathG w0 V p g c E → PathRd V (.slice (some ⟨g, 0, none⟩) np c) p) := (fun V w0 g c E h => by (have h2 := h.rd; rw [hnp] at h2; exact h2)); clear hi2 hqc hqp hpt hnp)
              | (have _g := HG1; clear _g; go_at_call 13; refine (HPT.out ua HK1b.out).mono ?_; rintro e ub ⟨g2, d2, E2, rfl, hg2, hk2⟩; have HG2 := hide1 hg2; have HK2b := hide1 hk2; have c2 := grown_cell (gtrans HK1b.out hk2) HQC.out; clear hg2 hk2)
              | (go_at_call 13; refine (HPT.out w2 (Kept.refl _)).mono ?_; rintro e ua ⟨g1, d1, E1, rfl, hg1, hk1⟩; have HG1 := hide1 hg1; have HK1b := hide1 hk1; clear hg1 hk1)
              | (have _g := HK3b; clear _g; go_at_call 12; refine (sameInts_is p _ _ _ ((HRP.out _ _ _ _ _ HG2.out).keep HK3b.out) (HQP.out.keep (gtrans HK1b.out (gtrans HK2b.out HK3b.out)))).mono ?_; rintro e ud ⟨rfl, hk4⟩; have HK4b := hide1 hk4; clear hk4)
              | (go_at_call 12; refine (sameInts_is p _ _ _ ((HRP.out _ _ _ _ _ HG1.out).keep HK2b.out) (HQP.out.keep (gtrans HK1b.out HK2b.out))).mono ?_; rintro e uc ⟨rfl, hk3⟩; have c3 := grown_cell hk3 c2; have HK3b := hide1 hk3; clear hk3)
              | (at_builtin; go_must (refine two_add rfl _ _ rfl ud _ ((Kept.refl ud).alloc _ _) w1.heap.size (.slice pa m pc) m (valsI pi) (by rfl) (HI2.out.spineP HPI.out (gtrans HK1b.out (gtrans HK2b.out (gtrans HK3b.out HK4b.out)))) (some ⟨g1, 0, none⟩) (some ⟨g2, 0, none⟩) np d1 np d2 ud.heap.size (by rfl) (World.alloc_heap_new ud _) (by have := HM2.out; have := HLT.out; omega) (by exact Nat.le_trans HI2.out.kept.size (gtrans HK1b.out (gtrans HK2b.out (gtrans HK3b.out HK4b.out))).size) ?_; intro g7 c7 w7 ho7 hg7 hgg7 hlt7; rw [← HNP.out] at ho7; have HI7 := hide1 (HI2.out.add HK1b.out HG1.out HK2b.out HG2.out (gtrans HK3b.out (gtrans HK4b.out ((Kept.refl ud).alloc _ _))) (by have := HM2.out; have := HPI.out; have := HLT.out; omega) HPI.out ho7 hg7 hgg7); clear ho7 hg7 hgg7 hlt7)))
            go_roundw
            case rel => exact ⟨k + 1, m + 2, c7, some ⟨g7, 0, none⟩, _, by have := HLT.out; omega, by have := HLT.out; omega, by go_num, rfl, (show m + 2 = 2 * (k + 1) by have := HM2.out; omega), (show _ = _ by rw [List.length_append, List.length_append, HPI.out]; rfl), HI7⟩
            case measure => simp [intOf]; have := HLT.out; omega
          · have hend : (nm : Int) ≤ (k : Int) ∨ ((k : Int) < (nm : Int) ∧ (30 : Int) ≤ (k : Int)) := by omega
            clear hlt
            rcases hend with h | ⟨h, h4⟩
            all_goals
              have HWI := hide1 HI.out.kept
              obtain ⟨p, hpt, hfi⟩ := HI.out.finish HG.out
              have HPT := hide1 hpt
              have HFI := hide1 hfi
              clear hpt hfi
              go_upto_region 36 with (first
                | (go_at_call 14; refine (HRW2.out _ HWI.out).mono ?_; rintro e ua ⟨g1, d1, E1, rfl, hg1, hk1⟩; have HG1 := hide1 hg1; have HK1b := hide1 hk1; clear hg1 hk1)
                | (go_at_call 13; refine (HPT.out ua HK1b.out).mono ?_; rintro e ub ⟨g2, d2, E2, rfl, hg2, hk2⟩; have HG2 := hide1 hg2; have HK2b := hide1 hk2; have HF2 := hide1 (HFI.out ub (gtrans HK1b.out hk2)); clear hg2 hk2)
                | (go_at_call 16; refine (HF2.out.1.grownR (fun e => by have h := HRI.out; rw [e] at h; simp at h)).mono ?_; rintro e uc ⟨rfl, hk3⟩; have HF3 := hide1 (HF2.out.2 uc hk3); clear hk3)
                | (go_at_call 17; refine HF3.out.1.grownI.mono ?_; rintro e ud ⟨rfl, hk4⟩; obtain ⟨f1, f2, ⟨qv, f3, f4⟩, f5, f6, f7⟩ := HF3.out.2 ud hk4; obtain ⟨qa, qn, qc, hqv⟩ := f4.slice; subst hqv; have HF1 := hide1 f1; have HFW2 := hide1 f2; have HFP := hide1 f4; have HFC := hide1 f6; have HF7 := hide1 f7; have HCB := hide1 f3; clear hk4 f1 f2 f4 f6 f7)
                | (go_at_call 15; refine (sameRows_is _ _ L L _ (HRD.out _ _ _ _ _ (HG1.out.same ((HF7.out g1 HG1.out.lo (Nat.lt_of_lt_of_le HG1.out.row.lt HK2b.out.size)).trans (HK2b.out.2.2.2.2 g1 HG1.out.row.lt)))) (HRD.out _ _ _ _ _ HFW2.out) rfl).mono ?_; rintro e ue ⟨rfl, hk5⟩; have c5 := grown_cell hk5 HCB.out; have HK5b := hide1 hk5; clear hk5 f3)
                | (go_at_call 12; refine (sameInts_is p _ _ _ ((HG2.out.same (HF7.out g2 (Nat.le_trans HK1b.out.size HG2.out.lo) HG2.out.row.lt)).rd.keep HK5b.out) (HFP.out.keep HK5b.out)).mono ?_; rintro e uf ⟨rfl, hk6⟩; have HK6b := hide1 (gtrans HK5b.out hk6); clear hk6 c5))
              have z1 := keeps (grown_cell HK6b.out HCB.out)
              have kr : Kept uf uf := Kept.refl _
              go_region_held3 (fun V => Kept uf V) (first | assumption | exact gtrans (by assumption) (drew_kept _))
                ((first
                  | (go_at_call 14; refine (HRW2.out _ (gtrans HF1.out (gtrans HK6b.out (drew_kept _)))).mono ?_; rintro e v1 ⟨h1, i1, J1, rfl, hh1, hj1⟩; have HH1 := hide1 hh1; have k1 : Kept uf v1 := gtrans (drew_kept _) hj1; clear hh1 hj1)
                  | (go_at_call 15; refine (sameRows_is _ _ L L _ (HRD.out _ _ _ _ _ HH1.out) ((HRD.out _ _ _ _ _ HFW2.out).keep (gtrans HK6b.out k1)) rfl).mono ?_; rintro e v2 ⟨rfl, hj2⟩; have k2 : Kept uf v2 := gtrans k1 hj2; clear hj2)
                  | (go_at_call 13; refine (HFC.out v2 (gtrans HK6b.out k2)).mono ?_; rintro e v3 ⟨h3, i3, J3, rfl, hh3, hj3⟩; have HH3 := hide1 hh3; have k3 : Kept uf v3 := gtrans k2 hj3; clear hh3 hj3)
                  | (go_at_call 12; refine (sameInts_is p _ _ _ HH3.out.rd (HFP.out.keep (gtrans HK6b.out k3))).mono ?_; rintro e v4 ⟨rfl, hj4⟩; have k4 : Kept uf v4 := gtrans k3 hj4; clear hj4)))
              have HK4c := hide1 k4
              clear k1 k2 k3 k4 z1 kr
              go_wp2_with fail
              go_ret
              exact ⟨rfl, gtrans HK1.out (gtrans HF1.out (gtrans HK6b.out HK4c.out))⟩

end Bk
end Tr
end Ex
end Go.Proofs.Ythpampfbmpdmoaa
