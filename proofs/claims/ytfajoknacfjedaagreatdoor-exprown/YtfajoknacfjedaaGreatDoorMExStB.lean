import Derived.Test.YtfajoknacfjedaaGreatDoorMExSt7
import Derived.Deep.RegionLaw
namespace Go.Proofs.YtfajoknacfjedaaGreatDoor
open Go.RowKit Go.Maps
attribute [local go_sem] Oper.semAt_some
namespace Ex

set_option linter.unusedSimpArgs false in
set_option maxRecDepth 100000 in
set_option maxHeartbeats 4000000 in
theorem net_run (S0 : Nat → Prop) (nb tb fb first : Nat) (ts : List (Int × Int × Nat)) (fs : List (Nat × Nat)) (vb : Value) (bs : List Int) (w : World) (h : NetRun S0 w nb tb fb first ts fs) (hT : TabAt w) (htg : tb ≠ 1) (hfirst : PlaceOk fs.length first) (hPl : NetOk ts fs first)
    (hb : BytesIn (fun c => c ≠ tb) w vb bs) :
    Calls Tryz.prog 49 #[.pointer (some ⟨nb, 0, none⟩), vb] w fun e w' => e = .returned (.tuple #[.int .i64 (runM ts fs first bs).1, .int .i64 (runM ts fs first bs).2]) ∧ KeptBut tb w w' := by
  have HN := hide1 h
  have HT := hide1 hT
  have HB := hide1 hb
  have HF : Hid (RunF fs nb tb fb w) := ⟨World.block_lt_of_cell? w _ h.first, h.tlt, h.forks.lt, hT.lt, htg⟩
  have HFST := hide1 hfirst
  have HPL := hide1 hPl
  obtain ⟨ab, capb, rfl, hcb, hb262, _⟩ := hb
  have c0 := h.first
  have hnb := HF.out.hnb
  have hkm : Kept w (w.alloc (.map #[] 0)) := Kept.of ((Below.refl _ _).alloc (Nat.le_refl _) _)
  have c0m := grown_cell hkm c0
  have HKM := hide1 hkm
  clear hkm
  have hmm := @run_makeMap Tryz.prog
  clear h hT htg hfirst hPl
  go_enter Tryz.func49, Tryz.ntmps49
  go_wp2_with fail
  refine wp_scope_once 0 (RunJ ts fs nb tb fb first w.heap.size w (.slice ab bs.length capb) bs) (fun a _ => bs.length - (intOf (a.tmps.getD 5 undef)).toNat) rfl ?_ ?_
  · intro a w1 hJ
    obtain ⟨A, k, p, M, l, κ, ω, S, D, ⟨T, rfl⟩, hk, hM, hp, hR, hG⟩ := hJ
    obtain ⟨hpw, hSp, _, hAt, hAp, vw, lw, hstop⟩ := hR.stops p A hp
    obtain ⟨hrange, hcw, hfw⟩ := stop_range hstop
    have HR := hide1 hR
    have HP := hide1 hp
    have HG := hide1 hG
    have HST := hide1 hstop
    have HRG := hide1 hrange
    have HAT := hide1 hAt
    have HAP := hide1 hAp
    have hpl := hR.lt hp
    clear hR hp hG hrange hAt hAp hmm c0 c0m
    obtain ⟨t0, ht0⟩ : ∃ t, A.testBit 4096 = t := ⟨_, rfl⟩
    have HT0 := hide1 ht0
    clear ht0
    cases t0 with
    | true =>
      by_cases hend : (k : Int) = (bs.length : Int)
      · have HE : Hid (runM ts fs first bs = ((k : Int), (k : Int))) := by
          show _ = _
          have e : bs[k]? = none := List.getElem?_eq_none (by omega)
          unfold runM
          rw [show bs.length + 1 = k + 1 by omega, HG.out, runG, e, HT0.out]
          rfl
        go_wp2_with (first
          | (refine wpList_load_mid rfl 98 _ rfl p 0 rfl (setL A) _ HRG.out Tryz.underlying98 rfl (setL_size A) ?_)
          | (go_at_call 66; refine (has_end A _).mono ?_; rintro e w7 ⟨rfl, hk7⟩; rw [HT0.out]; have HK7 := hide1 hk7; clear hk7))
        simp only [Exit.jump]
        go_ret2
        refine ⟨?_, HR.out.kept.trans (HK7.out.but tb)⟩
        rw [HE.out]
        simp [hend]
      · obtain ⟨c, hc⟩ : ∃ c, bs[k]? = some c := ⟨_, List.getElem?_eq_getElem (by omega)⟩
        have hkl : (k : Int) < (bs.length : Int) := by omega
        have HC := hide1 hc
        obtain ⟨a2, cap2, e2, gcb, _, h4⟩ := HB.out
        simp only [Value.slice.injEq] at e2
        obtain ⟨rfl, _, rfl⟩ := e2
        rcases h4 with h4 | ⟨cb, ob, rfl, hct, h7⟩
        · rw [h4] at hc; simp at hc
        · have cbk := but_cell HR.out.kept (h7 k c hc) hct
          have HC0 := hide1 (And.intro (h7 k c hc) hct)
          have hcbw := World.block_lt_of_cell? w _ (h7 k c hc)
          have gcb2 : (bs.length : Int) ≤ (capb : Int) := by omega
          have HNX : Hid (stepM ts fs A c ≠ 0 → ∀ N, runG ts fs bs (k + 1 + N) (reachM fs first) 0 (-1) = runG ts fs bs N (stepM ts fs A c) (k + 1) (k : Int)) := fun h0 N => by
            rw [show k + 1 + N = k + (N + 1) by omega, HG.out, runG, HC.out]
            simp only [if_neg h0, HT0.out]
            rfl
          have HSTOP : Hid (stepM ts fs A c = 0 → runM ts fs first bs = ((k : Int), (k : Int))) := fun h0 => by
            unfold runM
            rw [show bs.length + 1 = k + ((bs.length - k) + 1) by omega, HG.out, runG, HC.out]
            simp only [if_pos h0, HT0.out]
            rfl
          obtain ⟨aw, cw, hvw⟩ : ∃ a c, vw = .slice a lw.length c := by
            rcases HST.out.2.1.2 with ⟨rfl, h0⟩ | ⟨g, cap, cur, rfl, _⟩
            · exact ⟨none, 0, by rw [h0]⟩
            · exact ⟨_, _, rfl⟩
          subst hvw
          clear hc h7 hct
          go_wp2_with (first
            | (refine wpList_load_mid rfl 98 _ rfl p 0 rfl (setL A) _ HRG.out Tryz.underlying98 rfl (setL_size A) ?_)
            | (go_at_call 66; refine (has_end A _).mono ?_; rintro e w7 ⟨rfl, hk7⟩; rw [HT0.out]; have HK7 := hide1 hk7; have hcw7 := grown_cell hk7 hcw; have hsz7 := hk7.size; clear hk7))
          have HKW7 := hide1 (HR.out.keep HK7.out)
          go_loopw [5, 7, 38] (fun v5 v7 vi wr => ∃ i : Nat, v5 = .int .i64 (k : Int) ∧ v7 = .pointer (some ⟨p, 0, none⟩) ∧ vi = .int .i64 (i : Int) ∧ i ≤ lw.length ∧ Hid (Kept w7 wr)) (fun _ _ vi _ => lw.length - (intOf vi).toNat)
          case atStart => exact ⟨0, rfl, rfl, rfl, Nat.zero_le _, Kept.refl w7⟩
          case round =>
            obtain ⟨i, rfl, rfl, rfl, hi, hkr⟩ := hrel
            have hkr1 := gtrans HK7.out hkr.out
            have cbr := grown_cell hkr1 cbk
            have hcbl := World.block_lt_of_cell? wr _ cbr
            have gk0 : (0 : Int) ≤ (k : Int) := by omega
            have glw : (lw.length : Int) ≤ 1000000 := by have := HST.out.2.2.1; omega
            by_cases hlt : (i : Int) < (lw.length : Int)
            · have HLTN : Hid (i < lw.length) := show i < lw.length by omega
              obtain ⟨⟨y, q⟩, hq⟩ : ∃ x, lw[i]? = some x := ⟨_, List.getElem?_eq_getElem (by omega)⟩
              obtain ⟨hκq, hq0⟩ := HST.out.2.2.2.1 y q (List.mem_of_getElem? hq)
              rcases HST.out.2.1.2 with ⟨_, h0⟩ | ⟨gw, capw, cur, e3, hbw, hgw, hcapw, _, _, hxw⟩
              · rw [h0] at hlt; omega
              · simp only [Value.slice.injEq] at e3
                obtain ⟨rfl, _, rfl⟩ := e3
                obtain ⟨x0, x1⟩ := wayC_at lw i _ hq
                have q0 := grown_cell hkr1 (cells_row hgw hxw x0)
                have q1 := grown_cell hkr1 (cells_row hgw hxw x1)
                dsimp only at q0 q1
                have gcw : (lw.length : Int) ≤ (cw : Int) := by omega
                have HQ := hide1 (And.intro hκq hq0)
                have hsr := hkr1.size
                clear x0 x1 hxw hgw hq hκq hq0
                by_cases hyc : y = c
                · subst hyc
                  go_wp2_with (first | go_quiet (fail))
                  refine wp_goto ?_
                  refine ⟨rfl, ⟨stepM ts fs A y, k + 1, q, M, (k : Int), κ, ω, S, D, runFr_of _ (by kernel_rfl), by omega, by omega, HQ.out.1, ?_, HNX.out HQ.out.2⟩, ?_⟩
                  · exact HKW7.out.keep (gtrans (gtrans hkr.out ((Kept.refl _).alloc _ _)) (drewN_kept _ _))
                  · simp [intOf]
                    omega
                · go_wp2_with (first | go_quiet (fail))
                  go_roundw
                  case rel => exact ⟨i + 1, rfl, rfl, by go_num, HLTN.out, gtrans (gtrans hkr.out ((Kept.refl _).alloc _ _)) (drewN_kept _ _)⟩
                  case measure => have := HLTN.out; simp [intOf]; omega
            · go_wp2_with fail
              rename_i K15 hK15
              have HRr := hide1 (HKW7.out.keep hkr.out)
              have hk15 : ∀ (bt : Nat) (S' : Nat → Prop) (a' : Act) (w' : World), RunFrT nb w.heap.size p bt (.slice (some ⟨cb, ob, none⟩) bs.length capb) (k : Int) (k : Int) a' → RunSt ts fs nb tb fb first w.heap.size M w κ ω S' D w' → w'.rangeAt bt 0 (setL (stepM ts fs A c)) → w'.cell? ⟨cb, ob + k, none⟩ = some (.int .u8 c) → K15 a' w' := by
                intro bt S' a' w9 hfr hR9 hr9 hcb9
                obtain ⟨T9, rfl⟩ := hfr
                refine hK15 _ _ ?_
                clear hK15 K15
                have HR9 := hide1 hR9
                have HR9R := hide1 hr9
                have HBT : Hid (stepM ts fs A c < top) := stepsL_top _ _ _ _
                obtain ⟨B, hB⟩ : ∃ B, stepM ts fs A c = B := ⟨_, rfl⟩
                have HBB := hide1 hB
                have HBP : Hid (PlacesOk B ts.length) := by rw [← hB]; exact HPL.out.step A c
                rw [hB] at HBT HNX HSTOP HR9R
                have hz := set_eql2 HBT.out
                clear hR9 hr9 hB
                by_cases h0 : B = 0
                · have hd : decide (B = 0) = true := by simp [h0]
                  rw [hd] at hz
                  have H0 := hide1 h0
                  clear h0 hd
                  go_wp2_with (refine wpList_load_mid rfl 98 _ rfl bt 0 rfl (setL B) _ HR9R.out Tryz.underlying98 rfl (setL_size B) ?_)
                  simp only [Exit.jump]
                  go_ret2
                  refine ⟨?_, HR9.out.kept⟩
                  rw [HSTOP.out H0.out]
                  rfl
                · have hd : decide (B = 0) = false := by simp [h0]
                  rw [hd] at hz
                  have H0 := hide1 h0
                  clear h0 hd
                  go_wp2_with (first
                    | (refine wpList_load_mid rfl 98 _ rfl bt 0 rfl (setL B) _ HR9R.out Tryz.underlying98 rfl (setL_size B) ?_)
                    | (go_at_call 64; refine (stopOf_is B w.heap.size M D _ HR9.out.map (by omega)).mono ?_; rintro e w8 hv; obtain ⟨q, κ', D', rfl, hR8, hκq, hκ⟩ := HR9.out.stopOf HF.out HBT.out HBP.out hv.out; have HR8 := hide1 hR8; have HKQ := hide1 hκq; have HKK := hide1 hκ; clear hv hR8 hκq hκ))
                  have cb8 := but_cell HR8.out.kept HC0.out.1 HC0.out.2
                  obtain ⟨_, _, hωp, _, _, vw2, l2, hs2⟩ := HR8.out.stops p A (HKK.out p A HP.out)
                  obtain ⟨_, hcw2, hfw2⟩ := stop_range hs2
                  have HS2 := hide1 hs2
                  have HPO : Hid (some p ≠ vw2.ownBlock) := fun e => by have := hs2.2.2.2.2 p e.symm; rw [hωp] at this; cases this
                  have HOB : Hid (∀ d, vw2.ownBlock = some d → w.heap.size ≤ d) := fun d hd => (hs2.2.1.lt d hd).1
                  have hp8 := HR8.out.lt (HKK.out p A HP.out)
                  have gl2 : (l2.length : Int) ≤ 1000000 := by have := hs2.2.2.1; omega
                  have hsz8 := HR8.out.kept.2.2.2.1
                  obtain ⟨aw2, cw2, hvw2⟩ : ∃ a c, vw2 = .slice a l2.length c := by
                    rcases hs2.2.1.2 with ⟨rfl, h0⟩ | ⟨g, cap, cur, rfl, _⟩
                    · exact ⟨none, 0, by rw [h0]⟩
                    · exact ⟨_, _, rfl⟩
                  subst hvw2
                  have hcb8l : cb < w8.heap.size := by omega
                  clear hs2 hωp
                  go_region_law (refine step_way rfl _ _ rfl _ w.heap.size _ l2 l2.length rfl (by rfl) (owns_kept HS2.out.2.1 (fun d hd => heap_alloc_old w8 _ (HS2.out.2.1.lt d hd).2)) w8.heap.size q c (by rfl) (cell_two0 _ _ _ _) (cell_two1 _ _ _ _) (by omega) (by show w.heap.size ≤ (w8.alloc _).heap.size; simp; omega) ?_; intro g9 c9 w10 ho9 hg9 hl9; have HO9 := hide1 ho9; have HG9 := hide1 hg9; have HL9 := hide1 hl9; have kb := way_cell hg9 cb8 (fun e => by have := HOB.out _ e.symm; omega); have kp := way_cell hg9 hcw2 HPO.out; have kf := way_frozen hg9 hp8 hfw2 HPO.out; have kl : p < w10.heap.size := (World.block_lt_of_cell? w10 _ kp); clear ho9 hg9 hl9)
                  all_goals
                    go_wp2_with fail
                    refine wp_goto ?_
                    refine ⟨rfl, ⟨B, k + 1, q, M + 1 + 1, (k : Int), κ', (fun d => if d = g9 then some p else ω d), S', D', runFr_of _ (by kernel_rfl), by omega, by omega, HKQ.out, ?_, HNX.out H0.out⟩, ?_⟩
                    · exact HR8.out.way HF.out (HKK.out p A HP.out) HS2.out (gtrans ((Kept.refl _).alloc _ _) (drew_kept _)) HG9.out HO9.out HL9.out (by rw [HBB.out]; exact HKQ.out) (by rw [HBB.out]; exact H0.out)
                    · simp [intOf]
                      omega
              have HRGr := hide1 (range_keep HRG.out hkr1)
              have hrg := HRGr.out
              have hplr : p < wr.heap.size := Nat.lt_of_lt_of_le hpl hkr1.size
              have s0 : wr.drew.rangeAt p 0 (setL A) := range_keep hrg (drew_kept _)
              have s0c : wr.drew.cell? ⟨cb, ob + k, none⟩ = some (.int .u8 c) := grown_cell (drew_kept _) cbr
              have s1 : (wr.alloc (.cells Tryz.zeroCells98 98)).drew.rangeAt p 0 (setL A) := range_keep hrg (gtrans ((Kept.refl _).alloc _ _) (drew_kept _))
              have s1c : (wr.alloc (.cells Tryz.zeroCells98 98)).drew.cell? ⟨cb, ob + k, none⟩ = some (.int .u8 c) := grown_cell (gtrans ((Kept.refl _).alloc _ _) (drew_kept _)) cbr
              refine wp_region_noPanic ?_
              refine wp_region_held_drew (S := fun w' => w'.rangeAt p 0 (setL A) ∧ w'.cell? ⟨cb, ob + k, none⟩ = some (.int .u8 c)) (by kernel_rfl) ⟨s0, s0c⟩ (fun hHeld => ?_)
              refine wpAnyH_take (i := 0) (v := .pointer (some ⟨nb, 0, none⟩)) rfl (by kernel_rfl) (by kernel_rfl) (by kernel_rfl) (fun _ _ _ h => h) (Or.inl ⟨by rfl, fun w' hSw => ?_⟩) (by with_reducible assumption) ?_
              · obtain ⟨_, hSw2⟩ := hSw
                go_simp
              try simp only [Act.put, List.setIfInBounds_toArray, List.set_cons_zero, List.set_cons_succ]
              refine wpAnyH_take (i := 1) (v := .pointer (some ⟨p, 0, none⟩)) rfl (by kernel_rfl) (by kernel_rfl) (by kernel_rfl) (fun _ _ _ h => h) (Or.inl ⟨by rfl, fun w' hSw => ?_⟩) (by with_reducible assumption) ?_
              · obtain ⟨_, hSw2⟩ := hSw
                go_simp
              try simp only [Act.put, List.setIfInBounds_toArray, List.set_cons_zero, List.set_cons_succ]
              refine wpAnyH_take (i := 2) (v := .pointer (some ⟨p, 0, none⟩)) rfl (by kernel_rfl) (by kernel_rfl) (by kernel_rfl) (fun _ _ _ h => h) (Or.inl ⟨by rfl, fun w' hSw => ?_⟩) (by with_reducible assumption) ?_
              · obtain ⟨_, hSw2⟩ := hSw
                go_simp
              try simp only [Act.put, List.setIfInBounds_toArray, List.set_cons_zero, List.set_cons_succ]
              refine wpAnyH_take (i := 3) (v := .pointer (some ⟨p, 0, none⟩)) rfl (by kernel_rfl) (by kernel_rfl) (by kernel_rfl) (fun _ _ _ h => h) (Or.inl ⟨by rfl, fun w' hSw => ?_⟩) (by with_reducible assumption) ?_
              · obtain ⟨_, hSw2⟩ := hSw
                go_simp
              try simp only [Act.put, List.setIfInBounds_toArray, List.set_cons_zero, List.set_cons_succ]
              refine wpAnyH_take (i := 4) (v := .agg (setL A).toArray) rfl (by kernel_rfl) (by kernel_rfl) (by kernel_rfl) (fun _ _ _ h => h) (yieldsIf_load_mid (by rfl) 98 _ rfl p 0 rfl (setL A) _ (fun w' h => h.1) Tryz.underlying98 rfl (setL_size A)) (by with_reducible assumption) ?_
              try simp only [Act.put, List.setIfInBounds_toArray, List.set_cons_zero, List.set_cons_succ]
              refine wpAnyH_take (i := 5) (v := .slice (some ⟨cb, ob, none⟩) bs.length capb) rfl (by kernel_rfl) (by kernel_rfl) (by kernel_rfl) (fun _ _ _ h => h) (Or.inl ⟨by rfl, fun w' hSw => ?_⟩) (by with_reducible assumption) ?_
              · obtain ⟨_, hSw2⟩ := hSw
                go_simp
              try simp only [Act.put, List.setIfInBounds_toArray, List.set_cons_zero, List.set_cons_succ]
              refine wpAnyH_take (i := 6) (v := .int .i64 (k : Int)) rfl (by kernel_rfl) (by kernel_rfl) (by kernel_rfl) (fun _ _ _ h => h) (Or.inl ⟨by rfl, fun w' hSw => ?_⟩) (by with_reducible assumption) ?_
              · obtain ⟨_, hSw2⟩ := hSw
                go_simp
              try simp only [Act.put, List.setIfInBounds_toArray, List.set_cons_zero, List.set_cons_succ]
              refine wpAnyH_take (i := 7) (v := .pointer (some ⟨cb, ob + k, none⟩)) rfl (by kernel_rfl) (by kernel_rfl) (by kernel_rfl) (fun _ _ _ h => h) (Or.inl ⟨by rfl, fun w' hSw => ?_⟩) (by with_reducible assumption) ?_
              · obtain ⟨_, hSw2⟩ := hSw
                go_simp
              try simp only [Act.put, List.setIfInBounds_toArray, List.set_cons_zero, List.set_cons_succ]
              refine wpAnyH_take (i := 8) (v := .int .u8 c) rfl (by kernel_rfl) (by kernel_rfl) (by kernel_rfl) (fun _ _ _ h => h) (Or.inl ⟨by rfl, fun w' hSw => ?_⟩) (by with_reducible assumption) ?_
              · obtain ⟨_, hSw2⟩ := hSw
                go_simp
              try simp only [Act.put, List.setIfInBounds_toArray, List.set_cons_zero, List.set_cons_succ]
              refine wpAnyH_ready (rs := [9, 10]) (by kernel_rfl) (by simp) ?_
              refine AllReadyH.cons (i := 9) rfl (fun K hK => ?_) (AllReadyH.cons (i := 10) rfl (fun K hK => ?_) AllReadyH.nil)
              · go_simp
                refine (step_list S nb tb fb first ts fs A c _ (HRr.out.net.keep (drew_kept _)) (HRr.out.tab.keep (drew_kept _)) HF.out.htbt HAP.out).mono ?_
                rintro e w8 ⟨rfl, hn8, hk8⟩
                have kr : w8.rangeAt p 0 (setL A) := range_but s0 hk8 (by have := HF.out.htb; omega)
                have kc : w8.cell? ⟨cb, ob + k, none⟩ = some (.int .u8 c) := but_cell hk8 s0c HC0.out.2
                refine hK.out _ _ ⟨kr, kc⟩ (fun hHeld8 => ?_)
                clear hK K
                try simp only [Act.put, List.setIfInBounds_toArray, List.set_cons_zero, List.set_cons_succ]
                refine wpAnyH_ready (rs := [10]) (by kernel_rfl) (by simp) ?_
                refine AllReadyH.cons (i := 10) rfl (fun K hK => ?_) AllReadyH.nil
                go_simp
                refine hK.out _ _ ⟨range_keep kr ((Kept.refl _).alloc _ _), grown_cell ((Kept.refl _).alloc _ _) kc⟩ (fun hHeld9 => ?_)
                clear hK K
                try simp only [Act.put, List.setIfInBounds_toArray, List.set_cons_zero, List.set_cons_succ]
                refine wpAnyH_ready (rs := [11]) (by kernel_rfl) (by simp) ?_
                refine AllReadyH.cons (i := 11) rfl (fun K hK => ?_) AllReadyH.nil
                rw [if_pos (by rfl)]
                have hth : (w8.alloc (.cells Tryz.zeroCells98 98)).there w8.heap.size 0 (setL (stepM ts fs A c)).toArray.size := by rw [set_size65]; exact zeros_there w8
                refine wp_store_mid 98 _ _ rfl w8.heap.size 0 (setL (stepM ts fs A c)).toArray rfl rfl hth (by rw [List.size_toArray]; exact setL_size _) (all_oneCell_toArray (setL_one _)) ?_
                rw [List.toList_toArray]
                refine hK.out _ _ ⟨range_keep kr (kept_setCells _ _ _), grown_cell (kept_setCells _ _ _) kc⟩ (fun hHeld10 => ?_)
                clear hK K
                try simp only [Act.put, List.setIfInBounds_toArray, List.set_cons_zero, List.set_cons_succ]
                refine wpAnyH_done (by kernel_rfl) (NoPanic.normal ?_) _
                refine hk15 w8.heap.size _ _ _ (runFrT_of _ (by kernel_rfl)) (HRr.out.after HF.out hn8 hk8 _ _) (World.rangeAt_setCells_same _ _ _ _ (by rw [setL_len]; rw [set_size65] at hth; exact hth)) (grown_cell (kept_setCells _ _ _) kc)
              · go_simp
                refine hK.out _ _ ⟨s1, s1c⟩ (fun hHeld8 => ?_)
                clear hK K
                try simp only [Act.put, List.setIfInBounds_toArray, List.set_cons_zero, List.set_cons_succ]
                refine wpAnyH_ready (rs := [9]) (by kernel_rfl) (by simp) ?_
                refine AllReadyH.cons (i := 9) rfl (fun K hK => ?_) AllReadyH.nil
                go_simp
                refine (step_list S nb tb fb first ts fs A c _ (HRr.out.net.keep (gtrans ((Kept.refl _).alloc _ _) (drew_kept _))) (HRr.out.tab.keep (gtrans ((Kept.refl _).alloc _ _) (drew_kept _))) HF.out.htbt HAP.out).mono ?_
                rintro e w8 ⟨rfl, hn8, hk8⟩
                have kr : w8.rangeAt p 0 (setL A) := range_but s1 hk8 (by have := HF.out.htb; omega)
                have kc : w8.cell? ⟨cb, ob + k, none⟩ = some (.int .u8 c) := but_cell hk8 s1c HC0.out.2
                refine hK.out _ _ ⟨kr, kc⟩ (fun hHeld9 => ?_)
                clear hK K
                try simp only [Act.put, List.setIfInBounds_toArray, List.set_cons_zero, List.set_cons_succ]
                refine wpAnyH_ready (rs := [11]) (by kernel_rfl) (by simp) ?_
                refine AllReadyH.cons (i := 11) rfl (fun K hK => ?_) AllReadyH.nil
                rw [if_pos (by rfl)]
                have hsz0 := HRr.out.kept.2.2.2.1
                have hth : w8.there wr.heap.size 0 (setL (stepM ts fs A c)).toArray.size := by rw [set_size65]; exact there_but (zeros_there wr) hk8 (by simp) (by have := HF.out.htb; omega)
                refine wp_store_mid 98 _ _ rfl wr.heap.size 0 (setL (stepM ts fs A c)).toArray rfl rfl hth (by rw [List.size_toArray]; exact setL_size _) (all_oneCell_toArray (setL_one _)) ?_
                rw [List.toList_toArray]
                refine hK.out _ _ ⟨range_but kr (setCells_but _ _ _ _) (by omega), but_cell (setCells_but _ _ _ _) kc (by omega)⟩ (fun hHeld10 => ?_)
                clear hK K
                try simp only [Act.put, List.setIfInBounds_toArray, List.set_cons_zero, List.set_cons_succ]
                refine wpAnyH_done (by kernel_rfl) (NoPanic.normal ?_) _
                refine hk15 wr.heap.size _ _ _ (runFrT_of _ (by kernel_rfl)) (HRr.out.ahead HF.out hn8 hk8 _) (World.rangeAt_setCells_same _ _ _ _ (by rw [setL_len]; rw [set_size65] at hth; exact hth)) (but_cell (setCells_but _ _ _ _) kc (by omega))
    | false =>
      by_cases hend : (k : Int) = (bs.length : Int)
      · have HE : Hid (runM ts fs first bs = (l, (k : Int))) := by
          show _ = _
          have e : bs[k]? = none := List.getElem?_eq_none (by omega)
          unfold runM
          rw [show bs.length + 1 = k + 1 by omega, HG.out, runG, e, HT0.out]
          rfl
        go_wp2_with (first
          | (refine wpList_load_mid rfl 98 _ rfl p 0 rfl (setL A) _ HRG.out Tryz.underlying98 rfl (setL_size A) ?_)
          | (go_at_call 66; refine (has_end A _).mono ?_; rintro e w7 ⟨rfl, hk7⟩; rw [HT0.out]; have HK7 := hide1 hk7; clear hk7))
        simp only [Exit.jump]
        go_ret2
        refine ⟨?_, HR.out.kept.trans (HK7.out.but tb)⟩
        rw [HE.out]
        simp [hend]
      · obtain ⟨c, hc⟩ : ∃ c, bs[k]? = some c := ⟨_, List.getElem?_eq_getElem (by omega)⟩
        have hkl : (k : Int) < (bs.length : Int) := by omega
        have HC := hide1 hc
        obtain ⟨a2, cap2, e2, gcb, _, h4⟩ := HB.out
        simp only [Value.slice.injEq] at e2
        obtain ⟨rfl, _, rfl⟩ := e2
        rcases h4 with h4 | ⟨cb, ob, rfl, hct, h7⟩
        · rw [h4] at hc; simp at hc
        · have cbk := but_cell HR.out.kept (h7 k c hc) hct
          have HC0 := hide1 (And.intro (h7 k c hc) hct)
          have hcbw := World.block_lt_of_cell? w _ (h7 k c hc)
          have gcb2 : (bs.length : Int) ≤ (capb : Int) := by omega
          have HNX : Hid (stepM ts fs A c ≠ 0 → ∀ N, runG ts fs bs (k + 1 + N) (reachM fs first) 0 (-1) = runG ts fs bs N (stepM ts fs A c) (k + 1) l) := fun h0 N => by
            rw [show k + 1 + N = k + (N + 1) by omega, HG.out, runG, HC.out]
            simp only [if_neg h0, HT0.out]
            rfl
          have HSTOP : Hid (stepM ts fs A c = 0 → runM ts fs first bs = (l, (k : Int))) := fun h0 => by
            unfold runM
            rw [show bs.length + 1 = k + ((bs.length - k) + 1) by omega, HG.out, runG, HC.out]
            simp only [if_pos h0, HT0.out]
            rfl
          obtain ⟨aw, cw, hvw⟩ : ∃ a c, vw = .slice a lw.length c := by
            rcases HST.out.2.1.2 with ⟨rfl, h0⟩ | ⟨g, cap, cur, rfl, _⟩
            · exact ⟨none, 0, by rw [h0]⟩
            · exact ⟨_, _, rfl⟩
          subst hvw
          clear hc h7 hct
          go_wp2_with (first
            | (refine wpList_load_mid rfl 98 _ rfl p 0 rfl (setL A) _ HRG.out Tryz.underlying98 rfl (setL_size A) ?_)
            | (go_at_call 66; refine (has_end A _).mono ?_; rintro e w7 ⟨rfl, hk7⟩; rw [HT0.out]; have HK7 := hide1 hk7; have hcw7 := grown_cell hk7 hcw; have hsz7 := hk7.size; clear hk7))
          have HKW7 := hide1 (HR.out.keep HK7.out)
          go_loopw [5, 7, 38] (fun v5 v7 vi wr => ∃ i : Nat, v5 = .int .i64 (k : Int) ∧ v7 = .pointer (some ⟨p, 0, none⟩) ∧ vi = .int .i64 (i : Int) ∧ i ≤ lw.length ∧ Hid (Kept w7 wr)) (fun _ _ vi _ => lw.length - (intOf vi).toNat)
          case atStart => exact ⟨0, rfl, rfl, rfl, Nat.zero_le _, Kept.refl w7⟩
          case round =>
            obtain ⟨i, rfl, rfl, rfl, hi, hkr⟩ := hrel
            have hkr1 := gtrans HK7.out hkr.out
            have cbr := grown_cell hkr1 cbk
            have hcbl := World.block_lt_of_cell? wr _ cbr
            have gk0 : (0 : Int) ≤ (k : Int) := by omega
            have glw : (lw.length : Int) ≤ 1000000 := by have := HST.out.2.2.1; omega
            by_cases hlt : (i : Int) < (lw.length : Int)
            · have HLTN : Hid (i < lw.length) := show i < lw.length by omega
              obtain ⟨⟨y, q⟩, hq⟩ : ∃ x, lw[i]? = some x := ⟨_, List.getElem?_eq_getElem (by omega)⟩
              obtain ⟨hκq, hq0⟩ := HST.out.2.2.2.1 y q (List.mem_of_getElem? hq)
              rcases HST.out.2.1.2 with ⟨_, h0⟩ | ⟨gw, capw, cur, e3, hbw, hgw, hcapw, _, _, hxw⟩
              · rw [h0] at hlt; omega
              · simp only [Value.slice.injEq] at e3
                obtain ⟨rfl, _, rfl⟩ := e3
                obtain ⟨x0, x1⟩ := wayC_at lw i _ hq
                have q0 := grown_cell hkr1 (cells_row hgw hxw x0)
                have q1 := grown_cell hkr1 (cells_row hgw hxw x1)
                dsimp only at q0 q1
                have gcw : (lw.length : Int) ≤ (cw : Int) := by omega
                have HQ := hide1 (And.intro hκq hq0)
                have hsr := hkr1.size
                clear x0 x1 hxw hgw hq hκq hq0
                by_cases hyc : y = c
                · subst hyc
                  go_wp2_with (first | go_quiet (fail))
                  refine wp_goto ?_
                  refine ⟨rfl, ⟨stepM ts fs A y, k + 1, q, M, l, κ, ω, S, D, runFr_of _ (by kernel_rfl), by omega, by omega, HQ.out.1, ?_, HNX.out HQ.out.2⟩, ?_⟩
                  · exact HKW7.out.keep (gtrans (gtrans hkr.out ((Kept.refl _).alloc _ _)) (drewN_kept _ _))
                  · simp [intOf]
                    omega
                · go_wp2_with (first | go_quiet (fail))
                  go_roundw
                  case rel => exact ⟨i + 1, rfl, rfl, by go_num, HLTN.out, gtrans (gtrans hkr.out ((Kept.refl _).alloc _ _)) (drewN_kept _ _)⟩
                  case measure => have := HLTN.out; simp [intOf]; omega
            · go_wp2_with fail
              rename_i K15 hK15
              have HRr := hide1 (HKW7.out.keep hkr.out)
              have hk15 : ∀ (bt : Nat) (S' : Nat → Prop) (a' : Act) (w' : World), RunFrT nb w.heap.size p bt (.slice (some ⟨cb, ob, none⟩) bs.length capb) l (k : Int) a' → RunSt ts fs nb tb fb first w.heap.size M w κ ω S' D w' → w'.rangeAt bt 0 (setL (stepM ts fs A c)) → w'.cell? ⟨cb, ob + k, none⟩ = some (.int .u8 c) → K15 a' w' := by
                intro bt S' a' w9 hfr hR9 hr9 hcb9
                obtain ⟨T9, rfl⟩ := hfr
                refine hK15 _ _ ?_
                clear hK15 K15
                have HR9 := hide1 hR9
                have HR9R := hide1 hr9
                have HBT : Hid (stepM ts fs A c < top) := stepsL_top _ _ _ _
                obtain ⟨B, hB⟩ : ∃ B, stepM ts fs A c = B := ⟨_, rfl⟩
                have HBB := hide1 hB
                have HBP : Hid (PlacesOk B ts.length) := by rw [← hB]; exact HPL.out.step A c
                rw [hB] at HBT HNX HSTOP HR9R
                have hz := set_eql2 HBT.out
                clear hR9 hr9 hB
                by_cases h0 : B = 0
                · have hd : decide (B = 0) = true := by simp [h0]
                  rw [hd] at hz
                  have H0 := hide1 h0
                  clear h0 hd
                  go_wp2_with (refine wpList_load_mid rfl 98 _ rfl bt 0 rfl (setL B) _ HR9R.out Tryz.underlying98 rfl (setL_size B) ?_)
                  simp only [Exit.jump]
                  go_ret2
                  refine ⟨?_, HR9.out.kept⟩
                  rw [HSTOP.out H0.out]
                  rfl
                · have hd : decide (B = 0) = false := by simp [h0]
                  rw [hd] at hz
                  have H0 := hide1 h0
                  clear h0 hd
                  go_wp2_with (first
                    | (refine wpList_load_mid rfl 98 _ rfl bt 0 rfl (setL B) _ HR9R.out Tryz.underlying98 rfl (setL_size B) ?_)
                    | (go_at_call 64; refine (stopOf_is B w.heap.size M D _ HR9.out.map (by omega)).mono ?_; rintro e w8 hv; obtain ⟨q, κ', D', rfl, hR8, hκq, hκ⟩ := HR9.out.stopOf HF.out HBT.out HBP.out hv.out; have HR8 := hide1 hR8; have HKQ := hide1 hκq; have HKK := hide1 hκ; clear hv hR8 hκq hκ))
                  have cb8 := but_cell HR8.out.kept HC0.out.1 HC0.out.2
                  obtain ⟨_, _, hωp, _, _, vw2, l2, hs2⟩ := HR8.out.stops p A (HKK.out p A HP.out)
                  obtain ⟨_, hcw2, hfw2⟩ := stop_range hs2
                  have HS2 := hide1 hs2
                  have HPO : Hid (some p ≠ vw2.ownBlock) := fun e => by have := hs2.2.2.2.2 p e.symm; rw [hωp] at this; cases this
                  have HOB : Hid (∀ d, vw2.ownBlock = some d → w.heap.size ≤ d) := fun d hd => (hs2.2.1.lt d hd).1
                  have hp8 := HR8.out.lt (HKK.out p A HP.out)
                  have gl2 : (l2.length : Int) ≤ 1000000 := by have := hs2.2.2.1; omega
                  have hsz8 := HR8.out.kept.2.2.2.1
                  obtain ⟨aw2, cw2, hvw2⟩ : ∃ a c, vw2 = .slice a l2.length c := by
                    rcases hs2.2.1.2 with ⟨rfl, h0⟩ | ⟨g, cap, cur, rfl, _⟩
                    · exact ⟨none, 0, by rw [h0]⟩
                    · exact ⟨_, _, rfl⟩
                  subst hvw2
                  have hcb8l : cb < w8.heap.size := by omega
                  clear hs2 hωp
                  go_region_law (refine step_way rfl _ _ rfl _ w.heap.size _ l2 l2.length rfl (by rfl) (owns_kept HS2.out.2.1 (fun d hd => heap_alloc_old w8 _ (HS2.out.2.1.lt d hd).2)) w8.heap.size q c (by rfl) (cell_two0 _ _ _ _) (cell_two1 _ _ _ _) (by omega) (by show w.heap.size ≤ (w8.alloc _).heap.size; simp; omega) ?_; intro g9 c9 w10 ho9 hg9 hl9; have HO9 := hide1 ho9; have HG9 := hide1 hg9; have HL9 := hide1 hl9; have kb := way_cell hg9 cb8 (fun e => by have := HOB.out _ e.symm; omega); have kp := way_cell hg9 hcw2 HPO.out; have kf := way_frozen hg9 hp8 hfw2 HPO.out; have kl : p < w10.heap.size := (World.block_lt_of_cell? w10 _ kp); clear ho9 hg9 hl9)
                  all_goals
                    go_wp2_with fail
                    refine wp_goto ?_
                    refine ⟨rfl, ⟨B, k + 1, q, M + 1 + 1, l, κ', (fun d => if d = g9 then some p else ω d), S', D', runFr_of _ (by kernel_rfl), by omega, by omega, HKQ.out, ?_, HNX.out H0.out⟩, ?_⟩
                    · exact HR8.out.way HF.out (HKK.out p A HP.out) HS2.out (gtrans ((Kept.refl _).alloc _ _) (drew_kept _)) HG9.out HO9.out HL9.out (by rw [HBB.out]; exact HKQ.out) (by rw [HBB.out]; exact H0.out)
                    · simp [intOf]
                      omega
              have HRGr := hide1 (range_keep HRG.out hkr1)
              have hrg := HRGr.out
              have hplr : p < wr.heap.size := Nat.lt_of_lt_of_le hpl hkr1.size
              have s0 : wr.drew.rangeAt p 0 (setL A) := range_keep hrg (drew_kept _)
              have s0c : wr.drew.cell? ⟨cb, ob + k, none⟩ = some (.int .u8 c) := grown_cell (drew_kept _) cbr
              have s1 : (wr.alloc (.cells Tryz.zeroCells98 98)).drew.rangeAt p 0 (setL A) := range_keep hrg (gtrans ((Kept.refl _).alloc _ _) (drew_kept _))
              have s1c : (wr.alloc (.cells Tryz.zeroCells98 98)).drew.cell? ⟨cb, ob + k, none⟩ = some (.int .u8 c) := grown_cell (gtrans ((Kept.refl _).alloc _ _) (drew_kept _)) cbr
              refine wp_region_noPanic ?_
              refine wp_region_held_drew (S := fun w' => w'.rangeAt p 0 (setL A) ∧ w'.cell? ⟨cb, ob + k, none⟩ = some (.int .u8 c)) (by kernel_rfl) ⟨s0, s0c⟩ (fun hHeld => ?_)
              refine wpAnyH_take (i := 0) (v := .pointer (some ⟨nb, 0, none⟩)) rfl (by kernel_rfl) (by kernel_rfl) (by kernel_rfl) (fun _ _ _ h => h) (Or.inl ⟨by rfl, fun w' hSw => ?_⟩) (by with_reducible assumption) ?_
              · obtain ⟨_, hSw2⟩ := hSw
                go_simp
              try simp only [Act.put, List.setIfInBounds_toArray, List.set_cons_zero, List.set_cons_succ]
              refine wpAnyH_take (i := 1) (v := .pointer (some ⟨p, 0, none⟩)) rfl (by kernel_rfl) (by kernel_rfl) (by kernel_rfl) (fun _ _ _ h => h) (Or.inl ⟨by rfl, fun w' hSw => ?_⟩) (by with_reducible assumption) ?_
              · obtain ⟨_, hSw2⟩ := hSw
                go_simp
              try simp only [Act.put, List.setIfInBounds_toArray, List.set_cons_zero, List.set_cons_succ]
              refine wpAnyH_take (i := 2) (v := .pointer (some ⟨p, 0, none⟩)) rfl (by kernel_rfl) (by kernel_rfl) (by kernel_rfl) (fun _ _ _ h => h) (Or.inl ⟨by rfl, fun w' hSw => ?_⟩) (by with_reducible assumption) ?_
              · obtain ⟨_, hSw2⟩ := hSw
                go_simp
              try simp only [Act.put, List.setIfInBounds_toArray, List.set_cons_zero, List.set_cons_succ]
              refine wpAnyH_take (i := 3) (v := .pointer (some ⟨p, 0, none⟩)) rfl (by kernel_rfl) (by kernel_rfl) (by kernel_rfl) (fun _ _ _ h => h) (Or.inl ⟨by rfl, fun w' hSw => ?_⟩) (by with_reducible assumption) ?_
              · obtain ⟨_, hSw2⟩ := hSw
                go_simp
              try simp only [Act.put, List.setIfInBounds_toArray, List.set_cons_zero, List.set_cons_succ]
              refine wpAnyH_take (i := 4) (v := .agg (setL A).toArray) rfl (by kernel_rfl) (by kernel_rfl) (by kernel_rfl) (fun _ _ _ h => h) (yieldsIf_load_mid (by rfl) 98 _ rfl p 0 rfl (setL A) _ (fun w' h => h.1) Tryz.underlying98 rfl (setL_size A)) (by with_reducible assumption) ?_
              try simp only [Act.put, List.setIfInBounds_toArray, List.set_cons_zero, List.set_cons_succ]
              refine wpAnyH_take (i := 5) (v := .slice (some ⟨cb, ob, none⟩) bs.length capb) rfl (by kernel_rfl) (by kernel_rfl) (by kernel_rfl) (fun _ _ _ h => h) (Or.inl ⟨by rfl, fun w' hSw => ?_⟩) (by with_reducible assumption) ?_
              · obtain ⟨_, hSw2⟩ := hSw
                go_simp
              try simp only [Act.put, List.setIfInBounds_toArray, List.set_cons_zero, List.set_cons_succ]
              refine wpAnyH_take (i := 6) (v := .int .i64 (k : Int)) rfl (by kernel_rfl) (by kernel_rfl) (by kernel_rfl) (fun _ _ _ h => h) (Or.inl ⟨by rfl, fun w' hSw => ?_⟩) (by with_reducible assumption) ?_
              · obtain ⟨_, hSw2⟩ := hSw
                go_simp
              try simp only [Act.put, List.setIfInBounds_toArray, List.set_cons_zero, List.set_cons_succ]
              refine wpAnyH_take (i := 7) (v := .pointer (some ⟨cb, ob + k, none⟩)) rfl (by kernel_rfl) (by kernel_rfl) (by kernel_rfl) (fun _ _ _ h => h) (Or.inl ⟨by rfl, fun w' hSw => ?_⟩) (by with_reducible assumption) ?_
              · obtain ⟨_, hSw2⟩ := hSw
                go_simp
              try simp only [Act.put, List.setIfInBounds_toArray, List.set_cons_zero, List.set_cons_succ]
              refine wpAnyH_take (i := 8) (v := .int .u8 c) rfl (by kernel_rfl) (by kernel_rfl) (by kernel_rfl) (fun _ _ _ h => h) (Or.inl ⟨by rfl, fun w' hSw => ?_⟩) (by with_reducible assumption) ?_
              · obtain ⟨_, hSw2⟩ := hSw
                go_simp
              try simp only [Act.put, List.setIfInBounds_toArray, List.set_cons_zero, List.set_cons_succ]
              refine wpAnyH_ready (rs := [9, 10]) (by kernel_rfl) (by simp) ?_
              refine AllReadyH.cons (i := 9) rfl (fun K hK => ?_) (AllReadyH.cons (i := 10) rfl (fun K hK => ?_) AllReadyH.nil)
              · go_simp
                refine (step_list S nb tb fb first ts fs A c _ (HRr.out.net.keep (drew_kept _)) (HRr.out.tab.keep (drew_kept _)) HF.out.htbt HAP.out).mono ?_
                rintro e w8 ⟨rfl, hn8, hk8⟩
                have kr : w8.rangeAt p 0 (setL A) := range_but s0 hk8 (by have := HF.out.htb; omega)
                have kc : w8.cell? ⟨cb, ob + k, none⟩ = some (.int .u8 c) := but_cell hk8 s0c HC0.out.2
                refine hK.out _ _ ⟨kr, kc⟩ (fun hHeld8 => ?_)
                clear hK K
                try simp only [Act.put, List.setIfInBounds_toArray, List.set_cons_zero, List.set_cons_succ]
                refine wpAnyH_ready (rs := [10]) (by kernel_rfl) (by simp) ?_
                refine AllReadyH.cons (i := 10) rfl (fun K hK => ?_) AllReadyH.nil
                go_simp
                refine hK.out _ _ ⟨range_keep kr ((Kept.refl _).alloc _ _), grown_cell ((Kept.refl _).alloc _ _) kc⟩ (fun hHeld9 => ?_)
                clear hK K
                try simp only [Act.put, List.setIfInBounds_toArray, List.set_cons_zero, List.set_cons_succ]
                refine wpAnyH_ready (rs := [11]) (by kernel_rfl) (by simp) ?_
                refine AllReadyH.cons (i := 11) rfl (fun K hK => ?_) AllReadyH.nil
                rw [if_pos (by rfl)]
                have hth : (w8.alloc (.cells Tryz.zeroCells98 98)).there w8.heap.size 0 (setL (stepM ts fs A c)).toArray.size := by rw [set_size65]; exact zeros_there w8
                refine wp_store_mid 98 _ _ rfl w8.heap.size 0 (setL (stepM ts fs A c)).toArray rfl rfl hth (by rw [List.size_toArray]; exact setL_size _) (all_oneCell_toArray (setL_one _)) ?_
                rw [List.toList_toArray]
                refine hK.out _ _ ⟨range_keep kr (kept_setCells _ _ _), grown_cell (kept_setCells _ _ _) kc⟩ (fun hHeld10 => ?_)
                clear hK K
                try simp only [Act.put, List.setIfInBounds_toArray, List.set_cons_zero, List.set_cons_succ]
                refine wpAnyH_done (by kernel_rfl) (NoPanic.normal ?_) _
                refine hk15 w8.heap.size _ _ _ (runFrT_of _ (by kernel_rfl)) (HRr.out.after HF.out hn8 hk8 _ _) (World.rangeAt_setCells_same _ _ _ _ (by rw [setL_len]; rw [set_size65] at hth; exact hth)) (grown_cell (kept_setCells _ _ _) kc)
              · go_simp
                refine hK.out _ _ ⟨s1, s1c⟩ (fun hHeld8 => ?_)
                clear hK K
                try simp only [Act.put, List.setIfInBounds_toArray, List.set_cons_zero, List.set_cons_succ]
                refine wpAnyH_ready (rs := [9]) (by kernel_rfl) (by simp) ?_
                refine AllReadyH.cons (i := 9) rfl (fun K hK => ?_) AllReadyH.nil
                go_simp
                refine (step_list S nb tb fb first ts fs A c _ (HRr.out.net.keep (gtrans ((Kept.refl _).alloc _ _) (drew_kept _))) (HRr.out.tab.keep (gtrans ((Kept.refl _).alloc _ _) (drew_kept _))) HF.out.htbt HAP.out).mono ?_
                rintro e w8 ⟨rfl, hn8, hk8⟩
                have kr : w8.rangeAt p 0 (setL A) := range_but s1 hk8 (by have := HF.out.htb; omega)
                have kc : w8.cell? ⟨cb, ob + k, none⟩ = some (.int .u8 c) := but_cell hk8 s1c HC0.out.2
                refine hK.out _ _ ⟨kr, kc⟩ (fun hHeld9 => ?_)
                clear hK K
                try simp only [Act.put, List.setIfInBounds_toArray, List.set_cons_zero, List.set_cons_succ]
                refine wpAnyH_ready (rs := [11]) (by kernel_rfl) (by simp) ?_
                refine AllReadyH.cons (i := 11) rfl (fun K hK => ?_) AllReadyH.nil
                rw [if_pos (by rfl)]
                have hsz0 := HRr.out.kept.2.2.2.1
                have hth : w8.there wr.heap.size 0 (setL (stepM ts fs A c)).toArray.size := by rw [set_size65]; exact there_but (zeros_there wr) hk8 (by simp) (by have := HF.out.htb; omega)
                refine wp_store_mid 98 _ _ rfl wr.heap.size 0 (setL (stepM ts fs A c)).toArray rfl rfl hth (by rw [List.size_toArray]; exact setL_size _) (all_oneCell_toArray (setL_one _)) ?_
                rw [List.toList_toArray]
                refine hK.out _ _ ⟨range_but kr (setCells_but _ _ _ _) (by omega), but_cell (setCells_but _ _ _ _) kc (by omega)⟩ (fun hHeld10 => ?_)
                clear hK K
                try simp only [Act.put, List.setIfInBounds_toArray, List.set_cons_zero, List.set_cons_succ]
                refine wpAnyH_done (by kernel_rfl) (NoPanic.normal ?_) _
                refine hk15 wr.heap.size _ _ _ (runFrT_of _ (by kernel_rfl)) (HRr.out.ahead HF.out hn8 hk8 _) (World.rangeAt_setCells_same _ _ _ _ (by rw [setL_len]; rw [set_size65] at hth; exact hth)) (but_cell (setCells_but _ _ _ _) kc (by omega))
  · intro hrest
    go_wp2_with (first
      | (go_at_call 65; refine (reach_is nb fs first _ (HN.out.forks.at.keep HKM.out) HN.out.ok.1 HFST.out).mono ?_; rintro e w7 ⟨rfl, hk7⟩; have HK7 := hide1 hk7; clear hk7)
      | (go_at_call 64; refine (stopOf_is (reachM fs first) w.heap.size 0 (.map []) _ (MapAt.keep (World.ownsMap_made w Tryz.prog 98 ptrR) HK7.out) (by omega)).mono ?_; rintro e w8 hv; rcases hv.out with ⟨b, rfl, hat, hk8⟩ | ⟨q, D', rfl, hq, hs8, hD, hm8, hk8⟩))
    · have e2 : (DataW.map [] : DataW Unit).atKey (keyL (reachM fs first)) noStop = noStop := rfl
      rw [e2] at hat
      unfold noStop at hat
      simp only [DataW.lit.injEq, Lit.int.injEq, true_and] at hat
      omega
    · go_step3
      have hkw := gtrans HKM.out HK7.out
      have ha := HN.out.apart
      have R0 : RunSt ts fs nb tb fb first w.heap.size 0 w (fun _ => none) (fun _ => none) S0 (.map []) w7 := by
        refine ⟨HN.out.keep hkw, hkw.but tb, HT.out.keep hkw, ⟨Nat.le_refl _, fun e => Nat.lt_irrefl _ (ha.2.2 _ e), rfl, rfl⟩, MapAt.keep (World.ownsMap_made w Tryz.prog 98 ptrR) HK7.out, isMap_empty, fun A b _ he => ?_, fun p A hp => (by cases hp), fun g p hg => (by cases hg)⟩
        have e2 : (DataW.map [] : DataW Unit).atKey (keyL A) noStop = noStop := rfl
        rw [e2] at he
        unfold noStop at he
        simp only [DataW.lit.injEq, Lit.int.injEq, true_and] at he
        exact .inl he.symm
      have R1 := R0.made HF.out hq hs8 hD hm8 hk8 (reachM_top fs first) HPL.out.1
      rename_i Kn hKn
      refine hKn _ _ (hrest _ _ ⟨reachM fs first, 0, q, 1, -1, _, _, _, _, runFr_of _ (by kernel_rfl), Nat.zero_le _, by omega, ?_, R1, fun N => by rw [Nat.zero_add]⟩)
      exact if_pos rfl

end Ex
end Go.Proofs.YtfajoknacfjedaaGreatDoor
