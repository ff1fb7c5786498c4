import Derived.Test.YthcllhoboiglcaaDoorMExSu3
import Derived.Test.YthcllhoboiglcaaDoorMExFt1
import Derived.Test.YthcllhoboiglcaaDoorMExRn1
import Derived.Deep.RegionWith
namespace Go.Proofs.YthcllhoboiglcaaDoor
open Go.RowKit
attribute [local go_sem] Oper.semAt_some
namespace Ex

set_option linter.unusedSimpArgs false in
set_option maxRecDepth 100000 in
set_option maxHeartbeats 16000000 in
theorem lawU_is (k : Nat) (p q : PatN (k + 1)) (vp vq vb : Value) (mn more : Int) (bs0 : List Int) (w : World) (hp : KidsAt (fun b => b < w.heap.size) w k (kids p) vp) (hq : KidsAt (fun b => b < w.heap.size) w k (kids q) vq) (hb : BytesArg w vb bs0) (hT : TabAt w) :
    Calls Tryd.prog 3 #[valOf p vp, valOf q vq, .int .i64 mn, .int .i64 more, vb] w fun e w' => e = .returned (.bool true) ∧ Kept w w' := by
  have HKP := hide1 hp
  have HKQ := hide1 hq
  have HT := hide1 hT
  obtain ⟨a0, c0, rfl⟩ := hp.form
  obtain ⟨a1, c1, rfl⟩ := hq.form
  obtain ⟨a, cap, e1, hl1, hl2, hB0, hb0⟩ := hb
  subst e1
  obtain ⟨n0, hn0⟩ : ∃ n0, bs0.length = n0 := ⟨_, rfl⟩
  rw [hn0] at hl1 hl2 ⊢
  have gl : (n0 : Int) ≤ 200000000000000 := by omega
  have gc : (n0 : Int) ≤ (cap : Int) := by omega
  obtain ⟨n, bs, HN, hn40, HB, HCAP, hnn⟩ : ∃ (n : Nat) (bs : List Int), Hid (bs.length = n) ∧ n ≤ 40 ∧ Hid (BytesIn (fun d => d < w.heap.size) w (.slice a n cap) bs) ∧ n ≤ cap ∧ n = min n0 40 := by
    refine ⟨min n0 40, bs0.take (min n0 40), (show _ = _ by rw [List.length_take]; omega), by omega, ⟨a, cap, by rw [List.length_take, hn0]; congr 1; omega, by rw [List.length_take]; omega, by rw [List.length_take]; omega, ?_⟩, by omega, rfl⟩
    rcases hb0 with h0 | ⟨c, o, h4, h5, h6⟩
    · left; rw [h0]; simp
    · refine .inr ⟨c, o, h4, h5, fun i x hi => h6 i x ?_⟩
      rw [List.getElem?_take] at hi
      split at hi
      · exact hi
      · cases hi
  rw [valOf_eq, valOf_eq]
  clear hp hq hT hb0 hB0 hn0 hl1 hl2
  go_enter Tryd.func3, Tryd.ntmps3
  have HKW := hide1 (((Kept.refl w).alloc #[.int .i64 (kind p), .int .i64 (from_ p), .int .i64 (to_ p), .int .i64 (min_ p), .int .i64 (max_ p), .slice a0 (kids p).length c0] 24).alloc #[.int .i64 (kind q), .int .i64 (from_ q), .int .i64 (to_ q), .int .i64 (min_ q), .int .i64 (max_ q), .slice a1 (kids q).length c1] 24)
  have HBP := hide1 ((BoxAt.new w (.int .i64 (kind p)) (.int .i64 (from_ p)) (.int .i64 (to_ p)) (.int .i64 (min_ p)) (.int .i64 (max_ p)) (.slice a0 (kids p).length c0)).keep ((Kept.refl _).alloc #[.int .i64 (kind q), .int .i64 (from_ q), .int .i64 (to_ q), .int .i64 (min_ q), .int .i64 (max_ q), .slice a1 (kids q).length c1] 24))
  have HBQ := hide1 (two_new w (.cells #[.int .i64 (kind p), .int .i64 (from_ p), .int .i64 (to_ p), .int .i64 (min_ p), .int .i64 (max_ p), .slice a0 (kids p).length c0] 24) (.int .i64 (kind q)) (.int .i64 (from_ q)) (.int .i64 (to_ q)) (.int .i64 (min_ q)) (.int .i64 (max_ q)) (.slice a1 (kids q).length c1))
  go_upto_if 28 with fail
  generalize hW : (w.alloc (.cells #[.int .i64 (kind p), .int .i64 (from_ p), .int .i64 (to_ p), .int .i64 (min_ p), .int .i64 (max_ p), .slice a0 (kids p).length c0] 24)).alloc (.cells #[.int .i64 (kind q), .int .i64 (from_ q), .int .i64 (to_ q), .int .i64 (min_ q), .int .i64 (max_ q), .slice a1 (kids q).length c1] 24) = W at HKW HBP HBQ ⊢
  obtain ⟨g, hg⟩ : ∃ g, w.heap.size = g := ⟨_, rfl⟩
  obtain ⟨g', hg'⟩ : ∃ g', g + 1 = g' := ⟨_, rfl⟩
  rw [hg] at HBP HBQ ⊢
  rw [hg'] at HBQ ⊢
  clear hW hg hg'
  go_cut [4] from 26 to 30 (fun c wx => c = .slice a n cap ∧ wx = W)
  case first =>
    by_cases h40 : (40 : Int) < (n0 : Int)
    · have e : n = 40 := by omega
      have gcap : (40 : Int) ≤ (cap : Int) := by omega
      clear hnn hn40 HCAP
      subst e
      go_wp2_with fail
      go_meet
      exact ⟨rfl, rfl⟩
    · have e : n = n0 := by omega
      clear hnn hn40 HCAP
      subst e
      go_wp2_with fail
      go_meet
      exact ⟨rfl, rfl⟩
  case rest =>
    obtain ⟨rfl, hw⟩ := hcut
    have hw := hw.symm
    subst hw
    have gn : (n : Int) ≤ 40 := by omega
    have gcn : (n : Int) ≤ (cap : Int) := by omega
    clear hnn gl gc
    obtain ⟨cp, hcp⟩ : ∃ x, checkP p = x := ⟨_, rfl⟩
    obtain ⟨cq, hcq⟩ : ∃ x, checkP q = x := ⟨_, rfl⟩
    have HCP := hide1 hcp
    have HCQ := hide1 hcq
    clear hcp hcq
    obtain ⟨⟨t0, t1, t2, t3, t4, t5⟩, _⟩ := HBP.out.facts
    by_cases hp0 : cp = 0
    · subst hp0
      by_cases hq0 : cq = 0
      rotate_left
      · have ec : (cq != 0) = true := by simpa using hq0
        clear hq0
        go_wp2_with (first
          | (go_at_call 6; refine (known_is _ (HT.out.keep (gtrans HKW.out HK9.out))).mono ?_; rintro e w10 ⟨rfl, hk10⟩; have HK10 := hide1 (gtrans HKW.out (gtrans HK9.out hk10)); clear hk10)
          | (go_at_call 4; have _g := S2; clear _g; refine (Check_is (fun d => d < _) k q _ _ (KidsAt.all HQ8.out) (fun _ h => h)).mono ?_; rintro e w9 ⟨rfl, hk9⟩; rw [HCQ.out]; have HK9 := hide1 (gtrans HK8.out hk9); clear hk9)
          | (go_at_call 5; have _g := S1; clear _g; refine (TwinExpr_is (fun d => d < w.heap.size) k q _ _ (HKQ.out.kept (gtrans HKW.out HK7.out))).mono ?_; rintro e w8 ⟨h8, hk8⟩; obtain ⟨v8, rfl, hq8, hm8⟩ := h8.out; rw [valOf_eq]; obtain ⟨a8, c8, e8⟩ := hq8.form; subst e8; have HQ8 := hide1 hq8; have HK8 := hide1 (gtrans HK7.out hk8); have S2 := trivial; clear h8 hq8 hm8 hk8)
          | (go_at_call 4; refine (Check_is (fun d => d < _) k p _ _ (KidsAt.all HQ6.out) (fun _ h => h)).mono ?_; rintro e w7 ⟨rfl, hk7⟩; rw [HCP.out]; have HK7 := hide1 (gtrans HK6.out hk7); have S1 := trivial; obtain ⟨⟨t0, t1, t2, t3, t4, t5⟩, _⟩ := (HBQ.out.keep HK7.out).facts; clear hk7)
          | (go_at_call 5; refine (TwinExpr_is (fun d => d < w.heap.size) k p _ _ (HKP.out.kept HKW.out)).mono ?_; rintro e w6 ⟨h6, hk6⟩; obtain ⟨v6, rfl, hq6, hm6⟩ := h6.out; rw [valOf_eq]; obtain ⟨a6, c6, e6⟩ := hq6.form; subst e6; have HQ6 := hide1 hq6; have HK6 := hide1 hk6; clear h6 hq6 hm6 hk6))
        go_ret
        exact ⟨rfl, HK10.out⟩
      subst hq0
      go_upto_region 5 with (first
        | (go_at_call 4; have _g := S2; clear _g; refine (Check_is (fun d => d < _) k q _ _ (KidsAt.all HQ8.out) (fun _ h => h)).mono ?_; rintro e w9 ⟨rfl, hk9⟩; rw [HCQ.out]; have HK9 := hide1 (gtrans HK8.out hk9); clear hk9)
        | (go_at_call 5; have _g := S1; clear _g; refine (TwinExpr_is (fun d => d < w.heap.size) k q _ _ (HKQ.out.kept (gtrans HKW.out HK7.out))).mono ?_; rintro e w8 ⟨h8, hk8⟩; obtain ⟨v8, rfl, hq8, hm8⟩ := h8.out; rw [valOf_eq]; obtain ⟨a8, c8, e8⟩ := hq8.form; subst e8; have HQ8 := hide1 hq8; have HK8 := hide1 (gtrans HK7.out hk8); have S2 := trivial; clear h8 hq8 hm8 hk8)
        | (go_at_call 4; refine (Check_is (fun d => d < _) k p _ _ (KidsAt.all HQ6.out) (fun _ h => h)).mono ?_; rintro e w7 ⟨rfl, hk7⟩; rw [HCP.out]; have HK7 := hide1 (gtrans HK6.out hk7); have S1 := trivial; obtain ⟨⟨t0, t1, t2, t3, t4, t5⟩, _⟩ := (HBQ.out.keep HK7.out).facts; clear hk7)
        | (go_at_call 5; refine (TwinExpr_is (fun d => d < w.heap.size) k p _ _ (HKP.out.kept HKW.out)).mono ?_; rintro e w6 ⟨h6, hk6⟩; obtain ⟨v6, rfl, hq6, hm6⟩ := h6.out; rw [valOf_eq]; obtain ⟨a6, c6, e6⟩ := hq6.form; subst e6; have HQ6 := hide1 hq6; have HK6 := hide1 hk6; clear h6 hq6 hm6 hk6))
      clear t0 t1 t2 t3 t4 t5
      have HKR := hide1 (gtrans HKW.out HK9.out)
      have HBP9 := hide1 (HBP.out.keep HK9.out)
      have HBQ9 := hide1 (HBQ.out.keep HK9.out)
      have HT9 := hide1 (HT.out.keep HKR.out)
      clear HQ6 HQ8 HK6 HK7 HK8 HK9 HBP HBQ HKW
      go_cut [11] from 42 to 47 (fun c wy => ∃ w1, w1 = wy ∧ Hid (TwoG p q 3 w9 c w1))
      case first =>
        refine wp_region_held_drew (S := fun w' => BoxAt w' g (.int .i64 (kind p)) (.int .i64 (from_ p)) (.int .i64 (to_ p)) (.int .i64 (min_ p)) (.int .i64 (max_ p)) (.slice a0 (kids p).length c0) ∧ BoxAt w' g' (.int .i64 (kind q)) (.int .i64 (from_ q)) (.int .i64 (to_ q)) (.int .i64 (min_ q)) (.int .i64 (max_ q)) (.slice a1 (kids q).length c1)) (by kernel_rfl) ⟨HBP9.out, HBQ9.out⟩ (fun hHeld => ?_)
        refine wpAnyH_take (i := 0) (v := .agg #[.int .i64 (kind p), .int .i64 (from_ p), .int .i64 (to_ p), .int .i64 (min_ p), .int .i64 (max_ p), .slice a0 (kids p).length c0]) rfl (by kernel_rfl) (by kernel_rfl) (by kernel_rfl) (fun _ _ _ h => h) (Or.inl ⟨by rfl, fun w' hSw => ?_⟩) (by with_reducible assumption) ?_
        · obtain ⟨⟨t0, t1, t2, t3, t4, t5⟩, _⟩ := hSw.1.facts
          go_simp
        try simp only [Act.put, List.setIfInBounds_toArray, List.set_cons_zero, List.set_cons_succ]
        refine wpAnyH_take (i := 2) (v := .agg #[.int .i64 (kind q), .int .i64 (from_ q), .int .i64 (to_ q), .int .i64 (min_ q), .int .i64 (max_ q), .slice a1 (kids q).length c1]) rfl (by kernel_rfl) (by kernel_rfl) (by kernel_rfl) (fun _ _ _ h => h) (Or.inl ⟨by rfl, fun w' hSw => ?_⟩) (by with_reducible assumption) ?_
        · obtain ⟨⟨t0, t1, t2, t3, t4, t5⟩, _⟩ := hSw.2.facts
          go_simp
        try simp only [Act.put, List.setIfInBounds_toArray, List.set_cons_zero, List.set_cons_succ]
        obtain ⟨V0, hV0⟩ : ∃ V0, w9.drew = V0 := ⟨_, rfl⟩
        have HV0 : Hid (Kept w9 V0) := by rw [← hV0]; exact drew_kept _
        rw [hV0] at hHeld ⊢
        clear hV0
        refine wpAnyH_ready (rs := [1, 6]) (by kernel_rfl) (by simp) ?_
        refine AllReadyH.cons (i := 1) rfl (fun K hK => ?_) (AllReadyH.cons (i := 6) rfl (fun K hK => ?_) AllReadyH.nil)
        · go_simp
          go_wp2_with (go_at_call 5; refine (TwinExpr_is (fun d => d < w.heap.size) k p _ V0 (HKP.out.kept (gtrans HKR.out HV0.out))).mono ?_; rintro e V1 ⟨h10, hk10⟩; obtain ⟨v10, rfl, hq10, hm10⟩ := h10.out; rw [valOf_eq]; obtain ⟨e1, f1, e10⟩ := hq10.form; subst e10; have HO := hide1 hq10; have KK := hide1 hk10; clear h10 hq10 hm10 hk10)
          refine hK.out _ _ ⟨hHeld.1.keep KK.out, hHeld.2.keep KK.out⟩ (fun hHeld2 => ?_)
          clear hK K hHeld
          have hHeld := hHeld2
          clear hHeld2
          try simp only [Act.put, List.setIfInBounds_toArray, List.set_cons_zero, List.set_cons_succ]
          have HV1 : Hid (Kept w9 V1) := gtrans HV0.out KK.out
          have HPV1 : Hid (OutB none V1 k (kids p) (.slice e1 (kids p).length f1)) := OutB.call HO.out (fun g e => by cases e)
          clear HO KK HV0
          refine wpAnyH_ready (rs := [3, 6]) (by kernel_rfl) (by simp) ?_
          refine AllReadyH.cons (i := 3) rfl (fun K hK => ?_) (AllReadyH.cons (i := 6) rfl (fun K hK => ?_) AllReadyH.nil)
          · go_simp
            go_wp2_with (go_at_call 5; refine (TwinExpr_is (fun d => d < w.heap.size) k q _ V1 (HKQ.out.kept (gtrans HKR.out HV1.out))).mono ?_; rintro e V2 ⟨h10, hk10⟩; obtain ⟨v10, rfl, hq10, hm10⟩ := h10.out; rw [valOf_eq]; obtain ⟨e2, f2, e10⟩ := hq10.form; subst e10; have HO := hide1 hq10; have KK := hide1 hk10; clear h10 hq10 hm10 hk10)
            refine hK.out _ _ ⟨hHeld.1.keep KK.out, hHeld.2.keep KK.out⟩ (fun hHeld2 => ?_)
            clear hK K hHeld
            have hHeld := hHeld2
            clear hHeld2
            try simp only [Act.put, List.setIfInBounds_toArray, List.set_cons_zero, List.set_cons_succ]
            have HV2 : Hid (Kept w9 V2) := gtrans HV1.out KK.out
            have HQV2 : Hid (OutB none V2 k (kids q) (.slice e2 (kids q).length f2)) := OutB.call HO.out (fun g e => by cases e)
            have HPV2 := hide1 (HPV1.out.keep KK.out)
            clear HO KK HV1 HPV1
            refine wpAnyH_ready (rs := [4, 6]) (by kernel_rfl) (by simp) ?_
            refine AllReadyH.cons (i := 4) rfl (fun K hK => ?_) (AllReadyH.cons (i := 6) rfl (fun K hK => ?_) AllReadyH.nil)
            · go_simp
              have KK := hide1 ((Kept.refl V2).alloc #[.int .i64 (kind p), .int .i64 (from_ p), .int .i64 (to_ p), .int .i64 (min_ p), .int .i64 (max_ p), .slice e1 (kids p).length f1, .int .i64 (kind q), .int .i64 (from_ q), .int .i64 (to_ q), .int .i64 (min_ q), .int .i64 (max_ q), .slice e2 (kids q).length f2] 24)
              have HLV3 := hide1 (two_made HPV2.out HQV2.out (fun g e => by cases e))
              refine hK.out _ _ ⟨hHeld.1.keep KK.out, hHeld.2.keep KK.out⟩ (fun hHeld2 => ?_)
              clear hK K hHeld
              have hHeld := hHeld2
              clear hHeld2
              try simp only [Act.put, List.setIfInBounds_toArray, List.set_cons_zero, List.set_cons_succ]
              have HV3 := hide1 (gtrans HV2.out KK.out)
              clear KK HV2 HPV2 HQV2
              generalize V2.alloc (.cells #[.int .i64 (kind p), .int .i64 (from_ p), .int .i64 (to_ p), .int .i64 (min_ p), .int .i64 (max_ p), .slice e1 (kids p).length f1, .int .i64 (kind q), .int .i64 (from_ q), .int .i64 (to_ q), .int .i64 (min_ q), .int .i64 (max_ q), .slice e2 (kids q).length f2] 24) = V3 at hHeld HV3 HLV3  ⊢
              generalize V2.heap.size = gs at HLV3 ⊢
              refine wpAnyH_take (i := 5) (v := .agg #[.int .i64 3, .int .i64 0, .int .i64 0, .int .i64 0, .int .i64 0, .slice (some ⟨gs, 0, none⟩) 2 2]) rfl (by kernel_rfl) (by kernel_rfl) (by kernel_rfl) (fun _ _ _ h => h) (Or.inl ⟨by rfl, fun w' hSw => ?_⟩) (by with_reducible assumption) ?_
              · clear hSw
                go_simp
              try simp only [Act.put, List.setIfInBounds_toArray, List.set_cons_zero, List.set_cons_succ]
              refine wpAnyH_ready (rs := [6]) (by kernel_rfl) (by simp) ?_
              refine AllReadyH.cons (i := 6) rfl (fun K hK => ?_) AllReadyH.nil
              go_simp
              have KK := hide1 ((Kept.refl V3).alloc #[.int .i64 0, .int .i64 0, .int .i64 0, .int .i64 0, .int .i64 0, .slice none 0 0] 24)
              refine hK.out _ _ ⟨hHeld.1.keep KK.out, hHeld.2.keep KK.out⟩ (fun hHeld2 => ?_)
              clear hK K hHeld
              have hHeld := hHeld2
              clear hHeld2
              try simp only [Act.put, List.setIfInBounds_toArray, List.set_cons_zero, List.set_cons_succ]
              have HXV4 := hide1 (BoxAt.new V3 (.int .i64 0) (.int .i64 0) (.int .i64 0) (.int .i64 0) (.int .i64 0) (.slice none 0 0))
              have HG : Hid (w9.heap.size ≤ V3.heap.size) := HV3.out.size
              have HV4 := hide1 (gtrans HV3.out KK.out)
              have HLV4 := hide1 (HLV3.out.alloc #[.int .i64 0, .int .i64 0, .int .i64 0, .int .i64 0, .int .i64 0, .slice none 0 0] 24)
              clear KK HV3 HLV3
              generalize V3.alloc (.cells #[.int .i64 0, .int .i64 0, .int .i64 0, .int .i64 0, .int .i64 0, .slice none 0 0] 24) = V4 at hHeld HXV4 HV4 HLV4 ⊢
              generalize V3.heap.size = gb at HXV4 HG HLV4 ⊢
              refine wpAnyH_ready (rs := [7]) (by kernel_rfl) (by simp) ?_
              refine AllReadyH.cons (i := 7) rfl (fun K hK => ?_) AllReadyH.nil
              have HE := hide1 (two_end (kd := 3) HV4.out HG.out HXV4.out HLV4.out)
              have hne1 : g ≠ gb := by have h1 := HBP9.out.lt; have h2 := HG.out; omega
              have hne2 : g' ≠ gb := by have h1 := HBQ9.out.lt; have h2 := HG.out; omega
              obtain ⟨⟨z0, z1, z2, z3, z4, z5⟩, s0, s1, s2, s3, s4, s5⟩ := HXV4.out.facts
              go_simp
              clear z0 z1 z2 z3 z4 z5 s0 s1 s2 s3 s4 s5
              refine hK.out _ _ ⟨hHeld.1.other hne1, hHeld.2.other hne2⟩ (fun hHeld2 => ?_)
              clear hK K hHeld hne1 hne2
              try simp only [Act.put, List.setIfInBounds_toArray, List.set_cons_zero, List.set_cons_succ]
              refine wpAnyH_done (by kernel_rfl) ?_ _
              go_wp2_with fail
              go_meet
              exact ⟨_, rfl, HE.out⟩
            · go_simp
              have KK := hide1 ((Kept.refl V2).alloc #[.int .i64 0, .int .i64 0, .int .i64 0, .int .i64 0, .int .i64 0, .slice none 0 0] 24)
              refine hK.out _ _ ⟨hHeld.1.keep KK.out, hHeld.2.keep KK.out⟩ (fun hHeld2 => ?_)
              clear hK K hHeld
              have hHeld := hHeld2
              clear hHeld2
              try simp only [Act.put, List.setIfInBounds_toArray, List.set_cons_zero, List.set_cons_succ]
              have HXV3 := hide1 (BoxAt.new V2 (.int .i64 0) (.int .i64 0) (.int .i64 0) (.int .i64 0) (.int .i64 0) (.slice none 0 0))
              have HG : Hid (w9.heap.size ≤ V2.heap.size) := HV2.out.size
              have HV3 := hide1 (gtrans HV2.out KK.out)
              have HPV3 := hide1 (HPV2.out.alloc #[.int .i64 0, .int .i64 0, .int .i64 0, .int .i64 0, .int .i64 0, .slice none 0 0] 24)
              have HQV3 := hide1 (HQV2.out.alloc #[.int .i64 0, .int .i64 0, .int .i64 0, .int .i64 0, .int .i64 0, .slice none 0 0] 24)
              clear KK HV2 HPV2 HQV2
              generalize V2.alloc (.cells #[.int .i64 0, .int .i64 0, .int .i64 0, .int .i64 0, .int .i64 0, .slice none 0 0] 24) = V3 at hHeld HXV3 HV3 HPV3 HQV3 ⊢
              generalize V2.heap.size = gb at HXV3 HG HPV3 HQV3 ⊢
              refine wpAnyH_ready (rs := [4]) (by kernel_rfl) (by simp) ?_
              refine AllReadyH.cons (i := 4) rfl (fun K hK => ?_) AllReadyH.nil
              go_simp
              have KK := hide1 ((Kept.refl V3).alloc #[.int .i64 (kind p), .int .i64 (from_ p), .int .i64 (to_ p), .int .i64 (min_ p), .int .i64 (max_ p), .slice e1 (kids p).length f1, .int .i64 (kind q), .int .i64 (from_ q), .int .i64 (to_ q), .int .i64 (min_ q), .int .i64 (max_ q), .slice e2 (kids q).length f2] 24)
              have HLV4 := hide1 (two_made HPV3.out HQV3.out (fun g e => by simp only [Option.some.injEq] at e; subst e; exact HXV3.out.lt))
              refine hK.out _ _ ⟨hHeld.1.keep KK.out, hHeld.2.keep KK.out⟩ (fun hHeld2 => ?_)
              clear hK K hHeld
              have hHeld := hHeld2
              clear hHeld2
              try simp only [Act.put, List.setIfInBounds_toArray, List.set_cons_zero, List.set_cons_succ]
              have HV4 := hide1 (gtrans HV3.out KK.out)
              have HXV4 := hide1 (HXV3.out.keep KK.out)
              clear KK HV3 HPV3 HQV3 HXV3
              generalize V3.alloc (.cells #[.int .i64 (kind p), .int .i64 (from_ p), .int .i64 (to_ p), .int .i64 (min_ p), .int .i64 (max_ p), .slice e1 (kids p).length f1, .int .i64 (kind q), .int .i64 (from_ q), .int .i64 (to_ q), .int .i64 (min_ q), .int .i64 (max_ q), .slice e2 (kids q).length f2] 24) = V4 at hHeld HV4 HLV4 HXV4 ⊢
              generalize V3.heap.size = gs at HLV4 ⊢
              refine wpAnyH_take (i := 5) (v := .agg #[.int .i64 3, .int .i64 0, .int .i64 0, .int .i64 0, .int .i64 0, .slice (some ⟨gs, 0, none⟩) 2 2]) rfl (by kernel_rfl) (by kernel_rfl) (by kernel_rfl) (fun _ _ _ h => h) (Or.inl ⟨by rfl, fun w' hSw => ?_⟩) (by with_reducible assumption) ?_
              · clear hSw
                go_simp
              try simp only [Act.put, List.setIfInBounds_toArray, List.set_cons_zero, List.set_cons_succ]
              refine wpAnyH_ready (rs := [7]) (by kernel_rfl) (by simp) ?_
              refine AllReadyH.cons (i := 7) rfl (fun K hK => ?_) AllReadyH.nil
              have HE := hide1 (two_end (kd := 3) HV4.out HG.out HXV4.out HLV4.out)
              have hne1 : g ≠ gb := by have h1 := HBP9.out.lt; have h2 := HG.out; omega
              have hne2 : g' ≠ gb := by have h1 := HBQ9.out.lt; have h2 := HG.out; omega
              obtain ⟨⟨z0, z1, z2, z3, z4, z5⟩, s0, s1, s2, s3, s4, s5⟩ := HXV4.out.facts
              go_simp
              clear z0 z1 z2 z3 z4 z5 s0 s1 s2 s3 s4 s5
              refine hK.out _ _ ⟨hHeld.1.other hne1, hHeld.2.other hne2⟩ (fun hHeld2 => ?_)
              clear hK K hHeld hne1 hne2
              try simp only [Act.put, List.setIfInBounds_toArray, List.set_cons_zero, List.set_cons_succ]
              refine wpAnyH_done (by kernel_rfl) ?_ _
              go_wp2_with fail
              go_meet
              exact ⟨_, rfl, HE.out⟩
          · go_simp
            have KK := hide1 ((Kept.refl V1).alloc #[.int .i64 0, .int .i64 0, .int .i64 0, .int .i64 0, .int .i64 0, .slice none 0 0] 24)
            refine hK.out _ _ ⟨hHeld.1.keep KK.out, hHeld.2.keep KK.out⟩ (fun hHeld2 => ?_)
            clear hK K hHeld
            have hHeld := hHeld2
            clear hHeld2
            try simp only [Act.put, List.setIfInBounds_toArray, List.set_cons_zero, List.set_cons_succ]
            have HXV2 := hide1 (BoxAt.new V1 (.int .i64 0) (.int .i64 0) (.int .i64 0) (.int .i64 0) (.int .i64 0) (.slice none 0 0))
            have HG : Hid (w9.heap.size ≤ V1.heap.size) := HV1.out.size
            have HV2 := hide1 (gtrans HV1.out KK.out)
            have HPV2 := hide1 (HPV1.out.alloc #[.int .i64 0, .int .i64 0, .int .i64 0, .int .i64 0, .int .i64 0, .slice none 0 0] 24)
            clear KK HV1 HPV1
            generalize V1.alloc (.cells #[.int .i64 0, .int .i64 0, .int .i64 0, .int .i64 0, .int .i64 0, .slice none 0 0] 24) = V2 at hHeld HXV2 HV2 HPV2 ⊢
            generalize V1.heap.size = gb at HXV2 HG HPV2 ⊢
            refine wpAnyH_ready (rs := [3]) (by kernel_rfl) (by simp) ?_
            refine AllReadyH.cons (i := 3) rfl (fun K hK => ?_) AllReadyH.nil
            go_simp
            go_wp2_with (go_at_call 5; refine (TwinExpr_is (fun d => d < w.heap.size) k q _ V2 (HKQ.out.kept (gtrans HKR.out HV2.out))).mono ?_; rintro e V3 ⟨h10, hk10⟩; obtain ⟨v10, rfl, hq10, hm10⟩ := h10.out; rw [valOf_eq]; obtain ⟨e2, f2, e10⟩ := hq10.form; subst e10; have HO := hide1 hq10; have KK := hide1 hk10; clear h10 hq10 hm10 hk10)
            refine hK.out _ _ ⟨hHeld.1.keep KK.out, hHeld.2.keep KK.out⟩ (fun hHeld2 => ?_)
            clear hK K hHeld
            have hHeld := hHeld2
            clear hHeld2
            try simp only [Act.put, List.setIfInBounds_toArray, List.set_cons_zero, List.set_cons_succ]
            have HV3 : Hid (Kept w9 V3) := gtrans HV2.out KK.out
            have HQV3 : Hid (OutB (some gb) V3 k (kids q) (.slice e2 (kids q).length f2)) := OutB.call HO.out (fun g e => by simp only [Option.some.injEq] at e; subst e; exact ⟨Nat.le_trans HKR.out.size HG.out, HXV2.out.lt⟩)
            have HPV3 := hide1 (HPV2.out.keep KK.out)
            have HXV3 := hide1 (HXV2.out.keep KK.out)
            clear HO KK HV2 HPV2 HXV2
            refine wpAnyH_ready (rs := [4]) (by kernel_rfl) (by simp) ?_
            refine AllReadyH.cons (i := 4) rfl (fun K hK => ?_) AllReadyH.nil
            go_simp
            have KK := hide1 ((Kept.refl V3).alloc #[.int .i64 (kind p), .int .i64 (from_ p), .int .i64 (to_ p), .int .i64 (min_ p), .int .i64 (max_ p), .slice e1 (kids p).length f1, .int .i64 (kind q), .int .i64 (from_ q), .int .i64 (to_ q), .int .i64 (min_ q), .int .i64 (max_ q), .slice e2 (kids q).length f2] 24)
            have HLV4 := hide1 (two_made HPV3.out HQV3.out (fun g e => by simp only [Option.some.injEq] at e; subst e; exact HXV3.out.lt))
            refine hK.out _ _ ⟨hHeld.1.keep KK.out, hHeld.2.keep KK.out⟩ (fun hHeld2 => ?_)
            clear hK K hHeld
            have hHeld := hHeld2
            clear hHeld2
            try simp only [Act.put, List.setIfInBounds_toArray, List.set_cons_zero, List.set_cons_succ]
            have HV4 := hide1 (gtrans HV3.out KK.out)
            have HXV4 := hide1 (HXV3.out.keep KK.out)
            clear KK HV3 HPV3 HQV3 HXV3
            generalize V3.alloc (.cells #[.int .i64 (kind p), .int .i64 (from_ p), .int .i64 (to_ p), .int .i64 (min_ p), .int .i64 (max_ p), .slice e1 (kids p).length f1, .int .i64 (kind q), .int .i64 (from_ q), .int .i64 (to_ q), .int .i64 (min_ q), .int .i64 (max_ q), .slice e2 (kids q).length f2] 24) = V4 at hHeld HV4 HLV4 HXV4 ⊢
            generalize V3.heap.size = gs at HLV4 ⊢
            refine wpAnyH_take (i := 5) (v := .agg #[.int .i64 3, .int .i64 0, .int .i64 0, .int .i64 0, .int .i64 0, .slice (some ⟨gs, 0, none⟩) 2 2]) rfl (by kernel_rfl) (by kernel_rfl) (by kernel_rfl) (fun _ _ _ h => h) (Or.inl ⟨by rfl, fun w' hSw => ?_⟩) (by with_reducible assumption) ?_
            · clear hSw
              go_simp
            try simp only [Act.put, List.setIfInBounds_toArray, List.set_cons_zero, List.set_cons_succ]
            refine wpAnyH_ready (rs := [7]) (by kernel_rfl) (by simp) ?_
            refine AllReadyH.cons (i := 7) rfl (fun K hK => ?_) AllReadyH.nil
            have HE := hide1 (two_end (kd := 3) HV4.out HG.out HXV4.out HLV4.out)
            have hne1 : g ≠ gb := by have h1 := HBP9.out.lt; have h2 := HG.out; omega
            have hne2 : g' ≠ gb := by have h1 := HBQ9.out.lt; have h2 := HG.out; omega
            obtain ⟨⟨z0, z1, z2, z3, z4, z5⟩, s0, s1, s2, s3, s4, s5⟩ := HXV4.out.facts
            go_simp
            clear z0 z1 z2 z3 z4 z5 s0 s1 s2 s3 s4 s5
            refine hK.out _ _ ⟨hHeld.1.other hne1, hHeld.2.other hne2⟩ (fun hHeld2 => ?_)
            clear hK K hHeld hne1 hne2
            try simp only [Act.put, List.setIfInBounds_toArray, List.set_cons_zero, List.set_cons_succ]
            refine wpAnyH_done (by kernel_rfl) ?_ _
            go_wp2_with fail
            go_meet
            exact ⟨_, rfl, HE.out⟩
        · go_simp
          have KK := hide1 ((Kept.refl V0).alloc #[.int .i64 0, .int .i64 0, .int .i64 0, .int .i64 0, .int .i64 0, .slice none 0 0] 24)
          refine hK.out _ _ ⟨hHeld.1.keep KK.out, hHeld.2.keep KK.out⟩ (fun hHeld2 => ?_)
          clear hK K hHeld
          have hHeld := hHeld2
          clear hHeld2
          try simp only [Act.put, List.setIfInBounds_toArray, List.set_cons_zero, List.set_cons_succ]
          have HXV1 := hide1 (BoxAt.new V0 (.int .i64 0) (.int .i64 0) (.int .i64 0) (.int .i64 0) (.int .i64 0) (.slice none 0 0))
          have HG : Hid (w9.heap.size ≤ V0.heap.size) := HV0.out.size
          have HV1 := hide1 (gtrans HV0.out KK.out)
          clear KK HV0 
          generalize V0.alloc (.cells #[.int .i64 0, .int .i64 0, .int .i64 0, .int .i64 0, .int .i64 0, .slice none 0 0] 24) = V1 at hHeld HXV1 HV1  ⊢
          generalize V0.heap.size = gb at HXV1 HG  ⊢
          refine wpAnyH_ready (rs := [1]) (by kernel_rfl) (by simp) ?_
          refine AllReadyH.cons (i := 1) rfl (fun K hK => ?_) AllReadyH.nil
          go_simp
          go_wp2_with (go_at_call 5; refine (TwinExpr_is (fun d => d < w.heap.size) k p _ V1 (HKP.out.kept (gtrans HKR.out HV1.out))).mono ?_; rintro e V2 ⟨h10, hk10⟩; obtain ⟨v10, rfl, hq10, hm10⟩ := h10.out; rw [valOf_eq]; obtain ⟨e1, f1, e10⟩ := hq10.form; subst e10; have HO := hide1 hq10; have KK := hide1 hk10; clear h10 hq10 hm10 hk10)
          refine hK.out _ _ ⟨hHeld.1.keep KK.out, hHeld.2.keep KK.out⟩ (fun hHeld2 => ?_)
          clear hK K hHeld
          have hHeld := hHeld2
          clear hHeld2
          try simp only [Act.put, List.setIfInBounds_toArray, List.set_cons_zero, List.set_cons_succ]
          have HV2 : Hid (Kept w9 V2) := gtrans HV1.out KK.out
          have HPV2 : Hid (OutB (some gb) V2 k (kids p) (.slice e1 (kids p).length f1)) := OutB.call HO.out (fun g e => by simp only [Option.some.injEq] at e; subst e; exact ⟨Nat.le_trans HKR.out.size HG.out, HXV1.out.lt⟩)
          have HXV2 := hide1 (HXV1.out.keep KK.out)
          clear HO KK HV1 HXV1
          refine wpAnyH_ready (rs := [3]) (by kernel_rfl) (by simp) ?_
          refine AllReadyH.cons (i := 3) rfl (fun K hK => ?_) AllReadyH.nil
          go_simp
          go_wp2_with (go_at_call 5; refine (TwinExpr_is (fun d => d < w.heap.size) k q _ V2 (HKQ.out.kept (gtrans HKR.out HV2.out))).mono ?_; rintro e V3 ⟨h10, hk10⟩; obtain ⟨v10, rfl, hq10, hm10⟩ := h10.out; rw [valOf_eq]; obtain ⟨e2, f2, e10⟩ := hq10.form; subst e10; have HO := hide1 hq10; have KK := hide1 hk10; clear h10 hq10 hm10 hk10)
          refine hK.out _ _ ⟨hHeld.1.keep KK.out, hHeld.2.keep KK.out⟩ (fun hHeld2 => ?_)
          clear hK K hHeld
          have hHeld := hHeld2
          clear hHeld2
          try simp only [Act.put, List.setIfInBounds_toArray, List.set_cons_zero, List.set_cons_succ]
          have HV3 : Hid (Kept w9 V3) := gtrans HV2.out KK.out
          have HQV3 : Hid (OutB (some gb) V3 k (kids q) (.slice e2 (kids q).length f2)) := OutB.call HO.out (fun g e => by simp only [Option.some.injEq] at e; subst e; exact ⟨Nat.le_trans HKR.out.size HG.out, HXV2.out.lt⟩)
          have HPV3 := hide1 (HPV2.out.keep KK.out)
          have HXV3 := hide1 (HXV2.out.keep KK.out)
          clear HO KK HV2 HPV2 HXV2
          refine wpAnyH_ready (rs := [4]) (by kernel_rfl) (by simp) ?_
          refine AllReadyH.cons (i := 4) rfl (fun K hK => ?_) AllReadyH.nil
          go_simp
          have KK := hide1 ((Kept.refl V3).alloc #[.int .i64 (kind p), .int .i64 (from_ p), .int .i64 (to_ p), .int .i64 (min_ p), .int .i64 (max_ p), .slice e1 (kids p).length f1, .int .i64 (kind q), .int .i64 (from_ q), .int .i64 (to_ q), .int .i64 (min_ q), .int .i64 (max_ q), .slice e2 (kids q).length f2] 24)
          have HLV4 := hide1 (two_made HPV3.out HQV3.out (fun g e => by simp only [Option.some.injEq] at e; subst e; exact HXV3.out.lt))
          refine hK.out _ _ ⟨hHeld.1.keep KK.out, hHeld.2.keep KK.out⟩ (fun hHeld2 => ?_)
          clear hK K hHeld
          have hHeld := hHeld2
          clear hHeld2
          try simp only [Act.put, List.setIfInBounds_toArray, List.set_cons_zero, List.set_cons_succ]
          have HV4 := hide1 (gtrans HV3.out KK.out)
          have HXV4 := hide1 (HXV3.out.keep KK.out)
          clear KK HV3 HPV3 HQV3 HXV3
          generalize V3.alloc (.cells #[.int .i64 (kind p), .int .i64 (from_ p), .int .i64 (to_ p), .int .i64 (min_ p), .int .i64 (max_ p), .slice e1 (kids p).length f1, .int .i64 (kind q), .int .i64 (from_ q), .int .i64 (to_ q), .int .i64 (min_ q), .int .i64 (max_ q), .slice e2 (kids q).length f2] 24) = V4 at hHeld HV4 HLV4 HXV4 ⊢
          generalize V3.heap.size = gs at HLV4 ⊢
          refine wpAnyH_take (i := 5) (v := .agg #[.int .i64 3, .int .i64 0, .int .i64 0, .int .i64 0, .int .i64 0, .slice (some ⟨gs, 0, none⟩) 2 2]) rfl (by kernel_rfl) (by kernel_rfl) (by kernel_rfl) (fun _ _ _ h => h) (Or.inl ⟨by rfl, fun w' hSw => ?_⟩) (by with_reducible assumption) ?_
          · clear hSw
            go_simp
          try simp only [Act.put, List.setIfInBounds_toArray, List.set_cons_zero, List.set_cons_succ]
          refine wpAnyH_ready (rs := [7]) (by kernel_rfl) (by simp) ?_
          refine AllReadyH.cons (i := 7) rfl (fun K hK => ?_) AllReadyH.nil
          have HE := hide1 (two_end (kd := 3) HV4.out HG.out HXV4.out HLV4.out)
          have hne1 : g ≠ gb := by have h1 := HBP9.out.lt; have h2 := HG.out; omega
          have hne2 : g' ≠ gb := by have h1 := HBQ9.out.lt; have h2 := HG.out; omega
          obtain ⟨⟨z0, z1, z2, z3, z4, z5⟩, s0, s1, s2, s3, s4, s5⟩ := HXV4.out.facts
          go_simp
          clear z0 z1 z2 z3 z4 z5 s0 s1 s2 s3 s4 s5
          refine hK.out _ _ ⟨hHeld.1.other hne1, hHeld.2.other hne2⟩ (fun hHeld2 => ?_)
          clear hK K hHeld hne1 hne2
          try simp only [Act.put, List.setIfInBounds_toArray, List.set_cons_zero, List.set_cons_succ]
          refine wpAnyH_done (by kernel_rfl) ?_ _
          go_wp2_with fail
          go_meet
          exact ⟨_, rfl, HE.out⟩
      case rest =>
        obtain ⟨wB, hwB, hcut⟩ := hcut
        subst hwB
        obtain ⟨hk10, gB, aB, cB, hcB, hbB, hqB⟩ := hcut.out
        have hcB := hcB.symm
        subst hcB
        have HKB := hide1 (gtrans HKR.out hk10)
        have HBPB := hide1 (HBP9.out.keep hk10)
        have HBQB := hide1 (HBQ9.out.keep hk10)
        have HXB := hide1 hbB
        have HQB := hide1 hqB
        clear hcut hk10 hbB hqB HBP9 HBQ9 HKR HT9
        go_upto_region 6 with fail
        go_cut [12] from 48 to 53 (fun c wy => ∃ w1, w1 = wy ∧ Hid (TwoG p q 2 wB c w1))
        case first =>
          refine wp_region_held_drew (S := fun w' => BoxAt w' g (.int .i64 (kind p)) (.int .i64 (from_ p)) (.int .i64 (to_ p)) (.int .i64 (min_ p)) (.int .i64 (max_ p)) (.slice a0 (kids p).length c0) ∧ BoxAt w' g' (.int .i64 (kind q)) (.int .i64 (from_ q)) (.int .i64 (to_ q)) (.int .i64 (min_ q)) (.int .i64 (max_ q)) (.slice a1 (kids q).length c1)) (by kernel_rfl) ⟨HBPB.out, HBQB.out⟩ (fun hHeld => ?_)
          refine wpAnyH_take (i := 0) (v := .agg #[.int .i64 (kind p), .int .i64 (from_ p), .int .i64 (to_ p), .int .i64 (min_ p), .int .i64 (max_ p), .slice a0 (kids p).length c0]) rfl (by kernel_rfl) (by kernel_rfl) (by kernel_rfl) (fun _ _ _ h => h) (Or.inl ⟨by rfl, fun w' hSw => ?_⟩) (by with_reducible assumption) ?_
          · obtain ⟨⟨t0, t1, t2, t3, t4, t5⟩, _⟩ := hSw.1.facts
            go_simp
          try simp only [Act.put, List.setIfInBounds_toArray, List.set_cons_zero, List.set_cons_succ]
          refine wpAnyH_take (i := 2) (v := .agg #[.int .i64 (kind q), .int .i64 (from_ q), .int .i64 (to_ q), .int .i64 (min_ q), .int .i64 (max_ q), .slice a1 (kids q).length c1]) rfl (by kernel_rfl) (by kernel_rfl) (by kernel_rfl) (fun _ _ _ h => h) (Or.inl ⟨by rfl, fun w' hSw => ?_⟩) (by with_reducible assumption) ?_
          · obtain ⟨⟨t0, t1, t2, t3, t4, t5⟩, _⟩ := hSw.2.facts
            go_simp
          try simp only [Act.put, List.setIfInBounds_toArray, List.set_cons_zero, List.set_cons_succ]
          obtain ⟨V0, hV0⟩ : ∃ V0, wB.drew = V0 := ⟨_, rfl⟩
          have HV0 : Hid (Kept wB V0) := by rw [← hV0]; exact drew_kept _
          rw [hV0] at hHeld ⊢
          clear hV0
          refine wpAnyH_ready (rs := [1, 6]) (by kernel_rfl) (by simp) ?_
          refine AllReadyH.cons (i := 1) rfl (fun K hK => ?_) (AllReadyH.cons (i := 6) rfl (fun K hK => ?_) AllReadyH.nil)
          · go_simp
            go_wp2_with (go_at_call 5; refine (TwinExpr_is (fun d => d < w.heap.size) k p _ V0 (HKP.out.kept (gtrans HKB.out HV0.out))).mono ?_; rintro e V1 ⟨h10, hk10⟩; obtain ⟨v10, rfl, hq10, hm10⟩ := h10.out; rw [valOf_eq]; obtain ⟨e1, f1, e10⟩ := hq10.form; subst e10; have HO := hide1 hq10; have KK := hide1 hk10; clear h10 hq10 hm10 hk10)
            refine hK.out _ _ ⟨hHeld.1.keep KK.out, hHeld.2.keep KK.out⟩ (fun hHeld2 => ?_)
            clear hK K hHeld
            have hHeld := hHeld2
            clear hHeld2
            try simp only [Act.put, List.setIfInBounds_toArray, List.set_cons_zero, List.set_cons_succ]
            have HV1 : Hid (Kept wB V1) := gtrans HV0.out KK.out
            have HPV1 : Hid (OutB none V1 k (kids p) (.slice e1 (kids p).length f1)) := OutB.call HO.out (fun g e => by cases e)
            clear HO KK HV0
            refine wpAnyH_ready (rs := [3, 6]) (by kernel_rfl) (by simp) ?_
            refine AllReadyH.cons (i := 3) rfl (fun K hK => ?_) (AllReadyH.cons (i := 6) rfl (fun K hK => ?_) AllReadyH.nil)
            · go_simp
              go_wp2_with (go_at_call 5; refine (TwinExpr_is (fun d => d < w.heap.size) k q _ V1 (HKQ.out.kept (gtrans HKB.out HV1.out))).mono ?_; rintro e V2 ⟨h10, hk10⟩; obtain ⟨v10, rfl, hq10, hm10⟩ := h10.out; rw [valOf_eq]; obtain ⟨e2, f2, e10⟩ := hq10.form; subst e10; have HO := hide1 hq10; have KK := hide1 hk10; clear h10 hq10 hm10 hk10)
              refine hK.out _ _ ⟨hHeld.1.keep KK.out, hHeld.2.keep KK.out⟩ (fun hHeld2 => ?_)
              clear hK K hHeld
              have hHeld := hHeld2
              clear hHeld2
              try simp only [Act.put, List.setIfInBounds_toArray, List.set_cons_zero, List.set_cons_succ]
              have HV2 : Hid (Kept wB V2) := gtrans HV1.out KK.out
              have HQV2 : Hid (OutB none V2 k (kids q) (.slice e2 (kids q).length f2)) := OutB.call HO.out (fun g e => by cases e)
              have HPV2 := hide1 (HPV1.out.keep KK.out)
              clear HO KK HV1 HPV1
              refine wpAnyH_ready (rs := [4, 6]) (by kernel_rfl) (by simp) ?_
              refine AllReadyH.cons (i := 4) rfl (fun K hK => ?_) (AllReadyH.cons (i := 6) rfl (fun K hK => ?_) AllReadyH.nil)
              · go_simp
                have KK := hide1 ((Kept.refl V2).alloc #[.int .i64 (kind p), .int .i64 (from_ p), .int .i64 (to_ p), .int .i64 (min_ p), .int .i64 (max_ p), .slice e1 (kids p).length f1, .int .i64 (kind q), .int .i64 (from_ q), .int .i64 (to_ q), .int .i64 (min_ q), .int .i64 (max_ q), .slice e2 (kids q).length f2] 24)
                have HLV3 := hide1 (two_made HPV2.out HQV2.out (fun g e => by cases e))
                refine hK.out _ _ ⟨hHeld.1.keep KK.out, hHeld.2.keep KK.out⟩ (fun hHeld2 => ?_)
                clear hK K hHeld
                have hHeld := hHeld2
                clear hHeld2
                try simp only [Act.put, List.setIfInBounds_toArray, List.set_cons_zero, List.set_cons_succ]
                have HV3 := hide1 (gtrans HV2.out KK.out)
                clear KK HV2 HPV2 HQV2
                generalize V2.alloc (.cells #[.int .i64 (kind p), .int .i64 (from_ p), .int .i64 (to_ p), .int .i64 (min_ p), .int .i64 (max_ p), .slice e1 (kids p).length f1, .int .i64 (kind q), .int .i64 (from_ q), .int .i64 (to_ q), .int .i64 (min_ q), .int .i64 (max_ q), .slice e2 (kids q).length f2] 24) = V3 at hHeld HV3 HLV3  ⊢
                generalize V2.heap.size = gs at HLV3 ⊢
                refine wpAnyH_take (i := 5) (v := .agg #[.int .i64 2, .int .i64 0, .int .i64 0, .int .i64 0, .int .i64 0, .slice (some ⟨gs, 0, none⟩) 2 2]) rfl (by kernel_rfl) (by kernel_rfl) (by kernel_rfl) (fun _ _ _ h => h) (Or.inl ⟨by rfl, fun w' hSw => ?_⟩) (by with_reducible assumption) ?_
                · clear hSw
                  go_simp
                try simp only [Act.put, List.setIfInBounds_toArray, List.set_cons_zero, List.set_cons_succ]
                refine wpAnyH_ready (rs := [6]) (by kernel_rfl) (by simp) ?_
                refine AllReadyH.cons (i := 6) rfl (fun K hK => ?_) AllReadyH.nil
                go_simp
                have KK := hide1 ((Kept.refl V3).alloc #[.int .i64 0, .int .i64 0, .int .i64 0, .int .i64 0, .int .i64 0, .slice none 0 0] 24)
                refine hK.out _ _ ⟨hHeld.1.keep KK.out, hHeld.2.keep KK.out⟩ (fun hHeld2 => ?_)
                clear hK K hHeld
                have hHeld := hHeld2
                clear hHeld2
                try simp only [Act.put, List.setIfInBounds_toArray, List.set_cons_zero, List.set_cons_succ]
                have HXV4 := hide1 (BoxAt.new V3 (.int .i64 0) (.int .i64 0) (.int .i64 0) (.int .i64 0) (.int .i64 0) (.slice none 0 0))
                have HG : Hid (wB.heap.size ≤ V3.heap.size) := HV3.out.size
                have HV4 := hide1 (gtrans HV3.out KK.out)
                have HLV4 := hide1 (HLV3.out.alloc #[.int .i64 0, .int .i64 0, .int .i64 0, .int .i64 0, .int .i64 0, .slice none 0 0] 24)
                clear KK HV3 HLV3
                generalize V3.alloc (.cells #[.int .i64 0, .int .i64 0, .int .i64 0, .int .i64 0, .int .i64 0, .slice none 0 0] 24) = V4 at hHeld HXV4 HV4 HLV4 ⊢
                generalize V3.heap.size = gb at HXV4 HG HLV4 ⊢
                refine wpAnyH_ready (rs := [7]) (by kernel_rfl) (by simp) ?_
                refine AllReadyH.cons (i := 7) rfl (fun K hK => ?_) AllReadyH.nil
                have HE := hide1 (two_end (kd := 2) HV4.out HG.out HXV4.out HLV4.out)
                have hne1 : g ≠ gb := by have h1 := HBPB.out.lt; have h2 := HG.out; omega
                have hne2 : g' ≠ gb := by have h1 := HBQB.out.lt; have h2 := HG.out; omega
                obtain ⟨⟨z0, z1, z2, z3, z4, z5⟩, s0, s1, s2, s3, s4, s5⟩ := HXV4.out.facts
                go_simp
                clear z0 z1 z2 z3 z4 z5 s0 s1 s2 s3 s4 s5
                refine hK.out _ _ ⟨hHeld.1.other hne1, hHeld.2.other hne2⟩ (fun hHeld2 => ?_)
                clear hK K hHeld hne1 hne2
                try simp only [Act.put, List.setIfInBounds_toArray, List.set_cons_zero, List.set_cons_succ]
                refine wpAnyH_done (by kernel_rfl) ?_ _
                go_wp2_with fail
                go_meet
                exact ⟨_, rfl, HE.out⟩
              · go_simp
                have KK := hide1 ((Kept.refl V2).alloc #[.int .i64 0, .int .i64 0, .int .i64 0, .int .i64 0, .int .i64 0, .slice none 0 0] 24)
                refine hK.out _ _ ⟨hHeld.1.keep KK.out, hHeld.2.keep KK.out⟩ (fun hHeld2 => ?_)
                clear hK K hHeld
                have hHeld := hHeld2
                clear hHeld2
                try simp only [Act.put, List.setIfInBounds_toArray, List.set_cons_zero, List.set_cons_succ]
                have HXV3 := hide1 (BoxAt.new V2 (.int .i64 0) (.int .i64 0) (.int .i64 0) (.int .i64 0) (.int .i64 0) (.slice none 0 0))
                have HG : Hid (wB.heap.size ≤ V2.heap.size) := HV2.out.size
                have HV3 := hide1 (gtrans HV2.out KK.out)
                have HPV3 := hide1 (HPV2.out.alloc #[.int .i64 0, .int .i64 0, .int .i64 0, .int .i64 0, .int .i64 0, .slice none 0 0] 24)
                have HQV3 := hide1 (HQV2.out.alloc #[.int .i64 0, .int .i64 0, .int .i64 0, .int .i64 0, .int .i64 0, .slice none 0 0] 24)
                clear KK HV2 HPV2 HQV2
                generalize V2.alloc (.cells #[.int .i64 0, .int .i64 0, .int .i64 0, .int .i64 0, .int .i64 0, .slice none 0 0] 24) = V3 at hHeld HXV3 HV3 HPV3 HQV3 ⊢
                generalize V2.heap.size = gb at HXV3 HG HPV3 HQV3 ⊢
                refine wpAnyH_ready (rs := [4]) (by kernel_rfl) (by simp) ?_
                refine AllReadyH.cons (i := 4) rfl (fun K hK => ?_) AllReadyH.nil
                go_simp
                have KK := hide1 ((Kept.refl V3).alloc #[.int .i64 (kind p), .int .i64 (from_ p), .int .i64 (to_ p), .int .i64 (min_ p), .int .i64 (max_ p), .slice e1 (kids p).length f1, .int .i64 (kind q), .int .i64 (from_ q), .int .i64 (to_ q), .int .i64 (min_ q), .int .i64 (max_ q), .slice e2 (kids q).length f2] 24)
                have HLV4 := hide1 (two_made HPV3.out HQV3.out (fun g e => by simp only [Option.some.injEq] at e; subst e; exact HXV3.out.lt))
                refine hK.out _ _ ⟨hHeld.1.keep KK.out, hHeld.2.keep KK.out⟩ (fun hHeld2 => ?_)
                clear hK K hHeld
                have hHeld := hHeld2
                clear hHeld2
                try simp only [Act.put, List.setIfInBounds_toArray, List.set_cons_zero, List.set_cons_succ]
                have HV4 := hide1 (gtrans HV3.out KK.out)
                have HXV4 := hide1 (HXV3.out.keep KK.out)
                clear KK HV3 HPV3 HQV3 HXV3
                generalize V3.alloc (.cells #[.int .i64 (kind p), .int .i64 (from_ p), .int .i64 (to_ p), .int .i64 (min_ p), .int .i64 (max_ p), .slice e1 (kids p).length f1, .int .i64 (kind q), .int .i64 (from_ q), .int .i64 (to_ q), .int .i64 (min_ q), .int .i64 (max_ q), .slice e2 (kids q).length f2] 24) = V4 at hHeld HV4 HLV4 HXV4 ⊢
                generalize V3.heap.size = gs at HLV4 ⊢
                refine wpAnyH_take (i := 5) (v := .agg #[.int .i64 2, .int .i64 0, .int .i64 0, .int .i64 0, .int .i64 0, .slice (some ⟨gs, 0, none⟩) 2 2]) rfl (by kernel_rfl) (by kernel_rfl) (by kernel_rfl) (fun _ _ _ h => h) (Or.inl ⟨by rfl, fun w' hSw => ?_⟩) (by with_reducible assumption) ?_
                · clear hSw
                  go_simp
                try simp only [Act.put, List.setIfInBounds_toArray, List.set_cons_zero, List.set_cons_succ]
                refine wpAnyH_ready (rs := [7]) (by kernel_rfl) (by simp) ?_
                refine AllReadyH.cons (i := 7) rfl (fun K hK => ?_) AllReadyH.nil
                have HE := hide1 (two_end (kd := 2) HV4.out HG.out HXV4.out HLV4.out)
                have hne1 : g ≠ gb := by have h1 := HBPB.out.lt; have h2 := HG.out; omega
                have hne2 : g' ≠ gb := by have h1 := HBQB.out.lt; have h2 := HG.out; omega
                obtain ⟨⟨z0, z1, z2, z3, z4, z5⟩, s0, s1, s2, s3, s4, s5⟩ := HXV4.out.facts
                go_simp
                clear z0 z1 z2 z3 z4 z5 s0 s1 s2 s3 s4 s5
                refine hK.out _ _ ⟨hHeld.1.other hne1, hHeld.2.other hne2⟩ (fun hHeld2 => ?_)
                clear hK K hHeld hne1 hne2
                try simp only [Act.put, List.setIfInBounds_toArray, List.set_cons_zero, List.set_cons_succ]
                refine wpAnyH_done (by kernel_rfl) ?_ _
                go_wp2_with fail
                go_meet
                exact ⟨_, rfl, HE.out⟩
            · go_simp
              have KK := hide1 ((Kept.refl V1).alloc #[.int .i64 0, .int .i64 0, .int .i64 0, .int .i64 0, .int .i64 0, .slice none 0 0] 24)
              refine hK.out _ _ ⟨hHeld.1.keep KK.out, hHeld.2.keep KK.out⟩ (fun hHeld2 => ?_)
              clear hK K hHeld
              have hHeld := hHeld2
              clear hHeld2
              try simp only [Act.put, List.setIfInBounds_toArray, List.set_cons_zero, List.set_cons_succ]
              have HXV2 := hide1 (BoxAt.new V1 (.int .i64 0) (.int .i64 0) (.int .i64 0) (.int .i64 0) (.int .i64 0) (.slice none 0 0))
              have HG : Hid (wB.heap.size ≤ V1.heap.size) := HV1.out.size
              have HV2 := hide1 (gtrans HV1.out KK.out)
              have HPV2 := hide1 (HPV1.out.alloc #[.int .i64 0, .int .i64 0, .int .i64 0, .int .i64 0, .int .i64 0, .slice none 0 0] 24)
              clear KK HV1 HPV1
              generalize V1.alloc (.cells #[.int .i64 0, .int .i64 0, .int .i64 0, .int .i64 0, .int .i64 0, .slice none 0 0] 24) = V2 at hHeld HXV2 HV2 HPV2 ⊢
              generalize V1.heap.size = gb at HXV2 HG HPV2 ⊢
              refine wpAnyH_ready (rs := [3]) (by kernel_rfl) (by simp) ?_
              refine AllReadyH.cons (i := 3) rfl (fun K hK => ?_) AllReadyH.nil
              go_simp
              go_wp2_with (go_at_call 5; refine (TwinExpr_is (fun d => d < w.heap.size) k q _ V2 (HKQ.out.kept (gtrans HKB.out HV2.out))).mono ?_; rintro e V3 ⟨h10, hk10⟩; obtain ⟨v10, rfl, hq10, hm10⟩ := h10.out; rw [valOf_eq]; obtain ⟨e2, f2, e10⟩ := hq10.form; subst e10; have HO := hide1 hq10; have KK := hide1 hk10; clear h10 hq10 hm10 hk10)
              refine hK.out _ _ ⟨hHeld.1.keep KK.out, hHeld.2.keep KK.out⟩ (fun hHeld2 => ?_)
              clear hK K hHeld
              have hHeld := hHeld2
              clear hHeld2
              try simp only [Act.put, List.setIfInBounds_toArray, List.set_cons_zero, List.set_cons_succ]
              have HV3 : Hid (Kept wB V3) := gtrans HV2.out KK.out
              have HQV3 : Hid (OutB (some gb) V3 k (kids q) (.slice e2 (kids q).length f2)) := OutB.call HO.out (fun g e => by simp only [Option.some.injEq] at e; subst e; exact ⟨Nat.le_trans HKB.out.size HG.out, HXV2.out.lt⟩)
              have HPV3 := hide1 (HPV2.out.keep KK.out)
              have HXV3 := hide1 (HXV2.out.keep KK.out)
              clear HO KK HV2 HPV2 HXV2
              refine wpAnyH_ready (rs := [4]) (by kernel_rfl) (by simp) ?_
              refine AllReadyH.cons (i := 4) rfl (fun K hK => ?_) AllReadyH.nil
              go_simp
              have KK := hide1 ((Kept.refl V3).alloc #[.int .i64 (kind p), .int .i64 (from_ p), .int .i64 (to_ p), .int .i64 (min_ p), .int .i64 (max_ p), .slice e1 (kids p).length f1, .int .i64 (kind q), .int .i64 (from_ q), .int .i64 (to_ q), .int .i64 (min_ q), .int .i64 (max_ q), .slice e2 (kids q).length f2] 24)
              have HLV4 := hide1 (two_made HPV3.out HQV3.out (fun g e => by simp only [Option.some.injEq] at e; subst e; exact HXV3.out.lt))
              refine hK.out _ _ ⟨hHeld.1.keep KK.out, hHeld.2.keep KK.out⟩ (fun hHeld2 => ?_)
              clear hK K hHeld
              have hHeld := hHeld2
              clear hHeld2
              try simp only [Act.put, List.setIfInBounds_toArray, List.set_cons_zero, List.set_cons_succ]
              have HV4 := hide1 (gtrans HV3.out KK.out)
              have HXV4 := hide1 (HXV3.out.keep KK.out)
              clear KK HV3 HPV3 HQV3 HXV3
              generalize V3.alloc (.cells #[.int .i64 (kind p), .int .i64 (from_ p), .int .i64 (to_ p), .int .i64 (min_ p), .int .i64 (max_ p), .slice e1 (kids p).length f1, .int .i64 (kind q), .int .i64 (from_ q), .int .i64 (to_ q), .int .i64 (min_ q), .int .i64 (max_ q), .slice e2 (kids q).length f2] 24) = V4 at hHeld HV4 HLV4 HXV4 ⊢
              generalize V3.heap.size = gs at HLV4 ⊢
              refine wpAnyH_take (i := 5) (v := .agg #[.int .i64 2, .int .i64 0, .int .i64 0, .int .i64 0, .int .i64 0, .slice (some ⟨gs, 0, none⟩) 2 2]) rfl (by kernel_rfl) (by kernel_rfl) (by kernel_rfl) (fun _ _ _ h => h) (Or.inl ⟨by rfl, fun w' hSw => ?_⟩) (by with_reducible assumption) ?_
              · clear hSw
                go_simp
              try simp only [Act.put, List.setIfInBounds_toArray, List.set_cons_zero, List.set_cons_succ]
              refine wpAnyH_ready (rs := [7]) (by kernel_rfl) (by simp) ?_
              refine AllReadyH.cons (i := 7) rfl (fun K hK => ?_) AllReadyH.nil
              have HE := hide1 (two_end (kd := 2) HV4.out HG.out HXV4.out HLV4.out)
              have hne1 : g ≠ gb := by have h1 := HBPB.out.lt; have h2 := HG.out; omega
              have hne2 : g' ≠ gb := by have h1 := HBQB.out.lt; have h2 := HG.out; omega
              obtain ⟨⟨z0, z1, z2, z3, z4, z5⟩, s0, s1, s2, s3, s4, s5⟩ := HXV4.out.facts
              go_simp
              clear z0 z1 z2 z3 z4 z5 s0 s1 s2 s3 s4 s5
              refine hK.out _ _ ⟨hHeld.1.other hne1, hHeld.2.other hne2⟩ (fun hHeld2 => ?_)
              clear hK K hHeld hne1 hne2
              try simp only [Act.put, List.setIfInBounds_toArray, List.set_cons_zero, List.set_cons_succ]
              refine wpAnyH_done (by kernel_rfl) ?_ _
              go_wp2_with fail
              go_meet
              exact ⟨_, rfl, HE.out⟩
          · go_simp
            have KK := hide1 ((Kept.refl V0).alloc #[.int .i64 0, .int .i64 0, .int .i64 0, .int .i64 0, .int .i64 0, .slice none 0 0] 24)
            refine hK.out _ _ ⟨hHeld.1.keep KK.out, hHeld.2.keep KK.out⟩ (fun hHeld2 => ?_)
            clear hK K hHeld
            have hHeld := hHeld2
            clear hHeld2
            try simp only [Act.put, List.setIfInBounds_toArray, List.set_cons_zero, List.set_cons_succ]
            have HXV1 := hide1 (BoxAt.new V0 (.int .i64 0) (.int .i64 0) (.int .i64 0) (.int .i64 0) (.int .i64 0) (.slice none 0 0))
            have HG : Hid (wB.heap.size ≤ V0.heap.size) := HV0.out.size
            have HV1 := hide1 (gtrans HV0.out KK.out)
            clear KK HV0 
            generalize V0.alloc (.cells #[.int .i64 0, .int .i64 0, .int .i64 0, .int .i64 0, .int .i64 0, .slice none 0 0] 24) = V1 at hHeld HXV1 HV1  ⊢
            generalize V0.heap.size = gb at HXV1 HG  ⊢
            refine wpAnyH_ready (rs := [1]) (by kernel_rfl) (by simp) ?_
            refine AllReadyH.cons (i := 1) rfl (fun K hK => ?_) AllReadyH.nil
            go_simp
            go_wp2_with (go_at_call 5; refine (TwinExpr_is (fun d => d < w.heap.size) k p _ V1 (HKP.out.kept (gtrans HKB.out HV1.out))).mono ?_; rintro e V2 ⟨h10, hk10⟩; obtain ⟨v10, rfl, hq10, hm10⟩ := h10.out; rw [valOf_eq]; obtain ⟨e1, f1, e10⟩ := hq10.form; subst e10; have HO := hide1 hq10; have KK := hide1 hk10; clear h10 hq10 hm10 hk10)
            refine hK.out _ _ ⟨hHeld.1.keep KK.out, hHeld.2.keep KK.out⟩ (fun hHeld2 => ?_)
            clear hK K hHeld
            have hHeld := hHeld2
            clear hHeld2
            try simp only [Act.put, List.setIfInBounds_toArray, List.set_cons_zero, List.set_cons_succ]
            have HV2 : Hid (Kept wB V2) := gtrans HV1.out KK.out
            have HPV2 : Hid (OutB (some gb) V2 k (kids p) (.slice e1 (kids p).length f1)) := OutB.call HO.out (fun g e => by simp only [Option.some.injEq] at e; subst e; exact ⟨Nat.le_trans HKB.out.size HG.out, HXV1.out.lt⟩)
            have HXV2 := hide1 (HXV1.out.keep KK.out)
            clear HO KK HV1 HXV1
            refine wpAnyH_ready (rs := [3]) (by kernel_rfl) (by simp) ?_
            refine AllReadyH.cons (i := 3) rfl (fun K hK => ?_) AllReadyH.nil
            go_simp
            go_wp2_with (go_at_call 5; refine (TwinExpr_is (fun d => d < w.heap.size) k q _ V2 (HKQ.out.kept (gtrans HKB.out HV2.out))).mono ?_; rintro e V3 ⟨h10, hk10⟩; obtain ⟨v10, rfl, hq10, hm10⟩ := h10.out; rw [valOf_eq]; obtain ⟨e2, f2, e10⟩ := hq10.form; subst e10; have HO := hide1 hq10; have KK := hide1 hk10; clear h10 hq10 hm10 hk10)
            refine hK.out _ _ ⟨hHeld.1.keep KK.out, hHeld.2.keep KK.out⟩ (fun hHeld2 => ?_)
            clear hK K hHeld
            have hHeld := hHeld2
            clear hHeld2
            try simp only [Act.put, List.setIfInBounds_toArray, List.set_cons_zero, List.set_cons_succ]
            have HV3 : Hid (Kept wB V3) := gtrans HV2.out KK.out
            have HQV3 : Hid (OutB (some gb) V3 k (kids q) (.slice e2 (kids q).length f2)) := OutB.call HO.out (fun g e => by simp only [Option.some.injEq] at e; subst e; exact ⟨Nat.le_trans HKB.out.size HG.out, HXV2.out.lt⟩)
            have HPV3 := hide1 (HPV2.out.keep KK.out)
            have HXV3 := hide1 (HXV2.out.keep KK.out)
            clear HO KK HV2 HPV2 HXV2
            refine wpAnyH_ready (rs := [4]) (by kernel_rfl) (by simp) ?_
            refine AllReadyH.cons (i := 4) rfl (fun K hK => ?_) AllReadyH.nil
            go_simp
            have KK := hide1 ((Kept.refl V3).alloc #[.int .i64 (kind p), .int .i64 (from_ p), .int .i64 (to_ p), .int .i64 (min_ p), .int .i64 (max_ p), .slice e1 (kids p).length f1, .int .i64 (kind q), .int .i64 (from_ q), .int .i64 (to_ q), .int .i64 (min_ q), .int .i64 (max_ q), .slice e2 (kids q).length f2] 24)
            have HLV4 := hide1 (two_made HPV3.out HQV3.out (fun g e => by simp only [Option.some.injEq] at e; subst e; exact HXV3.out.lt))
            refine hK.out _ _ ⟨hHeld.1.keep KK.out, hHeld.2.keep KK.out⟩ (fun hHeld2 => ?_)
            clear hK K hHeld
            have hHeld := hHeld2
            clear hHeld2
            try simp only [Act.put, List.setIfInBounds_toArray, List.set_cons_zero, List.set_cons_succ]
            have HV4 := hide1 (gtrans HV3.out KK.out)
            have HXV4 := hide1 (HXV3.out.keep KK.out)
            clear KK HV3 HPV3 HQV3 HXV3
            generalize V3.alloc (.cells #[.int .i64 (kind p), .int .i64 (from_ p), .int .i64 (to_ p), .int .i64 (min_ p), .int .i64 (max_ p), .slice e1 (kids p).length f1, .int .i64 (kind q), .int .i64 (from_ q), .int .i64 (to_ q), .int .i64 (min_ q), .int .i64 (max_ q), .slice e2 (kids q).length f2] 24) = V4 at hHeld HV4 HLV4 HXV4 ⊢
            generalize V3.heap.size = gs at HLV4 ⊢
            refine wpAnyH_take (i := 5) (v := .agg #[.int .i64 2, .int .i64 0, .int .i64 0, .int .i64 0, .int .i64 0, .slice (some ⟨gs, 0, none⟩) 2 2]) rfl (by kernel_rfl) (by kernel_rfl) (by kernel_rfl) (fun _ _ _ h => h) (Or.inl ⟨by rfl, fun w' hSw => ?_⟩) (by with_reducible assumption) ?_
            · clear hSw
              go_simp
            try simp only [Act.put, List.setIfInBounds_toArray, List.set_cons_zero, List.set_cons_succ]
            refine wpAnyH_ready (rs := [7]) (by kernel_rfl) (by simp) ?_
            refine AllReadyH.cons (i := 7) rfl (fun K hK => ?_) AllReadyH.nil
            have HE := hide1 (two_end (kd := 2) HV4.out HG.out HXV4.out HLV4.out)
            have hne1 : g ≠ gb := by have h1 := HBPB.out.lt; have h2 := HG.out; omega
            have hne2 : g' ≠ gb := by have h1 := HBQB.out.lt; have h2 := HG.out; omega
            obtain ⟨⟨z0, z1, z2, z3, z4, z5⟩, s0, s1, s2, s3, s4, s5⟩ := HXV4.out.facts
            go_simp
            clear z0 z1 z2 z3 z4 z5 s0 s1 s2 s3 s4 s5
            refine hK.out _ _ ⟨hHeld.1.other hne1, hHeld.2.other hne2⟩ (fun hHeld2 => ?_)
            clear hK K hHeld hne1 hne2
            try simp only [Act.put, List.setIfInBounds_toArray, List.set_cons_zero, List.set_cons_succ]
            refine wpAnyH_done (by kernel_rfl) ?_ _
            go_wp2_with fail
            go_meet
            exact ⟨_, rfl, HE.out⟩
        case rest =>
          obtain ⟨wz, hwz, hcut⟩ := hcut
          subst hwz
          obtain ⟨hk11, gR, aR, cR, hcR, hbR, hqR⟩ := hcut.out
          have hcR := hcR.symm
          subst hcR
          have HKZ := hide1 (gtrans HKB.out hk11)
          have HBPZ := hide1 (HBPB.out.keep hk11)
          have HBQZ := hide1 (HBQB.out.keep hk11)
          have HXZ := hide1 (HXB.out.keep hk11)
          have HQZ := hide1 (KidsAt.all (HQB.out.kept hk11))
          have HXR := hide1 hbR
          have HQR := hide1 hqR
          clear hcut hk11 hbR hqR HBPB HBQB HKB HXB HQB S1 S2
          obtain ⟨mp, hmp⟩ : ∃ x, matchP p bs = x := ⟨_, rfl⟩
          obtain ⟨mq, hmq⟩ : ∃ x, matchP q bs = x := ⟨_, rfl⟩
          obtain ⟨mb, hmb⟩ : ∃ x, matchP (twoP 3 p q) bs = x := ⟨_, rfl⟩
          obtain ⟨cg, hcg⟩ : ∃ x, checkP (twoP 3 p q) = x := ⟨_, rfl⟩
          obtain ⟨mr, hmr⟩ : ∃ x, matchP (twoP 2 p q) bs = x := ⟨_, rfl⟩
          obtain ⟨cr, hcr⟩ : ∃ x, checkP (twoP 2 p q) = x := ⟨_, rfl⟩
          have HMP := hide1 hmp
          have HMQ := hide1 hmq
          have HMB := hide1 hmb
          have HCG := hide1 hcg
          have HMR := hide1 hmr
          have HCR := hide1 hcr
          clear hmp hmq hmb hcg hmr hcr
          have HEI : Hid (cg = 0 → mb = (mp || mq)) := fun e => by
            have h3 := HCG.out
            rw [e] at h3
            rw [Bool.eq_iff_iff, Bool.or_eq_true, ← HMB.out, ← HMP.out, ← HMQ.out, match_iff h3, match_iff HCP.out, match_iff HCQ.out, lang_both]
          obtain ⟨⟨t0, t1, t2, t3, t4, t5⟩, _⟩ := HBPZ.out.facts
          go_upto_region 9 with (first
            | (go_at_call 7; have _g := H24; clear _g; refine (Match_is k q (fun d => d < _) _ _ (KidsAt.all (HQ23.out.kept HK2324.out)) (fun _ h => h) (HT.out.keep (gtrans HKZ.out HK24.out)) _ _ n bs HN.out (BytesIn.all HB24.out) (by have := HN.out; omega)).mono ?_; rintro e w25 ⟨rfl, hk25⟩; rw [HMQ.out, HCQ.out]; have HK25 := hide1 (gtrans HK24.out hk25); clear hk25; skip)
            | (go_at_call 8; have _g := H23; clear _g; refine (Hand_is (fun d => d < w.heap.size) a n cap bs _ HN.out (HB.out.keepS (gtrans HKZ.out HK23.out) (fun c hc => hc)) (by omega)).mono ?_; rintro e w24 ⟨⟨v24, c24, rfl, rfl, hb24⟩, hk24⟩; have HB24 := hide1 hb24; have HK24 := hide1 (gtrans HK23.out hk24); have HK2324 := hide1 hk24; clear hb24 hk24; have H24 := trivial)
            | (go_at_call 5; have _g := S1; clear _g; refine (TwinExpr_is (fun d => d < w.heap.size) k q _ _ (HKQ.out.kept (gtrans HKZ.out (HK22.out)))).mono ?_; rintro e w23 ⟨h23, hk23⟩; obtain ⟨v23, rfl, hq23, hm23⟩ := h23.out; rw [valOf_eq]; obtain ⟨a23, c23, e23⟩ := hq23.form; subst e23; have HQ23 := hide1 hq23; have HK23 := hide1 (gtrans (HK22.out) hk23); clear h23 hq23 hm23 hk23; have H23 := trivial)
            | (go_at_call 7; refine (Match_is k p (fun d => d < _) _ _ (KidsAt.all (HQ20.out.kept HK2021.out)) (fun _ h => h) (HT.out.keep (gtrans HKZ.out HK21.out)) _ _ n bs HN.out (BytesIn.all HB21.out) (by have := HN.out; omega)).mono ?_; rintro e w22 ⟨rfl, hk22⟩; rw [HMP.out, HCP.out]; have HK22 := hide1 (gtrans HK21.out hk22); clear hk22; obtain ⟨⟨t0, t1, t2, t3, t4, t5⟩, _⟩ := (HBQZ.out.keep HK22.out).facts; have S1 := trivial)
            | (go_at_call 8; refine (Hand_is (fun d => d < w.heap.size) a n cap bs _ HN.out (HB.out.keepS (gtrans HKZ.out HK20.out) (fun c hc => hc)) (by omega)).mono ?_; rintro e w21 ⟨⟨v21, c21, rfl, rfl, hb21⟩, hk21⟩; have HB21 := hide1 hb21; have HK21 := hide1 (gtrans HK20.out hk21); have HK2021 := hide1 hk21; clear hb21 hk21; have H21 := trivial)
            | (go_at_call 5; refine (TwinExpr_is (fun d => d < w.heap.size) k p _ _ (HKP.out.kept (gtrans HKZ.out (Kept.refl wz)))).mono ?_; rintro e w20 ⟨h20, hk20⟩; obtain ⟨v20, rfl, hq20, hm20⟩ := h20.out; rw [valOf_eq]; obtain ⟨a20, c20, e20⟩ := hq20.form; subst e20; have HQ20 := hide1 hq20; have HK20 := hide1 (gtrans (Kept.refl wz) hk20); clear h20 hq20 hm20 hk20; have H20 := trivial))
          clear t0 t1 t2 t3 t4 t5
          have HK26 := hide1 (gtrans HKZ.out HK25.out)
          have HBP := hide1 (HBPZ.out.keep HK25.out)
          have HBQ := hide1 (HBQZ.out.keep HK25.out)
          have HXB := hide1 (HXZ.out.keep HK25.out)
          have HQB := hide1 (KidsAt.all (HQZ.out.kept HK25.out))
          have HXr := hide1 (HXR.out.keep HK25.out)
          have HQr := hide1 (KidsAt.all (HQR.out.kept HK25.out))
          have HTR := hide1 (HT.out.keep HK26.out)
          have HBB : Hid (BytesIn (fun d => d < w.heap.size) w25 (.slice a n cap) bs) := HB.out.keepS HK26.out (fun c hc => hc)
          clear HK20 HK21 HK22 HK23 HK24 HK25 HK2021 HK2324 HQ20 HQ23 HB21 HB24 HKZ HBPZ HBQZ HXZ HQZ HXR HQR S1
          obtain ⟨⟨t0, t1, t2, t3, t4, t5⟩, _⟩ := HXB.out.facts
          have q0 := keeps t0
          have q1 := keeps t1
          have q2 := keeps t2
          have q3 := keeps t3
          have q4 := keeps t4
          have q5 := keeps t5
          have hkr : Kept w25 w25 := Kept.refl w25
          clear t0 t1 t2 t3 t4 t5
          go_region_held3 (fun w' => Kept w25 w') (first | assumption | exact Kept.refl _ | exact gtrans (by assumption) (by assumption))
            ((first
              | (go_at_call 8; refine (Hand_is (fun d => d < w.heap.size) a n cap bs _ HN.out (HBB.out.keepS (by assumption) (fun c hc => hc)) (by omega)).mono ?_; rintro e w11 ⟨⟨v11, c11, rfl, rfl, hb11⟩, hk11⟩; have k11 : Kept w25 w11 := gtrans (by assumption) hk11)
              | (go_at_call 7; refine (Match_is (k + 1) (twoP 3 p q) (fun d => d < _) (.slice aB 2 cB) _ (KidsAt.all (HQB.out.kept (gtrans k11 (by first | exact Kept.refl _ | exact drew_kept _ | exact gtrans (drew_kept _) (drew_kept _))))) (fun _ h => h) (HTR.out.keep (by assumption)) _ _ n bs HN.out (BytesIn.all (hb11.keepS (by first | exact Kept.refl _ | exact drew_kept _ | exact gtrans (drew_kept _) (drew_kept _)) (fun c hc => hc))) (by have := HN.out; omega)).mono ?_; rintro e w26 ⟨rfl, hk12⟩; rw [HMB.out, HCG.out]; have k12 : Kept w25 w26 := gtrans (by assumption) hk12)))
          have HK12 := hide1 k12
          clear hk11 hk12 k11 k12 hb11 q0 q1 q2 q3 q4 q5 hkr
          go_upto_region 12 with fail
          go_cut [92] from 83 to 91 (fun c wy => c = .bool false ∧ wy = w26)
          case first =>
            by_cases hg0 : cg = 0
            · have e := HEI.out hg0
              have b1 : (cg == 0) = true := by simpa using hg0
              clear hg0 HEI
              subst e
              cases mp
              all_goals
                cases mq
                all_goals
                  go_wp2_with fail
                  go_meet
                  exact ⟨rfl, rfl⟩
            · have b1 : (cg == 0) = false := by simpa using hg0
              clear hg0
              go_wp2_with fail
              go_meet
              exact ⟨rfl, rfl⟩
          case rest =>
            obtain ⟨rfl, hw2⟩ := hcut
            have hw2 := hw2.symm
            subst hw2
            have HKC := hide1 (gtrans HK26.out HK12.out)
            have HBP2 := hide1 (HBP.out.keep HK12.out)
            have HBQ2 := hide1 (HBQ.out.keep HK12.out)
            have HXR2 := hide1 (HXr.out.keep HK12.out)
            have HQR2 := hide1 (KidsAt.all (HQr.out.kept HK12.out))
            have HTR := hide1 (HT.out.keep HKC.out)
            have HBB : Hid (BytesIn (fun d => d < w.heap.size) w26 (.slice a n cap) bs) := HB.out.keepS HKC.out (fun c hc => hc)
            clear HEI HXB HQB HXr HQr HBP HBQ HK26 HK12
            obtain ⟨⟨t0, t1, t2, t3, t4, t5⟩, _⟩ := HXR2.out.facts
            have q0 := keeps t0
            have q1 := keeps t1
            have q2 := keeps t2
            have q3 := keeps t3
            have q4 := keeps t4
            have q5 := keeps t5
            have hkr : Kept w26 w26 := Kept.refl w26
            clear t0 t1 t2 t3 t4 t5
            go_upto_region 14 with fail
            go_region_held3 (fun w' => Kept w26 w') (first | assumption | exact Kept.refl _ | exact gtrans (by assumption) (by assumption))
              ((first
                | (go_at_call 8; refine (Hand_is (fun d => d < w.heap.size) a n cap bs _ HN.out (HBB.out.keepS (by assumption) (fun c hc => hc)) (by omega)).mono ?_; rintro e w11 ⟨⟨v11, c11, rfl, rfl, hb11⟩, hk11⟩; have k11 : Kept w26 w11 := gtrans (by assumption) hk11)
                | (go_at_call 7; refine (Match_is (k + 1) (twoP 2 p q) (fun d => d < _) (.slice aR 2 cR) _ (KidsAt.all (HQR2.out.kept (gtrans k11 (by first | exact Kept.refl _ | exact drew_kept _ | exact gtrans (drew_kept _) (drew_kept _))))) (fun _ h => h) (HTR.out.keep (by assumption)) _ _ n bs HN.out (BytesIn.all (hb11.keepS (by first | exact Kept.refl _ | exact drew_kept _ | exact gtrans (drew_kept _) (drew_kept _)) (fun c hc => hc))) (by have := HN.out; omega)).mono ?_; rintro e w27 ⟨rfl, hk12⟩; rw [HMR.out, HCR.out]; have k12 : Kept w26 w27 := gtrans (by assumption) hk12)))
            have HK13 := hide1 k12
            clear hk11 hk12 k11 k12 hb11 q0 q1 q2 q3 q4 q5 hkr
            have HKD := hide1 (gtrans HKC.out HK13.out)
            have HBP3 := hide1 (HBP2.out.keep HK13.out)
            have HBQ3 := hide1 (HBQ2.out.keep HK13.out)
            clear HK13 HBP2 HBQ2 HXR2 HQR2 HTR HBB HKC
            by_cases hr0 : cr = 0
            · have HEND : Hid (∀ j (bv : Bool), j = bs.length + 1 → (bv = true ↔ CutS (LangN k p) (LangN k q) bs j) → mr = bv) := fun j bv hj hb => by
                have h3 := HCR.out
                rw [hr0] at h3
                rw [Bool.eq_iff_iff, hb, ← HMR.out, match_iff h3, lang_row, CutS.all hj]
              have b1 : (cr == 0) = true := by simpa using hr0
              clear hr0
              go_wp2_with fail
              go_loopw [20, 21] (CutR (LangN k p) (LangN k q) bs n w27) (fun _ i _ => n + 1 - (intOf i).toNat)
              case atStart => exact ⟨0, false, rfl, rfl, Nat.zero_le _, ⟨fun e => absurd e (by simp), fun e => absurd e CutS.none⟩, Kept.refl _⟩
              case round =>
                obtain ⟨j, bv, rfl, rfl, hj, HWA, HKr⟩ := hrel
                have HKR := hide1 (gtrans HKD.out HKr.out)
                have HBR := hide1 (HBP3.out.keep HKr.out)
                have HBS := hide1 (HBQ3.out.keep HKr.out)
                have HTR := hide1 (HT.out.keep HKR.out)
                by_cases hlt : (j : Int) ≤ (n : Int)
                · obtain ⟨u, hu⟩ : ∃ u, bs.take j = u := ⟨_, rfl⟩
                  obtain ⟨x, hx⟩ : ∃ x, bs.drop j = x := ⟨_, rfl⟩
                  have HBRR : Hid (BytesIn (fun d => d < w.heap.size) wr (.slice a n cap) bs) := HB.out.keepS HKR.out (fun c hc => hc)
                  have hfr := HBRR.out.front HN.out j (by omega)
                  have hbk := HBRR.out.back HN.out j (by omega)
                  rw [hu] at hfr
                  rw [hx] at hbk
                  obtain ⟨aj, haj⟩ : ∃ aj, (if cap = j then a else a.map (·.add j)) = aj := ⟨_, rfl⟩
                  have HAJ := hide1 haj
                  rw [haj] at hbk
                  have HBU := hide1 hfr.1
                  have HUL := hide1 hfr.2
                  have HBV := hide1 hbk.1
                  have HVL := hide1 hbk.2
                  have HU := hide1 hu
                  have HX := hide1 hx
                  have gjc : (j : Int) ≤ (cap : Int) := by omega
                  have gj : (j : Int) ≤ 40 := by omega
                  obtain ⟨um, hum⟩ : ∃ x, matchP p u = x := ⟨_, rfl⟩
                  have HUM := hide1 hum
                  obtain ⟨vm, hvm⟩ : ∃ y, matchP q x = y := ⟨_, rfl⟩
                  have HVM := hide1 hvm
                  have HNX0 : Hid ((bv || (um && vm)) = true ↔ CutS (LangN k p) (LangN k q) bs (j + 1)) := by
                    show _ ↔ _
                    rw [CutS.more (by rw [HN.out]; omega), ← HWA.out, hu, hx, ← match_iff HCP.out, ← match_iff HCQ.out, hum, hvm]
                    simp
                  obtain ⟨nb, hnb⟩ : ∃ y, (bv || (um && vm)) = y := ⟨_, rfl⟩
                  have HNX : Hid (nb = true ↔ CutS (LangN k p) (LangN k q) bs (j + 1)) := by rw [← hnb]; exact HNX0.out
                  have HNB := hide1 hnb
                  clear HNX0 hnb
                  obtain ⟨⟨t0, t1, t2, t3, t4, t5⟩, _⟩ := HBR.out.facts
                  have q0 := keeps t0
                  have q1 := keeps t1
                  have q2 := keeps t2
                  have q3 := keeps t3
                  have q4 := keeps t4
                  have q5 := keeps t5
                  have hkr : Kept wr wr := Kept.refl wr
                  clear t0 t1 t2 t3 t4 t5 hu hx hfr hbk haj hum hvm
                  go_upto_region 20 with fail
                  go_region_held3 (fun w' => Kept wr w') (first | assumption | exact Kept.refl _ | exact gtrans (by assumption) (by assumption))
                    ((first
                      | (go_at_call 5; refine (TwinExpr_is (fun d => d < w.heap.size) k p _ _ (HKP.out.kept (gtrans HKR.out (by assumption)))).mono ?_; rintro e w10 ⟨h10, hk10⟩; obtain ⟨v10, rfl, hq10, hm10⟩ := h10.out; rw [valOf_eq]; obtain ⟨a10, c10, e10⟩ := hq10.form; subst e10; have k10 : Kept wr w10 := gtrans (by assumption) hk10; clear h10 hm10)
                      | (go_at_call 8; refine (Hand_is (fun d => d < w.heap.size) a j cap u _ HUL.out (HBU.out.keepS (by assumption) (fun c hc => hc)) (by omega)).mono ?_; rintro e w11 ⟨⟨v11, c11, rfl, rfl, hb11⟩, hk11⟩; have k11 : Kept wr w11 := gtrans (by assumption) hk11; have k11b : Kept w10 w11 := gtrans (by first | exact Kept.refl _ | exact drew_kept _ | exact gtrans (drew_kept _) (drew_kept _)) hk11)
                      | (go_at_call 7; refine (Match_is k p (fun d => d < _) _ _ (KidsAt.all (hq10.kept (gtrans k11b (by first | exact Kept.refl _ | exact drew_kept _ | exact gtrans (drew_kept _) (drew_kept _))))) (fun _ h => h) (HTR.out.keep (by assumption)) _ _ j u HUL.out (BytesIn.all (hb11.keepS (by first | exact Kept.refl _ | exact drew_kept _ | exact gtrans (drew_kept _) (drew_kept _)) (fun c hc => hc))) (by have := HUL.out; omega)).mono ?_; rintro e w13 ⟨rfl, hk12⟩; rw [HUM.out, HCP.out]; have k12 : Kept wr w13 := gtrans (by assumption) hk12)))
                  have HK13 := hide1 k12
                  clear hk10 hk11 hk12 k10 k11 k12 k11b hb11 hq10
                  clear q0 q1 q2 q3 q4 q5 hkr
                  have HKR3 := hide1 (gtrans HKR.out HK13.out)
                  have HTR := hide1 (HTR.out.keep HK13.out)
                  obtain ⟨⟨t0, t1, t2, t3, t4, t5⟩, _⟩ := (HBS.out.keep HK13.out).facts
                  have q0 := keeps t0
                  have q1 := keeps t1
                  have q2 := keeps t2
                  have q3 := keeps t3
                  have q4 := keeps t4
                  have q5 := keeps t5
                  have hkr : Kept w13 w13 := Kept.refl w13
                  clear t0 t1 t2 t3 t4 t5
                  by_cases hcj : cap = j
                  · have hnj : n = j := by omega
                    have HBV3 : Hid (BytesIn (fun d => d < w.heap.size) w13 (.slice a 0 0) x) := by
                      have h1 := HBV.out.keepS (S' := fun d => d < w.heap.size) HK13.out (fun c hc => hc)
                      rw [← HAJ.out, if_pos hcj, hcj, hnj, Nat.sub_self] at h1
                      exact h1
                    have HVL0 : Hid (x.length = 0) := by have e := HVL.out; show x.length = 0; omega
                    clear HBV HVL HAJ HBRR HBU
                    have hcj := hcj.symm
                    have hnj := hnj.symm
                    subst hcj
                    subst hnj
                    go_upto_region 21 with fail
                    go_region_held3 (fun w' => Kept w13 w') (first | assumption | exact Kept.refl _ | exact gtrans (by assumption) (by assumption))
                      ((first
                        | (go_at_call 5; refine (TwinExpr_is (fun d => d < w.heap.size) k q _ _ (HKQ.out.kept (gtrans HKR3.out (by assumption)))).mono ?_; rintro e w10 ⟨h10, hk10⟩; obtain ⟨v10, rfl, hq10, hm10⟩ := h10.out; rw [valOf_eq]; obtain ⟨a10, c10, e10⟩ := hq10.form; subst e10; have k10 : Kept w13 w10 := gtrans (by assumption) hk10; clear h10 hm10)
                        | (go_at_call 8; refine (Hand_is (fun d => d < w.heap.size) a 0 0 x _ HVL0.out (HBV3.out.keepS (by assumption) (fun c hc => hc)) (by omega)).mono ?_; rintro e w11 ⟨⟨v11, c11, rfl, rfl, hb11⟩, hk11⟩; have k11 : Kept w13 w11 := gtrans (by assumption) hk11; have k11b : Kept w10 w11 := gtrans (by first | exact Kept.refl _ | exact drew_kept _ | exact gtrans (drew_kept _) (drew_kept _)) hk11)
                        | (go_at_call 7; refine (Match_is k q (fun d => d < _) _ _ (KidsAt.all (hq10.kept (gtrans k11b (by first | exact Kept.refl _ | exact drew_kept _ | exact gtrans (drew_kept _) (drew_kept _))))) (fun _ h => h) (HTR.out.keep (by assumption)) _ _ 0 x HVL0.out (BytesIn.all (hb11.keepS (by first | exact Kept.refl _ | exact drew_kept _ | exact gtrans (drew_kept _) (drew_kept _)) (fun c hc => hc))) (by have := HVL0.out; omega)).mono ?_; rintro e w14 ⟨rfl, hk12⟩; rw [HVM.out, HCQ.out]; have k12 : Kept w13 w14 := gtrans (by assumption) hk12)))
                    have HK14 := hide1 k12
                    clear hk10 hk11 hk12 k10 k11 k12 k11b hb11 hq10
                    clear q0 q1 q2 q3 q4 q5 hkr
                    cases bv
                    all_goals
                      cases um
                      all_goals
                        cases vm
                        all_goals
                          go_wp2_with fail
                          go_roundw
                          case rel => exact ⟨j + 1, nb, by go_num, by rw [← HNB.out]; rfl, by omega, HNX.out, gtrans HKr.out (gtrans HK13.out HK14.out)⟩
                          case measure => simp [intOf] <;> omega
                  · have HBV3 : Hid (BytesIn (fun d => d < w.heap.size) w13 (.slice (Option.map (fun x => x.add j) a) (n - j) (cap - j)) x) := by
                      have h1 := HBV.out.keepS (S' := fun d => d < w.heap.size) HK13.out (fun c hc => hc)
                      rw [← HAJ.out, if_neg hcj] at h1
                      exact h1
                    go_upto_region 21 with fail
                    go_region_held3 (fun w' => Kept w13 w') (first | assumption | exact Kept.refl _ | exact gtrans (by assumption) (by assumption))
                      ((first
                        | (go_at_call 5; refine (TwinExpr_is (fun d => d < w.heap.size) k q _ _ (HKQ.out.kept (gtrans HKR3.out (by assumption)))).mono ?_; rintro e w10 ⟨h10, hk10⟩; obtain ⟨v10, rfl, hq10, hm10⟩ := h10.out; rw [valOf_eq]; obtain ⟨a10, c10, e10⟩ := hq10.form; subst e10; have k10 : Kept w13 w10 := gtrans (by assumption) hk10; clear h10 hm10)
                        | (go_at_call 8; refine (Hand_is (fun d => d < w.heap.size) _ (n - j) (cap - j) x _ HVL.out (HBV3.out.keepS (by assumption) (fun c hc => hc)) (by omega)).mono ?_; rintro e w11 ⟨⟨v11, c11, rfl, rfl, hb11⟩, hk11⟩; have k11 : Kept w13 w11 := gtrans (by assumption) hk11; have k11b : Kept w10 w11 := gtrans (by first | exact Kept.refl _ | exact drew_kept _ | exact gtrans (drew_kept _) (drew_kept _)) hk11)
                        | (go_at_call 7; refine (Match_is k q (fun d => d < _) _ _ (KidsAt.all (hq10.kept (gtrans k11b (by first | exact Kept.refl _ | exact drew_kept _ | exact gtrans (drew_kept _) (drew_kept _))))) (fun _ h => h) (HTR.out.keep (by assumption)) _ _ (n - j) x HVL.out (BytesIn.all (hb11.keepS (by first | exact Kept.refl _ | exact drew_kept _ | exact gtrans (drew_kept _) (drew_kept _)) (fun c hc => hc))) (by have := HVL.out; omega)).mono ?_; rintro e w14 ⟨rfl, hk12⟩; rw [HVM.out, HCQ.out]; have k12 : Kept w13 w14 := gtrans (by assumption) hk12)))
                    have HK14 := hide1 k12
                    clear hk10 hk11 hk12 k10 k11 k12 k11b hb11 hq10
                    clear q0 q1 q2 q3 q4 q5 hkr
                    cases bv
                    all_goals
                      cases um
                      all_goals
                        cases vm
                        all_goals
                          go_wp2_with fail
                          go_roundw
                          case rel => exact ⟨j + 1, nb, by go_num, by rw [← HNB.out]; rfl, by omega, HNX.out, gtrans HKr.out (gtrans HK13.out HK14.out)⟩
                          case measure => simp [intOf] <;> omega
                · have he := HEND.out j bv (by have := HN.out; omega) HWA.out
                  subst he
                  have HKT := HKR
                  have HTT := hide1 (HT.out.keep HKT.out)
                  have HBT : Hid (BytesIn (fun d => d < w.heap.size) wr (.slice a n cap) bs) := HB.out.keepS HKT.out (fun c hc => hc)
                  obtain ⟨⟨t0, t1, t2, t3, t4, t5⟩, _⟩ := HBR.out.facts
                  have q0 := keeps t0
                  have q1 := keeps t1
                  have q2 := keeps t2
                  have q3 := keeps t3
                  have q4 := keeps t4
                  have q5 := keeps t5
                  have hkr : Kept wr wr := Kept.refl wr
                  clear t0 t1 t2 t3 t4 t5
                  go_upto_region 25 with fail
                  go_region_held3 (fun w' => Kept wr w') (first | assumption | exact Kept.refl _ | exact gtrans (by assumption) (by assumption))
                    ((first
                      | (go_at_call 6; refine (known_is _ (HTT.out.keep (by assumption))).mono ?_; rintro e w33 ⟨rfl, hk33⟩; have k33 : Kept wr w33 := gtrans (by assumption) hk33)
                      | (go_at_call 9; refine (repeats_is k p _ k30 k31 a n cap bs _ (KidsAt.all (HKP.out.kept (gtrans HKT.out (by assumption)))) (HTT.out.keep (by assumption)) HCP.out HS30.out.1 HS30.out.2 HS31.out.1 HS31.out.2 HN.out hn40 (BytesIn.all (HBT.out.keepS (by assumption) (fun c hc => hc))) HCAP).mono ?_; rintro e w32 ⟨rfl, hk32⟩; have k32 : Kept wr w32 := gtrans (by assumption) hk32)
                      | (go_at_call 10; have _g := G30; clear _g; refine (smallL_is _ _).mono ?_; rintro e w31 ⟨⟨k31, rfl, hs31, hs31'⟩, hk31⟩; have HS31 := hide1 (And.intro hs31 hs31'); have k31w : Kept wr w31 := gtrans (by assumption) hk31; clear hk31 hs31 hs31')
                      | (go_at_call 10; refine (smallL_is _ _).mono ?_; rintro e w30 ⟨⟨k30, rfl, hs30, hs30'⟩, hk30⟩; have HS30 := hide1 (And.intro hs30 hs30'); have k30w : Kept wr w30 := gtrans (by assumption) hk30; have G30 := trivial; clear hk30 hs30 hs30')))
                  go_wp2_with fail
                  go_ret
                  exact ⟨rfl, gtrans HKT.out k33⟩
            · have b1 : (cr == 0) = false := by simpa using hr0
              clear hr0
              have HKT := HKD
              have HTT := hide1 (HT.out.keep HKT.out)
              have HBT : Hid (BytesIn (fun d => d < w.heap.size) w27 (.slice a n cap) bs) := HB.out.keepS HKT.out (fun c hc => hc)
              obtain ⟨⟨t0, t1, t2, t3, t4, t5⟩, _⟩ := HBP3.out.facts
              have q0 := keeps t0
              have q1 := keeps t1
              have q2 := keeps t2
              have q3 := keeps t3
              have q4 := keeps t4
              have q5 := keeps t5
              have hkr : Kept w27 w27 := Kept.refl w27
              clear t0 t1 t2 t3 t4 t5
              go_upto_region 25 with fail
              go_region_held3 (fun w' => Kept w27 w') (first | assumption | exact Kept.refl _ | exact gtrans (by assumption) (by assumption))
                ((first
                  | (go_at_call 6; refine (known_is _ (HTT.out.keep (by assumption))).mono ?_; rintro e w33 ⟨rfl, hk33⟩; have k33 : Kept w27 w33 := gtrans (by assumption) hk33)
                  | (go_at_call 9; refine (repeats_is k p _ k30 k31 a n cap bs _ (KidsAt.all (HKP.out.kept (gtrans HKT.out (by assumption)))) (HTT.out.keep (by assumption)) HCP.out HS30.out.1 HS30.out.2 HS31.out.1 HS31.out.2 HN.out hn40 (BytesIn.all (HBT.out.keepS (by assumption) (fun c hc => hc))) HCAP).mono ?_; rintro e w32 ⟨rfl, hk32⟩; have k32 : Kept w27 w32 := gtrans (by assumption) hk32)
                  | (go_at_call 10; have _g := G30; clear _g; refine (smallL_is _ _).mono ?_; rintro e w31 ⟨⟨k31, rfl, hs31, hs31'⟩, hk31⟩; have HS31 := hide1 (And.intro hs31 hs31'); have k31w : Kept w27 w31 := gtrans (by assumption) hk31; clear hk31 hs31 hs31')
                  | (go_at_call 10; refine (smallL_is _ _).mono ?_; rintro e w30 ⟨⟨k30, rfl, hs30, hs30'⟩, hk30⟩; have HS30 := hide1 (And.intro hs30 hs30'); have k30w : Kept w27 w30 := gtrans (by assumption) hk30; have G30 := trivial; clear hk30 hs30 hs30')))
              go_wp2_with fail
              go_ret
              exact ⟨rfl, gtrans HKT.out k33⟩
    · have ec : (cp != 0) = true := by simpa using hp0
      clear hp0
      go_wp2_with (first
        | (go_at_call 4; refine (Check_is (fun d => d < _) k p _ _ (KidsAt.all HQ6.out) (fun _ h => h)).mono ?_; rintro e w7 ⟨rfl, hk7⟩; rw [HCP.out]; have HK7 := hide1 (gtrans HK6.out hk7); clear hk7)
        | (go_at_call 5; refine (TwinExpr_is (fun d => d < w.heap.size) k p _ _ (HKP.out.kept HKW.out)).mono ?_; rintro e w6 ⟨h6, hk6⟩; obtain ⟨v6, rfl, hq6, hm6⟩ := h6.out; rw [valOf_eq]; obtain ⟨a6, c6, e6⟩ := hq6.form; subst e6; have HQ6 := hide1 hq6; have HK6 := hide1 hk6; clear h6 hq6 hm6 hk6)
        | (go_at_call 6; refine (known_is _ (HT.out.keep (gtrans HKW.out HK7.out))).mono ?_; rintro e w8 ⟨rfl, hk8⟩; have HK8 := hide1 (gtrans HKW.out (gtrans HK7.out hk8)); clear hk8))
      go_ret
      exact ⟨rfl, HK8.out⟩

end Ex
end Go.Proofs.YthcllhoboiglcaaDoor
