import Derived.Test.YthcllhoboiglcaaDoorMExSu1
namespace Go.Proofs.YthcllhoboiglcaaDoor
open Go.RowKit
attribute [local go_sem] Oper.semAt_some
namespace Ex

/-- What is wanted of repeats, behind the first j cuts. -/
def WantS (L : List Int → Prop) (bs : List Int) (mn mx fs ls : Int) (j : Nat) : Prop :=
  (mn = 0 ∧ bs = []) ∨ (mx ≠ 0 ∧ ∃ i, i < j ∧ i ≤ bs.length ∧ L (bs.take i) ∧ ¬ (i = 0 ∧ 0 < bs.length ∧ mx < 0 ∧ mn = 0) ∧ TimesS L fs ls (bs.drop i))
theorem WantS.same {L : List Int → Prop} {bs : List Int} {mn mx fs ls : Int} {j : Nat} (h : ¬ (j ≤ bs.length ∧ L (bs.take j) ∧ ¬ (j = 0 ∧ 0 < bs.length ∧ mx < 0 ∧ mn = 0) ∧ TimesS L fs ls (bs.drop j))) : WantS L bs mn mx fs ls (j + 1) ↔ WantS L bs mn mx fs ls j := by
  unfold WantS
  constructor
  · rintro (h1 | ⟨h1, i, h2, h3⟩)
    · exact .inl h1
    · by_cases e : i = j
      · subst e; exact absurd h3 h
      · exact .inr ⟨h1, i, by omega, h3⟩
  · rintro (h1 | ⟨h1, i, h2, h3⟩)
    · exact .inl h1
    · exact .inr ⟨h1, i, by omega, h3⟩
theorem WantS.more {L : List Int → Prop} {bs : List Int} {mn mx fs ls : Int} {j : Nat} (hx : mx ≠ 0) (hj : j ≤ bs.length) (h1 : L (bs.take j)) (h2 : ¬ (j = 0 ∧ 0 < bs.length ∧ mx < 0 ∧ mn = 0)) : WantS L bs mn mx fs ls (j + 1) ↔ WantS L bs mn mx fs ls j ∨ TimesS L fs ls (bs.drop j) := by
  by_cases h3 : TimesS L fs ls (bs.drop j)
  · exact ⟨fun _ => .inr h3, fun _ => .inr ⟨hx, j, by omega, hj, h1, h2, h3⟩⟩
  · rw [WantS.same (fun h => h3 h.2.2.2)]
    exact ⟨.inl, fun h => h.resolve_right h3⟩
theorem WantS.all {L : List Int → Prop} {bs : List Int} {mn mx fs ls : Int} {j : Nat} (h0 : 0 ≤ mn) (hm : mx = -1 ∨ mn ≤ mx) (hf : fs = max (mn - 1) 0) (hl : ls = if mx = -1 then -1 else mx - 1) (hj : mx = 0 ∨ j = bs.length + 1) : WantS L bs mn mx fs ls j ↔ TimesS L mn mx bs := by
  rw [times_less h0 hm hf hl]
  unfold WantS
  constructor
  · rintro (h1 | ⟨h1, i, h2, h3⟩)
    · exact .inl h1
    · exact .inr ⟨h1, i, h3⟩
  · rintro (h1 | ⟨h1, i, h3⟩)
    · exact .inl h1
    · exact .inr ⟨h1, i, by have := h3.1; omega, h3⟩
/-- The loop of repeats. -/
def RpR (L : List Int → Prop) (bs : List Int) (n : Nat) (mn mx fs ls : Int) (W : World) (vw vi : Value) (wr : World) : Prop :=
  ∃ (j : Nat) (bv : Bool), vi = .int .i64 (j : Int) ∧ vw = .bool bv ∧ j ≤ n + 1 ∧ Hid (bv = true ↔ WantS L bs mn mx fs ls j) ∧ Hid (Kept W wr)

set_option linter.unusedSimpArgs false in
set_option maxRecDepth 100000 in
set_option maxHeartbeats 1000000 in
theorem repeats_is (k : Nat) (p : PatN (k + 1)) (vk : Value) (mn more : Int) (a : Option Addr) (n cap : Nat) (bs : List Int) (w : World) (h : KidsAt (fun b => b < w.heap.size) w k (kids p) vk) (hT : TabAt w) (hch : checkP p = 0) (h0 : 0 ≤ mn) (h4 : mn ≤ 4) (m0 : 0 ≤ more) (m4 : more ≤ 4) (hn : bs.length = n) (hn40 : n ≤ 40) (hb : BytesIn (fun d => d < w.heap.size) w (.slice a n cap) bs) (hcap : n ≤ cap) :
    Calls Tryd.prog 9 #[valOf p vk, .int .i64 mn, .int .i64 more, .slice a n cap] w fun e w' => e = .returned (.bool true) ∧ Kept w w' := by
  have HK := hide1 h
  have HT := hide1 hT
  have HCH := hide1 hch
  have HN := hide1 hn
  have HB := hide1 hb
  obtain ⟨a0, c0, rfl⟩ := h.form
  obtain ⟨mx, hmx⟩ : ∃ x : Int, (if more = 4 then -1 else mn + more) = x := ⟨_, rfl⟩
  obtain ⟨ls, hls⟩ : ∃ x : Int, (if more = 4 then -1 else mn + more - 1) = x := ⟨_, rfl⟩
  obtain ⟨fs, hfs⟩ : ∃ x : Int, max (mn - 1) 0 = x := ⟨_, rfl⟩
  have HMX : Hid (mx = -1 ∨ (mn ≤ mx ∧ mx ≤ 1000)) := by
    show _ ∨ _
    by_cases e : more = 4
    · rw [if_pos e] at hmx; omega
    · rw [if_neg e] at hmx; omega
  have HLS : Hid (ls = if mx = -1 then -1 else mx - 1) := by
    show _ = _
    by_cases e : more = 4
    · rw [if_pos e] at hmx hls; rw [if_pos hmx.symm]; omega
    · rw [if_neg e] at hmx hls; rw [if_neg (by omega)]; omega
  have HFS : Hid (fs = max (mn - 1) 0) := hfs.symm
  have HM0 := hide1 hmx
  have HL0 := hide1 hls
  have gcap : (n : Int) ≤ (cap : Int) := by omega
  have gn : (n : Int) ≤ 40 := by omega
  rw [valOf_eq]
  clear h hT hch hn hb hmx hls hfs
  go_enter Tryd.func9, Tryd.ntmps9
  have HKW := hide1 ((Kept.refl w).alloc #[.int .i64 (kind p), .int .i64 (from_ p), .int .i64 (to_ p), .int .i64 (min_ p), .int .i64 (max_ p), .slice a0 (kids p).length c0] 24)
  have HBX := hide1 (BoxAt.new w (.int .i64 (kind p)) (.int .i64 (from_ p)) (.int .i64 (to_ p)) (.int .i64 (min_ p)) (.int .i64 (max_ p)) (.slice a0 (kids p).length c0))
  go_upto_if 26 with fail
  generalize hW : w.alloc (.cells #[.int .i64 (kind p), .int .i64 (from_ p), .int .i64 (to_ p), .int .i64 (min_ p), .int .i64 (max_ p), .slice a0 (kids p).length c0] 24) = W at HKW HBX ⊢
  obtain ⟨g, hg⟩ : ∃ g, w.heap.size = g := ⟨_, rfl⟩
  rw [hg] at HBX ⊢
  have HGW := hide1 hg
  clear hW hg
  go_cut [9, 10] from 25 to 26 (fun c d wx => c = .int .i64 mx ∧ d = .int .i64 ls ∧ wx = W)
  case first =>
    by_cases e4 : more = 4
    · have e1 : mx = -1 := by have e := HM0.out; rw [if_pos e4] at e; exact e.symm
      have e2 : ls = -1 := by have e := HL0.out; rw [if_pos e4] at e; exact e.symm
      go_wp2_with fail
      go_meet
      exact ⟨by rw [e1], by rw [e2], rfl⟩
    · have e1 : mx = mn + more := by have e := HM0.out; rw [if_neg e4] at e; exact e.symm
      have e2 : ls = mn + more - 1 := by have e := HL0.out; rw [if_neg e4] at e; exact e.symm
      go_wp2_with fail
      go_meet
      exact ⟨by rw [e1], by rw [e2], rfl⟩
  case rest =>
    obtain ⟨rfl, rfl, hw⟩ := hcut
    have hw := hw.symm
    subst hw
    clear HM0 HL0 m0 m4
    go_upto_if 30 with fail
    go_cut [11] from 29 to 30 (fun c wy => c = .int .i64 fs ∧ wy = W)
    case first =>
      by_cases e0 : mn - 1 < 0
      · have e1 : fs = 0 := by have e := HFS.out; omega
        go_wp2_with fail
        go_meet
        exact ⟨by rw [e1], rfl⟩
      · have e1 : fs = mn - 1 := by have e := HFS.out; omega
        go_wp2_with fail
        go_meet
        exact ⟨by rw [e1], rfl⟩
    case rest =>
      obtain ⟨rfl, hw⟩ := hcut
      have hw := hw.symm
      subst hw
      obtain ⟨⟨t0, t1, t2, t3, t4, t5⟩, _⟩ := HBX.out.facts
      obtain ⟨mb, hmb⟩ : ∃ x, matchP (manyP mn mx p) bs = x := ⟨_, rfl⟩
      obtain ⟨ck, hck⟩ : ∃ x, checkP (manyP mn mx p) = x := ⟨_, rfl⟩
      have HMB := hide1 hmb
      have HCK := hide1 hck
      have HTR := hide1 (HT.out.keep HKW.out)
      clear hmb hck
      have HB0 : Hid (BytesIn (fun d => d < w.heap.size) W (.slice a n cap) bs) := HB.out.keepS HKW.out (fun c hc => hc)
      have hkr : Kept W W := Kept.refl W
      go_upto_region 10 with (first
        | (go_at_call 18; refine (timesK_is w k p _ mn mx _ HK.out (HKW.out)).mono ?_; rintro e w10 ⟨⟨v10, rfl, hq10⟩, hk10⟩; rw [valOf_eq]; obtain ⟨a10, c10, e10⟩ : ∃ a c, v10 = .slice a 1 c := hq10.form; subst e10; have k10 : Kept W w10 := gtrans (by assumption) hk10)
        | (go_at_call 8; refine (Hand_is (fun d => d < w.heap.size) a n cap bs _ HN.out (HB0.out.keepS (by assumption) (fun c hc => hc)) (by omega)).mono ?_; rintro e w11 ⟨⟨v11, c11, rfl, rfl, hb11⟩, hk11⟩; have k11 : Kept W w11 := gtrans (by assumption) hk11; have k11b : Kept w10 w11 := gtrans (by first | exact Kept.refl _ | exact drew_kept _ | exact gtrans (drew_kept _) (drew_kept _)) hk11)
        | (go_at_call 7; refine (Match_is (k + 1) (manyP mn mx p) (fun d => d < _) _ _ (KidsAt.all (hq10.kept (gtrans k11b (by first | exact Kept.refl _ | exact drew_kept _ | exact gtrans (drew_kept _) (drew_kept _))))) (fun _ h => h) (HTR.out.keep (by assumption)) _ _ n bs HN.out (BytesIn.all (hb11.keepS (by first | exact Kept.refl _ | exact drew_kept _ | exact gtrans (drew_kept _) (drew_kept _)) (fun c hc => hc))) (by have := HN.out; omega)).mono ?_; rintro e w12 ⟨rfl, hk12⟩; rw [HMB.out, HCK.out]; have k12 : Kept W w12 := gtrans (by assumption) hk12))
      have HK12 := hide1 k12
      clear hkr hk10 hk11 hk12 k10 k11 k12 k11b hb11 hq10 t0 t1 t2 t3 t4 t5
      by_cases hc : ck = 0
      · subst hc
        have HKC := hide1 (gtrans HKW.out HK12.out)
        have HBC := hide1 (HBX.out.keep HK12.out)
        clear HKW HBX HB0 HTR
        have hfs0 := HFS.out
        have HLE : Hid (mx ≠ 0 → checkP (manyP fs ls p) = 0) := fun hx => many_less HCH.out (pos_in _ _ (check_right HCH.out)).1 h0 (by omega) HMX.out hx HFS.out HLS.out HCK.out
        clear hfs0
        have HEND : Hid (∀ j (bv : Bool), (mx = 0 ∨ j = bs.length + 1) → (bv = true ↔ WantS (LangN k p) bs mn mx fs ls j) → mb = bv) := fun j bv hj hb => by
          rw [Bool.eq_iff_iff, hb, ← HMB.out, match_iff HCK.out, lang_many, WantS.all h0 (by rcases HMX.out with e | e; exact .inl e; exact .inr e.1) HFS.out HLS.out hj]
        go_upto_region 12 with fail
        go_cut [14] from 53 to 59 (fun c wy => (∃ bv : Bool, c = .bool bv ∧ Hid (bv = true ↔ (mn = 0 ∧ bs = []))) ∧ wy = w12)
        case first =>
          by_cases e1 : mn = 0
          · have b1 : (mn == 0) = true := by simpa using e1
            by_cases e2 : n = 0
            · have b2 : ((n : Int) == 0) = true := by simpa using e2
              have HE : Hid (mn = 0 ∧ bs = []) := ⟨e1, List.length_eq_zero_iff.1 (HN.out.trans e2)⟩
              clear e1 e2
              go_wp2_with fail
              go_meet
              exact ⟨⟨true, rfl, ⟨fun _ => HE.out, fun _ => rfl⟩⟩, rfl⟩
            · have b2 : ((n : Int) == 0) = false := by simpa using e2
              have HE : Hid (¬ (mn = 0 ∧ bs = [])) := fun e => e2 (by rw [← HN.out, e.2]; rfl)
              clear e1 e2
              go_wp2_with fail
              go_meet
              exact ⟨⟨false, rfl, ⟨fun e => absurd e (by simp), fun e => absurd e HE.out⟩⟩, rfl⟩
          · have b1 : (mn == 0) = false := by simpa using e1
            have HE : Hid (¬ (mn = 0 ∧ bs = [])) := fun e => e1 e.1
            clear e1
            go_wp2_with fail
            go_meet
            exact ⟨⟨false, rfl, ⟨fun e => absurd e (by simp), fun e => absurd e HE.out⟩⟩, rfl⟩
        case rest =>
          obtain ⟨⟨bv0, rfl, HB0⟩, hw⟩ := hcut
          have hw := hw.symm
          subst hw
          go_wp2_with fail
          go_loopw [14, 15] (RpR (LangN k p) bs n mn mx fs ls w12) (fun _ i _ => n + 1 - (intOf i).toNat)
          case atStart => exact ⟨0, bv0, rfl, rfl, Nat.zero_le _, HB0.out.trans ⟨.inl, fun h => h.resolve_right (fun h => by obtain ⟨_, i, hi, _⟩ := h; omega)⟩, Kept.refl _⟩
          case round =>
            obtain ⟨j, bv, rfl, rfl, hj, HWA, HKr⟩ := hrel
            have HKR := hide1 (gtrans HKC.out HKr.out)
            have HBR := hide1 (HBC.out.keep HKr.out)
            have HTR := hide1 (HT.out.keep HKR.out)
            by_cases hx0 : mx = 0
            · have HE := hide1 (HEND.out j bv (.inl hx0) HWA.out)
              have he := HE.out
              subst he
              have b1 : (mx != 0) = false := by simp [hx0]
              clear hx0
              by_cases hlt : (j : Int) ≤ (n : Int)
              · go_wp2_with fail
                go_ret
                exact ⟨rfl, HKR.out⟩
              · go_wp2_with fail
                go_ret
                exact ⟨rfl, HKR.out⟩
            · have b1 : (mx != 0) = true := by simpa using hx0
              have HX0 := hide1 hx0
              by_cases hlt : (j : Int) ≤ (n : Int)
              · clear hx0
                obtain ⟨u, hu⟩ : ∃ u, bs.take j = u := ⟨_, rfl⟩
                obtain ⟨x, hx⟩ : ∃ x, bs.drop j = x := ⟨_, rfl⟩
                have HBRR : Hid (BytesIn (fun d => d < w.heap.size) wr (.slice a n cap) bs) := HB.out.keepS HKR.out (fun c hc => hc)
                have hfr := HBRR.out.front HN.out j (by omega)
                have hbk := HBRR.out.back HN.out j (by omega)
                rw [hu] at hfr
                rw [hx] at hbk
                obtain ⟨aj, haj⟩ : ∃ aj, (if cap = j then a else a.map (·.add j)) = aj := ⟨_, rfl⟩
                have HAJ := hide1 haj
                rw [haj] at hbk
                have HBU := hide1 hfr.1
                have HUL := hide1 hfr.2
                have HBV := hide1 hbk.1
                have HVL := hide1 hbk.2
                have HU := hide1 hu
                have HX := hide1 hx
                have gjc : (j : Int) ≤ (cap : Int) := by omega
                have gj : (j : Int) ≤ 40 := by omega
                obtain ⟨um, hum⟩ : ∃ x, matchP p u = x := ⟨_, rfl⟩
                have HUM := hide1 hum
                obtain ⟨⟨t0, t1, t2, t3, t4, t5⟩, _⟩ := HBR.out.facts
                have q0 := keeps t0
                have q1 := keeps t1
                have q2 := keeps t2
                have q3 := keeps t3
                have q4 := keeps t4
                have q5 := keeps t5
                have hkr : Kept wr wr := Kept.refl wr
                clear t0 t1 t2 t3 t4 t5 hu hx hfr hbk haj hum
                go_upto_region 16 with fail
                go_region_held3 (fun w' => Kept wr w') (first | assumption | exact Kept.refl _ | exact gtrans (by assumption) (by assumption))
                  ((first
                    | (go_at_call 5; refine (TwinExpr_is (fun d => d < w.heap.size) k p _ _ (HK.out.kept (gtrans HKR.out (by assumption)))).mono ?_; rintro e w10 ⟨h10, hk10⟩; obtain ⟨v10, rfl, hq10, hm10⟩ := h10.out; rw [valOf_eq]; obtain ⟨a10, c10, e10⟩ := hq10.form; subst e10; have k10 : Kept wr w10 := gtrans (by assumption) hk10; clear h10 hm10)
                    | (go_at_call 8; refine (Hand_is (fun d => d < w.heap.size) a j cap u _ HUL.out (HBU.out.keepS (by assumption) (fun c hc => hc)) (by omega)).mono ?_; rintro e w11 ⟨⟨v11, c11, rfl, rfl, hb11⟩, hk11⟩; have k11 : Kept wr w11 := gtrans (by assumption) hk11; have k11b : Kept w10 w11 := gtrans (by first | exact Kept.refl _ | exact drew_kept _ | exact gtrans (drew_kept _) (drew_kept _)) hk11)
                    | (go_at_call 7; refine (Match_is k p (fun d => d < _) _ _ (KidsAt.all (hq10.kept (gtrans k11b (by first | exact Kept.refl _ | exact drew_kept _ | exact gtrans (drew_kept _) (drew_kept _))))) (fun _ h => h) (HTR.out.keep (by assumption)) _ _ j u HUL.out (BytesIn.all (hb11.keepS (by first | exact Kept.refl _ | exact drew_kept _ | exact gtrans (drew_kept _) (drew_kept _)) (fun c hc => hc))) (by have := HUL.out; omega)).mono ?_; rintro e w13 ⟨rfl, hk12⟩; rw [HUM.out, HCH.out]; have k12 : Kept wr w13 := gtrans (by assumption) hk12)))
                have HK13 := hide1 k12
                clear hk10 hk11 hk12 k10 k11 k12 k11b hb11 hq10
                clear q0 q1 q2 q3 q4 q5 hkr
                cases um with
                | false =>
                  have HSM : Hid (bv = true ↔ WantS (LangN k p) bs mn mx fs ls (j + 1)) := HWA.out.trans (WantS.same (fun h => by
                    have := (match_iff HCH.out u).2 (by rw [← HU.out]; exact h.2.1)
                    rw [HUM.out] at this
                    cases this)).symm
                  go_wp2_with fail
                  go_roundw
                  case rel => exact ⟨j + 1, bv, by go_num, rfl, by omega, HSM.out, gtrans HKr.out HK13.out⟩
                  case measure => simp [intOf]; omega
                | true =>
                  have HLU : Hid (LangN k p (bs.take j)) := by rw [HU.out]; exact (match_iff HCH.out u).1 HUM.out
                  by_cases hsk : j = 0 ∧ 0 < n ∧ mx < 0 ∧ mn = 0
                  · have HSM : Hid (bv = true ↔ WantS (LangN k p) bs mn mx fs ls (j + 1)) := HWA.out.trans (WantS.same (fun h => h.2.2.1 (by rw [HN.out]; exact hsk))).symm
                    have c1 : ((j : Int) == 0) = true := by simp [hsk.1]
                    have c2 : (0 : Int) < (n : Int) := by omega
                    have c3 : mx < 0 := hsk.2.2.1
                    have c4 : (mn == 0) = true := by simp [hsk.2.2.2]
                    clear hsk
                    go_wp2_with fail
                    go_roundw
                    case rel => exact ⟨j + 1, bv, by go_num, rfl, by omega, HSM.out, gtrans HKr.out HK13.out⟩
                    case measure => simp [intOf]; omega
                  · go_upto_region 17 with fail
                    go_cut [98] from 80 to 97 (fun c wy => c = .bool false ∧ wy = w13)
                    case first =>
                      by_cases d1 : j = 0
                      · have c1 : ((j : Int) == 0) = true := by simp [d1]
                        by_cases d2 : (0 : Int) < (n : Int)
                        · by_cases d3 : mx < 0
                          · have c4 : (mn == 0) = false := by
                              have : ¬ mn = 0 := fun e => hsk ⟨d1, by omega, d3, e⟩
                              simpa using this
                            clear hsk d1
                            go_wp2_with fail
                            go_meet
                            exact ⟨rfl, rfl⟩
                          · clear hsk d1
                            go_wp2_with fail
                            go_meet
                            exact ⟨rfl, rfl⟩
                        · clear hsk d1
                          go_wp2_with fail
                          go_meet
                          exact ⟨rfl, rfl⟩
                      · have c1 : ((j : Int) == 0) = false := by simpa using d1
                        clear hsk d1
                        go_wp2_with fail
                        go_meet
                        exact ⟨rfl, rfl⟩
                    case rest =>
                      obtain ⟨rfl, hw⟩ := hcut
                      have hw := hw.symm
                      subst hw
                      have HSK := hide1 hsk
                      clear hsk
                      obtain ⟨vm, hvm⟩ : ∃ y, matchP (manyP fs ls p) x = y := ⟨_, rfl⟩
                      have HVM := hide1 hvm
                      have HC2 := hide1 (HLE.out HX0.out)
                      have HVT : Hid (vm = true ↔ TimesS (LangN k p) fs ls (bs.drop j)) := by show _ ↔ _; rw [HX.out, ← hvm, match_iff HC2.out, lang_many]
                      have HNX0 : Hid ((bv || vm) = true ↔ WantS (LangN k p) bs mn mx fs ls (j + 1)) := by
                        show _ ↔ _
                        rw [WantS.more HX0.out (by rw [HN.out]; omega) HLU.out (by rw [HN.out]; exact HSK.out), ← HWA.out, ← HVT.out]
                        simp
                      obtain ⟨nb, hnb⟩ : ∃ y, (bv || vm) = y := ⟨_, rfl⟩
                      have HNX : Hid (nb = true ↔ WantS (LangN k p) bs mn mx fs ls (j + 1)) := by rw [← hnb]; exact HNX0.out
                      have HNB := hide1 hnb
                      clear HNX0 hnb
                      have HKR3 := hide1 (gtrans HKR.out HK13.out)
                      have HTR := hide1 (HTR.out.keep HK13.out)
                      obtain ⟨⟨t0, t1, t2, t3, t4, t5⟩, _⟩ := (HBR.out.keep HK13.out).facts
                      have q0 := keeps t0
                      have q1 := keeps t1
                      have q2 := keeps t2
                      have q3 := keeps t3
                      have q4 := keeps t4
                      have q5 := keeps t5
                      have hkr : Kept w13 w13 := Kept.refl w13
                      clear t0 t1 t2 t3 t4 t5 hvm
                      by_cases hcj : cap = j
                      · have hnj : n = j := by omega
                        have HBV3 : Hid (BytesIn (fun d => d < w.heap.size) w13 (.slice a 0 0) x) := by
                          have h1 := HBV.out.keepS (S' := fun d => d < w.heap.size) HK13.out (fun c hc => hc)
                          rw [← HAJ.out, if_pos hcj, hcj, hnj, Nat.sub_self] at h1
                          exact h1
                        have HVL0 : Hid (x.length = 0) := by have e := HVL.out; show x.length = 0; omega
                        have HNJ : Hid (n = j) := hnj
                        clear HBV HVL HAJ HBRR HBU
                        have hcj := hcj.symm
                        have hnj := hnj.symm
                        subst hcj
                        subst hnj
                        go_upto_region 18 with fail
                        go_region_held3 (fun w' => Kept w13 w') (first | assumption | exact Kept.refl _ | exact gtrans (by assumption) (by assumption))
                          ((first
                            | (go_at_call 18; refine (timesK_is w k p _ fs ls _ HK.out (gtrans HKR3.out (by assumption))).mono ?_; rintro e w10 ⟨⟨v10, rfl, hq10⟩, hk10⟩; rw [valOf_eq]; obtain ⟨a10, c10, e10⟩ : ∃ a c, v10 = .slice a 1 c := hq10.form; subst e10; have k10 : Kept w13 w10 := gtrans (by assumption) hk10)
                            | (go_at_call 8; refine (Hand_is (fun d => d < w.heap.size) a 0 0 x _ HVL0.out (HBV3.out.keepS (by assumption) (fun c hc => hc)) (by omega)).mono ?_; rintro e w11 ⟨⟨v11, c11, rfl, rfl, hb11⟩, hk11⟩; have k11 : Kept w13 w11 := gtrans (by assumption) hk11; have k11b : Kept w10 w11 := gtrans (by first | exact Kept.refl _ | exact drew_kept _ | exact gtrans (drew_kept _) (drew_kept _)) hk11)
                            | (go_at_call 7; refine (Match_is (k + 1) (manyP fs ls p) (fun d => d < _) _ _ (KidsAt.all (hq10.kept (gtrans k11b (by first | exact Kept.refl _ | exact drew_kept _ | exact gtrans (drew_kept _) (drew_kept _))))) (fun _ h => h) (HTR.out.keep (by assumption)) _ _ 0 x HVL0.out (BytesIn.all (hb11.keepS (by first | exact Kept.refl _ | exact drew_kept _ | exact gtrans (drew_kept _) (drew_kept _)) (fun c hc => hc))) (by have := HVL0.out; omega)).mono ?_; rintro e w14 ⟨rfl, hk12⟩; rw [HVM.out, HC2.out]; have k12 : Kept w13 w14 := gtrans (by assumption) hk12)))
                        have HK14 := hide1 k12
                        clear hk10 hk11 hk12 k10 k11 k12 k11b hb11 hq10
                        clear q0 q1 q2 q3 q4 q5 hkr
                        cases bv
                        all_goals
                          cases vm
                          all_goals
                            go_wp2_with fail
                            go_roundw
                            case rel => exact ⟨j + 1, nb, by go_num, by rw [← HNB.out]; rfl, by omega, HNX.out, gtrans HKr.out (gtrans HK13.out HK14.out)⟩
                            case measure => simp [intOf] <;> omega
                      · have HBV3 : Hid (BytesIn (fun d => d < w.heap.size) w13 (.slice (Option.map (fun x => x.add j) a) (n - j) (cap - j)) x) := by
                          have h1 := HBV.out.keepS (S' := fun d => d < w.heap.size) HK13.out (fun c hc => hc)
                          rw [← HAJ.out, if_neg hcj] at h1
                          exact h1
                        go_upto_region 18 with fail
                        go_region_held3 (fun w' => Kept w13 w') (first | assumption | exact Kept.refl _ | exact gtrans (by assumption) (by assumption))
                          ((first
                            | (go_at_call 18; refine (timesK_is w k p _ fs ls _ HK.out (gtrans HKR3.out (by assumption))).mono ?_; rintro e w10 ⟨⟨v10, rfl, hq10⟩, hk10⟩; rw [valOf_eq]; obtain ⟨a10, c10, e10⟩ : ∃ a c, v10 = .slice a 1 c := hq10.form; subst e10; have k10 : Kept w13 w10 := gtrans (by assumption) hk10)
                            | (go_at_call 8; refine (Hand_is (fun d => d < w.heap.size) _ (n - j) (cap - j) x _ HVL.out (HBV3.out.keepS (by assumption) (fun c hc => hc)) (by omega)).mono ?_; rintro e w11 ⟨⟨v11, c11, rfl, rfl, hb11⟩, hk11⟩; have k11 : Kept w13 w11 := gtrans (by assumption) hk11; have k11b : Kept w10 w11 := gtrans (by first | exact Kept.refl _ | exact drew_kept _ | exact gtrans (drew_kept _) (drew_kept _)) hk11)
                            | (go_at_call 7; refine (Match_is (k + 1) (manyP fs ls p) (fun d => d < _) _ _ (KidsAt.all (hq10.kept (gtrans k11b (by first | exact Kept.refl _ | exact drew_kept _ | exact gtrans (drew_kept _) (drew_kept _))))) (fun _ h => h) (HTR.out.keep (by assumption)) _ _ (n - j) x HVL.out (BytesIn.all (hb11.keepS (by first | exact Kept.refl _ | exact drew_kept _ | exact gtrans (drew_kept _) (drew_kept _)) (fun c hc => hc))) (by have := HVL.out; omega)).mono ?_; rintro e w14 ⟨rfl, hk12⟩; rw [HVM.out, HC2.out]; have k12 : Kept w13 w14 := gtrans (by assumption) hk12)))
                        have HK14 := hide1 k12
                        clear hk10 hk11 hk12 k10 k11 k12 k11b hb11 hq10
                        clear q0 q1 q2 q3 q4 q5 hkr
                        cases bv
                        all_goals
                          cases vm
                          all_goals
                            go_wp2_with fail
                            go_roundw
                            case rel => exact ⟨j + 1, nb, by go_num, by rw [← HNB.out]; rfl, by omega, HNX.out, gtrans HKr.out (gtrans HK13.out HK14.out)⟩
                            case measure => simp [intOf]; omega
              · have HE := hide1 (HEND.out j bv (.inr (by have := HN.out; omega)) HWA.out)
                have he := HE.out
                subst he
                go_wp2_with fail
                go_ret
                exact ⟨rfl, HKR.out⟩
      · have hc4 := many_check (p := p) (mn := mn) (mx := mx) HCH.out h0 (by omega) HMX.out
        rw [HCK.out] at hc4
        rcases hc4.resolve_left hc with e | e | e
        all_goals
          subst e
          clear hc hc4
          go_wp2_with fail
          go_ret
          exact ⟨rfl, gtrans HKW.out HK12.out⟩

end Ex
end Go.Proofs.YthcllhoboiglcaaDoor
namespace Go.Proofs.YthcllhoboiglcaaDoor
open Go.RowKit
namespace Ex

/-- Patterns that lie anywhere but in the block gb. -/
def OutB (gb : Option Nat) (W : World) (n : Nat) (l : List (PatN n)) (v : Value) : Prop := KidsAt (fun d => d < W.heap.size ∧ some d ≠ gb) W n l v
theorem OutB.keep {gb : Option Nat} {W W' : World} {n : Nat} {l : List (PatN n)} {v : Value} (h : OutB gb W n l v) (hk : Kept W W') : OutB gb W' n l v :=
  KidsAt.mono (hk.holds _) (fun _ hd => ⟨Nat.lt_of_lt_of_le hd.1 hk.size, hd.2⟩) _ _ _ h
theorem OutB.alloc {W : World} {n : Nat} {l : List (PatN n)} {v : Value} (h : OutB none W n l v) (c : Array Value) (t : TypeId) : OutB (some W.heap.size) (W.alloc (.cells c t)) n l v :=
  KidsAt.mono (((Kept.refl W).alloc c t).holds _) (fun d hd => ⟨by have := hd.1; show d < _; simp; omega, fun e => by have := hd.1; simp only [Option.some.injEq] at e; omega⟩) _ _ _ h
theorem OutB.call {gb : Option Nat} {w W W' : World} {n : Nat} {l : List (PatN n)} {v : Value} (h : KidsAt (fun d => d < w.heap.size ∨ W.heap.size ≤ d) W' n l v) (hg : ∀ g, gb = some g → w.heap.size ≤ g ∧ g < W.heap.size) : OutB gb W' n l v :=
  KidsAt.mono (fun _ _ _ _ h => h) (fun d hd => ⟨hd.2, fun e => by
    have := hg d e.symm
    rcases hd.1 with h1 | h1 <;> omega⟩) _ _ _ (KidsAt.tight _ _ _ h)
theorem OutB.all {gb : Option Nat} {W : World} {n : Nat} {l : List (PatN n)} {v : Value} (h : OutB gb W n l v) : KidsAt (fun d => d < W.heap.size) W n l v :=
  KidsAt.mono (fun _ _ _ _ h => h) (fun _ h => h.1) _ _ _ h
/-- Two patterns side by side in a new block. -/
theorem kids_two {S : Nat → Prop} {w : World} {n : Nat} {p q : PatN (n + 1)} {vp vq : Value} {g : Nat}
    (hb : w.heap[g]? = some (.cells #[.int .i64 (kind p), .int .i64 (from_ p), .int .i64 (to_ p), .int .i64 (min_ p), .int .i64 (max_ p), vp, .int .i64 (kind q), .int .i64 (from_ q), .int .i64 (to_ q), .int .i64 (min_ q), .int .i64 (max_ q), vq] 24 (0, 0)))
    (hp : KidsAt S w n (kids p) vp) (hq : KidsAt S w n (kids q) vq) (hg : S g) : KidsAt S w (n + 1) [p, q] (.slice (some ⟨g, 0, none⟩) 2 2) := by
  refine ⟨some ⟨g, 0, none⟩, 2, rfl, Nat.le_refl _, by simp, .inr ⟨g, 0, rfl, hg, fun i r hr => ?_⟩⟩
  match i, hr with
  | 0, hr =>
    obtain rfl : p = r := by simpa using hr
    exact ⟨vp, by simp [World.cell?, hb], by simp [World.cell?, hb], by simp [World.cell?, hb], by simp [World.cell?, hb], by simp [World.cell?, hb], by simp [World.cell?, hb], hp⟩
  | 1, hr =>
    obtain rfl : q = r := by simpa using hr
    exact ⟨vq, by simp [World.cell?, hb], by simp [World.cell?, hb], by simp [World.cell?, hb], by simp [World.cell?, hb], by simp [World.cell?, hb], by simp [World.cell?, hb], hq⟩
  | i + 2, hr => simp at hr
theorem two_made {gb : Option Nat} {W : World} {n : Nat} {p q : PatN (n + 1)} {vp vq : Value} (hp : OutB gb W n (kids p) vp) (hq : OutB gb W n (kids q) vq) (hg : ∀ g, gb = some g → g < W.heap.size) :
    OutB gb (W.alloc (.cells #[.int .i64 (kind p), .int .i64 (from_ p), .int .i64 (to_ p), .int .i64 (min_ p), .int .i64 (max_ p), vp, .int .i64 (kind q), .int .i64 (from_ q), .int .i64 (to_ q), .int .i64 (min_ q), .int .i64 (max_ q), vq] 24)) (n + 1) [p, q] (.slice (some ⟨W.heap.size, 0, none⟩) 2 2) :=
  kids_two (heap_alloc_new W _) (hp.keep ((Kept.refl W).alloc _ _)) (hq.keep ((Kept.refl W).alloc _ _)) ⟨by simp, fun e => by have := hg _ e.symm; omega⟩
/-- A pattern of two, in a box of its own. -/
def TwoG {k : Nat} (p q : PatN (k + 1)) (kd : Int) (w : World) (c : Value) (w' : World) : Prop :=
  Kept w w' ∧ ∃ (g : Nat) (a : Option Addr) (cp : Nat), c = .pointer (some ⟨g, 0, none⟩) ∧ BoxAt w' g (.int .i64 kd) (.int .i64 0) (.int .i64 0) (.int .i64 0) (.int .i64 0) (.slice a 2 cp) ∧ KidsAt (fun d => d < w'.heap.size) w' (k + 1) [p, q] (.slice a 2 cp)
theorem two_end {k : Nat} {p q : PatN (k + 1)} {kd : Int} {w W : World} {g : Nat} {a : Option Addr} {cp : Nat} {y0 y1 y2 y3 y4 y5 : Value} (hk : Kept w W) (hg : w.heap.size ≤ g) (hx : BoxAt W g y0 y1 y2 y3 y4 y5) (h : OutB (some g) W (k + 1) [p, q] (.slice a 2 cp)) :
    TwoG p q kd w (.pointer (some ⟨g, 0, none⟩)) ((((((W.setCell ⟨g, 0, none⟩ (.int .i64 kd)).setCell ⟨g, 1, none⟩ (.int .i64 0)).setCell ⟨g, 2, none⟩ (.int .i64 0)).setCell ⟨g, 3, none⟩ (.int .i64 0)).setCell ⟨g, 4, none⟩ (.int .i64 0)).setCell ⟨g, 5, none⟩ (.slice a 2 cp)) :=
  ⟨put_kept (o := 0) hk hg, g, a, cp, rfl, BoxAt.set hx, KidsAt.mono (set6_holds (S := fun d => d < W.heap.size ∧ some d ≠ some g) (fun h => h.2 rfl)) (fun d hd => by have := hd.1; show d < _; simp; omega) _ _ _ h⟩

/-- Is there a cut among the first j? -/
def CutS (L M : List Int → Prop) (bs : List Int) (j : Nat) : Prop := ∃ i, i < j ∧ i ≤ bs.length ∧ L (bs.take i) ∧ M (bs.drop i)
theorem CutS.none {L M : List Int → Prop} {bs : List Int} : ¬ CutS L M bs 0 := fun ⟨_, h, _⟩ => by omega
theorem CutS.more {L M : List Int → Prop} {bs : List Int} {j : Nat} (hj : j ≤ bs.length) : CutS L M bs (j + 1) ↔ CutS L M bs j ∨ (L (bs.take j) ∧ M (bs.drop j)) := by
  constructor
  · rintro ⟨i, h1, h2, h3⟩
    by_cases e : i = j
    · subst e; exact .inr h3
    · exact .inl ⟨i, by omega, h2, h3⟩
  · rintro (⟨i, h1, h2⟩ | h)
    · exact ⟨i, by omega, h2⟩
    · exact ⟨j, by omega, hj, h⟩
theorem CutS.all {L M : List Int → Prop} {bs : List Int} {j : Nat} (hj : j = bs.length + 1) : CutS L M bs j ↔ ∃ i, i ≤ bs.length ∧ L (bs.take i) ∧ M (bs.drop i) :=
  ⟨fun ⟨i, _, h⟩ => ⟨i, h⟩, fun ⟨i, h⟩ => ⟨i, by have := h.1; omega, h⟩⟩
/-- The loop over the cuts. -/
def CutR (L M : List Int → Prop) (bs : List Int) (n : Nat) (W : World) (vc vi : Value) (wr : World) : Prop :=
  ∃ (j : Nat) (bv : Bool), vi = .int .i64 (j : Int) ∧ vc = .bool bv ∧ j ≤ n + 1 ∧ Hid (bv = true ↔ CutS L M bs j) ∧ Hid (Kept W wr)

end Ex
end Go.Proofs.YthcllhoboiglcaaDoor
