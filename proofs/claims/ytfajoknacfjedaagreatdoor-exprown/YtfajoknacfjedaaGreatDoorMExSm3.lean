import Derived.Test.YtfajoknacfjedaaGreatDoorMExPw7
import Derived.Deep.RegionHeld3
namespace Go.Proofs.YtfajoknacfjedaaGreatDoor
open Go.RowKit
attribute [local go_sem] Oper.semAt_some
namespace Ex

theorem form_len {S : Nat → Prop} {w : World} {n : Nat} {l : List (PatN n)} {v : Value} (h : KidsAt S w n l v) : ∃ a cap, v = .slice a l.length cap ∧ (l.length ≤ cap ∨ l = []) ∧ l.length ≤ 17592186044416 := by
  cases n with
  | zero =>
    obtain ⟨a, cap, rfl⟩ := h.form
    exact ⟨a, cap, rfl, .inr (none_of l), by rw [none_of l]; simp⟩
  | succ n =>
    obtain ⟨a, cap, h1, h2, h3, _⟩ := h
    exact ⟨a, cap, h1, .inl h2, h3⟩
set_option linter.unusedSimpArgs false in
set_option maxRecDepth 100000 in
set_option maxHeartbeats 4000000 in
theorem same_gen (S M : Nat → Prop) : ∀ (n : Nat) (p q : PatN (n + 1)) (v vm : Value) (w : World), KidsAt S w n (kids q) v → KidsAt M w n (kids p) vm →
    Calls Tryz.prog 7 #[valOf p vm, valOf q v] w fun e w' => e = .returned (.bool (eqB (n + 1) p q)) ∧ Kept w w' := by
  intro n
  induction n with
  | zero =>
    intro p q v vm w h hm
    have HE : Hid (eqB (0 + 1) p q = (decide (kind p = kind q) && decide (from_ p = from_ q) && decide (to_ p = to_ q) && decide (min_ p = min_ q) && decide (max_ p = max_ q) && decide ((kids p).length = (kids q).length) && eqL (eqB 0) (kids p) (kids q))) := rfl
    have hz : kids p = [] := none_of _
    have hz2 : kids q = [] := none_of _
    obtain ⟨a, cap, rfl⟩ := h.form
    obtain ⟨am, capm, rfl⟩ := hm.form
    rw [valOf_eq, valOf_eq]
    rw [hz, hz2] at HE ⊢
    clear h hm hz hz2
    obtain ⟨kp, hkp⟩ : ∃ z, kind p = z := ⟨_, rfl⟩
    obtain ⟨kq, hkq⟩ : ∃ z, kind q = z := ⟨_, rfl⟩
    obtain ⟨fp, hfp⟩ : ∃ z, from_ p = z := ⟨_, rfl⟩
    obtain ⟨fq, hfq⟩ : ∃ z, from_ q = z := ⟨_, rfl⟩
    obtain ⟨tp, htp⟩ : ∃ z, to_ p = z := ⟨_, rfl⟩
    obtain ⟨tq, htq⟩ : ∃ z, to_ q = z := ⟨_, rfl⟩
    obtain ⟨mp, hmp⟩ : ∃ z, min_ p = z := ⟨_, rfl⟩
    obtain ⟨mq, hmq⟩ : ∃ z, min_ q = z := ⟨_, rfl⟩
    obtain ⟨xp, hxp⟩ : ∃ z, max_ p = z := ⟨_, rfl⟩
    obtain ⟨xq, hxq⟩ : ∃ z, max_ q = z := ⟨_, rfl⟩
    rw [hkp, hkq, hfp, hfq, htp, htq, hmp, hmq, hxp, hxq] at HE ⊢
    clear hkp hkq hfp hfq htp htq hmp hmq hxp hxq
    by_cases ek : kp = kq
    rotate_left
    · have dk : (kp != kq) = true := by simpa using ek
      have HF : Hid (eqB _ p q = false) := by show _ = _; rw [HE.out]; simp [ek]
      rw [HF.out]
      clear HE HF
      go_enter Tryz.func7, Tryz.ntmps7
      go_wp2_with fail
      go_ret
      exact ⟨rfl, ((Kept.refl w).alloc _ _).alloc _ _⟩
    subst ek
    by_cases ef : fp = fq
    rotate_left
    · have df : (fp != fq) = true := by simpa using ef
      have HF : Hid (eqB _ p q = false) := by show _ = _; rw [HE.out]; simp [ef]
      rw [HF.out]
      clear HE HF
      go_enter Tryz.func7, Tryz.ntmps7
      go_wp2_with fail
      go_ret
      exact ⟨rfl, ((Kept.refl w).alloc _ _).alloc _ _⟩
    subst ef
    by_cases et : tp = tq
    rotate_left
    · have dt : (tp != tq) = true := by simpa using et
      have HF : Hid (eqB _ p q = false) := by show _ = _; rw [HE.out]; simp [et]
      rw [HF.out]
      clear HE HF
      go_enter Tryz.func7, Tryz.ntmps7
      go_wp2_with fail
      go_ret
      exact ⟨rfl, ((Kept.refl w).alloc _ _).alloc _ _⟩
    subst et
    by_cases em : mp = mq
    rotate_left
    · have dm : (mp != mq) = true := by simpa using em
      have HF : Hid (eqB _ p q = false) := by show _ = _; rw [HE.out]; simp [em]
      rw [HF.out]
      clear HE HF
      go_enter Tryz.func7, Tryz.ntmps7
      go_wp2_with fail
      go_ret
      exact ⟨rfl, ((Kept.refl w).alloc _ _).alloc _ _⟩
    subst em
    by_cases ex : xp = xq
    rotate_left
    · have dx : (xp != xq) = true := by simpa using ex
      have HF : Hid (eqB _ p q = false) := by show _ = _; rw [HE.out]; simp [ex]
      rw [HF.out]
      clear HE HF
      go_enter Tryz.func7, Tryz.ntmps7
      go_wp2_with fail
      go_ret
      exact ⟨rfl, ((Kept.refl w).alloc _ _).alloc _ _⟩
    subst ex
    have HT : Hid (eqB (0 + 1) p q = true) := by show _ = _; rw [HE.out]; simp [eqL]
    rw [HT.out]
    clear HE HT
    go_enter Tryz.func7, Tryz.ntmps7
    go_wp2_with fail
    go_loopw [5] (fun i wr => i = .int .i64 0 ∧ Hid (Kept w wr) ∧ Hid (BoxAt wr w.heap.size (.int .i64 kp) (.int .i64 fp) (.int .i64 tp) (.int .i64 mp) (.int .i64 xp) (.slice am 0 capm))) (fun _ _ => 0)
    case atStart => exact ⟨rfl, ((Kept.refl w).alloc _ _).alloc _ _, (BoxAt.new w _ _ _ _ _ _).keep ((Kept.refl _).alloc _ _)⟩
    case round =>
      obtain ⟨rfl, HKr, HA⟩ := hrel
      have a5 := HA.out.facts.1.2.2.2.2.2
      go_wp2_with fail
      go_ret
      exact ⟨rfl, HKr.out⟩
  | succ n ih =>
    intro p q v vm w h hm
    have IH := hide1 ih
    have HK := hide1 h
    have HM := hide1 hm
    have HE : Hid (eqB (n + 1 + 1) p q = (decide (kind p = kind q) && decide (from_ p = from_ q) && decide (to_ p = to_ q) && decide (min_ p = min_ q) && decide (max_ p = max_ q) && decide ((kids p).length = (kids q).length) && eqL (eqB (n + 1)) (kids p) (kids q))) := rfl
    obtain ⟨a, cap, rfl, hc1, hl1⟩ := form_len h
    obtain ⟨am, capm, rfl, hc2, hl2⟩ := form_len hm
    rw [valOf_eq, valOf_eq]
    obtain ⟨L, hL⟩ : ∃ L, kids p = L := ⟨_, rfl⟩
    obtain ⟨L2, hL2⟩ : ∃ L, kids q = L := ⟨_, rfl⟩
    rw [hL2] at HK HE hl1 hc1 ⊢
    rw [hL] at HM HE hl2 hc2 ⊢
    have gl : (L.length : Int) ≤ 17592186044416 := by omega
    have gl2 : (L2.length : Int) ≤ 17592186044416 := by omega
    clear ih hL hL2 h hm hl1 hl2
    obtain ⟨kp, hkp⟩ : ∃ z, kind p = z := ⟨_, rfl⟩
    obtain ⟨kq, hkq⟩ : ∃ z, kind q = z := ⟨_, rfl⟩
    obtain ⟨fp, hfp⟩ : ∃ z, from_ p = z := ⟨_, rfl⟩
    obtain ⟨fq, hfq⟩ : ∃ z, from_ q = z := ⟨_, rfl⟩
    obtain ⟨tp, htp⟩ : ∃ z, to_ p = z := ⟨_, rfl⟩
    obtain ⟨tq, htq⟩ : ∃ z, to_ q = z := ⟨_, rfl⟩
    obtain ⟨mp, hmp⟩ : ∃ z, min_ p = z := ⟨_, rfl⟩
    obtain ⟨mq, hmq⟩ : ∃ z, min_ q = z := ⟨_, rfl⟩
    obtain ⟨xp, hxp⟩ : ∃ z, max_ p = z := ⟨_, rfl⟩
    obtain ⟨xq, hxq⟩ : ∃ z, max_ q = z := ⟨_, rfl⟩
    rw [hkp, hkq, hfp, hfq, htp, htq, hmp, hmq, hxp, hxq] at HE ⊢
    clear hkp hkq hfp hfq htp htq hmp hmq hxp hxq
    by_cases ek : kp = kq
    rotate_left
    · have dk : (kp != kq) = true := by simpa using ek
      have HF : Hid (eqB _ p q = false) := by show _ = _; rw [HE.out]; simp [ek]
      rw [HF.out]
      clear HE HF
      go_enter Tryz.func7, Tryz.ntmps7
      go_wp2_with fail
      go_ret
      exact ⟨rfl, ((Kept.refl w).alloc _ _).alloc _ _⟩
    subst ek
    by_cases ef : fp = fq
    rotate_left
    · have df : (fp != fq) = true := by simpa using ef
      have HF : Hid (eqB _ p q = false) := by show _ = _; rw [HE.out]; simp [ef]
      rw [HF.out]
      clear HE HF
      go_enter Tryz.func7, Tryz.ntmps7
      go_wp2_with fail
      go_ret
      exact ⟨rfl, ((Kept.refl w).alloc _ _).alloc _ _⟩
    subst ef
    by_cases et : tp = tq
    rotate_left
    · have dt : (tp != tq) = true := by simpa using et
      have HF : Hid (eqB _ p q = false) := by show _ = _; rw [HE.out]; simp [et]
      rw [HF.out]
      clear HE HF
      go_enter Tryz.func7, Tryz.ntmps7
      go_wp2_with fail
      go_ret
      exact ⟨rfl, ((Kept.refl w).alloc _ _).alloc _ _⟩
    subst et
    by_cases em : mp = mq
    rotate_left
    · have dm : (mp != mq) = true := by simpa using em
      have HF : Hid (eqB _ p q = false) := by show _ = _; rw [HE.out]; simp [em]
      rw [HF.out]
      clear HE HF
      go_enter Tryz.func7, Tryz.ntmps7
      go_wp2_with fail
      go_ret
      exact ⟨rfl, ((Kept.refl w).alloc _ _).alloc _ _⟩
    subst em
    by_cases ex : xp = xq
    rotate_left
    · have dx : (xp != xq) = true := by simpa using ex
      have HF : Hid (eqB _ p q = false) := by show _ = _; rw [HE.out]; simp [ex]
      rw [HF.out]
      clear HE HF
      go_enter Tryz.func7, Tryz.ntmps7
      go_wp2_with fail
      go_ret
      exact ⟨rfl, ((Kept.refl w).alloc _ _).alloc _ _⟩
    subst ex
    by_cases el : L.length = L2.length
    rotate_left
    · have dl : ((L.length : Int) != (L2.length : Int)) = true := by rw [bne_iff_ne]; omega
      have HF : Hid (eqB _ p q = false) := by show _ = _; rw [HE.out]; simp [el]
      rw [HF.out]
      clear HE HF
      go_enter Tryz.func7, Tryz.ntmps7
      go_wp2_with fail
      go_ret
      exact ⟨rfl, ((Kept.refl w).alloc _ _).alloc _ _⟩
    have HT : Hid (eqB (n + 1 + 1) p q = eqL (eqB (n + 1)) L L2) := by show _ = _; rw [HE.out]; simp [el]
    rw [HT.out]
    have HEL := hide1 el
    obtain ⟨N, hN⟩ : ∃ N, L.length = N := ⟨_, rfl⟩
    have hN2 : L2.length = N := by omega
    rw [hN] at gl hc2 ⊢
    rw [hN2] at gl2 hc1 ⊢
    have HN := hide1 hN
    have HN2 := hide1 hN2
    clear HE HT el hN hN2
    have gc : (N : Int) ≤ (cap : Int) ∨ N = 0 := by rcases hc1 with h | h; left; omega; right; rw [← HN2.out, h]; rfl
    have gm : (N : Int) ≤ (capm : Int) ∨ N = 0 := by rcases hc2 with h | h; left; omega; right; rw [← HN.out, h]; rfl
    clear hc1 hc2
    go_enter Tryz.func7, Tryz.ntmps7
    go_wp2_with fail
    obtain ⟨w5, hw5⟩ : ∃ w5, w5 = (w.alloc (.cells #[.int .i64 kp, .int .i64 fp, .int .i64 tp, .int .i64 mp, .int .i64 xp, .slice am N capm] 24)).alloc (.cells #[.int .i64 kp, .int .i64 fp, .int .i64 tp, .int .i64 mp, .int .i64 xp, .slice a N cap] 24) := ⟨_, rfl⟩
    rw [← hw5]
    have HK5 : Hid (Kept w w5) := by rw [hw5]; exact ((Kept.refl w).alloc _ _).alloc _ _
    have HB : Hid (BoxAt w5 (w.heap.size + 1) (.int .i64 kp) (.int .i64 fp) (.int .i64 tp) (.int .i64 mp) (.int .i64 xp) (.slice a N cap)) := by rw [hw5]; exact two_new w _ _ _ _ _ _ _
    have HA : Hid (BoxAt w5 w.heap.size (.int .i64 kp) (.int .i64 fp) (.int .i64 tp) (.int .i64 mp) (.int .i64 xp) (.slice am N capm)) := by rw [hw5]; exact (BoxAt.new w _ _ _ _ _ _).keep ((Kept.refl _).alloc _ _)
    clear hw5
    go_loopw [5] (fun i wr => ∃ j : Nat, i = .int .i64 (j : Int) ∧ j ≤ N ∧ Hid (Kept w5 wr) ∧ Hid (∀ (i : Nat) x y, i < j → L[i]? = some x → L2[i]? = some y → eqB (n + 1) x y = true)) (fun i _ => N - (intOf i).toNat)
    case atStart => exact ⟨0, rfl, Nat.zero_le _, Kept.refl _, fun i x y h => absurd h (by omega)⟩
    case round =>
      obtain ⟨j, rfl, hj, HKr, HJ⟩ := hrel
      have b5 := (HB.out.keep HKr.out).facts.1.2.2.2.2.2
      have a5 := (HA.out.keep HKr.out).facts.1.2.2.2.2.2
      by_cases hlt : (j : Int) < (N : Int)
      · have gc2 : (N : Int) ≤ (cap : Int) := by omega
        have gm2 : (N : Int) ≤ (capm : Int) := by omega
        obtain ⟨x, hx⟩ : ∃ x, L[j]? = some x := ⟨_, List.getElem?_eq_getElem (by have := HN.out; omega)⟩
        obtain ⟨y, hy⟩ : ∃ y, L2[j]? = some y := ⟨_, List.getElem?_eq_getElem (by have := HN2.out; omega)⟩
        have HX := hide1 hx
        have HY := hide1 hy
        obtain ⟨a2, cap2, e2', _, _, h4⟩ := HK.out.kept (gtrans HK5.out HKr.out)
        rw [HN2.out] at e2'
        simp only [Value.slice.injEq] at e2'
        obtain ⟨rfl, _, rfl⟩ := e2'
        rcases h4 with h4 | ⟨cb, o, rfl, hSc, h7⟩
        · rw [h4] at hy; simp at hy
        · obtain ⟨v', g0, g1, g2, g3, g4, g5, g6⟩ := h7 j y hy
          obtain ⟨a3, cap3, rfl⟩ := g6.form
          obtain ⟨a4, cap4, e4', _, _, h5⟩ := HM.out.kept (gtrans HK5.out HKr.out)
          rw [HN.out] at e4'
          simp only [Value.slice.injEq] at e4'
          obtain ⟨rfl, _, rfl⟩ := e4'
          rcases h5 with h5 | ⟨cm, om, rfl, hSm, h8⟩
          · rw [h5] at hx; simp at hx
          · obtain ⟨u', m0, m1, m2, m3, m4, m5, m6⟩ := h8 j x hx
            obtain ⟨a6, cap6, rfl⟩ := m6.form
            have HG6 := hide1 g6
            have HM6 := hide1 m6
            obtain ⟨bb, hbb⟩ : ∃ z, eqB (n + 1) x y = z := ⟨_, rfl⟩
            have HBB := hide1 hbb
            clear h7 g6 hx hy h8 m6 hbb gc gm
            have hkr : Kept wr wr := Kept.refl wr
            have q5 := keeps b5
            have q6 := keeps a5
            have r0 := keeps g0
            have r1 := keeps g1
            have r2 := keeps g2
            have r3 := keeps g3
            have r4 := keeps g4
            have r5 := keeps g5
            have t0 := keeps m0
            have t1 := keeps m1
            have t2 := keeps m2
            have t3 := keeps m3
            have t4 := keeps m4
            have t5 := keeps m5
            go_wp2_with fail
            go_region_held3 (fun w' => Kept wr w') (first | assumption | exact Kept.refl _ | exact gtrans (by assumption) (by assumption))
              ((first | (go_at_call 7; refine (IH.out x y _ _ _ (HG6.out.kept (by assumption)) (HM6.out.kept (by assumption))).mono ?_; rintro e w6 ⟨rfl, hk6⟩; rw [HBB.out])))
            have hk06 : Kept wr w6 := by assumption
            have HK6 := hide1 (gtrans HKr.out hk06)
            clear hk6 hk06 q5 q6 r0 r1 r2 r3 r4 r5 t0 t1 t2 t3 t4 t5 a5 b5 g0 g1 g2 g3 g4 g5 m0 m1 m2 m3 m4 m5 hkr
            cases bb with
            | true =>
              go_wp2_with fail
              go_roundw
              case rel =>
                refine ⟨j + 1, by go_num, by omega, HK6, fun i x2 y2 hi h1 h2 => ?_⟩
                by_cases hij : i = j
                · subst hij
                  have h3 := HX.out
                  have h4 := HY.out
                  rw [h1] at h3
                  rw [h2] at h4
                  rw [Option.some.inj h3, Option.some.inj h4]
                  exact HBB.out
                · exact HJ.out i x2 y2 (by omega) h1 h2
              case measure => simp [intOf]; omega
            | false =>
              have HF : Hid (eqL (eqB (n + 1)) L L2 = false) := by
                show _ = _
                cases hz : eqL (eqB (n + 1)) L L2 with
                | false => rfl
                | true =>
                  rw [eqL_at HEL.out] at hz
                  have := hz j x y HX.out HY.out
                  rw [HBB.out] at this
                  exact absurd this (by decide)
              go_wp2_with fail
              go_ret
              exact ⟨by rw [HF.out]; rfl, gtrans HK5.out HK6.out⟩
      · have HT2 : Hid (eqL (eqB (n + 1)) L L2 = true) := by
          show _ = _
          rw [eqL_at HEL.out]
          intro i x y h1 h2
          exact HJ.out i x y (by have := (List.getElem?_eq_some_iff.1 h1).1; have := HN.out; omega) h1 h2
        go_wp2_with fail
        go_ret
        exact ⟨by rw [HT2.out]; rfl, gtrans HK5.out HKr.out⟩

end Ex
end Go.Proofs.YtfajoknacfjedaaGreatDoor
