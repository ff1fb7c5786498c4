import Derived.Test.YtbnchnlogikecaaGreatDoorPShO
import Derived.Handy
import Derived.Test.YtbnchnlogikecaaGreatDoorPExRd3
namespace Go.Proofs.YtbnchnlogikecaaGreatDoor
open Go.RowKit
attribute [local go_sem] Oper.semAt_some
set_option linter.unusedSimpArgs false
set_option maxRecDepth 100000
set_option maxHeartbeats 4000000
namespace Ex
theorem repeatU_is (S : Nat → Prop) (p : Pat) (v : Value) (w : World) (mn mx : Int) (h : PatU S w p v) (hN : ∀ b, w.heap.size ≤ b → S b) :
    Calls Tryz.prog 138 #[v, .int .i64 mn, .int .i64 mx] w fun e w' => PGivU S (mkP 4 0 0 mn mx [p]) e w' ∧ Kept w w' := by
  obtain ⟨v', rfl, hk⟩ := h
  have HK := hide1 hk
  have HN := hide1 hN
  obtain ⟨a, cap, rfl⟩ := hk.form
  rw [valOf_eq]
  clear hk hN
  go_enter Tryz.func138, Tryz.ntmps138
  go_wp2
  all_goals
    go_returns
    have hkept := (((Kept.refl w).alloc #[.int .i64 (kind p.2), .int .i64 (from_ p.2), .int .i64 (to_ p.2), .int .i64 (min_ p.2), .int .i64 (max_ p.2), .slice a (kids p.2).length cap] 70).alloc #[.int .i64 4, .int .i64 0, .int .i64 0, .int .i64 mn, .int .i64 mx, .slice (some ⟨w.heap.size + 1 + 1, 0, none⟩) 1 1] 70).alloc #[.int .i64 (kind p.2), .int .i64 (from_ p.2), .int .i64 (to_ p.2), .int .i64 (min_ p.2), .int .i64 (max_ p.2), .slice a (kids p.2).length cap] 70
    refine ⟨⟨_, rfl, _, rfl, ?_⟩, hkept⟩
    have hflat : FlatO (fun d => S d ∧ d < w.heap.size) _ [p] (cellsP p (.slice a (kids p.2).length cap)) := FlatO.snoc (S1 := fun _ => False) (FlatO.nil _ _) ((KidsO.tight _ _ _ HK.out).kept hkept) (fun _ h => h.elim) (fun _ h => h.elim) (fun _ h => h)
    have hb := box_cells ((w.alloc (.cells #[.int .i64 (kind p.2), .int .i64 (from_ p.2), .int .i64 (to_ p.2), .int .i64 (min_ p.2), .int .i64 (max_ p.2), .slice a (kids p.2).length cap] 70)).alloc (.cells #[.int .i64 4, .int .i64 0, .int .i64 0, .int .i64 mn, .int .i64 mx, .slice (some ⟨w.heap.size + 1 + 1, 0, none⟩) 1 1] 70)) p (.slice a (kids p.2).length cap) 70
    have hsz : ((w.alloc (.cells #[.int .i64 (kind p.2), .int .i64 (from_ p.2), .int .i64 (to_ p.2), .int .i64 (min_ p.2), .int .i64 (max_ p.2), .slice a (kids p.2).length cap] 70)).alloc (.cells #[.int .i64 4, .int .i64 0, .int .i64 0, .int .i64 mn, .int .i64 mx, .slice (some ⟨w.heap.size + 1 + 1, 0, none⟩) 1 1] 70)).heap.size = w.heap.size + 1 + 1 := by simp
    rw [hsz] at hb
    have hg := heap_alloc_new ((w.alloc (.cells #[.int .i64 (kind p.2), .int .i64 (from_ p.2), .int .i64 (to_ p.2), .int .i64 (min_ p.2), .int .i64 (max_ p.2), .slice a (kids p.2).length cap] 70)).alloc (.cells #[.int .i64 4, .int .i64 0, .int .i64 0, .int .i64 mn, .int .i64 mx, .slice (some ⟨w.heap.size + 1 + 1, 0, none⟩) 1 1] 70)) (.cells #[.int .i64 (kind p.2), .int .i64 (from_ p.2), .int .i64 (to_ p.2), .int .i64 (min_ p.2), .int .i64 (max_ p.2), .slice a (kids p.2).length cap] 70)
    rw [hsz] at hg
    exact hflat.kids (cap := 1) hg (by unfold maxLen; omega) rfl (fun j u hj => by have h := hb j u hj; rw [Nat.zero_add] at h; exact h) (HN.out _ (by omega)) (fun d hd => ⟨hd.1, by have := hd.2; omega⟩) (Nat.le_refl _) (by simp) (by simp)
def TimesU (S : Nat → Prop) (p : Pat) (T : ByteArray) (k e f : Int) (b : Nat) (w wr : World) : Prop :=
  ∃ (j : Nat) (q : Pat) (vq : Value) (k1 e1 f1 : Int), 0 ≤ k1 ∧ k1 ≤ (T.size : Int) ∧ k + (j : Int) ≤ k1 ∧ KeptBut b w wr ∧ RAt wr b T k1 e1 f1 ∧
    BoxAt wr w.heap.size (.int .i64 (kind q.2)) (.int .i64 (from_ q.2)) (.int .i64 (to_ q.2)) (.int .i64 (min_ q.2)) (.int .i64 (max_ q.2)) vq ∧
    BoxAt wr (w.heap.size + 1) (.int .i64 0) (.int .i64 0) (.int .i64 0) (.int .i64 0) (.int .i64 0) (.slice none 0 0) ∧
    KidsO (fun d => S d ∧ d ≠ w.heap.size ∧ d ≠ w.heap.size + 1) wr q.1 (kids q.2) vq ∧ ∀ N, timesG T (j + N) p (k, e, f) = timesG T N q (k1, e1, f1)
theorem timesU_step {S : Nat → Prop} {p q : Pat} {T : ByteArray} {k e f k1 e1 f1 k2 e2 f2 mn mx : Int} {b j : Nat} {w wr w8 : World} {v8 : Value} {y0 y1 y2 y3 y4 y5 : Value}
    (hb : b < w.heap.size) (h0 : 0 ≤ k2) (h1 : k2 ≤ (T.size : Int)) (hlt : k1 < k2) (hj : k + (j : Int) ≤ k1) (hk : KeptBut b w wr) (hk8 : KeptBut b wr w8) (hr : RAt w8 b T k2 e2 f2)
    (hbx : BoxAt w8 w.heap.size y0 y1 y2 y3 y4 y5) (hbz : BoxAt w8 (w.heap.size + 1) (.int .i64 0) (.int .i64 0) (.int .i64 0) (.int .i64 0) (.int .i64 0) (.slice none 0 0))
    (hv : PatU (fun d => S d ∧ d ≠ w.heap.size ∧ d ≠ w.heap.size + 1) w8 (mkP 4 0 0 mn mx [q]) (.agg #[.int .i64 4, .int .i64 0, .int .i64 0, .int .i64 mn, .int .i64 mx, v8]))
    (hM : ∀ N, timesG T (j + N) p (k, e, f) = timesG T N q (k1, e1, f1)) (hst : ∀ N, timesG T (N + 1) q (k1, e1, f1) = timesG T N (mkP 4 0 0 mn mx [q]) (k2, e2, f2)) :
    TimesU S p T k e f b w ((((((w8.setCell ⟨w.heap.size, 0, none⟩ (.int .i64 4)).setCell ⟨w.heap.size, 1, none⟩ (.int .i64 0)).setCell ⟨w.heap.size, 2, none⟩ (.int .i64 0)).setCell ⟨w.heap.size, 3, none⟩ (.int .i64 mn)).setCell ⟨w.heap.size, 4, none⟩ (.int .i64 mx)).setCell ⟨w.heap.size, 5, none⟩ v8) := by
  obtain ⟨u, hu, hkk⟩ := hv
  have hu' : v8 = u := by
    rw [valOf_eq] at hu
    simp only [Value.agg.injEq] at hu
    have := congrArg (fun x : Array Value => x[5]?) hu
    simpa using this
  subst hu'
  refine ⟨j + 1, mkP 4 0 0 mn mx [q], v8, k2, e2, f2, h0, h1, by omega, fin_but (hk.trans hk8) (Nat.le_refl _), hr.fin (by omega), hbx.set, hbz.other (by omega), ?_, fun N => ?_⟩
  · exact KidsO.mono (set6_holdsU (fun h => h.2.1 rfl)) (fun _ h => h) _ _ _ hkk
  · rw [show j + 1 + N = j + (N + 1) by omega, hM, hst]
theorem timesU_is (S : Nat → Prop) (p : Pat) (v : Value) (T : ByteArray) (k e f : Int) (b : Nat) (w : World) (h : RAt w b T k e f) (h0 : 0 ≤ k) (h1 : k ≤ T.size) (hT : T.size ≤ 4096) (hv : PatU S w p v) (hSb : ¬ S b) (hN : ∀ d, w.heap.size ≤ d → S d) :
    Calls Tryz.prog 136 #[.pointer (some ⟨b, 0, none⟩), v] w fun r w' => PGivU S (timesS T p (k, e, f)).1 r w' ∧ RGave b w T (timesS T p (k, e, f)).2 w' := by
  obtain ⟨v', rfl, hk⟩ := hv
  have HR := hide1 h
  have HK := hide1 hk
  have HN := hide1 hN
  have HSb := hide1 hSb
  have hb := h.lt
  have gT : (T.size : Int) ≤ 4096 := by omega
  obtain ⟨a, cap, rfl⟩ := hk.form
  rw [valOf_eq]
  clear hk hN hSb h
  go_enter Tryz.func136, Tryz.ntmps136
  go_wp2_with fail
  go_loopw [] (fun wr => TimesU S p T k e f b w wr) (fun wr => T.size - placeOf b wr)
  case atStart =>
    refine ⟨0, p, _, k, e, f, h0, h1, by omega, (((Kept.refl w).alloc _ _).alloc _ _).but b, HR.out.keep (((Kept.refl w).alloc _ _).alloc _ _), (BoxAt.new w _ _ _ _ _ _).keep ((Kept.refl _).alloc _ _), ?_, ?_, fun N => by rw [Nat.zero_add]⟩
    · have := BoxAt.new (w.alloc (.cells #[.int .i64 (kind p.2), .int .i64 (from_ p.2), .int .i64 (to_ p.2), .int .i64 (min_ p.2), .int .i64 (max_ p.2), .slice a (kids p.2).length cap] 70)) (.int .i64 0) (.int .i64 0) (.int .i64 0) (.int .i64 0) (.int .i64 0) (.slice none 0 0)
      simpa using this
    · exact KidsO.mono (((Kept.refl w).alloc _ _).alloc _ _ |>.holdsU _) (fun d h => ⟨h.1, by omega, by omega⟩) _ _ _ (HK.out.tight)
  case round =>
    obtain ⟨j, q, vq, k1, e1, f1, hk0, hk2, hkj, hKW, hRr, hbx, hbz, hki, hM⟩ := hrel
    have HKW := hide1 hKW
    have HRr := hide1 hRr
    have HBX := hide1 hbx
    have HBZ := hide1 hbz
    obtain ⟨aq, capq, rfl⟩ := hki.form
    have HKI := hide1 hki
    have HM := hide1 hM
    have hM' := hM
    have HW := hide1 hRr
    have HK := hide1 (but_refl b wr)
    have hsw := hbz.lt
    obtain ⟨⟨q0, q1, q2, q3, q4, q5⟩, y0, y1, y2, y3, y4, y5⟩ := hbx.facts
    obtain ⟨⟨p0, p1, p2, p3, p4, p5⟩, x0, x1, x2, x3, x4, x5⟩ := hbz.facts
    clear hKW hRr hbx hbz hki hM
    by_cases hc : peekP T k1 = 42
    · have hlt : k1 < T.size := (peek_lt (T := T) (k := k1) (by rw [hc]; decide)).2
      have HST : Hid (∀ N, timesG T (N + 1) q (k1, e1, f1) = timesG T N (mkP 4 0 0 0 (-1) [q]) (k1 + 1, e1, f1)) := fun N => by simp [timesG, hc]
      have HC := hide1 hc
      clear hc hM'
      go_wp2_with (first
        | (go_at_call 133; refine (take_is T k1 e1 f1 _ b _ (by exact HW.out) hk0 hk2 hT).mono ?_; rintro r w7 ⟨rfl, hk7, hw7⟩; rw [HC.out]; simp [takeK, HC.out] at hw7; have HK := hide1 (HK.out.trans hk7); have HW := hide1 hw7; have HBX := hide1 (HBX.out.but hk7 (by omega)); have HBZ := hide1 (HBZ.out.but hk7 (by omega)); have HKI := hide1 (KidsO.mono (hk7.holdsU (fun h => HSb.out h.1)) (fun _ h => h) _ _ _ HKI.out); obtain ⟨⟨q0, q1, q2, q3, q4, q5⟩, y0, y1, y2, y3, y4, y5⟩ := HBX.out.facts; obtain ⟨⟨p0, p1, p2, p3, p4, p5⟩, x0, x1, x2, x3, x4, x5⟩ := HBZ.out.facts; have hs7 := HBZ.out.lt; clear hk7 hw7)
        | (go_at_call 138; refine (repeatU_is (fun d => S d ∧ d ≠ w.heap.size ∧ d ≠ w.heap.size + 1) q _ _ _ _ ⟨_, rfl, HKI.out⟩ (fun d hd => ⟨HN.out d (by have := HBZ.out.lt; have := HKW.out.2.2.2.1; have := HK.out.2.2.2.1; omega), by have := HBZ.out.lt; omega, by have := HBZ.out.lt; omega⟩)).mono ?_; rintro r w8 ⟨⟨v8, rfl, u8, rfl, hkk⟩, hk8⟩; rw [valOf_mkP]; obtain ⟨a8, cap8, e8⟩ := hkk.form; subst e8; have HV := hide1 (show PatU _ _ (mkP 4 0 0 _ _ [q]) _ from ⟨_, rfl, hkk⟩); rw [valOf_mkP] at HV; have HK := hide1 (HK.out.trans (hk8.but b)); have HW := hide1 (HW.out.keep hk8); have HBX := hide1 (HBX.out.keep hk8); have HBZ := hide1 (HBZ.out.keep hk8); obtain ⟨⟨q0, q1, q2, q3, q4, q5⟩, y0, y1, y2, y3, y4, y5⟩ := HBX.out.facts; obtain ⟨⟨p0, p1, p2, p3, p4, p5⟩, x0, x1, x2, x3, x4, x5⟩ := HBZ.out.facts; have hs7 := HBZ.out.lt; clear hkk hk8))
      go_roundw
      case rel => exact timesU_step hb (by omega) (by omega) (by omega) hkj HKW.out HK.out HW.out HBX.out HBZ.out HV.out HM.out HST.out
      case measure => rw [(HW.out.fin (by omega)).place, HRr.out.place]; omega
    · by_cases hc2 : peekP T k1 = 43
      · have hc := hc2
        have hlt : k1 < T.size := (peek_lt (T := T) (k := k1) (by rw [hc]; decide)).2
        have HST : Hid (∀ N, timesG T (N + 1) q (k1, e1, f1) = timesG T N (mkP 4 0 0 1 (-1) [q]) (k1 + 1, e1, f1)) := fun N => by simp [timesG, hc]
        have HC := hide1 hc
        clear hc hM'
        go_wp2_with (first
          | (go_at_call 133; refine (take_is T k1 e1 f1 _ b _ (by exact HW.out) hk0 hk2 hT).mono ?_; rintro r w7 ⟨rfl, hk7, hw7⟩; rw [HC.out]; simp [takeK, HC.out] at hw7; have HK := hide1 (HK.out.trans hk7); have HW := hide1 hw7; have HBX := hide1 (HBX.out.but hk7 (by omega)); have HBZ := hide1 (HBZ.out.but hk7 (by omega)); have HKI := hide1 (KidsO.mono (hk7.holdsU (fun h => HSb.out h.1)) (fun _ h => h) _ _ _ HKI.out); obtain ⟨⟨q0, q1, q2, q3, q4, q5⟩, y0, y1, y2, y3, y4, y5⟩ := HBX.out.facts; obtain ⟨⟨p0, p1, p2, p3, p4, p5⟩, x0, x1, x2, x3, x4, x5⟩ := HBZ.out.facts; have hs7 := HBZ.out.lt; clear hk7 hw7)
          | (go_at_call 138; refine (repeatU_is (fun d => S d ∧ d ≠ w.heap.size ∧ d ≠ w.heap.size + 1) q _ _ _ _ ⟨_, rfl, HKI.out⟩ (fun d hd => ⟨HN.out d (by have := HBZ.out.lt; have := HKW.out.2.2.2.1; have := HK.out.2.2.2.1; omega), by have := HBZ.out.lt; omega, by have := HBZ.out.lt; omega⟩)).mono ?_; rintro r w8 ⟨⟨v8, rfl, u8, rfl, hkk⟩, hk8⟩; rw [valOf_mkP]; obtain ⟨a8, cap8, e8⟩ := hkk.form; subst e8; have HV := hide1 (show PatU _ _ (mkP 4 0 0 _ _ [q]) _ from ⟨_, rfl, hkk⟩); rw [valOf_mkP] at HV; have HK := hide1 (HK.out.trans (hk8.but b)); have HW := hide1 (HW.out.keep hk8); have HBX := hide1 (HBX.out.keep hk8); have HBZ := hide1 (HBZ.out.keep hk8); obtain ⟨⟨q0, q1, q2, q3, q4, q5⟩, y0, y1, y2, y3, y4, y5⟩ := HBX.out.facts; obtain ⟨⟨p0, p1, p2, p3, p4, p5⟩, x0, x1, x2, x3, x4, x5⟩ := HBZ.out.facts; have hs7 := HBZ.out.lt; clear hkk hk8))
        go_roundw
        case rel => exact timesU_step hb (by omega) (by omega) (by omega) hkj HKW.out HK.out HW.out HBX.out HBZ.out HV.out HM.out HST.out
        case measure => rw [(HW.out.fin (by omega)).place, HRr.out.place]; omega
      · by_cases hc3 : peekP T k1 = 63
        · have hc := hc3
          have hlt : k1 < T.size := (peek_lt (T := T) (k := k1) (by rw [hc]; decide)).2
          have HST : Hid (∀ N, timesG T (N + 1) q (k1, e1, f1) = timesG T N (mkP 4 0 0 0 1 [q]) (k1 + 1, e1, f1)) := fun N => by simp [timesG, hc]
          have HC := hide1 hc
          clear hc hM'
          go_wp2_with (first
            | (go_at_call 133; refine (take_is T k1 e1 f1 _ b _ (by exact HW.out) hk0 hk2 hT).mono ?_; rintro r w7 ⟨rfl, hk7, hw7⟩; rw [HC.out]; simp [takeK, HC.out] at hw7; have HK := hide1 (HK.out.trans hk7); have HW := hide1 hw7; have HBX := hide1 (HBX.out.but hk7 (by omega)); have HBZ := hide1 (HBZ.out.but hk7 (by omega)); have HKI := hide1 (KidsO.mono (hk7.holdsU (fun h => HSb.out h.1)) (fun _ h => h) _ _ _ HKI.out); obtain ⟨⟨q0, q1, q2, q3, q4, q5⟩, y0, y1, y2, y3, y4, y5⟩ := HBX.out.facts; obtain ⟨⟨p0, p1, p2, p3, p4, p5⟩, x0, x1, x2, x3, x4, x5⟩ := HBZ.out.facts; have hs7 := HBZ.out.lt; clear hk7 hw7)
            | (go_at_call 138; refine (repeatU_is (fun d => S d ∧ d ≠ w.heap.size ∧ d ≠ w.heap.size + 1) q _ _ _ _ ⟨_, rfl, HKI.out⟩ (fun d hd => ⟨HN.out d (by have := HBZ.out.lt; have := HKW.out.2.2.2.1; have := HK.out.2.2.2.1; omega), by have := HBZ.out.lt; omega, by have := HBZ.out.lt; omega⟩)).mono ?_; rintro r w8 ⟨⟨v8, rfl, u8, rfl, hkk⟩, hk8⟩; rw [valOf_mkP]; obtain ⟨a8, cap8, e8⟩ := hkk.form; subst e8; have HV := hide1 (show PatU _ _ (mkP 4 0 0 _ _ [q]) _ from ⟨_, rfl, hkk⟩); rw [valOf_mkP] at HV; have HK := hide1 (HK.out.trans (hk8.but b)); have HW := hide1 (HW.out.keep hk8); have HBX := hide1 (HBX.out.keep hk8); have HBZ := hide1 (HBZ.out.keep hk8); obtain ⟨⟨q0, q1, q2, q3, q4, q5⟩, y0, y1, y2, y3, y4, y5⟩ := HBX.out.facts; obtain ⟨⟨p0, p1, p2, p3, p4, p5⟩, x0, x1, x2, x3, x4, x5⟩ := HBZ.out.facts; have hs7 := HBZ.out.lt; clear hkk hk8))
          go_roundw
          case rel => exact timesU_step hb (by omega) (by omega) (by omega) hkj HKW.out HK.out HW.out HBX.out HBZ.out HV.out HM.out HST.out
          case measure => rw [(HW.out.fin (by omega)).place, HRr.out.place]; omega
        · by_cases hc4 : peekP T k1 = 123
          · have hlt4 : k1 < T.size := (peek_lt (T := T) (k := k1) (by rw [hc4]; decide)).2
            have hok := braces_ok (T := T) (s := (k1, e1, f1)) ⟨by show 0 ≤ k1 + 1; omega, by show k1 + 1 ≤ _; omega⟩
            obtain ⟨⟨mn, mx, k3, e3, f3⟩, hBR⟩ : ∃ x, bracesS T (k1, e1, f1) = x := ⟨_, rfl⟩
            rw [hBR] at hok
            obtain ⟨ok3, hlt3⟩ := hok
            unfold OkS at ok3
            dsimp only at ok3 hlt3
            have HBR := hide1 hBR
            have HST : Hid (∀ N, timesG T (N + 1) q (k1, e1, f1) = timesG T N (mkP 4 0 0 mn mx [q]) (k3, e3, f3)) := fun N => by simp [timesG, hc4, hBR]
            have HC := hide1 hc4
            clear hc hc2 hc3 hc4 hBR hM'
            go_wp2_with (first
              | (go_at_call 133; refine (take_is T k1 e1 f1 _ b _ (by exact HW.out) hk0 hk2 hT).mono ?_; rintro r w7 ⟨rfl, hk7, hw7⟩; rw [HC.out]; simp [takeK, HC.out] at hw7; have HK := hide1 (HK.out.trans hk7); have HW := hide1 hw7; have HBX := hide1 (HBX.out.but hk7 (by omega)); have HBZ := hide1 (HBZ.out.but hk7 (by omega)); have HKI := hide1 (KidsO.mono (hk7.holdsU (fun h => HSb.out h.1)) (fun _ h => h) _ _ _ HKI.out); obtain ⟨⟨q0, q1, q2, q3, q4, q5⟩, y0, y1, y2, y3, y4, y5⟩ := HBX.out.facts; obtain ⟨⟨p0, p1, p2, p3, p4, p5⟩, x0, x1, x2, x3, x4, x5⟩ := HBZ.out.facts; have hs7 := HBZ.out.lt; clear hk7 hw7)
              | (go_at_call 138; refine (repeatU_is (fun d => S d ∧ d ≠ w.heap.size ∧ d ≠ w.heap.size + 1) q _ _ _ _ ⟨_, rfl, HKI.out⟩ (fun d hd => ⟨HN.out d (by have := HBZ.out.lt; have := HKW.out.2.2.2.1; have := HK.out.2.2.2.1; omega), by have := HBZ.out.lt; omega, by have := HBZ.out.lt; omega⟩)).mono ?_; rintro r w8 ⟨⟨v8, rfl, u8, rfl, hkk⟩, hk8⟩; rw [valOf_mkP]; obtain ⟨a8, cap8, e8⟩ := hkk.form; subst e8; have HV := hide1 (show PatU _ _ (mkP 4 0 0 _ _ [q]) _ from ⟨_, rfl, hkk⟩); rw [valOf_mkP] at HV; have HK := hide1 (HK.out.trans (hk8.but b)); have HW := hide1 (HW.out.keep hk8); have HBX := hide1 (HBX.out.keep hk8); have HBZ := hide1 (HBZ.out.keep hk8); obtain ⟨⟨q0, q1, q2, q3, q4, q5⟩, y0, y1, y2, y3, y4, y5⟩ := HBX.out.facts; obtain ⟨⟨p0, p1, p2, p3, p4, p5⟩, x0, x1, x2, x3, x4, x5⟩ := HBZ.out.facts; have hs7 := HBZ.out.lt; clear hkk hk8)
              | (go_at_call 139; refine (braces_is T k1 e1 f1 b _ (by exact HW.out) hk0 hlt4 hT).mono ?_; rintro r w7 ⟨rfl, hg⟩; rw [HBR.out] at hg ⊢; obtain ⟨_, hk7, hw7⟩ := hg; have HK := hide1 (HK.out.trans (by first | exact hk7 | exact but_undrew hk7)); have HW := hide1 hw7; have HBX := hide1 (BoxAt.but (w := _) (by exact HBX.out) hk7 (by omega)); have HBZ := hide1 (BoxAt.but (w := _) (by exact HBZ.out) hk7 (by omega)); have HKI := hide1 (KidsO.mono (hk7.holdsU (S := fun d => S d ∧ d ≠ w.heap.size ∧ d ≠ w.heap.size + 1) (fun h => HSb.out h.1)) (fun _ h => h) _ _ _ (by exact HKI.out.drew _)); obtain ⟨⟨q0, q1, q2, q3, q4, q5⟩, y0, y1, y2, y3, y4, y5⟩ := HBX.out.facts; obtain ⟨⟨p0, p1, p2, p3, p4, p5⟩, x0, x1, x2, x3, x4, x5⟩ := HBZ.out.facts; have hs7 := HBZ.out.lt; clear hk7 hw7)
              | (go_at_call 135; refine (peek_is T k1 e1 f1 b _ (by exact HW.out) hk0 hk2 hT).mono ?_; rintro r w8 ⟨rfl, nd, rfl⟩; rw [HC.out]))
            go_roundw
            case rel => exact timesU_step hb ok3.1 ok3.2 hlt3 hkj HKW.out HK.out HW.out HBX.out HBZ.out HV.out HM.out HST.out
            case measure => rw [(HW.out.fin (by omega)).place, HRr.out.place]; omega
          · have HE : Hid (timesS T p (k, e, f) = (q, k1, e1, f1)) := by
              show _ = _
              unfold timesS
              have e1 : ∀ N, timesG T N q (k1, e1, f1) = (q, k1, e1, f1) := fun N => by cases N <;> simp [timesG, hc, hc2, hc3, hc4]
              rw [show 4097 = j + (4097 - j) by omega, hM', e1]
            obtain ⟨c, hcc⟩ : ∃ c, peekP T k1 = c := ⟨_, rfl⟩
            rw [hcc] at hc hc2 hc3 hc4
            have HC := hide1 hcc
            clear hcc hM'
            go_wp2_with (first
              | (go_at_call 133; refine (take_is T k1 e1 f1 _ b _ (by exact HW.out) hk0 hk2 hT).mono ?_; rintro r w7 ⟨rfl, hk7, hw7⟩; rw [HC.out]; simp [takeK, HC.out, hc, hc2, hc3] at hw7; have HK := hide1 (HK.out.trans hk7); have HW := hide1 hw7; have HBX := hide1 (HBX.out.but hk7 (by omega)); have HBZ := hide1 (HBZ.out.but hk7 (by omega)); have HKI := hide1 (KidsO.mono (hk7.holdsU (fun h => HSb.out h.1)) (fun _ h => h) _ _ _ HKI.out); obtain ⟨⟨q0, q1, q2, q3, q4, q5⟩, y0, y1, y2, y3, y4, y5⟩ := HBX.out.facts; obtain ⟨⟨p0, p1, p2, p3, p4, p5⟩, x0, x1, x2, x3, x4, x5⟩ := HBZ.out.facts; have hs7 := HBZ.out.lt; clear hk7 hw7)
              | (go_at_call 135; refine (peek_is T k1 e1 f1 b _ (by exact HW.out) hk0 hk2 hT).mono ?_; rintro r w8 ⟨rfl, nd, rfl⟩; rw [HC.out]))
            (try simp only [Exit.inBlock, Exit.then])
            refine bodyPost_ret (box_returns rfl _ _ (w.heap.size + 1) _ _ _ _ _ _ rfl (BoxAt.set (by exact HBZ.out))) rfl ?_
            rw [HE.out]
            refine ⟨⟨_, rfl, _, rfl, KidsO.mono (set6_holdsU (S := fun d => S d ∧ d ≠ w.heap.size ∧ d ≠ w.heap.size + 1) (fun h => h.2.2 rfl)) (fun _ h => h.1) _ _ _ (by exact HKI.out.drew _)⟩, ⟨hk0, hk2⟩, ?_, ?_⟩
            · exact fin_but (but_drew (HKW.out.trans HK.out) _) (by omega)
            · exact RAt.fin (by exact HW.out) (by omega)
end Ex
end Go.Proofs.YtbnchnlogikecaaGreatDoor
namespace Go.Proofs.YtbnchnlogikecaaGreatDoor
open Go.RowKit
attribute [local go_sem] Oper.semAt_some
set_option linter.unusedSimpArgs false
set_option maxRecDepth 100000
set_option maxHeartbeats 2000000
namespace Ex
def hexV (c : Int) : Int := if digitP c then c - 48 else if 97 ≤ c ∧ c ≤ 102 then c - 87 else if 65 ≤ c ∧ c ≤ 70 then c - 55 else -1
def hexR (T : ByteArray) (s : Int × Int × Int) (o : Int) : Int × Int × Int × Int := if s.1 = T.size then (0, wrongS T s) else if hexV (peekP T s.1) < 0 then (0, failS T s 22 o) else (hexV (peekP T s.1), s.1 + 1, s.2)
theorem hexV_le (c : Int) : hexV c ≤ 15 := by
  unfold hexV digitP
  simp only [Bool.and_eq_true, decide_eq_true_eq]
  split
  · omega
  · split
    · omega
    · split <;> omega
theorem hexR_range (T : ByteArray) (s : Int × Int × Int) (o : Int) : 0 ≤ (hexR T s o).1 ∧ (hexR T s o).1 ≤ 15 := by
  unfold hexR
  split
  · simp
  · split
    · simp
    · exact ⟨by show 0 ≤ hexV _; omega, hexV_le _⟩
theorem hex_is (T : ByteArray) (k e f o : Int) (b : Nat) (w : World) (h : RAt w b T k e f) (h0 : 0 ≤ k) (h1 : k ≤ T.size) (hT : T.size ≤ 4096) :
    Calls Tryz.prog 145 #[.pointer (some ⟨b, 0, none⟩), .int .i64 o] w fun r w' => r = .returned (.int .i64 (hexR T (k, e, f) o).1) ∧ RGave b w T (hexR T (k, e, f) o).2 w' := by
  have HR := hide1 h
  obtain ⟨c0, c1, c2, c3, c4⟩ := h.cells
  obtain ⟨z0, z1, z2, z3, z4⟩ := h.free
  have hb := h.lt
  have gT : (T.size : Int) ≤ 4096 := by omega
  clear h
  have hc := peek_byte T k
  unfold IsB at hc
  have HE : Hid (hexR T (k, e, f) o = if k = T.size then (0, wrongS T (k, e, f)) else if hexV (peekP T k) < 0 then (0, failS T (k, e, f) 22 o) else (hexV (peekP T k), k + 1, e, f)) := rfl
  obtain ⟨c, hcc⟩ : ∃ c, peekP T k = c := ⟨_, rfl⟩
  rw [hcc] at hc HE
  have HC := hide1 hcc
  clear hcc
  go_enter Tryz.func145, Tryz.ntmps145
  by_cases hk : k = (T.size : Int)
  · rw [if_pos hk] at HE
    subst hk
    go_wp2_with (first
      | (go_at_call 135; refine (peek_is T _ e f b _ (by exact HR.out) h0 h1 hT).mono ?_; rintro e w6 ⟨rfl, m, rfl⟩; rw [HC.out])
      | (go_at_call 131; refine (wrong_is T _ e f b _ (by exact HR.out) hT).mono ?_; rintro e w6 ⟨rfl, hk6, hw6⟩; have HK6 := hide1 (but_undrew hk6); have HW6 := hide1 hw6; clear hk6 hw6)
      | go_quiet (fail))
    all_goals
      go_ret
      rw [HE.out]
      exact ⟨rfl, ⟨Int.natCast_nonneg _, Int.le_refl _⟩, by first | exact HK6.out | exact but_undrew HK6.out, HW6.out⟩
  · have hlt : k < (T.size : Int) := by omega
    rw [if_neg hk] at HE
    by_cases hd : digitP c = true
    · have hd2 : 48 ≤ c ∧ c ≤ 57 := by unfold digitP at hd; simpa using hd
      have hv : hexV c = c - 48 := by unfold hexV; rw [if_pos hd]
      have HV := hide1 hv
      clear hv
      go_wp2_with (first
        | (go_at_call 135; refine (peek_is T _ e f b _ (by exact HR.out) h0 h1 hT).mono ?_; rintro e w6 ⟨rfl, m, rfl⟩; rw [HC.out])
        | (go_at_call 147; refine (digit_is _ _).mono ?_; rintro e w6 ⟨rfl, rfl⟩; rw [hd])
        | go_quiet (fail))
      all_goals
        go_ret
        rw [HE.out, HV.out, if_neg (by omega)]
        exact ⟨rfl, ⟨by show 0 ≤ k + 1; omega, by show k + 1 ≤ _; omega⟩, but_set (by first | exact but_drew (but_refl _ _) _ | exact but_drew (but_drew (but_refl _ _) _) _) _ _, (HR.out.drew _).move _⟩
    · have hd' : digitP c = false := by simpa using hd
      by_cases ha : 97 ≤ c ∧ c ≤ 102
      · have hv : hexV c = c - 87 := by unfold hexV; rw [if_neg hd, if_pos ha]
        have HV := hide1 hv
        clear hv
        obtain ⟨ha1, ha2⟩ := ha
        go_wp2_with (first
          | (go_at_call 135; refine (peek_is T _ e f b _ (by exact HR.out) h0 h1 hT).mono ?_; rintro e w6 ⟨rfl, m, rfl⟩; rw [HC.out])
          | (go_at_call 147; refine (digit_is _ _).mono ?_; rintro e w6 ⟨rfl, rfl⟩; rw [hd'])
          | go_quiet (fail))
        all_goals
          go_ret
          rw [HE.out, HV.out, if_neg (by omega)]
          refine ⟨by go_num, ⟨by show 0 ≤ k + 1; omega, by show k + 1 ≤ _; omega⟩, but_set (by first | exact but_drew (but_refl _ _) _ | exact but_drew (but_drew (but_refl _ _) _) _) _ _, (HR.out.drew _).move _⟩
      · by_cases hA : 65 ≤ c ∧ c ≤ 70
        · have hv : hexV c = c - 55 := by unfold hexV; rw [if_neg hd, if_neg ha, if_pos hA]
          have HV := hide1 hv
          clear hv
          obtain ⟨ha1, ha2⟩ := hA
          go_wp2_with (first
            | (go_at_call 135; refine (peek_is T _ e f b _ (by exact HR.out) h0 h1 hT).mono ?_; rintro e w6 ⟨rfl, m, rfl⟩; rw [HC.out])
            | (go_at_call 147; refine (digit_is _ _).mono ?_; rintro e w6 ⟨rfl, rfl⟩; rw [hd'])
            | go_quiet (fail))
          all_goals
            go_ret
            rw [HE.out, HV.out, if_neg (by omega)]
            refine ⟨by go_num, ⟨by show 0 ≤ k + 1; omega, by show k + 1 ≤ _; omega⟩, but_set (by first | exact but_drew (but_refl _ _) _ | exact but_drew (but_drew (but_refl _ _) _) _) _ _, (HR.out.drew _).move _⟩
        · have hv : hexV c = -1 := by unfold hexV; rw [if_neg hd, if_neg ha, if_neg hA]
          have HV := hide1 hv
          clear hv
          go_wp2_with (first
            | (go_at_call 135; refine (peek_is T _ e f b _ (by exact HR.out) h0 h1 hT).mono ?_; rintro e w6 ⟨rfl, m, rfl⟩; rw [HC.out])
            | (go_at_call 147; refine (digit_is _ _).mono ?_; rintro e w6 ⟨rfl, rfl⟩; rw [hd'])
            | (go_at_call 134; refine (fail_is T _ e f _ _ b _ (by exact (HR.out.drew _).move _)).mono ?_; rintro e w6 ⟨rfl, hk6, hw6⟩; have HK6 := hide1 hk6; have HW6 := hide1 hw6; clear hk6 hw6)
            | go_quiet (fail))
          all_goals
            go_ret
            rw [HE.out, HV.out, if_pos (by omega)]
            exact ⟨rfl, ⟨Int.natCast_nonneg _, Int.le_refl _⟩, (but_set (by first | exact but_drew (but_refl _ _) _ | exact but_drew (but_drew (but_refl _ _) _) _) _ _).trans HK6.out, HW6.out⟩
end Ex
end Go.Proofs.YtbnchnlogikecaaGreatDoor
