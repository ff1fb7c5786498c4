import Derived.Test.YtooelfjceehmmaaDoorMExTw1
import Derived.Deep.RegionHeld3
import Derived.Test.YtooelfjceehmmaaDoorMExSize
import Derived.Test.YtooelfjceehmmaaDoorMExRight
namespace Go.Proofs.YtooelfjceehmmaaDoor
open Go.RowKit
attribute [local go_sem] Oper.semAt_some
namespace Ex

set_option linter.unusedSimpArgs false in
set_option maxRecDepth 100000 in
set_option maxHeartbeats 4000000 in
theorem kept_is (S M : Nat → Prop) : ∀ (n : Nat) (p : PatN (n + 1)) (v vm : Value) (w : World), KidsAt S w n (kids p) v → MarkAt M w n (kids p) vm →
    Calls Tryd.prog 73 #[valOf p vm, valOf p v] w fun e w' => e = .returned (.bool true) ∧ Kept w w' := by
  intro n
  induction n with
  | zero =>
    intro p v vm w h hm
    obtain ⟨a, cap, rfl⟩ := h.form
    obtain ⟨am, capm, rfl⟩ := hm.form
    rw [valOf_eq, valOf_eq]
    rw [none_of (kids p)]
    clear h hm
    go_enter Tryd.func73, Tryd.ntmps73
    go_wp2_with fail
    go_ret
    exact ⟨rfl, ((Kept.refl w).alloc _ _).alloc _ _⟩
  | succ n ih =>
    intro p v vm w h hm
    have IH := hide1 ih
    have HK := hide1 h
    have HM := hide1 hm
    obtain ⟨a, cap, rfl⟩ := h.form
    obtain ⟨am, capm, rfl⟩ := hm.form
    have hlen := h.short
    obtain ⟨_, _, e1, hl1, hl2, h4z⟩ := h
    simp only [Value.slice.injEq] at e1
    obtain ⟨rfl, _, rfl⟩ := e1
    clear h4z
    rw [valOf_eq, valOf_eq]
    obtain ⟨L, hL⟩ : ∃ L, kids p = L := ⟨_, rfl⟩
    rw [hL] at HK HM hl1 hl2 hm ⊢
    clear ih hL hlen
    rcases hm with ⟨hz, _⟩ | ⟨hne, c, e3, h4, hM, hmk, hit⟩
    · subst hz
      go_enter Tryd.func73, Tryd.ntmps73
      go_wp2_with fail
      go_ret
      exact ⟨rfl, ((Kept.refl w).alloc _ _).alloc _ _⟩
    · simp only [Value.slice.injEq] at e3
      obtain ⟨rfl, _, rfl⟩ := e3
      have hp0 : (0 : Int) < (L.length : Int) := by have := List.length_pos_iff.2 hne; omega
      have gl : (L.length : Int) ≤ 4096 := by omega
      have gc : (L.length : Int) ≤ (cap : Int) := by omega
      have hmk2 := grown_cell (((Kept.refl w).alloc #[.int .i64 (kind p), .int .i64 (from_ p), .int .i64 (to_ p), .int .i64 (min_ p), .int .i64 (max_ p), .slice (some ⟨c, 0, none⟩) L.length (L.length + 1)] 87).alloc #[.int .i64 (kind p), .int .i64 (from_ p), .int .i64 (to_ p), .int .i64 (min_ p), .int .i64 (max_ p), .slice a L.length cap] 87) hmk
      clear hit hM hmk hl1 hl2 h4 hne
      go_enter Tryd.func73, Tryd.ntmps73
      go_wp2_with fail
      obtain ⟨w5, hw5⟩ : ∃ w5, w5 = (w.alloc (.cells #[.int .i64 (kind p), .int .i64 (from_ p), .int .i64 (to_ p), .int .i64 (min_ p), .int .i64 (max_ p), .slice (some ⟨c, 0, none⟩) L.length (L.length + 1)] 87)).alloc (.cells #[.int .i64 (kind p), .int .i64 (from_ p), .int .i64 (to_ p), .int .i64 (min_ p), .int .i64 (max_ p), .slice a L.length cap] 87) := ⟨_, rfl⟩
      rw [← hw5] at hmk2 ⊢
      have HK5 : Hid (Kept w w5) := by rw [hw5]; exact ((Kept.refl w).alloc _ _).alloc _ _
      have HB : Hid (BoxAt w5 (w.heap.size + 1) (.int .i64 (kind p)) (.int .i64 (from_ p)) (.int .i64 (to_ p)) (.int .i64 (min_ p)) (.int .i64 (max_ p)) (.slice a L.length cap)) := by rw [hw5]; exact two_new w _ _ _ _ _ _ _
      clear hw5 hmk2
      have hdc : ((L.length : Int) == 0) = false := by rw [beq_eq_false_iff_ne]; omega
      rw [hdc]
      clear hdc
      go_loopw [7] (fun i wr => ∃ j : Nat, i = .int .i64 (j : Int) ∧ j ≤ L.length ∧ Hid (Kept w5 wr)) (fun i _ => L.length - (intOf i).toNat)
      case atStart => exact ⟨0, rfl, Nat.zero_le _, Kept.refl _⟩
      case round =>
        obtain ⟨j, rfl, hj, HKr⟩ := hrel
        have c5 := (HB.out.keep HKr.out).facts.1.2.2.2.2.2
        by_cases hlt : (j : Int) < (L.length : Int)
        · obtain ⟨q, hq⟩ : ∃ q, L[j]? = some q := ⟨_, List.getElem?_eq_getElem (by omega)⟩
          obtain ⟨a2, cap2, e2', _, _, h4⟩ := HK.out.kept (gtrans HK5.out HKr.out)
          simp only [Value.slice.injEq] at e2'
          obtain ⟨rfl, _, rfl⟩ := e2'
          rcases h4 with h4 | ⟨cb, o, rfl, hSc, h7⟩
          · rw [h4] at hq; simp at hq
          · obtain ⟨v', g0, g1, g2, g3, g4, g5, g6⟩ := h7 j q hq
            obtain ⟨a3, cap3, rfl⟩ := g6.form
            rcases HM.out.kept (gtrans HK5.out HKr.out) with ⟨hz, _⟩ | ⟨_, c', e3, _, _, _, hit⟩
            · rw [hz] at hq; simp at hq
            · simp only [Value.slice.injEq, Option.some.injEq, Addr.mk.injEq] at e3
              obtain ⟨⟨rfl, _⟩, _⟩ := e3
              obtain ⟨u', m0, m1, m2, m3, m4, m5, m6⟩ := hit j q hq
              obtain ⟨a4, cap4, rfl⟩ := m6.form
              have HG6 := hide1 g6
              have HM6 := hide1 m6
              clear h7 g6 hq hit m6
              have hlt1 : (j : Int) < (L.length : Int) + 1 := by omega
              have hkr : Kept wr wr := Kept.refl wr
              have q5 := keeps c5
              have r0 := keeps g0
              have r1 := keeps g1
              have r2 := keeps g2
              have r3 := keeps g3
              have r4 := keeps g4
              have r5 := keeps g5
              have t0 := keeps m0
              have t1 := keeps m1
              have t2 := keeps m2
              have t3 := keeps m3
              have t4 := keeps m4
              have t5 := keeps m5
              go_wp2_with fail
              go_region_held3 (fun w' => Kept wr w') (first | assumption | exact Kept.refl _ | exact gtrans (by assumption) (by assumption))
                ((first | (go_at_call 73; refine (IH.out q _ _ _ (HG6.out.kept (by assumption)) (HM6.out.kept (by assumption))).mono ?_; rintro e w6 ⟨rfl, hk6⟩)))
              have hk06 : Kept wr w6 := by assumption
              have HK6 := hide1 (gtrans HKr.out hk06)
              clear hk6 hk06 q5 r0 r1 r2 r3 r4 r5 t0 t1 t2 t3 t4 t5 c5 g0 g1 g2 g3 g4 g5 m0 m1 m2 m3 m4 m5 hkr
              go_wp2_with fail
              go_roundw
              case rel => exact ⟨j + 1, by go_num, by omega, HK6⟩
              case measure => simp [intOf]; omega
        · go_wp2_with fail
          go_ret
          exact ⟨rfl, gtrans HK5.out HKr.out⟩

end Ex
end Go.Proofs.YtooelfjceehmmaaDoor
namespace Go.Proofs.YtooelfjceehmmaaDoor
open Go.RowKit
attribute [local go_sem] Oper.semAt_some
namespace Ex

set_option linter.unusedSimpArgs false in
set_option maxRecDepth 100000 in
set_option maxHeartbeats 4000000 in
theorem Flat_is (S : Nat → Prop) (n : Nat) (p : PatN (n + 1)) (v : Value) (w : World) (h : KidsAt S w n (kids p) v) :
    Calls Tryd.prog 64 #[valOf p v] w fun e w' => e = .returned (.bool (boundsP p == 0)) ∧ Kept w w' := by
  have HK := hide1 h
  obtain ⟨a, cap, rfl⟩ := h.form
  rw [valOf_eq]
  clear h
  obtain ⟨bo, hbo⟩ : ∃ x, boundsP p = x := ⟨_, rfl⟩
  have HBO := hide1 hbo
  rw [hbo]
  clear hbo
  go_enter Tryd.func64, Tryd.ntmps64
  go_wp2_with (go_at_call 87; refine (Guard_is S n p _ _ (HK.out.kept ((Kept.refl w).alloc _ _))).mono ?_; rintro e w6 ⟨rfl, hk6⟩; rw [HBO.out]; have HK6 := hide1 (gtrans ((Kept.refl w).alloc _ _) hk6); clear hk6)
  go_ret
  exact ⟨rfl, HK6.out⟩
theorem bounds_size {n : Nat} {p : PatN (n + 1)} (h : boundsP p = 0) : sizeP (n + 1) p ≤ 4096 := by
  rw [bounds_eq] at h
  split at h
  · omega
  · omega

set_option linter.unusedSimpArgs false in
set_option maxRecDepth 100000 in
set_option maxHeartbeats 4000000 in
theorem TwinExpr_is (S : Nat → Prop) (n : Nat) (p : PatN (n + 1)) (v : Value) (w : World) (h : KidsAt S w n (kids p) v) :
    Calls Tryd.prog 33 #[valOf p v] w fun e w' => Hid (∃ v2, e = .returned (valOf p v2) ∧ KidsAt (fun d => S d ∨ w.heap.size ≤ d) w' n (kids p) v2 ∧ (boundsP p = 0 → MarkAt (fun d => w.heap.size ≤ d) w' n (kids p) v2)) ∧ Kept w w' := by
  have HK := hide1 h
  obtain ⟨a, cap, rfl⟩ := h.form
  rw [valOf_eq]
  clear h
  obtain ⟨W, hW⟩ : ∃ W, (w.alloc (.cells #[.int .i64 (kind p), .int .i64 (from_ p), .int .i64 (to_ p), .int .i64 (min_ p), .int .i64 (max_ p), .slice a (kids p).length cap] 87)).alloc (.cells #[.int .i64 0, .int .i64 0, .int .i64 0, .int .i64 0, .int .i64 0, .slice none 0 0] 87) = W := ⟨_, rfl⟩
  have HB0 : Hid (BoxAt W w.heap.size (.int .i64 (kind p)) (.int .i64 (from_ p)) (.int .i64 (to_ p)) (.int .i64 (min_ p)) (.int .i64 (max_ p)) (.slice a (kids p).length cap)) := by rw [← hW]; exact (BoxAt.new w _ _ _ _ _ _).keep ((Kept.refl _).alloc _ _)
  have HB1 : Hid (BoxAt W (w.heap.size + 1) (.int .i64 0) (.int .i64 0) (.int .i64 0) (.int .i64 0) (.int .i64 0) (.slice none 0 0)) := by rw [← hW]; exact two_new w _ _ _ _ _ _ _
  have HWK : Hid (Kept w W) := by rw [← hW]; exact ((Kept.refl w).alloc _ _).alloc _ _
  have HW := hide1 hW
  clear hW
  go_enter Tryd.func33, Tryd.ntmps33
  by_cases hb : boundsP p = 0
  · have eb : (boundsP p == 0) = true := by simpa using hb
    have HBS := hide1 (bounds_size hb)
    clear hb
    go_wp2_with (go_at_call 64; rw [HW.out]; refine (Flat_is S n p _ _ (HK.out.kept HWK.out)).mono ?_; rintro e w6 ⟨rfl, hk6⟩; have HK6 := hide1 hk6; obtain ⟨⟨d0, d1, d2, d3, d4, d5⟩, _⟩ := (HB0.out.keep hk6).facts; obtain ⟨⟨t0, t1, t2, t3, t4, t5⟩, s0, s1, s2, s3, s4, s5⟩ := (HB1.out.keep hk6).facts; clear hk6)
    refine (twin_is S n p _ _ (HK.out.kept (gtrans HWK.out HK6.out)) HBS.out).mono ?_
    rintro e w7 ⟨h7, hk7⟩
    obtain ⟨v7, rfl, hm7⟩ := h7.out
    rw [valOf_eq]
    obtain ⟨a7, c7, e7⟩ := hm7.form
    subst e7
    have HM7 := hide1 hm7
    have HK7 := hide1 (gtrans HWK.out (gtrans HK6.out hk7))
    have HX1 := hide1 (HB1.out.keep (gtrans HK6.out hk7))
    have HL := hide1 (HB1.out.keep HK6.out).lt
    clear h7 hm7 hk7 d0 d1 d2 d3 d4 d5 t0 t1 t2 t3 t4 t5 s0 s1 s2 s3 s4 s5
    obtain ⟨⟨t0, t1, t2, t3, t4, t5⟩, s0, s1, s2, s3, s4, s5⟩ := HX1.out.facts
    go_wp2_with fail
    refine bodyPost_ret (box_returns rfl _ _ (w.heap.size + 1) _ _ _ _ _ _ rfl (BoxAt.set HX1.out)) rfl ?_
    have hmk := MarkAt.mono (set6_holds (W := w7) (g := w.heap.size + 1) (x0 := .int .i64 (kind p)) (x1 := .int .i64 (from_ p)) (x2 := .int .i64 (to_ p)) (x3 := .int .i64 (min_ p)) (x4 := .int .i64 (max_ p)) (x5 := .slice a7 (kids p).length c7) (S := fun d => w6.heap.size ≤ d) (by show ¬ w6.heap.size ≤ _; have := HL.out; omega)) (fun d hd => (by have : w6.heap.size ≤ d := hd; have := HL.out; omega : w.heap.size ≤ d)) _ _ _ HM7.out
    exact ⟨⟨_, rfl, KidsAt.mono (fun _ _ _ _ h => h) (fun d hd => Or.inr hd) _ _ _ (MarkAt.kids _ _ _ hmk), fun _ => hmk⟩, put_kept (o := 0) HK7.out (by omega)⟩
  · have eb : (boundsP p == 0) = false := by simpa using hb
    have HNB := hide1 hb
    clear hb
    go_wp2_with (go_at_call 64; rw [HW.out]; refine (Flat_is S n p _ _ (HK.out.kept HWK.out)).mono ?_; rintro e w6 ⟨rfl, hk6⟩; have HK6 := hide1 hk6; obtain ⟨⟨d0, d1, d2, d3, d4, d5⟩, _⟩ := (HB0.out.keep hk6).facts; obtain ⟨⟨t0, t1, t2, t3, t4, t5⟩, s0, s1, s2, s3, s4, s5⟩ := (HB1.out.keep hk6).facts; clear hk6)
    refine bodyPost_ret (box_returns rfl _ _ (w.heap.size + 1) _ _ _ _ _ _ rfl (BoxAt.set (HB1.out.keep HK6.out))) rfl ?_
    have hkw := put_kept (o := 0) (x0 := .int .i64 (kind p)) (x1 := .int .i64 (from_ p)) (x2 := .int .i64 (to_ p)) (x3 := .int .i64 (min_ p)) (x4 := .int .i64 (max_ p)) (x5 := .slice a (kids p).length cap) (g := w.heap.size + 1) (gtrans HWK.out HK6.out) (by omega)
    exact ⟨⟨_, rfl, KidsAt.mono (fun _ _ _ _ h => h) (fun d hd => Or.inl hd) _ _ _ (HK.out.kept hkw), fun e => absurd e HNB.out⟩, hkw⟩

set_option linter.unusedSimpArgs false in
set_option maxRecDepth 100000 in
set_option maxHeartbeats 4000000 in
theorem KeptExpr_is (S S2 M : Nat → Prop) (n : Nat) (p : PatN (n + 1)) (v vm : Value) (w : World) (h : KidsAt S w n (kids p) v) (h2 : KidsAt S2 w n (kids p) vm) (hm : boundsP p = 0 → MarkAt M w n (kids p) vm) :
    Calls Tryd.prog 42 #[valOf p vm, valOf p v] w fun e w' => e = .returned (.bool true) ∧ Kept w w' := by
  have HK := hide1 h
  have HM := hide1 hm
  obtain ⟨a, cap, rfl⟩ := h.form
  obtain ⟨am, capm, rfl⟩ := h2.form
  rw [valOf_eq, valOf_eq]
  clear h h2 hm
  obtain ⟨W, hW⟩ : ∃ W, (w.alloc (.cells #[.int .i64 (kind p), .int .i64 (from_ p), .int .i64 (to_ p), .int .i64 (min_ p), .int .i64 (max_ p), .slice am (kids p).length capm] 87)).alloc (.cells #[.int .i64 (kind p), .int .i64 (from_ p), .int .i64 (to_ p), .int .i64 (min_ p), .int .i64 (max_ p), .slice a (kids p).length cap] 87) = W := ⟨_, rfl⟩
  have HB0 : Hid (BoxAt W w.heap.size (.int .i64 (kind p)) (.int .i64 (from_ p)) (.int .i64 (to_ p)) (.int .i64 (min_ p)) (.int .i64 (max_ p)) (.slice am (kids p).length capm)) := by rw [← hW]; exact (BoxAt.new w _ _ _ _ _ _).keep ((Kept.refl _).alloc _ _)
  have HB1 : Hid (BoxAt W (w.heap.size + 1) (.int .i64 (kind p)) (.int .i64 (from_ p)) (.int .i64 (to_ p)) (.int .i64 (min_ p)) (.int .i64 (max_ p)) (.slice a (kids p).length cap)) := by rw [← hW]; exact two_new w _ _ _ _ _ _ _
  have HWK : Hid (Kept w W) := by rw [← hW]; exact ((Kept.refl w).alloc _ _).alloc _ _
  have HW := hide1 hW
  clear hW
  go_enter Tryd.func42, Tryd.ntmps42
  by_cases hb : boundsP p = 0
  · have eb : (boundsP p == 0) = true := by simpa using hb
    have HMM := hide1 (HM.out hb)
    clear hb
    go_wp2_with (go_at_call 64; rw [HW.out]; refine (Flat_is S n p _ _ (HK.out.kept HWK.out)).mono ?_; rintro e w6 ⟨rfl, hk6⟩; have HK6 := hide1 hk6; obtain ⟨⟨d0, d1, d2, d3, d4, d5⟩, _⟩ := (HB0.out.keep hk6).facts; obtain ⟨⟨t0, t1, t2, t3, t4, t5⟩, _⟩ := (HB1.out.keep hk6).facts; clear hk6)
    refine (kept_is S M n p _ _ _ (HK.out.kept (gtrans HWK.out HK6.out)) (HMM.out.kept (gtrans HWK.out HK6.out))).mono ?_
    rintro e w7 ⟨rfl, hk7⟩
    have HK7 := hide1 (gtrans HWK.out (gtrans HK6.out hk7))
    clear hk7
    go_wp2_with fail
    go_ret
    exact ⟨rfl, HK7.out⟩
  · have eb : (boundsP p == 0) = false := by simpa using hb
    clear hb
    go_wp2_with (go_at_call 64; rw [HW.out]; refine (Flat_is S n p _ _ (HK.out.kept HWK.out)).mono ?_; rintro e w6 ⟨rfl, hk6⟩; have HK6 := hide1 hk6; obtain ⟨⟨d0, d1, d2, d3, d4, d5⟩, _⟩ := (HB0.out.keep hk6).facts; obtain ⟨⟨t0, t1, t2, t3, t4, t5⟩, _⟩ := (HB1.out.keep hk6).facts; clear hk6)
    go_ret
    exact ⟨rfl, gtrans HWK.out HK6.out⟩

end Ex
end Go.Proofs.YtooelfjceehmmaaDoor
