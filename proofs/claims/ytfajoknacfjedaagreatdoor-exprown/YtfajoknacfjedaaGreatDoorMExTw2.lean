import Derived.Test.YtfajoknacfjedaaGreatDoorMExO9
import Derived.Deep.RegionHeld3
import Derived.Test.YtfajoknacfjedaaGreatDoorMExPos
import Derived.Test.YtfajoknacfjedaaGreatDoorMExRd7
import Derived.Deep.Cut
import Derived.Test.YtfajoknacfjedaaGreatDoorMExRd1
import Derived.Test.YtfajoknacfjedaaGreatDoorMExRd5
import Derived.Deep.DeepMust
import Derived.OwnWalk
import Derived.Lib.AppendStr
import Derived.Lib.AppendZeros
namespace Go.Proofs.YtfajoknacfjedaaGreatDoor
open Go.RowKit
attribute [local go_sem] Oper.semAt_some
namespace Ex

set_option linter.unusedSimpArgs false in
set_option maxRecDepth 100000 in
set_option maxHeartbeats 4000000 in
theorem kept_is (S M : Nat → Prop) : ∀ (n : Nat) (p : PatN (n + 1)) (v vm : Value) (w : World), KidsAt S w n (kids p) v → MarkAt M w n (kids p) vm →
    Calls Tryz.prog 19 #[valOf p vm, valOf p v] w fun e w' => e = .returned (.bool true) ∧ Kept w w' := by
  intro n
  induction n with
  | zero =>
    intro p v vm w h hm
    obtain ⟨a, cap, rfl⟩ := h.form
    obtain ⟨am, capm, rfl⟩ := hm.form
    rw [valOf_eq, valOf_eq]
    rw [none_of (kids p)]
    clear h hm
    go_enter Tryz.func19, Tryz.ntmps19
    go_wp2_with fail
    go_ret
    exact ⟨rfl, ((Kept.refl w).alloc _ _).alloc _ _⟩
  | succ n ih =>
    intro p v vm w h hm
    have IH := hide1 ih
    have HK := hide1 h
    have HM := hide1 hm
    obtain ⟨a, cap, rfl⟩ := h.form
    obtain ⟨am, capm, rfl⟩ := hm.form
    have hlen := h.short
    obtain ⟨_, _, e1, hl1, hl2, h4z⟩ := h
    simp only [Value.slice.injEq] at e1
    obtain ⟨rfl, _, rfl⟩ := e1
    clear h4z
    rw [valOf_eq, valOf_eq]
    obtain ⟨L, hL⟩ : ∃ L, kids p = L := ⟨_, rfl⟩
    rw [hL] at HK HM hl1 hl2 hm ⊢
    clear ih hL hlen
    rcases hm with ⟨hz, _⟩ | ⟨hne, c, e3, h4, hM, hmk, hit⟩
    · subst hz
      go_enter Tryz.func19, Tryz.ntmps19
      go_wp2_with fail
      go_ret
      exact ⟨rfl, ((Kept.refl w).alloc _ _).alloc _ _⟩
    · simp only [Value.slice.injEq] at e3
      obtain ⟨rfl, _, rfl⟩ := e3
      have hp0 : (0 : Int) < (L.length : Int) := by have := List.length_pos_iff.2 hne; omega
      have gl : (L.length : Int) ≤ 4096 := by omega
      have gc : (L.length : Int) ≤ (cap : Int) := by omega
      have hmk2 := grown_cell (((Kept.refl w).alloc #[.int .i64 (kind p), .int .i64 (from_ p), .int .i64 (to_ p), .int .i64 (min_ p), .int .i64 (max_ p), .slice (some ⟨c, 0, none⟩) L.length (L.length + 1)] 24).alloc #[.int .i64 (kind p), .int .i64 (from_ p), .int .i64 (to_ p), .int .i64 (min_ p), .int .i64 (max_ p), .slice a L.length cap] 24) hmk
      clear hit hM hmk hl1 hl2 h4 hne
      go_enter Tryz.func19, Tryz.ntmps19
      go_wp2_with fail
      obtain ⟨w5, hw5⟩ : ∃ w5, w5 = (w.alloc (.cells #[.int .i64 (kind p), .int .i64 (from_ p), .int .i64 (to_ p), .int .i64 (min_ p), .int .i64 (max_ p), .slice (some ⟨c, 0, none⟩) L.length (L.length + 1)] 24)).alloc (.cells #[.int .i64 (kind p), .int .i64 (from_ p), .int .i64 (to_ p), .int .i64 (min_ p), .int .i64 (max_ p), .slice a L.length cap] 24) := ⟨_, rfl⟩
      rw [← hw5] at hmk2 ⊢
      have HK5 : Hid (Kept w w5) := by rw [hw5]; exact ((Kept.refl w).alloc _ _).alloc _ _
      have HB : Hid (BoxAt w5 (w.heap.size + 1) (.int .i64 (kind p)) (.int .i64 (from_ p)) (.int .i64 (to_ p)) (.int .i64 (min_ p)) (.int .i64 (max_ p)) (.slice a L.length cap)) := by rw [hw5]; exact two_new w _ _ _ _ _ _ _
      clear hw5 hmk2
      have hdc : ((L.length : Int) == 0) = false := by rw [beq_eq_false_iff_ne]; omega
      rw [hdc]
      clear hdc
      go_loopw [7] (fun i wr => ∃ j : Nat, i = .int .i64 (j : Int) ∧ j ≤ L.length ∧ Hid (Kept w5 wr)) (fun i _ => L.length - (intOf i).toNat)
      case atStart => exact ⟨0, rfl, Nat.zero_le _, Kept.refl _⟩
      case round =>
        obtain ⟨j, rfl, hj, HKr⟩ := hrel
        have c5 := (HB.out.keep HKr.out).facts.1.2.2.2.2.2
        by_cases hlt : (j : Int) < (L.length : Int)
        · obtain ⟨q, hq⟩ : ∃ q, L[j]? = some q := ⟨_, List.getElem?_eq_getElem (by omega)⟩
          obtain ⟨a2, cap2, e2', _, _, h4⟩ := HK.out.kept (gtrans HK5.out HKr.out)
          simp only [Value.slice.injEq] at e2'
          obtain ⟨rfl, _, rfl⟩ := e2'
          rcases h4 with h4 | ⟨cb, o, rfl, hSc, h7⟩
          · rw [h4] at hq; simp at hq
          · obtain ⟨v', g0, g1, g2, g3, g4, g5, g6⟩ := h7 j q hq
            obtain ⟨a3, cap3, rfl⟩ := g6.form
            rcases HM.out.kept (gtrans HK5.out HKr.out) with ⟨hz, _⟩ | ⟨_, c', e3, _, _, _, hit⟩
            · rw [hz] at hq; simp at hq
            · simp only [Value.slice.injEq, Option.some.injEq, Addr.mk.injEq] at e3
              obtain ⟨⟨rfl, _⟩, _⟩ := e3
              obtain ⟨u', m0, m1, m2, m3, m4, m5, m6⟩ := hit j q hq
              obtain ⟨a4, cap4, rfl⟩ := m6.form
              have HG6 := hide1 g6
              have HM6 := hide1 m6
              clear h7 g6 hq hit m6
              have hlt1 : (j : Int) < (L.length : Int) + 1 := by omega
              have hkr : Kept wr wr := Kept.refl wr
              have q5 := keeps c5
              have r0 := keeps g0
              have r1 := keeps g1
              have r2 := keeps g2
              have r3 := keeps g3
              have r4 := keeps g4
              have r5 := keeps g5
              have t0 := keeps m0
              have t1 := keeps m1
              have t2 := keeps m2
              have t3 := keeps m3
              have t4 := keeps m4
              have t5 := keeps m5
              go_wp2_with fail
              go_region_held3 (fun w' => Kept wr w') (first | assumption | exact Kept.refl _ | exact gtrans (by assumption) (by assumption))
                ((first | (go_at_call 19; refine (IH.out q _ _ _ (HG6.out.kept (by assumption)) (HM6.out.kept (by assumption))).mono ?_; rintro e w6 ⟨rfl, hk6⟩)))
              have hk06 : Kept wr w6 := by assumption
              have HK6 := hide1 (gtrans HKr.out hk06)
              clear hk6 hk06 q5 r0 r1 r2 r3 r4 r5 t0 t1 t2 t3 t4 t5 c5 g0 g1 g2 g3 g4 g5 m0 m1 m2 m3 m4 m5 hkr
              go_wp2_with fail
              go_roundw
              case rel => exact ⟨j + 1, by go_num, by omega, HK6⟩
              case measure => simp [intOf]; omega
        · go_wp2_with fail
          go_ret
          exact ⟨rfl, gtrans HK5.out HKr.out⟩

end Ex
end Go.Proofs.YtfajoknacfjedaaGreatDoor
namespace Go.Proofs.YtfajoknacfjedaaGreatDoor
open Go.RowKit
attribute [local go_sem] Oper.semAt_some
namespace Ex

set_option linter.unusedSimpArgs false in
set_option maxRecDepth 100000 in
set_option maxHeartbeats 4000000 in
theorem Flat_is (S : Nat → Prop) (n : Nat) (p : PatN (n + 1)) (v : Value) (w : World) (h : KidsAt S w n (kids p) v) :
    Calls Tryz.prog 15 #[valOf p v] w fun e w' => e = .returned (.bool (boundsP p == 0)) ∧ Kept w w' := by
  have HK := hide1 h
  obtain ⟨a, cap, rfl⟩ := h.form
  rw [valOf_eq]
  clear h
  obtain ⟨bo, hbo⟩ : ∃ x, boundsP p = x := ⟨_, rfl⟩
  have HBO := hide1 hbo
  rw [hbo]
  clear hbo
  go_enter Tryz.func15, Tryz.ntmps15
  go_wp2_with (go_at_call 28; refine (Guard_is S n p _ _ (HK.out.kept ((Kept.refl w).alloc _ _))).mono ?_; rintro e w6 ⟨rfl, hk6⟩; rw [HBO.out]; have HK6 := hide1 (gtrans ((Kept.refl w).alloc _ _) hk6); clear hk6)
  go_ret
  exact ⟨rfl, HK6.out⟩
theorem bounds_size {n : Nat} {p : PatN (n + 1)} (h : boundsP p = 0) : sizeP (n + 1) p ≤ 4096 := by
  rw [bounds_eq] at h
  split at h
  · omega
  · omega

set_option linter.unusedSimpArgs false in
set_option maxRecDepth 100000 in
set_option maxHeartbeats 4000000 in
theorem TwinExpr_is (S : Nat → Prop) (n : Nat) (p : PatN (n + 1)) (v : Value) (w : World) (h : KidsAt S w n (kids p) v) :
    Calls Tryz.prog 5 #[valOf p v] w fun e w' => Hid (∃ v2, e = .returned (valOf p v2) ∧ KidsAt (fun d => S d ∨ w.heap.size ≤ d) w' n (kids p) v2 ∧ (boundsP p = 0 → MarkAt (fun d => w.heap.size ≤ d) w' n (kids p) v2)) ∧ Kept w w' := by
  have HK := hide1 h
  obtain ⟨a, cap, rfl⟩ := h.form
  rw [valOf_eq]
  clear h
  obtain ⟨W, hW⟩ : ∃ W, (w.alloc (.cells #[.int .i64 (kind p), .int .i64 (from_ p), .int .i64 (to_ p), .int .i64 (min_ p), .int .i64 (max_ p), .slice a (kids p).length cap] 24)).alloc (.cells #[.int .i64 0, .int .i64 0, .int .i64 0, .int .i64 0, .int .i64 0, .slice none 0 0] 24) = W := ⟨_, rfl⟩
  have HB0 : Hid (BoxAt W w.heap.size (.int .i64 (kind p)) (.int .i64 (from_ p)) (.int .i64 (to_ p)) (.int .i64 (min_ p)) (.int .i64 (max_ p)) (.slice a (kids p).length cap)) := by rw [← hW]; exact (BoxAt.new w _ _ _ _ _ _).keep ((Kept.refl _).alloc _ _)
  have HB1 : Hid (BoxAt W (w.heap.size + 1) (.int .i64 0) (.int .i64 0) (.int .i64 0) (.int .i64 0) (.int .i64 0) (.slice none 0 0)) := by rw [← hW]; exact two_new w _ _ _ _ _ _ _
  have HWK : Hid (Kept w W) := by rw [← hW]; exact ((Kept.refl w).alloc _ _).alloc _ _
  have HW := hide1 hW
  clear hW
  go_enter Tryz.func5, Tryz.ntmps5
  by_cases hb : boundsP p = 0
  · have eb : (boundsP p == 0) = true := by simpa using hb
    have HBS := hide1 (bounds_size hb)
    clear hb
    go_wp2_with (go_at_call 15; rw [HW.out]; refine (Flat_is S n p _ _ (HK.out.kept HWK.out)).mono ?_; rintro e w6 ⟨rfl, hk6⟩; have HK6 := hide1 hk6; obtain ⟨⟨d0, d1, d2, d3, d4, d5⟩, _⟩ := (HB0.out.keep hk6).facts; obtain ⟨⟨t0, t1, t2, t3, t4, t5⟩, s0, s1, s2, s3, s4, s5⟩ := (HB1.out.keep hk6).facts; clear hk6)
    refine (twin_is S n p _ _ (HK.out.kept (gtrans HWK.out HK6.out)) HBS.out).mono ?_
    rintro e w7 ⟨h7, hk7⟩
    obtain ⟨v7, rfl, hm7⟩ := h7.out
    rw [valOf_eq]
    obtain ⟨a7, c7, e7⟩ := hm7.form
    subst e7
    have HM7 := hide1 hm7
    have HK7 := hide1 (gtrans HWK.out (gtrans HK6.out hk7))
    have HX1 := hide1 (HB1.out.keep (gtrans HK6.out hk7))
    have HL := hide1 (HB1.out.keep HK6.out).lt
    clear h7 hm7 hk7 d0 d1 d2 d3 d4 d5 t0 t1 t2 t3 t4 t5 s0 s1 s2 s3 s4 s5
    obtain ⟨⟨t0, t1, t2, t3, t4, t5⟩, s0, s1, s2, s3, s4, s5⟩ := HX1.out.facts
    go_wp2_with fail
    refine bodyPost_ret (box_returns rfl _ _ (w.heap.size + 1) _ _ _ _ _ _ rfl (BoxAt.set HX1.out)) rfl ?_
    have hmk := MarkAt.mono (set6_holds (W := w7) (g := w.heap.size + 1) (x0 := .int .i64 (kind p)) (x1 := .int .i64 (from_ p)) (x2 := .int .i64 (to_ p)) (x3 := .int .i64 (min_ p)) (x4 := .int .i64 (max_ p)) (x5 := .slice a7 (kids p).length c7) (S := fun d => w6.heap.size ≤ d) (by show ¬ w6.heap.size ≤ _; have := HL.out; omega)) (fun d hd => (by have : w6.heap.size ≤ d := hd; have := HL.out; omega : w.heap.size ≤ d)) _ _ _ HM7.out
    exact ⟨⟨_, rfl, KidsAt.mono (fun _ _ _ _ h => h) (fun d hd => Or.inr hd) _ _ _ (MarkAt.kids _ _ _ hmk), fun _ => hmk⟩, put_kept (o := 0) HK7.out (by omega)⟩
  · have eb : (boundsP p == 0) = false := by simpa using hb
    have HNB := hide1 hb
    clear hb
    go_wp2_with (go_at_call 15; rw [HW.out]; refine (Flat_is S n p _ _ (HK.out.kept HWK.out)).mono ?_; rintro e w6 ⟨rfl, hk6⟩; have HK6 := hide1 hk6; obtain ⟨⟨d0, d1, d2, d3, d4, d5⟩, _⟩ := (HB0.out.keep hk6).facts; obtain ⟨⟨t0, t1, t2, t3, t4, t5⟩, s0, s1, s2, s3, s4, s5⟩ := (HB1.out.keep hk6).facts; clear hk6)
    refine bodyPost_ret (box_returns rfl _ _ (w.heap.size + 1) _ _ _ _ _ _ rfl (BoxAt.set (HB1.out.keep HK6.out))) rfl ?_
    have hkw := put_kept (o := 0) (x0 := .int .i64 (kind p)) (x1 := .int .i64 (from_ p)) (x2 := .int .i64 (to_ p)) (x3 := .int .i64 (min_ p)) (x4 := .int .i64 (max_ p)) (x5 := .slice a (kids p).length cap) (g := w.heap.size + 1) (gtrans HWK.out HK6.out) (by omega)
    exact ⟨⟨_, rfl, KidsAt.mono (fun _ _ _ _ h => h) (fun d hd => Or.inl hd) _ _ _ (HK.out.kept hkw), fun e => absurd e HNB.out⟩, hkw⟩

set_option linter.unusedSimpArgs false in
set_option maxRecDepth 100000 in
set_option maxHeartbeats 4000000 in
theorem KeptExpr_is (S S2 M : Nat → Prop) (n : Nat) (p : PatN (n + 1)) (v vm : Value) (w : World) (h : KidsAt S w n (kids p) v) (h2 : KidsAt S2 w n (kids p) vm) (hm : boundsP p = 0 → MarkAt M w n (kids p) vm) :
    Calls Tryz.prog 10 #[valOf p vm, valOf p v] w fun e w' => e = .returned (.bool true) ∧ Kept w w' := by
  have HK := hide1 h
  have HM := hide1 hm
  obtain ⟨a, cap, rfl⟩ := h.form
  obtain ⟨am, capm, rfl⟩ := h2.form
  rw [valOf_eq, valOf_eq]
  clear h h2 hm
  obtain ⟨W, hW⟩ : ∃ W, (w.alloc (.cells #[.int .i64 (kind p), .int .i64 (from_ p), .int .i64 (to_ p), .int .i64 (min_ p), .int .i64 (max_ p), .slice am (kids p).length capm] 24)).alloc (.cells #[.int .i64 (kind p), .int .i64 (from_ p), .int .i64 (to_ p), .int .i64 (min_ p), .int .i64 (max_ p), .slice a (kids p).length cap] 24) = W := ⟨_, rfl⟩
  have HB0 : Hid (BoxAt W w.heap.size (.int .i64 (kind p)) (.int .i64 (from_ p)) (.int .i64 (to_ p)) (.int .i64 (min_ p)) (.int .i64 (max_ p)) (.slice am (kids p).length capm)) := by rw [← hW]; exact (BoxAt.new w _ _ _ _ _ _).keep ((Kept.refl _).alloc _ _)
  have HB1 : Hid (BoxAt W (w.heap.size + 1) (.int .i64 (kind p)) (.int .i64 (from_ p)) (.int .i64 (to_ p)) (.int .i64 (min_ p)) (.int .i64 (max_ p)) (.slice a (kids p).length cap)) := by rw [← hW]; exact two_new w _ _ _ _ _ _ _
  have HWK : Hid (Kept w W) := by rw [← hW]; exact ((Kept.refl w).alloc _ _).alloc _ _
  have HW := hide1 hW
  clear hW
  go_enter Tryz.func10, Tryz.ntmps10
  by_cases hb : boundsP p = 0
  · have eb : (boundsP p == 0) = true := by simpa using hb
    have HMM := hide1 (HM.out hb)
    clear hb
    go_wp2_with (go_at_call 15; rw [HW.out]; refine (Flat_is S n p _ _ (HK.out.kept HWK.out)).mono ?_; rintro e w6 ⟨rfl, hk6⟩; have HK6 := hide1 hk6; obtain ⟨⟨d0, d1, d2, d3, d4, d5⟩, _⟩ := (HB0.out.keep hk6).facts; obtain ⟨⟨t0, t1, t2, t3, t4, t5⟩, _⟩ := (HB1.out.keep hk6).facts; clear hk6)
    refine (kept_is S M n p _ _ _ (HK.out.kept (gtrans HWK.out HK6.out)) (HMM.out.kept (gtrans HWK.out HK6.out))).mono ?_
    rintro e w7 ⟨rfl, hk7⟩
    have HK7 := hide1 (gtrans HWK.out (gtrans HK6.out hk7))
    clear hk7
    go_wp2_with fail
    go_ret
    exact ⟨rfl, HK7.out⟩
  · have eb : (boundsP p == 0) = false := by simpa using hb
    clear hb
    go_wp2_with (go_at_call 15; rw [HW.out]; refine (Flat_is S n p _ _ (HK.out.kept HWK.out)).mono ?_; rintro e w6 ⟨rfl, hk6⟩; have HK6 := hide1 hk6; obtain ⟨⟨d0, d1, d2, d3, d4, d5⟩, _⟩ := (HB0.out.keep hk6).facts; obtain ⟨⟨t0, t1, t2, t3, t4, t5⟩, _⟩ := (HB1.out.keep hk6).facts; clear hk6)
    go_ret
    exact ⟨rfl, gtrans HWK.out HK6.out⟩

end Ex
end Go.Proofs.YtfajoknacfjedaaGreatDoor
namespace Go.Proofs.YtfajoknacfjedaaGreatDoor
open Go.RowKit
attribute [local go_sem] Oper.semAt_some
namespace Ex

/-- A copy whose outermost list lies in a row of its own, g; what it holds lies behind g. -/
def TopAt (base : Nat) (w : World) {n : Nat} (L : List (PatN (n + 1))) (v : Value) : Prop := ∃ g, v = .slice (some ⟨g, 0, none⟩) L.length (L.length + 1) ∧ base ≤ g ∧ L.length ≤ 4096 ∧ RowAt w g (L.length + 1) ∧ Items w g L L.length
theorem TopAt.mono {base base' : Nat} {w w' : World} {n : Nat} {L : List (PatN (n + 1))} {v : Value} (h : TopAt base w L v) (hs : HoldsU (fun d => base ≤ d) w w') (hb : base' ≤ base) : TopAt base' w' L v := by
  obtain ⟨g, e, h1, h2, h3, h4⟩ := h
  refine ⟨g, e, Nat.le_trans hb h1, h2, ?_, h4.keep (fun b o v hd hc => hs.cell (show base ≤ b from Nat.le_trans h1 hd) hc)⟩
  obtain ⟨cur, h5, h6⟩ := h3
  exact ⟨cur, (hs g h1 (Array.getElem?_eq_some_iff.1 h5).1).trans h5, h6⟩
theorem TopAt.keep {base : Nat} {w w' : World} {n : Nat} {L : List (PatN (n + 1))} {v : Value} (h : TopAt base w L v) (hk : Kept w w') : TopAt base w' L v := h.mono (hk.holdsU _) (Nat.le_refl _)
theorem TopAt.kids {base : Nat} {w : World} {n : Nat} {L : List (PatN (n + 1))} {v : Value} (h : TopAt base w L v) : KidsAt (fun d => base ≤ d) w (n + 1) L v := by
  obtain ⟨g, e, h1, h2, h3, h4⟩ := h
  refine ⟨_, _, e, by omega, by omega, Or.inr ⟨g, 0, rfl, h1, fun i q hq => ?_⟩⟩
  obtain ⟨v', g0, g1, g2, g3, g4, g5, g6⟩ := h4 i q (List.getElem?_eq_some_iff.1 hq).1 hq
  rw [Nat.zero_add]
  exact ⟨v', g0, g1, g2, g3, g4, g5, KidsAt.mono (fun _ _ _ _ h => h) (fun d hd => by have : g < d := hd; show base ≤ d; omega) _ _ _ (MarkAt.kids _ _ _ g6)⟩
/-- A single range, as a pattern of any depth. -/
def leafQ (n : Nat) (f t : Int) : PatN (n + 1) := (show Int × Int × Int × Int × Int × List (PatN n) from (1, f, t, 0, 0, []))
theorem TopAt.put {base : Nat} {w : World} {n : Nat} {L : List (PatN (n + 1))} {g : Nat} {N c : Nat} (h : TopAt base w L (.slice (some ⟨g, 0, none⟩) N c)) (hL : L ≠ []) (f t : Int) :
    TopAt base ((((((w.setCell ⟨g, 0, none⟩ (.int .i64 1)).setCell ⟨g, 1, none⟩ (.int .i64 f)).setCell ⟨g, 2, none⟩ (.int .i64 t)).setCell ⟨g, 3, none⟩ (.int .i64 0)).setCell ⟨g, 4, none⟩ (.int .i64 0)).setCell ⟨g, 5, none⟩ (.slice none 0 0)) (leafQ n f t :: L.tail) (.slice (some ⟨g, 0, none⟩) N c) := by
  obtain ⟨g', e, h1, h2, h3, h4⟩ := h
  simp only [Value.slice.injEq, Option.some.injEq, Addr.mk.injEq, and_true] at e
  obtain ⟨rfl, rfl, rfl⟩ := e
  have hl := List.length_pos_iff.2 hL
  have hlen : (leafQ n f t :: L.tail).length = L.length := by rw [List.length_cons, List.length_tail]; omega
  refine ⟨g, by rw [hlen], h1, by rw [hlen]; exact h2, by rw [hlen]; exact put_row (o := 0) h3, ?_⟩
  rw [hlen]
  intro i q hi hq
  by_cases h0 : i = 0
  · subst h0
    simp only [List.getElem?_cons_zero, Option.some.injEq] at hq
    subst hq
    obtain ⟨g0, g1, g2, g3, g4, g5⟩ := put_cells (o := 0) (x0 := .int .i64 1) (x1 := .int .i64 f) (x2 := .int .i64 t) (x3 := .int .i64 0) (x4 := .int .i64 0) (x5 := .slice none 0 0) h3 (by omega)
    refine ⟨_, g0, g1, g2, g3, g4, g5, ?_⟩
    cases n with
    | zero => exact rfl
    | succ n => exact Or.inl ⟨rfl, rfl⟩
  · have hq2 : L[i]? = some q := by
      obtain ⟨j, rfl⟩ : ∃ j, i = j + 1 := ⟨i - 1, by omega⟩
      rw [List.getElem?_cons_succ, List.getElem?_tail] at hq
      exact hq
    obtain ⟨v', g0, g1, g2, g3, g4, g5, g6⟩ := h4 i q hi hq2
    exact ⟨v', (put_other (o := 0) (.inr (by omega))).trans g0, (put_other (o := 0) (.inr (by omega))).trans g1, (put_other (o := 0) (.inr (by omega))).trans g2, (put_other (o := 0) (.inr (by omega))).trans g3, (put_other (o := 0) (.inr (by omega))).trans g4, (put_other (o := 0) (.inr (by omega))).trans g5, MarkAt.mono (fun b o v hb hc => (put_other (o := 0) (.inl (by have : g < b := hb; omega))).trans hc) (fun _ h => h) _ _ _ g6⟩

set_option linter.unusedSimpArgs false in
set_option maxRecDepth 100000 in
set_option maxHeartbeats 4000000 in
theorem twinT_is (S : Nat → Prop) (n : Nat) (p : PatN (n + 1 + 1)) (v : Value) (w : World) (h : KidsAt S w (n + 1) (kids p) v) (hsz : sizeP (n + 1 + 1) p ≤ 4096) (hne : (kids p).length ≠ 0) :
    Calls Tryz.prog 16 #[valOf p v] w fun e w' => Hid (∃ v2, e = .returned (valOf p v2) ∧ TopAt w.heap.size w' (kids p) v2) ∧ Kept w w' := by
  have IH := hide1 (twin_is S n)
  have HK := hide1 h
  obtain ⟨a, cap, rfl⟩ := h.form
  obtain ⟨_, _, e1, hl1, hl2, h4z⟩ := h
  clear h4z
  simp only [Value.slice.injEq] at e1
  obtain ⟨rfl, _, rfl⟩ := e1
  rw [size_succ] at hsz
  have hln := sizes_len (kids p)
  rw [valOf_eq]
  have HV : Hid (∀ u, valOf p u = .agg #[.int .i64 (kind p), .int .i64 (from_ p), .int .i64 (to_ p), .int .i64 (min_ p), .int .i64 (max_ p), u]) := fun u => rfl
  obtain ⟨L, hL⟩ : ∃ L, kids p = L := ⟨_, rfl⟩
  rw [hL] at HK hl1 hl2 hsz hln hne ⊢
  have HSQ : Hid (∀ q ∈ L, sizeP (n + 1) q ≤ 4096) := fun q hq => by have := sizes_mem hq; omega
  have gl : (L.length : Int) ≤ 4095 := by omega
  have gc : (L.length : Int) ≤ (cap : Int) := by omega
  clear hsz hln hL hl1 hl2
  have hp0 : (0 : Int) < (L.length : Int) := by omega
  have HP0 := hide1 hne
  clear hne
  go_enter Tryz.func16, Tryz.ntmps16
  have hmk := run_row L.length (by omega)
  go_wp2_with fail
  obtain ⟨W, hW⟩ : ∃ W, ((w.alloc (.cells #[.int .i64 (kind p), .int .i64 (from_ p), .int .i64 (to_ p), .int .i64 (min_ p), .int .i64 (max_ p), .slice a L.length cap] 24)).alloc (.cells #[.int .i64 0, .int .i64 0, .int .i64 0, .int .i64 0, .int .i64 0, .slice none 0 0] 24)).alloc (.cells #[.int .i64 (kind p), .int .i64 (from_ p), .int .i64 (to_ p), .int .i64 (min_ p), .int .i64 (max_ p), .slice none 0 0] 24) = W := ⟨_, rfl⟩
  have hb0 : BoxAt W w.heap.size (.int .i64 (kind p)) (.int .i64 (from_ p)) (.int .i64 (to_ p)) (.int .i64 (min_ p)) (.int .i64 (max_ p)) (.slice a L.length cap) := by rw [← hW]; exact (BoxAt.new w _ _ _ _ _ _).keep (((Kept.refl _).alloc _ _).alloc _ _)
  have hb1 : BoxAt W (w.heap.size + 1) (.int .i64 0) (.int .i64 0) (.int .i64 0) (.int .i64 0) (.int .i64 0) (.slice none 0 0) := by rw [← hW]; exact three_new w _ _ _ _ _ _ _ _ _
  have hb2 : BoxAt W (w.heap.size + 1 + 1) (.int .i64 (kind p)) (.int .i64 (from_ p)) (.int .i64 (to_ p)) (.int .i64 (min_ p)) (.int .i64 (max_ p)) (.slice none 0 0) := by
    have h := two_new (w.alloc (.cells #[.int .i64 (kind p), .int .i64 (from_ p), .int .i64 (to_ p), .int .i64 (min_ p), .int .i64 (max_ p), .slice a L.length cap] 24)) (.cells #[.int .i64 0, .int .i64 0, .int .i64 0, .int .i64 0, .int .i64 0, .slice none 0 0] 24) (.int .i64 (kind p)) (.int .i64 (from_ p)) (.int .i64 (to_ p)) (.int .i64 (min_ p)) (.int .i64 (max_ p)) (.slice none 0 0)
    rw [World.size_alloc, hW] at h
    exact h
  have hwk : Kept w W := by rw [← hW]; exact (((Kept.refl w).alloc _ _).alloc _ _).alloc _ _
  have hws : W.heap.size = w.heap.size + 1 + 1 + 1 := by rw [← hW]; simp
  have hdc : decide (0 < L.length) = true := decide_eq_true (by omega)
  rw [hW, hdc]
  clear hdc
  obtain ⟨g, hg⟩ : ∃ g, w.heap.size + 1 + 1 + 1 = g := ⟨_, rfl⟩
  rw [hg] at hws ⊢
  have HB0 := hide1 hb0
  have HB1 := hide1 hb1
  have HB2 := hide1 hb2
  have HWK := hide1 hwk
  have HWS := hide1 hws
  have HG := hide1 hg
  clear hb0 hb1 hb2 hwk hW hmk hg
  go_loopw [5] (fun iv wr => TwR W g L iv wr) (fun iv _ => L.length - (intOf iv).toNat)
  case atStart =>
    refine ⟨0, rfl, Nat.zero_le _, (Kept.refl W).alloc _ _, ?_, fun i q hi _ => by omega⟩
    have := row_new W (L.length + 1)
    rwa [hws] at this
  case round =>
    clear hws
    obtain ⟨j, rfl, hj, hkr, hrow, hit⟩ := hrel
    have HKR := hide1 hkr
    have HROW := hide1 hrow
    have HIT := hide1 hit
    have c5 := (HB0.out.keep hkr).facts.1.2.2.2.2.2
    clear hkr hrow hit
    by_cases hlt : (j : Int) < (L.length : Int)
    · obtain ⟨q, hq⟩ : ∃ q, L[j]? = some q := ⟨_, List.getElem?_eq_getElem (by omega)⟩
      obtain ⟨a5, cap5, e2, _, _, h4⟩ := HK.out.kept (gtrans HWK.out HKR.out)
      simp only [Value.slice.injEq] at e2
      obtain ⟨rfl, _, rfl⟩ := e2
      rcases h4 with h4 | ⟨cb, o, rfl, hSc, h7⟩
      · rw [h4] at hq; simp at hq
      · obtain ⟨v', g0, g1, g2, g3, g4, g5, g6⟩ := h7 j q hq
        obtain ⟨a3, cap3, rfl⟩ := g6.form
        have HG6 := hide1 g6
        have HQ := hide1 hq
        have HQS := hide1 (HSQ.out q (List.mem_of_getElem? hq))
        clear h7 g6 hq
        go_wp2_with (go_at_call 16; refine (IH.out q _ _ HG6.out HQS.out).mono ?_; rintro e w7 ⟨h7, hk7⟩; obtain ⟨v7, rfl, hm7⟩ := h7.out; rw [valOf_eq]; obtain ⟨a7, c7, e7⟩ := hm7.form; subst e7; have HM7 := hide1 hm7; have HK7 := hide1 hk7; have HR7 := hide1 (HROW.out.keep hk7); obtain ⟨y0, y1, y2, y3, y4, y5, ⟨k0, k1, k2, k3, k4, k5⟩, f0, f1, f2, f3, f4, f5⟩ := HR7.out.at (j := j) (by omega); clear h7 hm7 hk7)
        clear k0 k1 k2 k3 k4 k5 f0 f1 f2 f3 f4 f5 g0 g1 g2 g3 g4 g5 c5
        go_roundw
        case rel =>
          have hgl := HROW.out.lt
          exact ⟨j + 1, by go_num, by omega, put_kept (gtrans HKR.out HK7.out) (by rw [HWS.out]; exact Nat.le_refl _), put_row HR7.out, Items.put (HIT.out.keep (HK7.out.holds _)) HR7.out (by omega) HQ.out (MarkAt.mono (fun _ _ _ _ h => h) (fun d hd => Nat.lt_of_lt_of_le hgl hd) _ _ _ HM7.out) rfl rfl rfl rfl rfl⟩
        case measure => simp [intOf]; omega
    · have hjl : j = L.length := by omega
      rw [hjl] at HIT
      obtain ⟨y0, y1, y2, y3, y4, y5, ⟨k0, k1, k2, k3, k4, k5⟩, f0, f1, f2, f3, f4, f5⟩ := HROW.out.at (j := L.length) (by omega)
      go_upto_region 10 with fail
      obtain ⟨W9, hW9⟩ : ∃ W9, ((((((wr.setCell ⟨g, L.length * 6, none⟩ (.int .i64 93)).setCell ⟨g, L.length * 6 + 1, none⟩ (.int .i64 0)).setCell ⟨g, L.length * 6 + 2, none⟩ (.int .i64 0)).setCell ⟨g, L.length * 6 + 3, none⟩ (.int .i64 0)).setCell ⟨g, L.length * 6 + 4, none⟩ (.int .i64 0)).setCell ⟨g, L.length * 6 + 5, none⟩ (.slice none 0 0)) = W9 := ⟨_, rfl⟩
      have hk9 : Kept W W9 := by rw [← hW9]; exact put_kept HKR.out (by rw [HWS.out]; exact Nat.le_refl _)
      have hm9 : TopAt g W9 L (.slice (some ⟨g, 0, none⟩) L.length (L.length + 1)) := by
        rw [← hW9]
        refine ⟨g, rfl, Nat.le_refl _, by omega, put_row HROW.out, fun i q hi hq => ?_⟩
        obtain ⟨v', g0, g1, g2, g3, g4, g5, g6⟩ := HIT.out i q hi hq
        exact ⟨v', (put_other (.inr (by omega))).trans g0, (put_other (.inr (by omega))).trans g1, (put_other (.inr (by omega))).trans g2, (put_other (.inr (by omega))).trans g3, (put_other (.inr (by omega))).trans g4, (put_other (.inr (by omega))).trans g5, MarkAt.mono (fun b o v hb hc => (put_other (.inl (by have : g < b := hb; omega))).trans hc) (fun _ h => h) _ _ _ g6⟩
      rw [hW9]
      have HK9 := hide1 hk9
      have HM9 := hide1 hm9
      clear hW9 hm9 k0 k1 k2 k3 k4 k5 f0 f1 f2 f3 f4 f5 c5
      have c5 := (HB0.out.keep hk9).facts.1.2.2.2.2.2
      have HX1 := hide1 (HB1.out.keep hk9)
      obtain ⟨⟨b0, b1, b2, b3, b4, b5⟩, z0, z1, z2, z3, z4, z5⟩ := (HB2.out.keep hk9).facts
      clear hk9
      go_upto_region 11 with fail
      obtain ⟨W10, hW10⟩ : ∃ W10, W9.setCell ⟨w.heap.size + 1 + 1, 5, none⟩ (.slice (some ⟨g, 0, none⟩) L.length (L.length + 1)) = W10 := ⟨_, rfl⟩
      have hx2 : BoxAt W10 (w.heap.size + 1 + 1) (.int .i64 (kind p)) (.int .i64 (from_ p)) (.int .i64 (to_ p)) (.int .i64 (min_ p)) (.int .i64 (max_ p)) (.slice (some ⟨g, 0, none⟩) L.length (L.length + 1)) := by rw [← hW10]; exact (HB2.out.keep HK9.out).set5 _
      have hx1 : BoxAt W10 (w.heap.size + 1) (.int .i64 0) (.int .i64 0) (.int .i64 0) (.int .i64 0) (.int .i64 0) (.slice none 0 0) := by rw [← hW10]; exact (Below.heap_setCell W9 _ _ _ (by show w.heap.size + 1 ≠ w.heap.size + 1 + 1; omega)).trans HX1.out
      have hm10 : TopAt g W10 L (.slice (some ⟨g, 0, none⟩) L.length (L.length + 1)) := by
        rw [← hW10]
        exact HM9.out.mono (HoldsU.set (fun _ _ _ => rfl) (by have := HG.out; omega)) (Nat.le_refl _)
      have hk10 : Kept w W10 := by rw [← hW10]; exact keep_set (gtrans HWK.out HK9.out) (by omega)
      rw [hW10]
      have HX1 := hide1 hx1
      have HM10 := hide1 hm10
      have HK10 := hide1 hk10
      clear hW10 hm10 hk10 b0 b1 b2 b3 b4 b5 z0 z1 z2 z3 z4 z5 c5
      obtain ⟨⟨b0, b1, b2, b3, b4, b5⟩, _⟩ := hx2.facts
      obtain ⟨⟨d0, d1, d2, d3, d4, d5⟩, s0, s1, s2, s3, s4, s5⟩ := hx1.facts
      clear hx1 hx2
      go_wp2_with fail
      refine bodyPost_ret (box_returns rfl _ _ (w.heap.size + 1) _ _ _ _ _ _ rfl (BoxAt.set HX1.out)) rfl ?_
      refine ⟨⟨_, rfl, HM10.out.mono (set6_holdsU (by show ¬ g ≤ _; have := HG.out; omega)) (by have := HG.out; omega)⟩, put_kept (o := 0) HK10.out (by omega)⟩

set_option linter.unusedSimpArgs false in
set_option maxRecDepth 100000 in
set_option maxHeartbeats 4000000 in
theorem TwinExprT_is (S : Nat → Prop) (n : Nat) (p : PatN (n + 1 + 1)) (v : Value) (w : World) (h : KidsAt S w (n + 1) (kids p) v) (hb : boundsP p = 0) (hne : (kids p).length ≠ 0) :
    Calls Tryz.prog 5 #[valOf p v] w fun e w' => Hid (∃ v2, e = .returned (valOf p v2) ∧ TopAt w.heap.size w' (kids p) v2) ∧ Kept w w' := by
  have HK := hide1 h
  have HNE := hide1 hne
  obtain ⟨a, cap, rfl⟩ := h.form
  rw [valOf_eq]
  clear h hne
  obtain ⟨W, hW⟩ : ∃ W, (w.alloc (.cells #[.int .i64 (kind p), .int .i64 (from_ p), .int .i64 (to_ p), .int .i64 (min_ p), .int .i64 (max_ p), .slice a (kids p).length cap] 24)).alloc (.cells #[.int .i64 0, .int .i64 0, .int .i64 0, .int .i64 0, .int .i64 0, .slice none 0 0] 24) = W := ⟨_, rfl⟩
  have HB0 : Hid (BoxAt W w.heap.size (.int .i64 (kind p)) (.int .i64 (from_ p)) (.int .i64 (to_ p)) (.int .i64 (min_ p)) (.int .i64 (max_ p)) (.slice a (kids p).length cap)) := by rw [← hW]; exact (BoxAt.new w _ _ _ _ _ _).keep ((Kept.refl _).alloc _ _)
  have HB1 : Hid (BoxAt W (w.heap.size + 1) (.int .i64 0) (.int .i64 0) (.int .i64 0) (.int .i64 0) (.int .i64 0) (.slice none 0 0)) := by rw [← hW]; exact two_new w _ _ _ _ _ _ _
  have HWK : Hid (Kept w W) := by rw [← hW]; exact ((Kept.refl w).alloc _ _).alloc _ _
  have HW := hide1 hW
  clear hW
  go_enter Tryz.func5, Tryz.ntmps5
  have eb : (boundsP p == 0) = true := by simpa using hb
  have HBS := hide1 (bounds_size hb)
  clear hb
  go_wp2_with (go_at_call 15; rw [HW.out]; refine (Flat_is S (n + 1) p _ _ (HK.out.kept HWK.out)).mono ?_; rintro e w6 ⟨rfl, hk6⟩; have HK6 := hide1 hk6; obtain ⟨⟨d0, d1, d2, d3, d4, d5⟩, _⟩ := (HB0.out.keep hk6).facts; obtain ⟨⟨t0, t1, t2, t3, t4, t5⟩, s0, s1, s2, s3, s4, s5⟩ := (HB1.out.keep hk6).facts; clear hk6)
  refine (twinT_is S n p _ _ (HK.out.kept (gtrans HWK.out HK6.out)) HBS.out HNE.out).mono ?_
  rintro e w7 ⟨h7, hk7⟩
  obtain ⟨v7, rfl, hm7⟩ := h7.out
  rw [valOf_eq]
  obtain ⟨a7, c7, e7⟩ := hm7.kids.form
  subst e7
  have HM7 := hide1 hm7
  have HK7 := hide1 (gtrans HWK.out (gtrans HK6.out hk7))
  have HX1 := hide1 (HB1.out.keep (gtrans HK6.out hk7))
  have HL := hide1 (HB1.out.keep HK6.out).lt
  clear h7 hm7 hk7 d0 d1 d2 d3 d4 d5 t0 t1 t2 t3 t4 t5 s0 s1 s2 s3 s4 s5
  obtain ⟨⟨t0, t1, t2, t3, t4, t5⟩, s0, s1, s2, s3, s4, s5⟩ := HX1.out.facts
  go_wp2_with fail
  refine bodyPost_ret (box_returns rfl _ _ (w.heap.size + 1) _ _ _ _ _ _ rfl (BoxAt.set HX1.out)) rfl ?_
  have hmk := HM7.out.mono (base' := w.heap.size) (w' := (((((w7.setCell ⟨w.heap.size + 1, 0, none⟩ (.int .i64 (kind p))).setCell ⟨w.heap.size + 1, 1, none⟩ (.int .i64 (from_ p))).setCell ⟨w.heap.size + 1, 2, none⟩ (.int .i64 (to_ p))).setCell ⟨w.heap.size + 1, 3, none⟩ (.int .i64 (min_ p))).setCell ⟨w.heap.size + 1, 4, none⟩ (.int .i64 (max_ p))).setCell ⟨w.heap.size + 1, 5, none⟩ (.slice a7 (kids p).length c7)) (set6_holdsU (by show ¬ w6.heap.size ≤ _; have := HL.out; omega)) (by have := HL.out; omega)
  exact ⟨⟨_, rfl, hmk⟩, put_kept (o := 0) HK7.out (by omega)⟩

end Ex
end Go.Proofs.YtfajoknacfjedaaGreatDoor
namespace Go.Proofs.YtfajoknacfjedaaGreatDoor
open Go.RowKit
namespace Ex

def lessI : List Int → List Int → Bool
  | [], [] => false
  | [], _ :: _ => true
  | _ :: _, [] => false
  | a :: x, b :: y => decide (a < b) || (a == b && lessI x y)
def shorter (x y : List Int) : Bool := decide (x.length < y.length) || (x.length == y.length && lessI x y)
def bestOf (l : List (List Int)) : List Int := l.tail.foldl (fun b y => if shorter y b then y else b) (l.headD [])
/-- The row that Shortest tells of a right pattern. -/
def shortA : (n : Nat) → PatN n → List Int
  | 0, _ => []
  | n + 1, p =>
    if kind p = 1 then [from_ p]
    else if kind p = 3 then bestOf ((kids p).map (shortA n))
    else if kind p = 4 then (List.replicate (min_ p).toNat (((kids p).take 1).flatMap (shortA n))).flatten
    else (kids p).flatMap (shortA n)

theorem best_in (xs : List (List Int)) : ∀ x, xs.foldl (fun b y => if shorter y b then y else b) x = x ∨ xs.foldl (fun b y => if shorter y b then y else b) x ∈ xs := by
  induction xs with
  | nil => intro x; exact .inl rfl
  | cons y ys ih =>
    intro x
    rw [List.foldl_cons]
    rcases ih (if shorter y x then y else x) with h | h
    · rw [h]
      split
      · exact .inr (List.mem_cons_self ..)
      · exact .inl rfl
    · exact .inr (List.mem_cons_of_mem _ h)
theorem bestOf_in {l : List (List Int)} (h : l ≠ []) : bestOf l ∈ l := by
  cases l with
  | nil => exact absurd rfl h
  | cons x xs =>
    rcases best_in xs x with e | e
    · show xs.foldl _ x ∈ _
      rw [e]
      exact List.mem_cons_self ..
    · exact List.mem_cons_of_mem _ e
theorem fold_sum {α : Type} (f : α → Int) : ∀ (L : List α) (acc : Int), (∀ q ∈ L, 0 ≤ f q) → 0 ≤ acc → L.foldl (fun a q => min (a + f q) 4097) acc ≤ 4096 → L.foldl (fun a q => min (a + f q) 4097) acc = acc + (L.map f).sum ∧ acc ≤ 4096
  | [], acc, _, _, h => by simpa using h
  | q :: L, acc, hf, ha, h => by
    rw [List.foldl_cons] at h ⊢
    have hq := hf q (List.mem_cons_self ..)
    have ih := fold_sum f L (min (acc + f q) 4097) (fun x hx => hf x (List.mem_cons_of_mem _ hx)) (by omega) h
    rw [ih.1, List.map_cons, List.sum_cons]
    omega
theorem sum_mem {α : Type} (f : α → Int) : ∀ (L : List α), (∀ q ∈ L, 0 ≤ f q) → 0 ≤ (L.map f).sum ∧ ∀ q ∈ L, f q ≤ (L.map f).sum
  | [], _ => by simp
  | x :: L, hf => by
    have hx := hf x (List.mem_cons_self ..)
    have ih := sum_mem f L (fun y hy => hf y (List.mem_cons_of_mem _ hy))
    rw [List.map_cons, List.sum_cons]
    refine ⟨by omega, fun q hq => ?_⟩
    rcases List.mem_cons.1 hq with rfl | hq
    · omega
    · have := ih.2 q hq
      omega
theorem sum_short {α : Type} (g : α → List Int) (f : α → Int) : ∀ (L : List α), (∀ q ∈ L, ((g q).length : Int) ≤ f q) → ((L.flatMap g).length : Int) ≤ (L.map f).sum
  | [], _ => by simp
  | x :: L, h => by
    have hx := h x (List.mem_cons_self ..)
    have ih := sum_short g f L (fun y hy => h y (List.mem_cons_of_mem _ hy))
    rw [List.map_cons, List.sum_cons, List.flatMap_cons, List.length_append]
    omega
theorem short_len : ∀ (n : Nat) (p : PatN n), rightP n p = true → posP n p ≤ 4096 → ((shortA n p).length : Int) ≤ posP n p
  | 0, _, _, _ => by simp [shortA, posP]
  | n + 1, p, hr, hp => by
    have h' : (topOf p && (kids p).all (rightP n)) = true := hr
    rw [Bool.and_eq_true] at h'
    have hk := List.all_eq_true.1 h'.2
    have hnn : ∀ q ∈ kids p, 0 ≤ posP n q := fun q hq => (pos_in n q (hk q hq)).1
    rw [posP] at hp ⊢
    rw [shortA]
    by_cases k1 : kind p = 1
    · rw [if_pos k1, if_pos k1]
      simp
    rw [if_neg k1] at hp
    rw [if_neg k1, if_neg k1]
    by_cases k4 : kind p = 4
    · have k3 : ¬ kind p = 3 := by omega
      rw [if_pos k4] at hp
      rw [if_pos k4, if_neg k3, if_pos k4]
      have h1 := right_one hr k4
      obtain ⟨q, hq⟩ := List.length_eq_one_iff.1 h1
      rw [hq] at hp ⊢
      have hq0 := hnn q (by rw [hq]; exact List.mem_cons_self ..)
      have hqr := hk q (by rw [hq]; exact List.mem_cons_self ..)
      have hq9 := (pos_in n q hqr).2
      have ht := h'.1
      unfold topOf topP at ht
      rw [if_neg k1, if_neg (by omega), if_neg k3, if_pos k4] at ht
      simp [timesP] at ht
      have hc : min_ p ≤ copiesP (min_ p) (max_ p) ∧ 0 ≤ copiesP (min_ p) (max_ p) := by
        unfold copiesP
        split <;> omega
      generalize hcc : copiesP (min_ p) (max_ p) = c at hp hc ⊢
      have hfo : [q].foldl (fun acc q => min (acc + posP n q) 4097) 0 = posP n q := by
        simp
        omega
      rw [hfo] at hp ⊢
      simp only [List.take_succ_cons, List.take_zero, List.flatMap_cons, List.flatMap_nil, List.append_nil, List.length_flatten, List.map_replicate, List.sum_replicate_nat]
      by_cases hm : min_ p = 0
      · rw [hm]
        have : 0 ≤ posP n q * c := Int.mul_nonneg hq0 hc.2
        simp
        omega
      · have hc1 : 1 ≤ c := by omega
        have h2 : posP n q ≤ posP n q * c := by
          have := Int.mul_le_mul_of_nonneg_left hc1 hq0
          simpa using this
        have ih := short_len n q hqr (by omega)
        have h3 : ((min_ p).toNat : Int) * ((shortA n q).length : Int) ≤ c * posP n q := Int.mul_le_mul (by omega) ih (by omega) hc.2
        rw [Int.mul_comm c] at h3
        rw [Int.natCast_mul]
        omega
    rw [if_neg k4] at hp
    rw [if_neg k4, if_neg k4]
    obtain ⟨hs, _⟩ := fold_sum (posP n) (kids p) 0 hnn (by omega) hp
    rw [hs] at hp ⊢
    have hsm := sum_mem (posP n) (kids p) hnn
    have hle : ∀ q ∈ kids p, ((shortA n q).length : Int) ≤ posP n q := fun q hq => short_len n q (hk q hq) (by have := hsm.2 q hq; omega)
    by_cases k3 : kind p = 3
    · rw [if_pos k3]
      by_cases he : kids p = []
      · rw [he]
        simp [bestOf]
      · have hb := bestOf_in (l := (kids p).map (shortA n)) (by simpa using he)
        obtain ⟨q, hq, e⟩ := List.mem_map.1 hb
        rw [← e]
        have := hle q hq
        have := hsm.2 q hq
        omega
    · rw [if_neg k3]
      have := sum_short (shortA n) (posP n) (kids p) hle
      omega
theorem short_bytes : ∀ (n : Nat) (p : PatN n), rightP n p = true → ∀ z ∈ shortA n p, IsB z
  | 0, _, _ => by intro z hz; cases hz
  | n + 1, p, hr => by
    have h' : (topOf p && (kids p).all (rightP n)) = true := hr
    rw [Bool.and_eq_true] at h'
    have hk := List.all_eq_true.1 h'.2
    intro z hz
    rw [shortA] at hz
    by_cases k1 : kind p = 1
    · rw [if_pos k1] at hz
      have ht := h'.1
      unfold topOf topP at ht
      rw [if_pos k1] at ht
      simp at ht hz
      subst hz
      unfold IsB
      omega
    rw [if_neg k1] at hz
    by_cases k3 : kind p = 3
    · rw [if_pos k3] at hz
      by_cases he : kids p = []
      · rw [he] at hz
        simp [bestOf] at hz
      · have hb := bestOf_in (l := (kids p).map (shortA n)) (by simpa using he)
        obtain ⟨q, hq, e⟩ := List.mem_map.1 hb
        rw [← e] at hz
        exact short_bytes n q (hk q hq) z hz
    rw [if_neg k3] at hz
    by_cases k4 : kind p = 4
    · rw [if_pos k4] at hz
      obtain ⟨l, hl, hz⟩ := List.mem_flatten.1 hz
      have hl := (List.mem_replicate.1 hl).2
      subst hl
      obtain ⟨q, hq, hz⟩ := List.mem_flatMap.1 hz
      exact short_bytes n q (hk q (List.mem_of_mem_take hq)) z hz
    · rw [if_neg k4] at hz
      obtain ⟨q, hq, hz⟩ := List.mem_flatMap.1 hz
      exact short_bytes n q (hk q hq) z hz

end Ex
end Go.Proofs.YtfajoknacfjedaaGreatDoor
namespace Go.Proofs.YtfajoknacfjedaaGreatDoor
open Go.RowKit
namespace Ex

/-- What lies at a place of a row that is repeated. -/
theorem rep_get (b : List Int) : ∀ (k i : Nat), i < k * b.length → (List.replicate k b).flatten[i]? = b[i % b.length]?
  | 0, i, h => by simp at h
  | k + 1, i, h => by
    rw [List.replicate_succ, List.flatten_cons, List.getElem?_append]
    split
    · rename_i hl
      rw [Nat.mod_eq_of_lt hl]
    · rename_i hl
      rw [Nat.succ_mul] at h
      rw [rep_get b k (i - b.length) (by omega), Nat.mod_eq_sub_mod (a := i) (by omega)]
theorem rep_len (b : List Int) (k : Nat) : (List.replicate k b).flatten.length = k * b.length := by
  simp [List.length_flatten]
/-- A row whose front of m * |b| bytes is doubled (or lengthened by a front of whole pieces) goes on as it began. -/
theorem rep_on {b : List Int} {m j i : Nat} (h : j = m * b.length) (hi : j ≤ i) : (i - j) % b.length = i % b.length := by
  subst h
  have e : i = (i - m * b.length) + b.length * m := by rw [Nat.mul_comm b.length]; omega
  rw [e, Nat.add_mul_mod_self_left]
  congr 1
  rw [Nat.mul_comm b.length]
  omega
theorem bestOf_cons (x : List Int) (xs : List (List Int)) : bestOf (x :: xs) = xs.foldl (fun b y => if shorter y b then y else b) x := rfl
theorem bestOf_snoc {l : List (List Int)} (y : List Int) (h : l ≠ []) : bestOf (l ++ [y]) = if shorter y (bestOf l) then y else bestOf l := by
  cases l with
  | nil => exact absurd rfl h
  | cons x xs => rw [List.cons_append, bestOf_cons, bestOf_cons, List.foldl_append]; rfl
/-- The best of the first j + 1 parts. -/
theorem best_take {n : Nat} {L : List (PatN n)} {j : Nat} {q : PatN n} (hq : L[j]? = some q) (hj : 0 < j) :
    bestOf ((L.take (j + 1)).map (shortA n)) = if shorter (shortA n q) (bestOf ((L.take j).map (shortA n))) then shortA n q else bestOf ((L.take j).map (shortA n)) := by
  obtain ⟨hl, rfl⟩ := List.getElem?_eq_some_iff.1 hq
  rw [List.take_succ_eq_append_getElem hl, List.map_append]
  refine bestOf_snoc _ ?_
  intro e
  have h2 := congrArg List.length e
  rw [List.length_map, List.length_take, List.length_nil] at h2
  omega
/-- The row of the first j + 1 parts. -/
theorem row_take {n : Nat} {L : List (PatN n)} {j : Nat} {q : PatN n} (hq : L[j]? = some q) : (L.take (j + 1)).flatMap (shortA n) = (L.take j).flatMap (shortA n) ++ shortA n q := by
  obtain ⟨hl, rfl⟩ := List.getElem?_eq_some_iff.1 hq
  rw [List.take_succ_eq_append_getElem hl, List.flatMap_append]
  simp

end Ex
end Go.Proofs.YtfajoknacfjedaaGreatDoor
namespace Go.Proofs.YtfajoknacfjedaaGreatDoor
open Go.RowKit
attribute [local go_sem] Oper.semAt_some
namespace Ex

def byteV (xs : List Int) : List Value := xs.map (Value.int .u8)
theorem byteV_len (xs : List Int) : (byteV xs).length = xs.length := List.length_map ..
theorem byteV_app (xs ys : List Int) : byteV (xs ++ ys) = byteV xs ++ byteV ys := List.map_append
theorem byteV_one (xs : List Int) : ∀ u ∈ byteV xs, u.oneCell' = true := by
  intro u hu
  simp only [byteV, List.mem_map] at hu
  obtain ⟨x, _, rfl⟩ := hu
  rfl
/-- Bytes of the call's own. -/
def OutAt (w : World) (base : Nat) (v : Value) (xs : List Int) : Prop := w.ownsRow base 5 1 v xs.length (byteV xs)
/-- The row's block is the one that it was, or new. -/
def Own1 (w : World) (v v' : Value) : Prop := v'.ownBlock = v.ownBlock ∨ ∃ g, v'.ownBlock = some g ∧ w.heap.size ≤ g
/-- What a writer does: the row has more bytes; all but its block is as it was. -/
def WGives (base : Nat) (w : World) (v : Value) (ys : List Int) (r : Ending) (w' : World) : Prop := ∃ v', r = .returned v' ∧ OutAt w' base v' ys ∧ w.grownBy w' v.ownBlock ∧ Own1 w v v'
theorem grown_trans {w w1 w2 : World} {v v1 : Value} (h1 : w.grownBy w1 v.ownBlock) (ho : Own1 w v v1) (h2 : w1.grownBy w2 v1.ownBlock) : w.grownBy w2 v.ownBlock :=
  ⟨h2.os.trans h1.os, h2.tape.trans h1.tape, h2.output.trans h1.output, Nat.le_trans h1.size h2.size, fun k hk hn => (h2.block k (Nat.lt_of_lt_of_le hk h1.size) (fun e => by
    rcases ho with ho | ⟨g, hg, hl⟩
    · exact hn (e.trans ho)
    · rw [hg, Option.some.injEq] at e; omega)).trans (h1.block k hk hn)⟩
theorem grown_kept {w w1 : World} (h : Kept w w1) (row : Option Nat) : w.grownBy w1 row := ⟨h.1, h.2.1, h.2.2.1, h.2.2.2.1, fun k hk _ => h.2.2.2.2 k hk⟩
theorem grown_pre {w w1 w2 : World} {row : Option Nat} (h1 : Kept w w1) (h2 : w1.grownBy w2 row) : w.grownBy w2 row :=
  ⟨h2.os.trans h1.1, h2.tape.trans h1.2.1, h2.output.trans h1.2.2.1, Nat.le_trans h1.size h2.size, fun k hk hn => (h2.block k (Nat.lt_of_lt_of_le hk h1.size) hn).trans (h1.2.2.2.2 k hk)⟩
theorem Own1.refl (w : World) (v : Value) : Own1 w v v := .inl rfl
theorem Own1.trans {w w1 : World} {v v1 v2 : Value} (h1 : Own1 w v v1) (h2 : Own1 w1 v1 v2) (hs : w.heap.size ≤ w1.heap.size) : Own1 w v v2 := by
  rcases h2 with h2 | ⟨g, hg, hl⟩
  · rcases h1 with h1 | ⟨g, hg, hl⟩
    · exact .inl (h2.trans h1)
    · exact .inr ⟨g, h2.trans hg, hl⟩
  · exact .inr ⟨g, hg, by omega⟩
theorem Own1.pre {w w1 : World} {v v1 : Value} (h : Own1 w1 v v1) (hs : w.heap.size ≤ w1.heap.size) : Own1 w v v1 := (Own1.refl w v).trans h hs
theorem OutAt.keep {w w' : World} {base : Nat} {v : Value} {xs : List Int} (h : OutAt w base v xs) (hk : Kept w w') : OutAt w' base v xs := owns_same h (fun g hg => hk.2.2.2.2 g (h.lt g hg).2)
theorem OutAt.form {w : World} {base : Nat} {v : Value} {xs : List Int} (h : OutAt w base v xs) : ∃ a c, v = .slice a xs.length c := by
  rcases h.2 with ⟨rfl, h0⟩ | ⟨g, cap, cur, rfl, _⟩
  · exact ⟨none, 0, by rw [h0]⟩
  · exact ⟨_, _, rfl⟩
theorem OutAt.nil (w : World) (base : Nat) : OutAt w base (.slice none 0 0) [] := World.ownsRow_nil _ _ _ _
theorem u8_info : (Tryz.prog.info? 5).map (fun i => (i.zero, i.size, i.bytes)) = some (some (.int .u8 0), 1, 1) := by kernel_rfl

/-- append of some bytes. -/
theorem wpl_out_bytes {ops : Array Oper} {rest : List Oper} {o : Oper} {a : Act} {Q : Exit → Act → World → Prop} (hgd : o.guard = none) (s x : Operand)
    (ho : o.op = .call { callee := .builtin .append, args := #[s, x], argTypes := #[31, 31] }) (W : World) (base : Nat) (v : Value) (xs : List Int) (n : Nat) (hn : xs.length = n) (hs : a.eval s = v) (hown : OutAt W base v xs)
    (lb : Nat) (ys : List Int) (m : Nat) (hm : ys.length = m) (hx : a.eval x = .slice (some ⟨lb, 0, none⟩) m m) (hc : ∀ (j : Nat) (y : Int), ys[j]? = some y → W.cell? ⟨lb, j, none⟩ = some (.int .u8 y)) (hpos : 0 < m) (hl : n + m ≤ 1000000000) (hbase : base ≤ W.heap.size)
    (h : ∀ g cap w', OutAt w' base (.slice (some ⟨g, 0, none⟩) (n + m) cap) (xs ++ ys) → W.grownBy w' v.ownBlock → Own1 W v (.slice (some ⟨g, 0, none⟩) (n + m) cap) → wpList Tryz.prog ops Q rest (a.put o.dst (.slice (some ⟨g, 0, none⟩) (n + m) cap)) w') : wpList Tryz.prog ops Q (o :: rest) a W := by
  obtain ⟨i0, hi, hz0, hz1, hz2⟩ := info_parts u8_info
  subst hn hm
  refine wpList_append_lies W hgd s x 31 ho base 5 i0 _ 1 1 Tryz.underlying31 hi hz0 hz1 hz2 rfl (by decide) v xs.length (byteV xs) hs hown ⟨lb, 0, none⟩ ys.length ys.length (byteV ys) hx (by rw [byteV_len]; omega) ?_ (byteV_one ys) hpos (by unfold maxLen; omega) (by omega) hbase W.heap.size rfl ?_
  · intro j u hj
    simp only [byteV, List.getElem?_map] at hj
    obtain ⟨y, hy, rfl⟩ := Option.map_eq_some_iff.1 hj
    rw [Addr.add_lit, Nat.zero_add]
    exact hc j y hy
  · intro g cap w' h3 h4 h5 _
    refine h g cap w' ?_ h4 ?_
    · show w'.ownsRow base 5 1 _ (xs ++ ys).length (byteV (xs ++ ys))
      rw [List.length_append, byteV_app]
      exact h3
    · rcases h5 with h5 | h5
      · exact .inl h5.symm
      · exact .inr ⟨g, rfl, by omega⟩
/-- A string's bytes as numbers. -/
def strI (s : ByteArray) : List Int := s.data.toList.map fun b => (b.toNat : Int)
theorem strI_cells (s : ByteArray) : Lib.strCells s = byteV (strI s) := by simp [Lib.strCells, byteV, strI]
theorem strI_len (s : ByteArray) : (strI s).length = s.size := by rw [strI, List.length_map, Array.length_toList]; rfl
/-- append of a string. -/
theorem wpl_out_str {ops : Array Oper} {rest : List Oper} {o : Oper} {a : Act} {Q : Exit → Act → World → Prop} (hgd : o.guard = none) (sl x : Operand)
    (ho : o.op = .call { callee := .builtin .append, args := #[sl, x], argTypes := #[31, 9] }) (W : World) (base : Nat) (v : Value) (xs : List Int) (n : Nat) (hn : xs.length = n) (hs : a.eval sl = v) (hown : OutAt W base v xs)
    (s : ByteArray) (hx : a.eval x = .string s) (hpos : 0 < s.size) (hl : n + s.size ≤ 1000000000) (hbase : base ≤ W.heap.size)
    (h : ∀ v' w', OutAt w' base v' (xs ++ strI s) → W.grownBy w' v.ownBlock → Own1 W v v' → wpList Tryz.prog ops Q rest (a.put o.dst v') w') : wpList Tryz.prog ops Q (o :: rest) a W := by
  obtain ⟨i0, hi, hz0, hz1, hz2⟩ := info_parts u8_info
  subst hn
  have ht : Tryz.prog.underlying 31 = some (.slice 5) := Tryz.underlying31
  have hu : Tryz.prog.underlying 9 = some .string := Tryz.underlying9
  obtain ⟨v', w', hr, h2, h3, _⟩ := Lib.run_append_own_string (P := Tryz.prog) W base 31 9 o.type 5 i0 ht hu hi hz0 hz1 hz2 v xs.length (byteV xs) hown s (by unfold maxLen; omega) (by omega) hbase
  have ho1 : Own1 W v v' := by
    rcases hown.2 with ⟨rfl, h0⟩ | ⟨g, cap, cur, rfl, _, hg, hnc, hcm, hcs, htk⟩
    · have hr2 := run_append_nil_string (P := Tryz.prog) W 31 9 o.type 5 i0 (.int .u8 0) ht hu hi hz0 s hpos (by omega) (by rw [hz2]; omega)
      rw [hr2] at hr
      simp only [Result.ok.injEq] at hr
      rw [← hr.1]
      exact .inr ⟨_, rfl, Nat.le_refl _⟩
    · by_cases hroom : xs.length + s.size ≤ cap
      · have hr2 := Lib.run_append_room_string (P := Tryz.prog) W 31 9 o.type 5 i0 ht hu hi hz1 g xs.length cap cur hg s hroom (by omega)
        rw [hr2] at hr
        simp only [Result.ok.injEq] at hr
        rw [← hr.1]
        exact .inl rfl
      · have holds := hown.cells (g := g) rfl
        have hr2 := Lib.run_append_grow_string (P := Tryz.prog) W 31 9 o.type 5 i0 (.int .u8 0) ht hu hi hz0 ⟨g, 0, none⟩ xs.length cap (byteV xs) (by rw [hz1, byteV_len]; omega) holds s (by omega) (by omega) (by rw [hz2]; exact growslice_fits (by omega) (by omega))
        rw [hr2] at hr
        simp only [Result.ok.injEq] at hr
        rw [← hr.1]
        exact .inr ⟨_, rfl, Nat.le_refl _⟩
  refine Lib.wpList_append_run W hgd sl x _ _ ho _ _ hs hx _ w' hr (h v' w' ?_ h3 ho1)
  show w'.ownsRow base 5 1 v' (xs ++ strI s).length (byteV (xs ++ strI s))
  rw [List.length_append, strI_len, byteV_app, ← strI_cells]
  exact h2

end Ex
end Go.Proofs.YtfajoknacfjedaaGreatDoor
namespace Go.Proofs.YtfajoknacfjedaaGreatDoor
open Go.RowKit
attribute [local go_sem] Oper.semAt_some
namespace Ex

def hexd (d : Int) : Int := if d < 10 then 48 + d else 87 + d
/-- A byte as it is written. -/
def byteW (s : ByteArray) (c : Int) : List Int :=
  if c = 10 then [92, 110] else if c = 13 then [92, 114] else if c = 9 then [92, 116]
  else if printedP c = false then [92, 120, hexd (c / 16), hexd (c % 16)] else if inS s c then [92, c] else [c]
theorem one_lit (w : World) (x : Int) (t : TypeId) : ∀ (j : Nat) (y : Int), [x][j]? = some y → (w.alloc (.cells #[.int .u8 x] t)).cell? ⟨w.heap.size, j, none⟩ = some (.int .u8 y) := by
  intro j y h
  match j with
  | 0 => simp at h; subst h; simp
  | j + 1 => simp at h
theorem two_lit (w : World) (x z : Int) (t : TypeId) : ∀ (j : Nat) (y : Int), [x, z][j]? = some y → (w.alloc (.cells #[.int .u8 x, .int .u8 z] t)).cell? ⟨w.heap.size, j, none⟩ = some (.int .u8 y) := by
  intro j y h
  match j with
  | 0 => simp at h; subst h; simp
  | 1 => simp at h; subst h; simp
  | j + 2 => simp at h
set_option linter.unusedSimpArgs false in
set_option maxRecDepth 100000 in
set_option maxHeartbeats 4000000 in
/-- Of bytes that are printed. -/
theorem writeByte_is (base : Nat) (w : World) (v : Value) (xs : List Int) (c : Int) (s : ByteArray) (ho : OutAt w base v xs) (hb : base ≤ w.heap.size) (hl : xs.length ≤ 900000000) (hp : printedP c = true) :
    Calls Tryz.prog 59 #[v, .int .u8 c, .string s] w fun r w' => WGives base w v (xs ++ byteW s c) r w' := by
  obtain ⟨a, cap, rfl⟩ := ho.form
  have HO := hide1 ho
  have hc : 32 ≤ c ∧ c ≤ 126 := by unfold printedP at hp; simpa using hp
  have HP := hide1 hp
  clear ho hp
  go_enter Tryz.func59, Tryz.ntmps59
  obtain ⟨x, hx⟩ : ∃ x, firstIdx s c.toNat.toUInt8 = x := ⟨_, rfl⟩
  have HX := hide1 hx
  by_cases hin : x < 0
  · have HE : Hid (byteW s c = [c]) := by
      show _ = _
      unfold byteW inS
      rw [if_neg (by omega), if_neg (by omega), if_neg (by omega), HP.out, hx]
      simp [hin]
    clear hx
    go_wp2_with (first
      | (go_at_call 76; refine (printed_is _ _).mono ?_; rintro e w6 ⟨rfl, rfl⟩; rw [HP.out])
      | (go_at_call 77; refine (index_is _ _ _).mono ?_; rintro e w6 ⟨rfl, rfl⟩; rw [HX.out])
      | (at_builtin; go_must (refine wpl_out_bytes rfl _ _ rfl _ base _ xs xs.length rfl (by rfl) (HO.out.keep ((Kept.refl _).alloc _ _)) _ [c] 1 rfl (by rfl) (one_lit _ _ _) (by omega) (by omega) (by simp; omega) ?_; intro g9 c9 w9 ho9 hg9 hw9; have HO9 := hide1 ho9; have HG9 := hide1 (grown_pre ((Kept.refl _).alloc _ _) hg9); have HW9 := hide1 (hw9.pre ((Kept.refl _).alloc _ _).size); clear ho9 hg9 hw9)))
    go_ret
    rw [HE.out]
    exact ⟨_, rfl, HO9.out, HG9.out, HW9.out⟩
  · have HE : Hid (byteW s c = [92, c]) := by
      show _ = _
      unfold byteW inS
      rw [if_neg (by omega), if_neg (by omega), if_neg (by omega), HP.out, hx]
      simp [hin]
    clear hx
    go_wp2_with (first
      | (go_at_call 76; refine (printed_is _ _).mono ?_; rintro e w6 ⟨rfl, rfl⟩; rw [HP.out])
      | (go_at_call 77; refine (index_is _ _ _).mono ?_; rintro e w6 ⟨rfl, rfl⟩; rw [HX.out])
      | (at_builtin; go_must (refine wpl_out_bytes rfl _ _ rfl _ base _ xs xs.length rfl (by rfl) (HO.out.keep ((Kept.refl _).alloc _ _)) _ [92, c] 2 rfl (by rfl) (two_lit _ _ _ _) (by omega) (by omega) (by simp; omega) ?_; intro g9 c9 w9 ho9 hg9 hw9; have HO9 := hide1 ho9; have HG9 := hide1 (grown_pre ((Kept.refl _).alloc _ _) hg9); have HW9 := hide1 (hw9.pre ((Kept.refl _).alloc _ _).size); clear ho9 hg9 hw9)))
    go_ret
    rw [HE.out]
    exact ⟨_, rfl, HO9.out, HG9.out, HW9.out⟩

end Ex
end Go.Proofs.YtfajoknacfjedaaGreatDoor
namespace Go.Proofs.YtfajoknacfjedaaGreatDoor
open Go.RowKit
attribute [local go_sem] Oper.semAt_some
namespace Ex

def escS : ByteArray := ⟨#[93, 92, 45, 47, 94]⟩
def memW {n : Nat} (q : PatN (n + 1)) : List Int := byteW escS (from_ q) ++ if from_ q < to_ q then 45 :: byteW escS (to_ q) else []
def classW {n : Nat} (L : List (PatN (n + 1))) : List Int := 91 :: (L.flatMap memW ++ [93])
theorem byteW_len (s : ByteArray) (c : Int) : (byteW s c).length ≤ 4 := by unfold byteW; (repeat' split) <;> simp
theorem memW_len {n : Nat} (q : PatN (n + 1)) : (memW q).length ≤ 9 := by
  unfold memW
  have h1 := byteW_len escS (from_ q)
  have h2 := byteW_len escS (to_ q)
  rw [List.length_append]
  split <;> simp <;> omega
theorem flat_len {α : Type} (f : α → List Int) (k : Nat) (hf : ∀ x, (f x).length ≤ k) : ∀ L : List α, (L.flatMap f).length ≤ k * L.length
  | [] => by simp
  | x :: L => by rw [List.flatMap_cons, List.length_append, List.length_cons, Nat.mul_succ]; have := flat_len f k hf L; have := hf x; omega
theorem flat_snoc {α : Type} {f : α → List Int} {L : List α} {j : Nat} {q : α} (hq : L[j]? = some q) : (L.take (j + 1)).flatMap f = (L.take j).flatMap f ++ f q := by
  obtain ⟨hj, rfl⟩ := List.getElem?_eq_some_iff.1 hq
  rw [List.take_succ_eq_append_getElem hj, List.flatMap_append]
  simp
/-- What is not the row's own stays. -/
theorem grown_holds {S : Nat → Prop} {w w' : World} {v : Value} (hg : w.grownBy w' v.ownBlock) (hS : ∀ d, S d → v.ownBlock ≠ some d) : Holds S w w' := fun d _ _ hd hc => hg.cell hc (fun e => hS d hd e.symm)
theorem step_out_bytes {ops : Array Oper} {o : Oper} {a : Act} {K : Act → World → Prop} {Q : Exit → Act → World → Prop} {E : Prop} (hgd : o.guard = none) (s x : Operand)
    (ho : o.op = .call { callee := .builtin .append, args := #[s, x], argTypes := #[31, 31] }) (W : World) (base : Nat) (v : Value) (xs : List Int) (n : Nat) (hn : xs.length = n) (hs : a.eval s = v) (hown : OutAt W base v xs)
    (lb : Nat) (ys : List Int) (m : Nat) (hm : ys.length = m) (hx : a.eval x = .slice (some ⟨lb, 0, none⟩) m m) (hc : ∀ (j : Nat) (y : Int), ys[j]? = some y → W.cell? ⟨lb, j, none⟩ = some (.int .u8 y)) (hpos : 0 < m) (hl : n + m ≤ 1000000000) (hbase : base ≤ W.heap.size)
    (h : ∀ g cap w', OutAt w' base (.slice (some ⟨g, 0, none⟩) (n + m) cap) (xs ++ ys) → W.grownBy w' v.ownBlock → Own1 W v (.slice (some ⟨g, 0, none⟩) (n + m) cap) → K (a.put o.dst (.slice (some ⟨g, 0, none⟩) (n + m) cap)) w') :
    if Region.wanted o (yielded ops a.tmps) = true then Oper.wp Tryz.prog o a W K Q else E := by
  obtain ⟨i0, hi, hz0, hz1, hz2⟩ := info_parts u8_info
  subst hn hm
  refine step_append_lies W hgd s x 31 ho base 5 i0 _ 1 1 Tryz.underlying31 hi hz0 hz1 hz2 rfl (by decide) v xs.length (byteV xs) hs hown ⟨lb, 0, none⟩ ys.length ys.length (byteV ys) hx (by rw [byteV_len]; omega) ?_ (byteV_one ys) hpos (by unfold maxLen; omega) (by omega) hbase W.heap.size rfl ?_
  · intro j u hj
    simp only [byteV, List.getElem?_map] at hj
    obtain ⟨y, hy, rfl⟩ := Option.map_eq_some_iff.1 hj
    rw [Addr.add_lit, Nat.zero_add]
    exact hc j y hy
  · intro g cap w' h3 h4 h5 _
    refine h g cap w' ?_ h4 ?_
    · show w'.ownsRow base 5 1 _ (xs ++ ys).length (byteV (xs ++ ys))
      rw [List.length_append, byteV_app]
      exact h3
    · rcases h5 with h5 | h5
      · exact .inl h5.symm
      · exact .inr ⟨g, rfl, by omega⟩
theorem own_far {w : World} {o : Obj} {v v' : Value} (h : Own1 (w.alloc o) v v') (hv : ∀ d, v.ownBlock = some d → d < w.heap.size) : some w.heap.size ≠ v'.ownBlock := by
  intro e
  rcases h with h | ⟨g, hg, hl⟩
  · have := hv _ (h.symm.trans e.symm); omega
  · rw [hg, Option.some.injEq] at e; simp at hl; omega
theorem own_far2 {W : World} {v v' : Value} {x : Nat} (h : Own1 W v v') (hx : x < W.heap.size) (hv : some x ≠ v.ownBlock) : some x ≠ v'.ownBlock := by
  intro e
  rcases h with h | ⟨g, hg, hl⟩
  · exact hv (e.trans h)
  · rw [hg, Option.some.injEq] at e; omega
def ClassWR {n : Nat} (_S : Nat → Prop) (L : List (PatN (n + 1))) (base : Nat) (w : World) (v : Value) (xs : List Int) (vo i : Value) (wr : World) : Prop :=
  ∃ j : Nat, i = .int .i64 (j : Int) ∧ j ≤ L.length ∧ OutAt wr base vo (xs ++ 91 :: (L.take j).flatMap memW) ∧ w.grownBy wr v.ownBlock ∧ Own1 w v vo
end Ex
end Go.Proofs.YtfajoknacfjedaaGreatDoor
namespace Go.Proofs.YtfajoknacfjedaaGreatDoor
open Go.RowKit
attribute [local go_sem] Oper.semAt_some
namespace Ex

def kindN : (n : Nat) → PatN n → Int
  | 0, _ => 0
  | _ + 1, p => kind p
def isClassP {n : Nat} (p : PatN (n + 1)) : Bool := kind p == 3 && (kids p).all (fun q => kindN n q == 1)

set_option linter.unusedSimpArgs false in
set_option maxRecDepth 100000 in
set_option maxHeartbeats 4000000 in
theorem isClass_is (S : Nat → Prop) (n : Nat) (p : PatN (n + 1)) (v : Value) (w : World) (h : KidsAt S w n (kids p) v) :
    Calls Tryz.prog 46 #[valOf p v] w fun e w' => e = .returned (.bool (isClassP p)) ∧ Kept w w' := by
  have HK := hide1 h
  obtain ⟨a, cap, rfl⟩ := h.form
  rw [valOf_eq]
  obtain ⟨L, hL⟩ : ∃ L, kids p = L := ⟨_, rfl⟩
  have hlm : L.length ≤ 17592186044416 ∧ L.length ≤ cap ∨ n = 0 := by
    cases n with
    | zero => exact .inr rfl
    | succ n => obtain ⟨a', cap', e', h2, h3, _⟩ := h; simp only [Value.slice.injEq] at e'; rw [hL] at h2 h3; exact .inl ⟨h3, by omega⟩
  have hlm2 : (L.length : Int) ≤ 17592186044416 := by
    rcases hlm with h | h
    · omega
    · subst h; rw [none_of L]; simp
  have HP : Hid (isClassP p = (kind p == 3 && L.all (fun q => kindN n q == 1))) := by show _ = _; unfold isClassP; rw [hL]
  rw [hL] at HK ⊢
  clear h hL hlm
  go_enter Tryz.func46, Tryz.ntmps46
  by_cases hk : kind p = 3
  · go_wp2_with fail
    go_loopw [11] (fun i wr => ∃ j : Nat, i = .int .i64 (j : Int) ∧ j ≤ L.length ∧ Hid (Kept w wr) ∧ Hid ((L.take j).all (fun q => kindN n q == 1) = true)) (fun i _ => L.length - (intOf i).toNat)
    case atStart => exact ⟨0, rfl, Nat.zero_le _, (Kept.refl w).alloc _ _, rfl⟩
    case round =>
      obtain ⟨j, rfl, hj, HKr, HALL⟩ := hrel
      by_cases hlt : (j : Int) < (L.length : Int)
      · obtain ⟨q, hq⟩ : ∃ q, L[j]? = some q := ⟨_, List.getElem?_eq_getElem (by omega)⟩
        cases n with
        | zero => exact (show Empty from q).elim
        | succ n =>
          obtain ⟨a2, cap2, e2, hl2, _, h4⟩ := HK.out.kept HKr.out
          simp only [Value.slice.injEq] at e2
          obtain ⟨rfl, _, rfl⟩ := e2
          have gc : (L.length : Int) ≤ (cap : Int) := by omega
          rcases h4 with h4 | ⟨c, o, rfl, hSc, h7⟩
          · rw [h4] at hq; simp at hq
          · obtain ⟨v', g0, g1, g2, g3, g4, g5, g6⟩ := h7 j q hq
            obtain ⟨a3, cap3, rfl⟩ := g6.form
            have HQ := hide1 hq
            clear h7 g6 hq hl2
            by_cases hrq : kind q = 1
            · have HR : Hid ((kindN (n + 1) q == 1) = true) := by show (kind q == 1) = true; simpa using hrq
              go_wp2_with fail
              go_roundw
              case rel => exact ⟨j + 1, by go_num, by omega, HKr.out.alloc _ _, all_snoc HQ.out HALL.out HR.out⟩
              case measure => simp [intOf]; omega
            · have HR : Hid ((kindN (n + 1) q == 1) = false) := by show (kind q == 1) = false; simpa using hrq
              go_wp2_with fail
              go_ret
              refine ⟨?_, HKr.out.alloc _ _⟩
              rw [HP.out, all_not (f := fun q => kindN (n + 1) q == 1) HQ.out HR.out]
              simp
      · go_wp2_with fail
        go_ret
        have hall : L.all (fun q => kindN n q == 1) = true := by have := HALL.out; rwa [List.take_of_length_le (by omega)] at this
        refine ⟨?_, HKr.out⟩
        rw [HP.out, hall]
        simp [hk]
  · go_wp2_with fail
    go_ret
    refine ⟨?_, (Kept.refl w).alloc _ _⟩
    rw [HP.out]
    simp [hk]

/-- Is a part put in brackets? -/
def bracketP {n : Nat} (q : PatN (n + 1)) (k : Int) : Bool := if kind q = 3 then !isClassP q else if kind q = 2 then k != 3 || (kids q).length == 0 else false
set_option linter.unusedSimpArgs false in
set_option maxRecDepth 100000 in
set_option maxHeartbeats 4000000 in
theorem bracketed_is (S : Nat → Prop) (n : Nat) (p : PatN (n + 1)) (v : Value) (k : Int) (w : World) (h : KidsAt S w n (kids p) v) :
    Calls Tryz.prog 61 #[valOf p v, .int .i64 k] w fun e w' => e = .returned (.bool (bracketP p k)) ∧ Kept w w' := by
  have HK := hide1 h
  obtain ⟨a, cap, rfl⟩ := h.form
  rw [valOf_eq]
  have HP : Hid (bracketP p k = if kind p = 3 then !isClassP p else if kind p = 2 then k != 3 || (kids p).length == 0 else false) := rfl
  clear h
  go_enter Tryz.func61, Tryz.ntmps61
  by_cases hk : kind p = 3
  · obtain ⟨b, hb⟩ : ∃ b, isClassP p = b := ⟨_, rfl⟩
    have HB := hide1 hb
    have HV : Hid (Value.agg #[.int .i64 3, .int .i64 (from_ p), .int .i64 (to_ p), .int .i64 (min_ p), .int .i64 (max_ p), .slice a (kids p).length cap] = valOf p (.slice a (kids p).length cap)) := by show _ = _; rw [valOf_eq, hk]
    clear hb
    go_wp2_with (first | (go_at_call 46; rw [HV.out]; refine (isClass_is S n p _ _ (HK.out.kept ((Kept.refl _).alloc _ _))).mono ?_; rintro e w6 ⟨rfl, hk6⟩; rw [HB.out]; have HK6 := hide1 hk6; clear hk6))
    go_ret
    refine ⟨?_, gtrans ((Kept.refl w).alloc _ _) HK6.out⟩
    rw [HP.out, if_pos hk, HB.out]
    rfl
  · by_cases hk2 : kind p = 2
    · have e : (((kids p).length : Int) == 0) = ((kids p).length == 0) := by rw [Bool.eq_iff_iff]; simp
      have HEE := hide1 e
      clear e
      by_cases h3 : k = 3
      · subst h3
        go_wp2_with fail
        go_ret
        refine ⟨?_, (Kept.refl w).alloc _ _⟩
        rw [HP.out, if_neg hk, if_pos hk2]
        show Ending.returned (.bool (((kids p).length : Int) == 0)) = _
        rw [HEE.out]
        rfl
      · have h4 : (k != 3) = true := by simpa using h3
        have HH4 := hide1 h4
        go_wp2_with fail
        go_ret
        refine ⟨?_, (Kept.refl w).alloc _ _⟩
        rw [HP.out, if_neg hk, if_pos hk2, HH4.out]
        rfl
    · go_wp2_with fail
      go_ret
      refine ⟨?_, (Kept.refl w).alloc _ _⟩
      rw [HP.out, if_neg hk, if_neg hk2]
      rfl

end Ex
end Go.Proofs.YtfajoknacfjedaaGreatDoor
namespace Go.Proofs.YtfajoknacfjedaaGreatDoor
open Go.RowKit
attribute [local go_sem] Oper.semAt_some
namespace Ex

theorem kids_single {S : Nat → Prop} {W : World} {n g : Nat} {p : PatN (n + 1)} {u : Value} (h : BoxAt W g (.int .i64 (kind p)) (.int .i64 (from_ p)) (.int .i64 (to_ p)) (.int .i64 (min_ p)) (.int .i64 (max_ p)) u) (hk : KidsAt S W n (kids p) u) (hg : S g) : KidsAt S W (n + 1) [p] (.slice (some ⟨g, 0, none⟩) 1 1) := by
  obtain ⟨⟨c0, c1, c2, c3, c4, c5⟩, _⟩ := h.facts
  refine ⟨_, 1, rfl, Nat.le_refl _, by simp, Or.inr ⟨g, 0, rfl, hg, fun i q hq => ?_⟩⟩
  match i with
  | 0 =>
    rw [List.getElem?_cons_zero, Option.some.injEq] at hq
    subst hq
    exact ⟨u, c0, c1, c2, c3, c4, c5, hk⟩
  | i + 1 => simp at hq
theorem box_two {w : World} {n : Nat} {p : PatN (n + 1)} {fr to : Int} {u : Value} {o : Obj} (hf : from_ p = fr) (ht : to_ p = to) : BoxAt ((w.alloc o).alloc (.cells #[.int .i64 (kind p), .int .i64 fr, .int .i64 to, .int .i64 (min_ p), .int .i64 (max_ p), u] 24)) (w.heap.size + 1) (.int .i64 (kind p)) (.int .i64 (from_ p)) (.int .i64 (to_ p)) (.int .i64 (min_ p)) (.int .i64 (max_ p)) u := by
  subst hf ht
  exact heap_alloc2_new w _ _
def rangeW {n : Nat} (p : PatN (n + 1)) : List Int := if from_ p = to_ p then byteW signsS (from_ p) else if from_ p = 0 ∧ to_ p = 255 then [46] else classW [p]
end Ex
end Go.Proofs.YtfajoknacfjedaaGreatDoor
namespace Go.Proofs.YtfajoknacfjedaaGreatDoor
open Go.RowKit
attribute [local go_sem] Oper.semAt_some
namespace Ex

set_option linter.unusedSimpArgs false in
set_option maxRecDepth 100000 in
set_option maxHeartbeats 4000000 in
theorem small_is (i : Int) (w : World) (h0 : 0 ≤ i) (h1 : i < 10) : Calls Tryz.prog 102 #[.int .i64 i] w fun r w' => Hid (∃ s : ByteArray, r = .returned (.string s) ∧ s.size = 1 ∧ strI s = [48 + i]) ∧ w' = w := by
  have h : i = 0 ∨ i = 1 ∨ i = 2 ∨ i = 3 ∨ i = 4 ∨ i = 5 ∨ i = 6 ∨ i = 7 ∨ i = 8 ∨ i = 9 := by omega
  clear h0 h1
  rcases h with rfl | rfl | rfl | rfl | rfl | rfl | rfl | rfl | rfl | rfl
  all_goals
    go_enter Tryz.func102, Tryz.ntmps102
    go_wp2
    go_ret
    exact ⟨⟨_, rfl, rfl, rfl⟩, rfl⟩

/-- One byte more. -/
theorem wpl_out_one {ops : Array Oper} {rest : List Oper} {o : Oper} {a : Act} {Q : Exit → Act → World → Prop} (hgd : o.guard = none) (s x : Operand)
    (ho : o.op = .call { callee := .builtin .append, args := #[s, x], argTypes := #[31, 31] }) (w W : World) (base : Nat) (v0 v : Value) (cs : List Int) (n : Nat) (hn : cs.length = n) (b : Int) (t : TypeId) (hs : a.eval s = v) (hown : OutAt W base v cs) (hg : w.grownBy W v0.ownBlock) (hw : Own1 w v0 v)
    (hx : a.eval x = .slice (some ⟨W.heap.size, 0, none⟩) 1 1) (hl : n ≤ 900000000) (hbase : base ≤ w.heap.size)
    (h : ∀ g cap w' l, l = cs ++ [b] → l.length = n + 1 → OutAt w' base (.slice (some ⟨g, 0, none⟩) (n + 1) cap) l → w.grownBy w' v0.ownBlock → Own1 w v0 (.slice (some ⟨g, 0, none⟩) (n + 1) cap) → wpList Tryz.prog ops Q rest (a.put o.dst (.slice (some ⟨g, 0, none⟩) (n + 1) cap)) w') : wpList Tryz.prog ops Q (o :: rest) a (W.alloc (.cells #[.int .u8 b] t)) := by
  refine wpl_out_bytes hgd s x ho _ base v cs n hn hs (hown.keep ((Kept.refl _).alloc _ _)) W.heap.size [b] 1 rfl hx (one_lit _ _ _) (by decide) (by omega) (by have := hg.size; simp; omega) ?_
  intro g cap w' h1 h2 h3
  exact h g cap w' _ rfl (by rw [List.length_append, hn]; rfl) h1 (grown_trans hg hw (grown_pre ((Kept.refl _).alloc _ _) h2)) (hw.trans (h3.pre ((Kept.refl W).alloc _ _).size) hg.size)

end Ex
end Go.Proofs.YtfajoknacfjedaaGreatDoor
namespace Go.Proofs.YtfajoknacfjedaaGreatDoor
open Go.RowKit
attribute [local go_sem] Oper.semAt_some
namespace Ex

theorem box_far {w w' : World} {v : Value} {g : Nat} {x0 x1 x2 x3 x4 x5 : Value} (hg : w.grownBy w' v.ownBlock) (h : w.cell? ⟨g, 0, none⟩ = some x0 ∧ w.cell? ⟨g, 1, none⟩ = some x1 ∧ w.cell? ⟨g, 2, none⟩ = some x2 ∧ w.cell? ⟨g, 3, none⟩ = some x3 ∧ w.cell? ⟨g, 4, none⟩ = some x4 ∧ w.cell? ⟨g, 5, none⟩ = some x5) (hn : some g ≠ v.ownBlock) :
    w'.cell? ⟨g, 0, none⟩ = some x0 ∧ w'.cell? ⟨g, 1, none⟩ = some x1 ∧ w'.cell? ⟨g, 2, none⟩ = some x2 ∧ w'.cell? ⟨g, 3, none⟩ = some x3 ∧ w'.cell? ⟨g, 4, none⟩ = some x4 ∧ w'.cell? ⟨g, 5, none⟩ = some x5 :=
  ⟨hg.cell h.1 hn, hg.cell h.2.1 hn, hg.cell h.2.2.1 hn, hg.cell h.2.2.2.1 hn, hg.cell h.2.2.2.2.1 hn, hg.cell h.2.2.2.2.2 hn⟩
/-- A part, in brackets or not. -/
def partW {n : Nat} (q : PatN (n + 1)) (k : Int) (ys : List Int) : List Int := if bracketP q k then 40 :: (ys ++ [41]) else ys
end Ex
end Go.Proofs.YtfajoknacfjedaaGreatDoor
namespace Go.Proofs.YtfajoknacfjedaaGreatDoor
open Go.RowKit
attribute [local go_sem] Oper.semAt_some
namespace Ex

def partN : (n : Nat) → PatN n → Int → List Int → List Int
  | 0, _, _, _ => []
  | _ + 1, q, k, ys => partW q k ys
def classN : (n : Nat) → List (PatN n) → List Int
  | 0, _ => [91, 93]
  | _ + 1, L => classW L
theorem take_len {α : Type} (f : α → List Int) (L : List α) (j : Nat) : ((L.take j).flatMap f).length ≤ (L.flatMap f).length := by
  have e : L.flatMap f = (L.take j).flatMap f ++ (L.drop j).flatMap f := by rw [← List.flatMap_append, List.take_append_drop]
  rw [e, List.length_append]
  omega

theorem hzi {α : Type} {L : List α} {j : Nat} {q : α} (h : L[j]? = some q) : L.zipIdx[j]? = some (q, j) := by simp [h]
theorem wpl_out_at {ops : Array Oper} {rest : List Oper} {o : Oper} {a : Act} {Q : Exit → Act → World → Prop} (hgd : o.guard = none) (s x : Operand)
    (ho : o.op = .call { callee := .builtin .append, args := #[s, x], argTypes := #[31, 31] }) (lb : Nat) (w W : World) (base : Nat) (v0 v : Value) (cs : List Int) (n : Nat) (hn : cs.length = n) (b : Int) (t : TypeId) (hs : a.eval s = v) (hown : OutAt W base v cs) (hg : w.grownBy W v0.ownBlock) (hw : Own1 w v0 v)
    (hx : a.eval x = .slice (some ⟨lb, 0, none⟩) 1 1) (hlb : W.heap.size = lb) (hl : n ≤ 900000000) (hbase : base ≤ w.heap.size)
    (h : ∀ g cap w' l, l = cs ++ [b] → l.length = n + 1 → OutAt w' base (.slice (some ⟨g, 0, none⟩) (n + 1) cap) l → w.grownBy w' v0.ownBlock → Own1 w v0 (.slice (some ⟨g, 0, none⟩) (n + 1) cap) → wpList Tryz.prog ops Q rest (a.put o.dst (.slice (some ⟨g, 0, none⟩) (n + 1) cap)) w') : wpList Tryz.prog ops Q (o :: rest) a (W.alloc (.cells #[.int .u8 b] t)) := by
  subst hlb
  exact wpl_out_one hgd s x ho w W base v0 v cs n hn b t hs hown hg hw hx hl hbase h
end Ex
end Go.Proofs.YtfajoknacfjedaaGreatDoor
