import Derived.Test.YtbnchnlogikecaaGreatDoorMExRd5
namespace Go.Proofs.YtbnchnlogikecaaGreatDoor
open Go.RowKit
attribute [local go_sem] Oper.semAt_some
namespace Ex

/-- How often: up to m signs. -/
def timesG (T : ByteArray) : Nat → Pat → Int × Int × Int → Pat × Int × Int × Int
  | 0, p, s => (p, s)
  | m + 1, p, s =>
    if peekP T s.1 = 42 then timesG T m (mkP 4 0 0 0 (-1) [p]) (s.1 + 1, s.2)
    else if peekP T s.1 = 43 then timesG T m (mkP 4 0 0 1 (-1) [p]) (s.1 + 1, s.2)
    else if peekP T s.1 = 63 then timesG T m (mkP 4 0 0 0 1 [p]) (s.1 + 1, s.2)
    else if peekP T s.1 = 123 then timesG T m (mkP 4 0 0 (bracesS T s).1 (bracesS T s).2.1 [p]) (bracesS T s).2.2
    else (p, s)
def timesS (T : ByteArray) (p : Pat) (s : Int × Int × Int) : Pat × Int × Int × Int := timesG T 4097 p s

/-- A box of six cells. -/
def BoxAt (w : World) (g : Nat) (x0 x1 x2 x3 x4 x5 : Value) : Prop := w.heap[g]? = some (.cells #[x0, x1, x2, x3, x4, x5] 70 (0, 0))
theorem BoxAt.facts {w : World} {g : Nat} {x0 x1 x2 x3 x4 x5 : Value} (h : BoxAt w g x0 x1 x2 x3 x4 x5) :
    (w.cell? ⟨g, 0, none⟩ = some x0 ∧ w.cell? ⟨g, 1, none⟩ = some x1 ∧ w.cell? ⟨g, 2, none⟩ = some x2 ∧ w.cell? ⟨g, 3, none⟩ = some x3 ∧ w.cell? ⟨g, 4, none⟩ = some x4 ∧ w.cell? ⟨g, 5, none⟩ = some x5) ∧
    w.frozen? ⟨g, 0, none⟩ = false ∧ w.frozen? ⟨g, 1, none⟩ = false ∧ w.frozen? ⟨g, 2, none⟩ = false ∧ w.frozen? ⟨g, 3, none⟩ = false ∧ w.frozen? ⟨g, 4, none⟩ = false ∧ w.frozen? ⟨g, 5, none⟩ = false := by
  unfold BoxAt at h
  refine ⟨⟨?_, ?_, ?_, ?_, ?_, ?_⟩, ?_, ?_, ?_, ?_, ?_, ?_⟩ <;> simp [World.cell?, World.frozen?, h]
theorem BoxAt.lt {w : World} {g : Nat} {x0 x1 x2 x3 x4 x5 : Value} (h : BoxAt w g x0 x1 x2 x3 x4 x5) : g < w.heap.size := (Array.getElem?_eq_some_iff.1 h).1
theorem BoxAt.but {b : Nat} {w w' : World} {g : Nat} {x0 x1 x2 x3 x4 x5 : Value} (h : BoxAt w g x0 x1 x2 x3 x4 x5) (hk : KeptBut b w w') (hg : g ≠ b) : BoxAt w' g x0 x1 x2 x3 x4 x5 := (hk.2.2.2.2 g h.lt hg).trans h
theorem BoxAt.keep {w w' : World} {g : Nat} {x0 x1 x2 x3 x4 x5 : Value} (h : BoxAt w g x0 x1 x2 x3 x4 x5) (hk : Kept w w') : BoxAt w' g x0 x1 x2 x3 x4 x5 := (hk.2.2.2.2 g h.lt).trans h
theorem BoxAt.new (w : World) (x0 x1 x2 x3 x4 x5 : Value) : BoxAt (w.alloc (.cells #[x0, x1, x2, x3, x4, x5] 70)) w.heap.size x0 x1 x2 x3 x4 x5 := heap_alloc_new w _
theorem BoxAt.set {W : World} {g : Nat} {y0 y1 y2 y3 y4 y5 x0 x1 x2 x3 x4 x5 : Value} (h : BoxAt W g y0 y1 y2 y3 y4 y5) : BoxAt ((((((W.setCell ⟨g, 0, none⟩ x0).setCell ⟨g, 1, none⟩ x1).setCell ⟨g, 2, none⟩ x2).setCell ⟨g, 3, none⟩ x3).setCell ⟨g, 4, none⟩ x4).setCell ⟨g, 5, none⟩ x5) g x0 x1 x2 x3 x4 x5 := box_full h
theorem set6_other {W : World} {g d : Nat} {x0 x1 x2 x3 x4 x5 : Value} (hd : d ≠ g) : ((((((W.setCell ⟨g, 0, none⟩ x0).setCell ⟨g, 1, none⟩ x1).setCell ⟨g, 2, none⟩ x2).setCell ⟨g, 3, none⟩ x3).setCell ⟨g, 4, none⟩ x4).setCell ⟨g, 5, none⟩ x5).heap[d]? = W.heap[d]? := by
  rw [Below.heap_setCell _ _ _ _ hd, Below.heap_setCell _ _ _ _ hd, Below.heap_setCell _ _ _ _ hd, Below.heap_setCell _ _ _ _ hd, Below.heap_setCell _ _ _ _ hd, Below.heap_setCell _ _ _ _ hd]
theorem BoxAt.other {W : World} {g d : Nat} {y0 y1 y2 y3 y4 y5 x0 x1 x2 x3 x4 x5 : Value} (h : BoxAt W d y0 y1 y2 y3 y4 y5) (hd : d ≠ g) : BoxAt ((((((W.setCell ⟨g, 0, none⟩ x0).setCell ⟨g, 1, none⟩ x1).setCell ⟨g, 2, none⟩ x2).setCell ⟨g, 3, none⟩ x3).setCell ⟨g, 4, none⟩ x4).setCell ⟨g, 5, none⟩ x5) d y0 y1 y2 y3 y4 y5 := (set6_other hd).trans h
theorem set6_holds {S : Nat → Prop} {W : World} {g : Nat} {x0 x1 x2 x3 x4 x5 : Value} (hS : ¬ S g) : Holds S W ((((((W.setCell ⟨g, 0, none⟩ x0).setCell ⟨g, 1, none⟩ x1).setCell ⟨g, 2, none⟩ x2).setCell ⟨g, 3, none⟩ x3).setCell ⟨g, 4, none⟩ x4).setCell ⟨g, 5, none⟩ x5) := by
  intro d o v hd hc
  rw [← hc]
  exact World.cell?_of_block (a := ⟨d, o, none⟩) (set6_other (fun e => hS (e ▸ hd)))

theorem valOf_mkP (k f t mn mx : Int) (l : List Pat) (u : Value) : valOf (mkP k f t mn mx l).2 u = .agg #[.int .i64 k, .int .i64 f, .int .i64 t, .int .i64 mn, .int .i64 mx, u] := rfl
/-- The loop of times. -/
def TimesR (S : Nat → Prop) (p : Pat) (T : ByteArray) (k e f : Int) (b : Nat) (w wr : World) : Prop :=
  ∃ (j : Nat) (q : Pat) (vq : Value) (k1 e1 f1 : Int), 0 ≤ k1 ∧ k1 ≤ (T.size : Int) ∧ k + (j : Int) ≤ k1 ∧ KeptBut b w wr ∧ RAt wr b T k1 e1 f1 ∧
    BoxAt wr w.heap.size (.int .i64 (kind q.2)) (.int .i64 (from_ q.2)) (.int .i64 (to_ q.2)) (.int .i64 (min_ q.2)) (.int .i64 (max_ q.2)) vq ∧
    BoxAt wr (w.heap.size + 1) (.int .i64 0) (.int .i64 0) (.int .i64 0) (.int .i64 0) (.int .i64 0) (.slice none 0 0) ∧
    KidsAt (fun d => S d ∧ d ≠ w.heap.size ∧ d ≠ w.heap.size + 1) wr q.1 (kids q.2) vq ∧ ∀ N, timesG T (j + N) p (k, e, f) = timesG T N q (k1, e1, f1)
theorem times_step {S : Nat → Prop} {p q : Pat} {T : ByteArray} {k e f k1 e1 f1 k2 e2 f2 mn mx : Int} {b j : Nat} {w wr w8 : World} {v8 : Value} {y0 y1 y2 y3 y4 y5 : Value}
    (hb : b < w.heap.size) (h0 : 0 ≤ k2) (h1 : k2 ≤ (T.size : Int)) (hlt : k1 < k2) (hj : k + (j : Int) ≤ k1) (hk : KeptBut b w wr) (hk8 : KeptBut b wr w8) (hr : RAt w8 b T k2 e2 f2)
    (hbx : BoxAt w8 w.heap.size y0 y1 y2 y3 y4 y5) (hbz : BoxAt w8 (w.heap.size + 1) (.int .i64 0) (.int .i64 0) (.int .i64 0) (.int .i64 0) (.int .i64 0) (.slice none 0 0))
    (hv : PatV (fun d => S d ∧ d ≠ w.heap.size ∧ d ≠ w.heap.size + 1) w8 (mkP 4 0 0 mn mx [q]) (.agg #[.int .i64 4, .int .i64 0, .int .i64 0, .int .i64 mn, .int .i64 mx, v8]))
    (hM : ∀ N, timesG T (j + N) p (k, e, f) = timesG T N q (k1, e1, f1)) (hst : ∀ N, timesG T (N + 1) q (k1, e1, f1) = timesG T N (mkP 4 0 0 mn mx [q]) (k2, e2, f2)) :
    TimesR S p T k e f b w ((((((w8.setCell ⟨w.heap.size, 0, none⟩ (.int .i64 4)).setCell ⟨w.heap.size, 1, none⟩ (.int .i64 0)).setCell ⟨w.heap.size, 2, none⟩ (.int .i64 0)).setCell ⟨w.heap.size, 3, none⟩ (.int .i64 mn)).setCell ⟨w.heap.size, 4, none⟩ (.int .i64 mx)).setCell ⟨w.heap.size, 5, none⟩ v8) := by
  obtain ⟨u, hu, hkk⟩ := hv
  have hu' : v8 = u := by
    rw [valOf_eq] at hu
    simp only [Value.agg.injEq] at hu
    have := congrArg (fun x : Array Value => x[5]?) hu
    simpa using this
  subst hu'
  refine ⟨j + 1, mkP 4 0 0 mn mx [q], v8, k2, e2, f2, h0, h1, by omega, fin_but (hk.trans hk8) (Nat.le_refl _), hr.fin (by omega), hbx.set, hbz.other (by omega), ?_, fun N => ?_⟩
  · exact KidsAt.mono (set6_holds (fun h => h.2.1 rfl)) (fun _ h => h) _ _ _ hkk
  · rw [show j + 1 + N = j + (N + 1) by omega, hM, hst]

set_option linter.unusedSimpArgs false in
set_option maxRecDepth 100000 in
set_option maxHeartbeats 4000000 in
theorem timesR_is (S : Nat → Prop) (p : Pat) (v : Value) (T : ByteArray) (k e f : Int) (b : Nat) (w : World) (h : RAt w b T k e f) (h0 : 0 ≤ k) (h1 : k ≤ T.size) (hT : T.size ≤ 4096) (hv : PatV S w p v) (hSb : ¬ S b) (hN : ∀ d, w.heap.size ≤ d → S d) :
    Calls Tryz.prog 136 #[.pointer (some ⟨b, 0, none⟩), v] w fun r w' => PGives S (timesS T p (k, e, f)).1 r w' ∧ RGave b w T (timesS T p (k, e, f)).2 w' := by
  obtain ⟨v', rfl, hk⟩ := hv
  have HR := hide1 h
  have HK := hide1 hk
  have HN := hide1 hN
  have HSb := hide1 hSb
  have hb := h.lt
  have gT : (T.size : Int) ≤ 4096 := by omega
  obtain ⟨a, cap, rfl⟩ := hk.form
  rw [valOf_eq]
  clear hk hN hSb h
  go_enter Tryz.func136, Tryz.ntmps136
  go_wp2_with fail
  go_loopw [] (fun wr => TimesR S p T k e f b w wr) (fun wr => T.size - placeOf b wr)
  case atStart =>
    refine ⟨0, p, _, k, e, f, h0, h1, by omega, (((Kept.refl w).alloc _ _).alloc _ _).but b, HR.out.keep (((Kept.refl w).alloc _ _).alloc _ _), (BoxAt.new w _ _ _ _ _ _).keep ((Kept.refl _).alloc _ _), ?_, ?_, fun N => by rw [Nat.zero_add]⟩
    · have := BoxAt.new (w.alloc (.cells #[.int .i64 (kind p.2), .int .i64 (from_ p.2), .int .i64 (to_ p.2), .int .i64 (min_ p.2), .int .i64 (max_ p.2), .slice a (kids p.2).length cap] 70)) (.int .i64 0) (.int .i64 0) (.int .i64 0) (.int .i64 0) (.int .i64 0) (.slice none 0 0)
      simpa using this
    · exact KidsAt.mono (((Kept.refl w).alloc _ _).alloc _ _ |>.holds _) (fun d h => ⟨h.1, by omega, by omega⟩) _ _ _ (HK.out.tight)
  case round =>
    obtain ⟨j, q, vq, k1, e1, f1, hk0, hk2, hkj, hKW, hRr, hbx, hbz, hki, hM⟩ := hrel
    have HKW := hide1 hKW
    have HRr := hide1 hRr
    have HBX := hide1 hbx
    have HBZ := hide1 hbz
    obtain ⟨aq, capq, rfl⟩ := hki.form
    have HKI := hide1 hki
    have HM := hide1 hM
    have hM' := hM
    have HW := hide1 hRr
    have HK := hide1 (but_refl b wr)
    have hsw := hbz.lt
    obtain ⟨⟨q0, q1, q2, q3, q4, q5⟩, y0, y1, y2, y3, y4, y5⟩ := hbx.facts
    obtain ⟨⟨p0, p1, p2, p3, p4, p5⟩, x0, x1, x2, x3, x4, x5⟩ := hbz.facts
    clear hKW hRr hbx hbz hki hM
    by_cases hc : peekP T k1 = 42
    · have hlt : k1 < T.size := (peek_lt (T := T) (k := k1) (by rw [hc]; decide)).2
      have HST : Hid (∀ N, timesG T (N + 1) q (k1, e1, f1) = timesG T N (mkP 4 0 0 0 (-1) [q]) (k1 + 1, e1, f1)) := fun N => by simp [timesG, hc]
      have HC := hide1 hc
      clear hc hM'
      go_wp2_with (first
        | (go_at_call 133; refine (take_is T k1 e1 f1 _ b _ (by exact HW.out) hk0 hk2 hT).mono ?_; rintro r w7 ⟨rfl, hk7, hw7⟩; rw [HC.out]; simp [takeK, HC.out] at hw7; have HK := hide1 (HK.out.trans hk7); have HW := hide1 hw7; have HBX := hide1 (HBX.out.but hk7 (by omega)); have HBZ := hide1 (HBZ.out.but hk7 (by omega)); have HKI := hide1 (KidsAt.mono (hk7.holds (fun h => HSb.out h.1)) (fun _ h => h) _ _ _ HKI.out); obtain ⟨⟨q0, q1, q2, q3, q4, q5⟩, y0, y1, y2, y3, y4, y5⟩ := HBX.out.facts; obtain ⟨⟨p0, p1, p2, p3, p4, p5⟩, x0, x1, x2, x3, x4, x5⟩ := HBZ.out.facts; have hs7 := HBZ.out.lt; clear hk7 hw7)
        | (go_at_call 138; refine (repeat_is (fun d => S d ∧ d ≠ w.heap.size ∧ d ≠ w.heap.size + 1) q _ _ _ _ ⟨_, rfl, HKI.out⟩ (fun d hd => ⟨HN.out d (by have := HBZ.out.lt; have := HKW.out.2.2.2.1; have := HK.out.2.2.2.1; omega), by have := HBZ.out.lt; omega, by have := HBZ.out.lt; omega⟩)).mono ?_; rintro r w8 ⟨⟨v8, rfl, u8, rfl, hkk⟩, hk8⟩; rw [valOf_mkP]; obtain ⟨a8, cap8, e8⟩ := hkk.form; subst e8; have HV := hide1 (show PatV _ _ (mkP 4 0 0 _ _ [q]) _ from ⟨_, rfl, hkk⟩); rw [valOf_mkP] at HV; have HK := hide1 (HK.out.trans (hk8.but b)); have HW := hide1 (HW.out.keep hk8); have HBX := hide1 (HBX.out.keep hk8); have HBZ := hide1 (HBZ.out.keep hk8); obtain ⟨⟨q0, q1, q2, q3, q4, q5⟩, y0, y1, y2, y3, y4, y5⟩ := HBX.out.facts; obtain ⟨⟨p0, p1, p2, p3, p4, p5⟩, x0, x1, x2, x3, x4, x5⟩ := HBZ.out.facts; have hs7 := HBZ.out.lt; clear hkk hk8))
      go_roundw
      case rel => exact times_step hb (by omega) (by omega) (by omega) hkj HKW.out HK.out HW.out HBX.out HBZ.out HV.out HM.out HST.out
      case measure => rw [(HW.out.fin (by omega)).place, HRr.out.place]; omega
    · by_cases hc2 : peekP T k1 = 43
      · have hc := hc2
        have hlt : k1 < T.size := (peek_lt (T := T) (k := k1) (by rw [hc]; decide)).2
        have HST : Hid (∀ N, timesG T (N + 1) q (k1, e1, f1) = timesG T N (mkP 4 0 0 1 (-1) [q]) (k1 + 1, e1, f1)) := fun N => by simp [timesG, hc]
        have HC := hide1 hc
        clear hc hM'
        go_wp2_with (first
          | (go_at_call 133; refine (take_is T k1 e1 f1 _ b _ (by exact HW.out) hk0 hk2 hT).mono ?_; rintro r w7 ⟨rfl, hk7, hw7⟩; rw [HC.out]; simp [takeK, HC.out] at hw7; have HK := hide1 (HK.out.trans hk7); have HW := hide1 hw7; have HBX := hide1 (HBX.out.but hk7 (by omega)); have HBZ := hide1 (HBZ.out.but hk7 (by omega)); have HKI := hide1 (KidsAt.mono (hk7.holds (fun h => HSb.out h.1)) (fun _ h => h) _ _ _ HKI.out); obtain ⟨⟨q0, q1, q2, q3, q4, q5⟩, y0, y1, y2, y3, y4, y5⟩ := HBX.out.facts; obtain ⟨⟨p0, p1, p2, p3, p4, p5⟩, x0, x1, x2, x3, x4, x5⟩ := HBZ.out.facts; have hs7 := HBZ.out.lt; clear hk7 hw7)
          | (go_at_call 138; refine (repeat_is (fun d => S d ∧ d ≠ w.heap.size ∧ d ≠ w.heap.size + 1) q _ _ _ _ ⟨_, rfl, HKI.out⟩ (fun d hd => ⟨HN.out d (by have := HBZ.out.lt; have := HKW.out.2.2.2.1; have := HK.out.2.2.2.1; omega), by have := HBZ.out.lt; omega, by have := HBZ.out.lt; omega⟩)).mono ?_; rintro r w8 ⟨⟨v8, rfl, u8, rfl, hkk⟩, hk8⟩; rw [valOf_mkP]; obtain ⟨a8, cap8, e8⟩ := hkk.form; subst e8; have HV := hide1 (show PatV _ _ (mkP 4 0 0 _ _ [q]) _ from ⟨_, rfl, hkk⟩); rw [valOf_mkP] at HV; have HK := hide1 (HK.out.trans (hk8.but b)); have HW := hide1 (HW.out.keep hk8); have HBX := hide1 (HBX.out.keep hk8); have HBZ := hide1 (HBZ.out.keep hk8); obtain ⟨⟨q0, q1, q2, q3, q4, q5⟩, y0, y1, y2, y3, y4, y5⟩ := HBX.out.facts; obtain ⟨⟨p0, p1, p2, p3, p4, p5⟩, x0, x1, x2, x3, x4, x5⟩ := HBZ.out.facts; have hs7 := HBZ.out.lt; clear hkk hk8))
        go_roundw
        case rel => exact times_step hb (by omega) (by omega) (by omega) hkj HKW.out HK.out HW.out HBX.out HBZ.out HV.out HM.out HST.out
        case measure => rw [(HW.out.fin (by omega)).place, HRr.out.place]; omega
      · by_cases hc3 : peekP T k1 = 63
        · have hc := hc3
          have hlt : k1 < T.size := (peek_lt (T := T) (k := k1) (by rw [hc]; decide)).2
          have HST : Hid (∀ N, timesG T (N + 1) q (k1, e1, f1) = timesG T N (mkP 4 0 0 0 1 [q]) (k1 + 1, e1, f1)) := fun N => by simp [timesG, hc]
          have HC := hide1 hc
          clear hc hM'
          go_wp2_with (first
            | (go_at_call 133; refine (take_is T k1 e1 f1 _ b _ (by exact HW.out) hk0 hk2 hT).mono ?_; rintro r w7 ⟨rfl, hk7, hw7⟩; rw [HC.out]; simp [takeK, HC.out] at hw7; have HK := hide1 (HK.out.trans hk7); have HW := hide1 hw7; have HBX := hide1 (HBX.out.but hk7 (by omega)); have HBZ := hide1 (HBZ.out.but hk7 (by omega)); have HKI := hide1 (KidsAt.mono (hk7.holds (fun h => HSb.out h.1)) (fun _ h => h) _ _ _ HKI.out); obtain ⟨⟨q0, q1, q2, q3, q4, q5⟩, y0, y1, y2, y3, y4, y5⟩ := HBX.out.facts; obtain ⟨⟨p0, p1, p2, p3, p4, p5⟩, x0, x1, x2, x3, x4, x5⟩ := HBZ.out.facts; have hs7 := HBZ.out.lt; clear hk7 hw7)
            | (go_at_call 138; refine (repeat_is (fun d => S d ∧ d ≠ w.heap.size ∧ d ≠ w.heap.size + 1) q _ _ _ _ ⟨_, rfl, HKI.out⟩ (fun d hd => ⟨HN.out d (by have := HBZ.out.lt; have := HKW.out.2.2.2.1; have := HK.out.2.2.2.1; omega), by have := HBZ.out.lt; omega, by have := HBZ.out.lt; omega⟩)).mono ?_; rintro r w8 ⟨⟨v8, rfl, u8, rfl, hkk⟩, hk8⟩; rw [valOf_mkP]; obtain ⟨a8, cap8, e8⟩ := hkk.form; subst e8; have HV := hide1 (show PatV _ _ (mkP 4 0 0 _ _ [q]) _ from ⟨_, rfl, hkk⟩); rw [valOf_mkP] at HV; have HK := hide1 (HK.out.trans (hk8.but b)); have HW := hide1 (HW.out.keep hk8); have HBX := hide1 (HBX.out.keep hk8); have HBZ := hide1 (HBZ.out.keep hk8); obtain ⟨⟨q0, q1, q2, q3, q4, q5⟩, y0, y1, y2, y3, y4, y5⟩ := HBX.out.facts; obtain ⟨⟨p0, p1, p2, p3, p4, p5⟩, x0, x1, x2, x3, x4, x5⟩ := HBZ.out.facts; have hs7 := HBZ.out.lt; clear hkk hk8))
          go_roundw
          case rel => exact times_step hb (by omega) (by omega) (by omega) hkj HKW.out HK.out HW.out HBX.out HBZ.out HV.out HM.out HST.out
          case measure => rw [(HW.out.fin (by omega)).place, HRr.out.place]; omega
        · by_cases hc4 : peekP T k1 = 123
          · have hlt4 : k1 < T.size := (peek_lt (T := T) (k := k1) (by rw [hc4]; decide)).2
            have hok := braces_ok (T := T) (s := (k1, e1, f1)) ⟨by show 0 ≤ k1 + 1; omega, by show k1 + 1 ≤ _; omega⟩
            obtain ⟨⟨mn, mx, k3, e3, f3⟩, hBR⟩ : ∃ x, bracesS T (k1, e1, f1) = x := ⟨_, rfl⟩
            rw [hBR] at hok
            obtain ⟨ok3, hlt3⟩ := hok
            unfold OkS at ok3
            dsimp only at ok3 hlt3
            have HBR := hide1 hBR
            have HST : Hid (∀ N, timesG T (N + 1) q (k1, e1, f1) = timesG T N (mkP 4 0 0 mn mx [q]) (k3, e3, f3)) := fun N => by simp [timesG, hc4, hBR]
            have HC := hide1 hc4
            clear hc hc2 hc3 hc4 hBR hM'
            go_wp2_with (first
              | (go_at_call 133; refine (take_is T k1 e1 f1 _ b _ (by exact HW.out) hk0 hk2 hT).mono ?_; rintro r w7 ⟨rfl, hk7, hw7⟩; rw [HC.out]; simp [takeK, HC.out] at hw7; have HK := hide1 (HK.out.trans hk7); have HW := hide1 hw7; have HBX := hide1 (HBX.out.but hk7 (by omega)); have HBZ := hide1 (HBZ.out.but hk7 (by omega)); have HKI := hide1 (KidsAt.mono (hk7.holds (fun h => HSb.out h.1)) (fun _ h => h) _ _ _ HKI.out); obtain ⟨⟨q0, q1, q2, q3, q4, q5⟩, y0, y1, y2, y3, y4, y5⟩ := HBX.out.facts; obtain ⟨⟨p0, p1, p2, p3, p4, p5⟩, x0, x1, x2, x3, x4, x5⟩ := HBZ.out.facts; have hs7 := HBZ.out.lt; clear hk7 hw7)
              | (go_at_call 138; refine (repeat_is (fun d => S d ∧ d ≠ w.heap.size ∧ d ≠ w.heap.size + 1) q _ _ _ _ ⟨_, rfl, HKI.out⟩ (fun d hd => ⟨HN.out d (by have := HBZ.out.lt; have := HKW.out.2.2.2.1; have := HK.out.2.2.2.1; omega), by have := HBZ.out.lt; omega, by have := HBZ.out.lt; omega⟩)).mono ?_; rintro r w8 ⟨⟨v8, rfl, u8, rfl, hkk⟩, hk8⟩; rw [valOf_mkP]; obtain ⟨a8, cap8, e8⟩ := hkk.form; subst e8; have HV := hide1 (show PatV _ _ (mkP 4 0 0 _ _ [q]) _ from ⟨_, rfl, hkk⟩); rw [valOf_mkP] at HV; have HK := hide1 (HK.out.trans (hk8.but b)); have HW := hide1 (HW.out.keep hk8); have HBX := hide1 (HBX.out.keep hk8); have HBZ := hide1 (HBZ.out.keep hk8); obtain ⟨⟨q0, q1, q2, q3, q4, q5⟩, y0, y1, y2, y3, y4, y5⟩ := HBX.out.facts; obtain ⟨⟨p0, p1, p2, p3, p4, p5⟩, x0, x1, x2, x3, x4, x5⟩ := HBZ.out.facts; have hs7 := HBZ.out.lt; clear hkk hk8)
              | (go_at_call 139; refine (braces_is T k1 e1 f1 b _ (by exact HW.out) hk0 hlt4 hT).mono ?_; rintro r w7 ⟨rfl, hg⟩; rw [HBR.out] at hg ⊢; obtain ⟨_, hk7, hw7⟩ := hg; have HK := hide1 (HK.out.trans (by first | exact hk7 | exact but_undrew hk7)); have HW := hide1 hw7; have HBX := hide1 (BoxAt.but (w := _) (by exact HBX.out) hk7 (by omega)); have HBZ := hide1 (BoxAt.but (w := _) (by exact HBZ.out) hk7 (by omega)); have HKI := hide1 (KidsAt.mono (hk7.holds (S := fun d => S d ∧ d ≠ w.heap.size ∧ d ≠ w.heap.size + 1) (fun h => HSb.out h.1)) (fun _ h => h) _ _ _ (by exact HKI.out.drew _)); obtain ⟨⟨q0, q1, q2, q3, q4, q5⟩, y0, y1, y2, y3, y4, y5⟩ := HBX.out.facts; obtain ⟨⟨p0, p1, p2, p3, p4, p5⟩, x0, x1, x2, x3, x4, x5⟩ := HBZ.out.facts; have hs7 := HBZ.out.lt; clear hk7 hw7)
              | (go_at_call 135; refine (peek_is T k1 e1 f1 b _ (by exact HW.out) hk0 hk2 hT).mono ?_; rintro r w8 ⟨rfl, nd, rfl⟩; rw [HC.out]))
            go_roundw
            case rel => exact times_step hb ok3.1 ok3.2 hlt3 hkj HKW.out HK.out HW.out HBX.out HBZ.out HV.out HM.out HST.out
            case measure => rw [(HW.out.fin (by omega)).place, HRr.out.place]; omega
          · have HE : Hid (timesS T p (k, e, f) = (q, k1, e1, f1)) := by
              show _ = _
              unfold timesS
              have e1 : ∀ N, timesG T N q (k1, e1, f1) = (q, k1, e1, f1) := fun N => by cases N <;> simp [timesG, hc, hc2, hc3, hc4]
              rw [show 4097 = j + (4097 - j) by omega, hM', e1]
            obtain ⟨c, hcc⟩ : ∃ c, peekP T k1 = c := ⟨_, rfl⟩
            rw [hcc] at hc hc2 hc3 hc4
            have HC := hide1 hcc
            clear hcc hM'
            go_wp2_with (first
              | (go_at_call 133; refine (take_is T k1 e1 f1 _ b _ (by exact HW.out) hk0 hk2 hT).mono ?_; rintro r w7 ⟨rfl, hk7, hw7⟩; rw [HC.out]; simp [takeK, HC.out, hc, hc2, hc3] at hw7; have HK := hide1 (HK.out.trans hk7); have HW := hide1 hw7; have HBX := hide1 (HBX.out.but hk7 (by omega)); have HBZ := hide1 (HBZ.out.but hk7 (by omega)); have HKI := hide1 (KidsAt.mono (hk7.holds (fun h => HSb.out h.1)) (fun _ h => h) _ _ _ HKI.out); obtain ⟨⟨q0, q1, q2, q3, q4, q5⟩, y0, y1, y2, y3, y4, y5⟩ := HBX.out.facts; obtain ⟨⟨p0, p1, p2, p3, p4, p5⟩, x0, x1, x2, x3, x4, x5⟩ := HBZ.out.facts; have hs7 := HBZ.out.lt; clear hk7 hw7)
              | (go_at_call 135; refine (peek_is T k1 e1 f1 b _ (by exact HW.out) hk0 hk2 hT).mono ?_; rintro r w8 ⟨rfl, nd, rfl⟩; rw [HC.out]))
            (try simp only [Exit.inBlock, Exit.then])
            refine bodyPost_ret (box_returns rfl _ _ (w.heap.size + 1) _ _ _ _ _ _ rfl (BoxAt.set (by exact HBZ.out))) rfl ?_
            rw [HE.out]
            refine ⟨⟨_, rfl, _, rfl, KidsAt.mono (set6_holds (S := fun d => S d ∧ d ≠ w.heap.size ∧ d ≠ w.heap.size + 1) (fun h => h.2.2 rfl)) (fun _ h => h.1) _ _ _ (by exact HKI.out.drew _)⟩, ⟨hk0, hk2⟩, ?_, ?_⟩
            · exact fin_but (but_drew (HKW.out.trans HK.out) _) (by omega)
            · exact RAt.fin (by exact HW.out) (by omega)

end Ex
end Go.Proofs.YtbnchnlogikecaaGreatDoor
