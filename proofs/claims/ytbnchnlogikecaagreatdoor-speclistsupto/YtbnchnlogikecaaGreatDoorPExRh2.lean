import Derived.Test.YtbnchnlogikecaaGreatDoorPExO1
namespace Go.Proofs.YtbnchnlogikecaaGreatDoor
open Go.RowKit
attribute [local go_sem] Oper.semAt_some
set_option linter.unusedSimpArgs false
set_option maxRecDepth 100000
set_option maxHeartbeats 4000000
namespace Ex
theorem take_no (T : ByteArray) (k e f c : Int) (b : Nat) (w : World) (h : RAt w b T k e f) (h0 : 0 ≤ k) (h1 : k ≤ T.size) (hT : T.size ≤ 4096) (hc : peekP T k ≠ c) :
    Calls Tryz.prog 133 #[.pointer (some ⟨b, 0, none⟩), .int .u8 c] w fun r w' => r = .returned (.bool false) ∧ KeptBut b w w' ∧ RAt w' b T k e f := by
  refine (take_is T k e f c b w h h0 h1 hT).mono ?_
  rintro r w' ⟨rfl, h2, h3⟩
  rw [takeK, if_neg hc] at h3
  exact ⟨by simp [hc], h2, h3⟩
theorem take_yes (T : ByteArray) (k e f c : Int) (b : Nat) (w : World) (h : RAt w b T k e f) (h0 : 0 ≤ k) (h1 : k ≤ T.size) (hT : T.size ≤ 4096) (hc : peekP T k = c) :
    Calls Tryz.prog 133 #[.pointer (some ⟨b, 0, none⟩), .int .u8 c] w fun r w' => r = .returned (.bool true) ∧ KeptBut b w w' ∧ RAt w' b T (k + 1) e f := by
  refine (take_is T k e f c b w h h0 h1 hT).mono ?_
  rintro r w' ⟨rfl, h2, h3⟩
  rw [takeK, if_pos hc] at h3
  exact ⟨by simp [hc], h2, h3⟩
def escBad (c : Int) : Bool := decide (c = 32) || !printedP c || letterP c || digitP c
def escapeS (T : ByteArray) (s : Int × Int × Int) : Int × Int × Int × Int :=
  if s.1 + 1 = T.size then (0, wrongS T (s.1 + 1, s.2)) else
  if peekP T (s.1 + 1) = 110 then (10, s.1 + 1 + 1, s.2) else
  if peekP T (s.1 + 1) = 114 then (13, s.1 + 1 + 1, s.2) else
  if peekP T (s.1 + 1) = 116 then (9, s.1 + 1 + 1, s.2) else
  if peekP T (s.1 + 1) = 120 then ((hexR T (s.1 + 1 + 1, s.2) s.1).1 * 16 + (hexR T (hexR T (s.1 + 1 + 1, s.2) s.1).2 s.1).1, (hexR T (hexR T (s.1 + 1 + 1, s.2) s.1).2 s.1).2) else
  if escBad (peekP T (s.1 + 1)) then (0, failS T s 22 s.1) else (peekP T (s.1 + 1), s.1 + 1 + 1, s.2)
def nibB : Bool := (List.range 16).all fun x => (List.range 16).all fun y => decide (bits .or .i64 (wrap64 ((x : Int) * 16)) (y : Int) = (x : Int) * 16 + (y : Int))
theorem nibB_is : nibB = true := by kernel_rfl
theorem nib_all (x y : Nat) (hx : x < 16) (hy : y < 16) : bits .or .i64 (wrap64 ((x : Int) * 16)) (y : Int) = (x : Int) * 16 + (y : Int) :=
  of_decide_eq_true (List.all_eq_true.1 (List.all_eq_true.1 nibB_is x (List.mem_range.2 hx)) y (List.mem_range.2 hy))
theorem nib_or {x y : Int} (hx : 0 ≤ x ∧ x ≤ 15) (hy : 0 ≤ y ∧ y ≤ 15) : bits .or .i64 (wrap64 (x * 16)) y = x * 16 + y := by
  obtain ⟨a, rfl⟩ := Int.eq_ofNat_of_zero_le hx.1
  obtain ⟨c, rfl⟩ := Int.eq_ofNat_of_zero_le hy.1
  exact nib_all a c (by omega) (by omega)
theorem escape_is (T : ByteArray) (k e f : Int) (b : Nat) (w : World) (h : RAt w b T k e f) (h0 : 0 ≤ k) (h1 : k < T.size) (hT : T.size ≤ 4096) :
    Calls Tryz.prog 141 #[.pointer (some ⟨b, 0, none⟩)] w fun r w' => r = .returned (.int .i64 (escapeS T (k, e, f)).1) ∧ RGave b w T (escapeS T (k, e, f)).2 w' := by
  have HR := hide1 h
  obtain ⟨c0, c1, c2, c3, c4⟩ := h.cells
  obtain ⟨z0, z1, z2, z3, z4⟩ := h.free
  have hb := h.lt
  have gT : (T.size : Int) ≤ 4096 := by omega
  clear h
  have hc := peek_byte T (k + 1)
  unfold IsB at hc
  have HE : Hid (escapeS T (k, e, f) =   if k + 1 = T.size then (0, wrongS T (k + 1, e, f)) else
  if peekP T (k + 1) = 110 then (10, k + 1 + 1, e, f) else
  if peekP T (k + 1) = 114 then (13, k + 1 + 1, e, f) else
  if peekP T (k + 1) = 116 then (9, k + 1 + 1, e, f) else
  if peekP T (k + 1) = 120 then ((hexR T (k + 1 + 1, e, f) k).1 * 16 + (hexR T (hexR T (k + 1 + 1, e, f) k).2 k).1, (hexR T (hexR T (k + 1 + 1, e, f) k).2 k).2) else
  if escBad (peekP T (k + 1)) then (0, failS T (k, e, f) 22 k) else (peekP T (k + 1), k + 1 + 1, e, f)) := rfl
  obtain ⟨c, hcc⟩ : ∃ c, peekP T (k + 1) = c := ⟨_, rfl⟩
  rw [hcc] at hc HE
  have HC := hide1 hcc
  clear hcc
  go_enter Tryz.func141, Tryz.ntmps141
  by_cases hk : k + 1 = (T.size : Int)
  · rw [if_pos hk] at HE
    rw [hk] at HE HC
    go_wp2_with (first
      | (go_at_call 135; refine (peek_is T (T.size : Int) e f b _ (by first | exact (HR.out.drew _).move _ | exact HR.out.move _) (by omega) (by omega) hT).mono ?_; rintro r w6 ⟨rfl, m, hw6⟩; rw [HC.out]; have HK : Hid (KeptBut b w w6) := (by rw [hw6]; first | exact but_drew (but_set (but_drew (but_refl _ _) _) _ _) _ | exact but_drew (but_set (but_refl _ _) _ _) _); have HW : Hid (RAt w6 b T (T.size : Int) e f) := (by rw [hw6]; first | exact ((HR.out.drew _).move _).drew _ | exact (HR.out.move _).drew _); clear hw6; obtain ⟨c0, c1, c2, c3, c4⟩ := HW.out.cells; obtain ⟨z0, z1, z2, z3, z4⟩ := HW.out.free; have hb := HW.out.lt)
      | (go_at_call 131; refine (wrong_is T (T.size : Int) e f b _ (by first | exact HW.out | exact HW.out.drew _) hT).mono ?_; rintro r w6 ⟨rfl, hk6, hw6⟩; have HK := hide1 (HK.out.trans (by first | exact hk6 | exact but_undrew hk6)); have HW := hide1 hw6; clear hk6 hw6)
      | go_quiet (fail))
    all_goals
      go_ret
      rw [HE.out]
      exact ⟨rfl, ⟨Int.natCast_nonneg _, Int.le_refl _⟩, HK.out, HW.out⟩
  · rw [if_neg hk] at HE
    have hlt : k + 1 < (T.size : Int) := by omega
    by_cases hc110 : c = 110
    · rw [if_pos hc110] at HE
      go_wp2_with (first
        | (go_at_call 135; refine (peek_is T (k + 1) e f b _ (by first | exact (HR.out.drew _).move _ | exact HR.out.move _) (by omega) (by omega) hT).mono ?_; rintro r w6 ⟨rfl, m, hw6⟩; rw [HC.out]; have HK : Hid (KeptBut b w w6) := (by rw [hw6]; first | exact but_drew (but_set (but_drew (but_refl _ _) _) _ _) _ | exact but_drew (but_set (but_refl _ _) _ _) _); have HW : Hid (RAt w6 b T (k + 1) e f) := (by rw [hw6]; first | exact ((HR.out.drew _).move _).drew _ | exact (HR.out.move _).drew _); clear hw6; obtain ⟨c0, c1, c2, c3, c4⟩ := HW.out.cells; obtain ⟨z0, z1, z2, z3, z4⟩ := HW.out.free; have hb := HW.out.lt)
        | (go_at_call 133; refine (take_no T (k + 1) e f _ b _ (by first | exact HW.out | exact HW.out.drew _) (by omega) (by omega) hT (by rw [HC.out]; omega)).mono ?_; rintro r w6 ⟨rfl, hk6, hw6⟩; have HK := hide1 (HK.out.trans (by first | exact hk6 | exact but_undrew hk6)); have HW := hide1 hw6; obtain ⟨c0, c1, c2, c3, c4⟩ := hw6.cells; obtain ⟨z0, z1, z2, z3, z4⟩ := hw6.free; have hb := hw6.lt; clear hk6 hw6)
        | (go_at_call 133; refine (take_yes T (k + 1) e f _ b _ (by first | exact HW.out | exact HW.out.drew _) (by omega) (by omega) hT (by rw [HC.out]; omega)).mono ?_; rintro r w6 ⟨rfl, hk6, hw6⟩; have HK := hide1 (HK.out.trans (by first | exact hk6 | exact but_undrew hk6)); have HW := hide1 hw6; obtain ⟨c0, c1, c2, c3, c4⟩ := hw6.cells; obtain ⟨z0, z1, z2, z3, z4⟩ := hw6.free; have hb := hw6.lt; clear hk6 hw6)
        | go_quiet (fail))
      all_goals
        go_ret
        rw [HE.out]
        exact ⟨rfl, ⟨by show 0 ≤ k + 1 + 1; omega, by show k + 1 + 1 ≤ _; omega⟩, HK.out, HW.out⟩
    · rw [if_neg hc110] at HE
      by_cases hc114 : c = 114
      · rw [if_pos hc114] at HE
        go_wp2_with (first
          | (go_at_call 135; refine (peek_is T (k + 1) e f b _ (by first | exact (HR.out.drew _).move _ | exact HR.out.move _) (by omega) (by omega) hT).mono ?_; rintro r w6 ⟨rfl, m, hw6⟩; rw [HC.out]; have HK : Hid (KeptBut b w w6) := (by rw [hw6]; first | exact but_drew (but_set (but_drew (but_refl _ _) _) _ _) _ | exact but_drew (but_set (but_refl _ _) _ _) _); have HW : Hid (RAt w6 b T (k + 1) e f) := (by rw [hw6]; first | exact ((HR.out.drew _).move _).drew _ | exact (HR.out.move _).drew _); clear hw6; obtain ⟨c0, c1, c2, c3, c4⟩ := HW.out.cells; obtain ⟨z0, z1, z2, z3, z4⟩ := HW.out.free; have hb := HW.out.lt)
          | (go_at_call 133; refine (take_no T (k + 1) e f _ b _ (by first | exact HW.out | exact HW.out.drew _) (by omega) (by omega) hT (by rw [HC.out]; omega)).mono ?_; rintro r w6 ⟨rfl, hk6, hw6⟩; have HK := hide1 (HK.out.trans (by first | exact hk6 | exact but_undrew hk6)); have HW := hide1 hw6; obtain ⟨c0, c1, c2, c3, c4⟩ := hw6.cells; obtain ⟨z0, z1, z2, z3, z4⟩ := hw6.free; have hb := hw6.lt; clear hk6 hw6)
          | (go_at_call 133; refine (take_yes T (k + 1) e f _ b _ (by first | exact HW.out | exact HW.out.drew _) (by omega) (by omega) hT (by rw [HC.out]; omega)).mono ?_; rintro r w6 ⟨rfl, hk6, hw6⟩; have HK := hide1 (HK.out.trans (by first | exact hk6 | exact but_undrew hk6)); have HW := hide1 hw6; obtain ⟨c0, c1, c2, c3, c4⟩ := hw6.cells; obtain ⟨z0, z1, z2, z3, z4⟩ := hw6.free; have hb := hw6.lt; clear hk6 hw6)
          | go_quiet (fail))
        all_goals
          go_ret
          rw [HE.out]
          exact ⟨rfl, ⟨by show 0 ≤ k + 1 + 1; omega, by show k + 1 + 1 ≤ _; omega⟩, HK.out, HW.out⟩
      · rw [if_neg hc114] at HE
        by_cases hc116 : c = 116
        · rw [if_pos hc116] at HE
          go_wp2_with (first
            | (go_at_call 135; refine (peek_is T (k + 1) e f b _ (by first | exact (HR.out.drew _).move _ | exact HR.out.move _) (by omega) (by omega) hT).mono ?_; rintro r w6 ⟨rfl, m, hw6⟩; rw [HC.out]; have HK : Hid (KeptBut b w w6) := (by rw [hw6]; first | exact but_drew (but_set (but_drew (but_refl _ _) _) _ _) _ | exact but_drew (but_set (but_refl _ _) _ _) _); have HW : Hid (RAt w6 b T (k + 1) e f) := (by rw [hw6]; first | exact ((HR.out.drew _).move _).drew _ | exact (HR.out.move _).drew _); clear hw6; obtain ⟨c0, c1, c2, c3, c4⟩ := HW.out.cells; obtain ⟨z0, z1, z2, z3, z4⟩ := HW.out.free; have hb := HW.out.lt)
            | (go_at_call 133; refine (take_no T (k + 1) e f _ b _ (by first | exact HW.out | exact HW.out.drew _) (by omega) (by omega) hT (by rw [HC.out]; omega)).mono ?_; rintro r w6 ⟨rfl, hk6, hw6⟩; have HK := hide1 (HK.out.trans (by first | exact hk6 | exact but_undrew hk6)); have HW := hide1 hw6; obtain ⟨c0, c1, c2, c3, c4⟩ := hw6.cells; obtain ⟨z0, z1, z2, z3, z4⟩ := hw6.free; have hb := hw6.lt; clear hk6 hw6)
            | (go_at_call 133; refine (take_yes T (k + 1) e f _ b _ (by first | exact HW.out | exact HW.out.drew _) (by omega) (by omega) hT (by rw [HC.out]; omega)).mono ?_; rintro r w6 ⟨rfl, hk6, hw6⟩; have HK := hide1 (HK.out.trans (by first | exact hk6 | exact but_undrew hk6)); have HW := hide1 hw6; obtain ⟨c0, c1, c2, c3, c4⟩ := hw6.cells; obtain ⟨z0, z1, z2, z3, z4⟩ := hw6.free; have hb := hw6.lt; clear hk6 hw6)
            | go_quiet (fail))
          all_goals
            go_ret
            rw [HE.out]
            exact ⟨rfl, ⟨by show 0 ≤ k + 1 + 1; omega, by show k + 1 + 1 ≤ _; omega⟩, HK.out, HW.out⟩
        · rw [if_neg hc116] at HE
          by_cases hc120 : c = 120
          · rw [if_pos hc120] at HE
            go_wp2_with (first
              | (go_at_call 135; refine (peek_is T (k + 1) e f b _ (by first | exact (HR.out.drew _).move _ | exact HR.out.move _) (by omega) (by omega) hT).mono ?_; rintro r w6 ⟨rfl, m, hw6⟩; rw [HC.out]; have HK : Hid (KeptBut b w w6) := (by rw [hw6]; first | exact but_drew (but_set (but_drew (but_refl _ _) _) _ _) _ | exact but_drew (but_set (but_refl _ _) _ _) _); have HW : Hid (RAt w6 b T (k + 1) e f) := (by rw [hw6]; first | exact ((HR.out.drew _).move _).drew _ | exact (HR.out.move _).drew _); clear hw6; obtain ⟨c0, c1, c2, c3, c4⟩ := HW.out.cells; obtain ⟨z0, z1, z2, z3, z4⟩ := HW.out.free; have hb := HW.out.lt)
              | (go_at_call 133; refine (take_no T (k + 1) e f _ b _ (by first | exact HW.out | exact HW.out.drew _) (by omega) (by omega) hT (by rw [HC.out]; omega)).mono ?_; rintro r w6 ⟨rfl, hk6, hw6⟩; have HK := hide1 (HK.out.trans (by first | exact hk6 | exact but_undrew hk6)); have HW := hide1 hw6; obtain ⟨c0, c1, c2, c3, c4⟩ := hw6.cells; obtain ⟨z0, z1, z2, z3, z4⟩ := hw6.free; have hb := hw6.lt; clear hk6 hw6)
              | (go_at_call 133; refine (take_yes T (k + 1) e f _ b _ (by first | exact HW.out | exact HW.out.drew _) (by omega) (by omega) hT (by rw [HC.out]; omega)).mono ?_; rintro r w6 ⟨rfl, hk6, hw6⟩; have HK := hide1 (HK.out.trans (by first | exact hk6 | exact but_undrew hk6)); have HW := hide1 hw6; obtain ⟨c0, c1, c2, c3, c4⟩ := hw6.cells; obtain ⟨z0, z1, z2, z3, z4⟩ := hw6.free; have hb := hw6.lt; clear hk6 hw6)
              | (go_at_call 145; refine (hex_is T _ _ _ _ b _ (by first | exact HW.out | exact HW.out.drew _) (by omega) (by omega) hT).mono ?_; rintro r w6 ⟨rfl, hg6⟩; have HK := hide1 (HK.out.trans (by first | exact hg6.2.1 | exact but_undrew hg6.2.1)); have HW := hide1 hg6.2.2; obtain ⟨c0, c1, c2, c3, c4⟩ := hg6.2.2.cells; obtain ⟨z0, z1, z2, z3, z4⟩ := hg6.2.2.free; have hb := hg6.2.2.lt; have hpl := hg6.1; clear hg6)
              | go_quiet (fail))
            all_goals
              go_ret
              rw [HE.out]
              refine ⟨?_, hpl, HK.out, HW.out⟩
              have r1 := hexR_range T (k + 1 + 1, e, f) k
              have r2 := hexR_range T (hexR T (k + 1 + 1, e, f) k).2 k
              exact congrArg (fun x => Ending.returned (.int .i64 x)) (nib_or r1 r2)
          · rw [if_neg hc120] at HE
            by_cases hsp : c = 32
            · rw [show escBad c = true by simp [escBad, hsp], if_pos rfl] at HE
              go_wp2_with (first
                | (go_at_call 135; refine (peek_is T (k + 1) e f b _ (by first | exact (HR.out.drew _).move _ | exact HR.out.move _) (by omega) (by omega) hT).mono ?_; rintro r w6 ⟨rfl, m, hw6⟩; rw [HC.out]; have HK : Hid (KeptBut b w w6) := (by rw [hw6]; first | exact but_drew (but_set (but_drew (but_refl _ _) _) _ _) _ | exact but_drew (but_set (but_refl _ _) _ _) _); have HW : Hid (RAt w6 b T (k + 1) e f) := (by rw [hw6]; first | exact ((HR.out.drew _).move _).drew _ | exact (HR.out.move _).drew _); clear hw6; obtain ⟨c0, c1, c2, c3, c4⟩ := HW.out.cells; obtain ⟨z0, z1, z2, z3, z4⟩ := HW.out.free; have hb := HW.out.lt)
                | (go_at_call 133; refine (take_no T (k + 1) e f _ b _ (by first | exact HW.out | exact HW.out.drew _) (by omega) (by omega) hT (by rw [HC.out]; omega)).mono ?_; rintro r w6 ⟨rfl, hk6, hw6⟩; have HK := hide1 (HK.out.trans (by first | exact hk6 | exact but_undrew hk6)); have HW := hide1 hw6; obtain ⟨c0, c1, c2, c3, c4⟩ := hw6.cells; obtain ⟨z0, z1, z2, z3, z4⟩ := hw6.free; have hb := hw6.lt; clear hk6 hw6)
                | (go_at_call 134; refine (fail_is T _ e f _ _ b _ (by first | exact HW.out | exact HW.out.drew _)).mono ?_; rintro r w6 ⟨rfl, hk6, hw6⟩; have HK := hide1 (HK.out.trans (by first | exact hk6 | exact but_undrew hk6)); have HW := hide1 hw6; clear hk6 hw6)
                | (go_at_call 98; refine (printed_is _ _).mono ?_; rintro r w6 ⟨rfl, rfl⟩; rw [hpr])
                | (go_at_call 146; refine (letter_is _ _).mono ?_; rintro r w6 ⟨rfl, rfl⟩; rw [hle])
                | (go_at_call 147; refine (digit_is _ _).mono ?_; rintro r w6 ⟨rfl, rfl⟩; rw [hdi])
                | go_quiet (fail))
              all_goals
                go_ret
                rw [HE.out]
                exact ⟨rfl, ⟨Int.natCast_nonneg _, Int.le_refl _⟩, HK.out, HW.out⟩
            · cases hpr : printedP c
              · rw [show escBad c = true by simp [escBad, hpr], if_pos rfl] at HE
                go_wp2_with (first
                  | (go_at_call 135; refine (peek_is T (k + 1) e f b _ (by first | exact (HR.out.drew _).move _ | exact HR.out.move _) (by omega) (by omega) hT).mono ?_; rintro r w6 ⟨rfl, m, hw6⟩; rw [HC.out]; have HK : Hid (KeptBut b w w6) := (by rw [hw6]; first | exact but_drew (but_set (but_drew (but_refl _ _) _) _ _) _ | exact but_drew (but_set (but_refl _ _) _ _) _); have HW : Hid (RAt w6 b T (k + 1) e f) := (by rw [hw6]; first | exact ((HR.out.drew _).move _).drew _ | exact (HR.out.move _).drew _); clear hw6; obtain ⟨c0, c1, c2, c3, c4⟩ := HW.out.cells; obtain ⟨z0, z1, z2, z3, z4⟩ := HW.out.free; have hb := HW.out.lt)
                  | (go_at_call 133; refine (take_no T (k + 1) e f _ b _ (by first | exact HW.out | exact HW.out.drew _) (by omega) (by omega) hT (by rw [HC.out]; omega)).mono ?_; rintro r w6 ⟨rfl, hk6, hw6⟩; have HK := hide1 (HK.out.trans (by first | exact hk6 | exact but_undrew hk6)); have HW := hide1 hw6; obtain ⟨c0, c1, c2, c3, c4⟩ := hw6.cells; obtain ⟨z0, z1, z2, z3, z4⟩ := hw6.free; have hb := hw6.lt; clear hk6 hw6)
                  | (go_at_call 134; refine (fail_is T _ e f _ _ b _ (by first | exact HW.out | exact HW.out.drew _)).mono ?_; rintro r w6 ⟨rfl, hk6, hw6⟩; have HK := hide1 (HK.out.trans (by first | exact hk6 | exact but_undrew hk6)); have HW := hide1 hw6; clear hk6 hw6)
                  | (go_at_call 98; refine (printed_is _ _).mono ?_; rintro r w6 ⟨rfl, rfl⟩; rw [hpr])
                  | (go_at_call 146; refine (letter_is _ _).mono ?_; rintro r w6 ⟨rfl, rfl⟩; rw [hle])
                  | (go_at_call 147; refine (digit_is _ _).mono ?_; rintro r w6 ⟨rfl, rfl⟩; rw [hdi])
                  | go_quiet (fail))
                all_goals
                  go_ret
                  rw [HE.out]
                  exact ⟨rfl, ⟨Int.natCast_nonneg _, Int.le_refl _⟩, HK.out, HW.out⟩
              · cases hle : letterP c
                · cases hdi : digitP c
                  · rw [show escBad c = false by simp [escBad, hpr, hle, hdi, hsp], if_neg (by simp)] at HE
                    go_wp2_with (first
                      | (go_at_call 135; refine (peek_is T (k + 1) e f b _ (by first | exact (HR.out.drew _).move _ | exact HR.out.move _) (by omega) (by omega) hT).mono ?_; rintro r w6 ⟨rfl, m, hw6⟩; rw [HC.out]; have HK : Hid (KeptBut b w w6) := (by rw [hw6]; first | exact but_drew (but_set (but_drew (but_refl _ _) _) _ _) _ | exact but_drew (but_set (but_refl _ _) _ _) _); have HW : Hid (RAt w6 b T (k + 1) e f) := (by rw [hw6]; first | exact ((HR.out.drew _).move _).drew _ | exact (HR.out.move _).drew _); clear hw6; obtain ⟨c0, c1, c2, c3, c4⟩ := HW.out.cells; obtain ⟨z0, z1, z2, z3, z4⟩ := HW.out.free; have hb := HW.out.lt)
                      | (go_at_call 133; refine (take_no T (k + 1) e f _ b _ (by first | exact HW.out | exact HW.out.drew _) (by omega) (by omega) hT (by rw [HC.out]; omega)).mono ?_; rintro r w6 ⟨rfl, hk6, hw6⟩; have HK := hide1 (HK.out.trans (by first | exact hk6 | exact but_undrew hk6)); have HW := hide1 hw6; obtain ⟨c0, c1, c2, c3, c4⟩ := hw6.cells; obtain ⟨z0, z1, z2, z3, z4⟩ := hw6.free; have hb := hw6.lt; clear hk6 hw6)
                      | (go_at_call 134; refine (fail_is T _ e f _ _ b _ (by first | exact HW.out | exact HW.out.drew _)).mono ?_; rintro r w6 ⟨rfl, hk6, hw6⟩; have HK := hide1 (HK.out.trans (by first | exact hk6 | exact but_undrew hk6)); have HW := hide1 hw6; clear hk6 hw6)
                      | (go_at_call 98; refine (printed_is _ _).mono ?_; rintro r w6 ⟨rfl, rfl⟩; rw [hpr])
                      | (go_at_call 146; refine (letter_is _ _).mono ?_; rintro r w6 ⟨rfl, rfl⟩; rw [hle])
                      | (go_at_call 147; refine (digit_is _ _).mono ?_; rintro r w6 ⟨rfl, rfl⟩; rw [hdi])
                      | go_quiet (fail))
                    all_goals
                      go_ret
                      rw [HE.out]
                      exact ⟨rfl, ⟨by show 0 ≤ k + 1 + 1; omega, by show k + 1 + 1 ≤ _; omega⟩, but_set HK.out _ _, HW.out.move _⟩
                  · rw [show escBad c = true by simp [escBad, hpr, hle, hdi], if_pos rfl] at HE
                    go_wp2_with (first
                      | (go_at_call 135; refine (peek_is T (k + 1) e f b _ (by first | exact (HR.out.drew _).move _ | exact HR.out.move _) (by omega) (by omega) hT).mono ?_; rintro r w6 ⟨rfl, m, hw6⟩; rw [HC.out]; have HK : Hid (KeptBut b w w6) := (by rw [hw6]; first | exact but_drew (but_set (but_drew (but_refl _ _) _) _ _) _ | exact but_drew (but_set (but_refl _ _) _ _) _); have HW : Hid (RAt w6 b T (k + 1) e f) := (by rw [hw6]; first | exact ((HR.out.drew _).move _).drew _ | exact (HR.out.move _).drew _); clear hw6; obtain ⟨c0, c1, c2, c3, c4⟩ := HW.out.cells; obtain ⟨z0, z1, z2, z3, z4⟩ := HW.out.free; have hb := HW.out.lt)
                      | (go_at_call 133; refine (take_no T (k + 1) e f _ b _ (by first | exact HW.out | exact HW.out.drew _) (by omega) (by omega) hT (by rw [HC.out]; omega)).mono ?_; rintro r w6 ⟨rfl, hk6, hw6⟩; have HK := hide1 (HK.out.trans (by first | exact hk6 | exact but_undrew hk6)); have HW := hide1 hw6; obtain ⟨c0, c1, c2, c3, c4⟩ := hw6.cells; obtain ⟨z0, z1, z2, z3, z4⟩ := hw6.free; have hb := hw6.lt; clear hk6 hw6)
                      | (go_at_call 134; refine (fail_is T _ e f _ _ b _ (by first | exact HW.out | exact HW.out.drew _)).mono ?_; rintro r w6 ⟨rfl, hk6, hw6⟩; have HK := hide1 (HK.out.trans (by first | exact hk6 | exact but_undrew hk6)); have HW := hide1 hw6; clear hk6 hw6)
                      | (go_at_call 98; refine (printed_is _ _).mono ?_; rintro r w6 ⟨rfl, rfl⟩; rw [hpr])
                      | (go_at_call 146; refine (letter_is _ _).mono ?_; rintro r w6 ⟨rfl, rfl⟩; rw [hle])
                      | (go_at_call 147; refine (digit_is _ _).mono ?_; rintro r w6 ⟨rfl, rfl⟩; rw [hdi])
                      | go_quiet (fail))
                    all_goals
                      go_ret
                      rw [HE.out]
                      exact ⟨rfl, ⟨Int.natCast_nonneg _, Int.le_refl _⟩, HK.out, HW.out⟩
                · rw [show escBad c = true by simp [escBad, hpr, hle], if_pos rfl] at HE
                  go_wp2_with (first
                    | (go_at_call 135; refine (peek_is T (k + 1) e f b _ (by first | exact (HR.out.drew _).move _ | exact HR.out.move _) (by omega) (by omega) hT).mono ?_; rintro r w6 ⟨rfl, m, hw6⟩; rw [HC.out]; have HK : Hid (KeptBut b w w6) := (by rw [hw6]; first | exact but_drew (but_set (but_drew (but_refl _ _) _) _ _) _ | exact but_drew (but_set (but_refl _ _) _ _) _); have HW : Hid (RAt w6 b T (k + 1) e f) := (by rw [hw6]; first | exact ((HR.out.drew _).move _).drew _ | exact (HR.out.move _).drew _); clear hw6; obtain ⟨c0, c1, c2, c3, c4⟩ := HW.out.cells; obtain ⟨z0, z1, z2, z3, z4⟩ := HW.out.free; have hb := HW.out.lt)
                    | (go_at_call 133; refine (take_no T (k + 1) e f _ b _ (by first | exact HW.out | exact HW.out.drew _) (by omega) (by omega) hT (by rw [HC.out]; omega)).mono ?_; rintro r w6 ⟨rfl, hk6, hw6⟩; have HK := hide1 (HK.out.trans (by first | exact hk6 | exact but_undrew hk6)); have HW := hide1 hw6; obtain ⟨c0, c1, c2, c3, c4⟩ := hw6.cells; obtain ⟨z0, z1, z2, z3, z4⟩ := hw6.free; have hb := hw6.lt; clear hk6 hw6)
                    | (go_at_call 134; refine (fail_is T _ e f _ _ b _ (by first | exact HW.out | exact HW.out.drew _)).mono ?_; rintro r w6 ⟨rfl, hk6, hw6⟩; have HK := hide1 (HK.out.trans (by first | exact hk6 | exact but_undrew hk6)); have HW := hide1 hw6; clear hk6 hw6)
                    | (go_at_call 98; refine (printed_is _ _).mono ?_; rintro r w6 ⟨rfl, rfl⟩; rw [hpr])
                    | (go_at_call 146; refine (letter_is _ _).mono ?_; rintro r w6 ⟨rfl, rfl⟩; rw [hle])
                    | (go_at_call 147; refine (digit_is _ _).mono ?_; rintro r w6 ⟨rfl, rfl⟩; rw [hdi])
                    | go_quiet (fail))
                  all_goals
                    go_ret
                    rw [HE.out]
                    exact ⟨rfl, ⟨Int.natCast_nonneg _, Int.le_refl _⟩, HK.out, HW.out⟩
end Ex
end Go.Proofs.YtbnchnlogikecaaGreatDoor
