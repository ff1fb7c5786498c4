import Derived.Test.YtnffjobobegieaaDoorMExRd3
namespace Go.Proofs.YtnffjobobegieaaDoor
open Go.RowKit
attribute [local go_sem] Oper.semAt_some
namespace Ex

/-- What a hex digit says; -1 of what is none. -/
def hexV (c : Int) : Int := if digitP c then c - 48 else if 97 ≤ c ∧ c ≤ 102 then c - 87 else if 65 ≤ c ∧ c ≤ 70 then c - 55 else -1
def hexR (T : ByteArray) (s : Int × Int × Int) (o : Int) : Int × Int × Int × Int := if s.1 = T.size then (0, wrongS T s) else if hexV (peekP T s.1) < 0 then (0, failS T s 22 o) else (hexV (peekP T s.1), s.1 + 1, s.2)
theorem hexV_le (c : Int) : hexV c ≤ 15 := by
  unfold hexV digitP
  simp only [Bool.and_eq_true, decide_eq_true_eq]
  split
  · omega
  · split
    · omega
    · split <;> omega
theorem hexR_range (T : ByteArray) (s : Int × Int × Int) (o : Int) : 0 ≤ (hexR T s o).1 ∧ (hexR T s o).1 ≤ 15 := by
  unfold hexR
  split
  · simp
  · split
    · simp
    · exact ⟨by show 0 ≤ hexV _; omega, hexV_le _⟩

set_option linter.unusedSimpArgs false in
set_option maxRecDepth 100000 in
set_option maxHeartbeats 2000000 in
theorem hex_is (T : ByteArray) (k e f o : Int) (b : Nat) (w : World) (h : RAt w b T k e f) (h0 : 0 ≤ k) (h1 : k ≤ T.size) (hT : T.size ≤ 4096) :
    Calls Tryd.prog 78 #[.pointer (some ⟨b, 0, none⟩), .int .i64 o] w fun r w' => r = .returned (.int .i64 (hexR T (k, e, f) o).1) ∧ RGave b w T (hexR T (k, e, f) o).2 w' := by
  have HR := hide1 h
  obtain ⟨c0, c1, c2, c3, c4⟩ := h.cells
  obtain ⟨z0, z1, z2, z3, z4⟩ := h.free
  have hb := h.lt
  have gT : (T.size : Int) ≤ 4096 := by omega
  clear h
  have hc := peek_byte T k
  unfold IsB at hc
  have HE : Hid (hexR T (k, e, f) o = if k = T.size then (0, wrongS T (k, e, f)) else if hexV (peekP T k) < 0 then (0, failS T (k, e, f) 22 o) else (hexV (peekP T k), k + 1, e, f)) := rfl
  obtain ⟨c, hcc⟩ : ∃ c, peekP T k = c := ⟨_, rfl⟩
  rw [hcc] at hc HE
  have HC := hide1 hcc
  clear hcc
  go_enter Tryd.func78, Tryd.ntmps78
  by_cases hk : k = (T.size : Int)
  · rw [if_pos hk] at HE
    subst hk
    go_wp2_with (first
      | (go_at_call 43; refine (peek_is T _ e f b _ (by exact HR.out) h0 h1 hT).mono ?_; rintro e w6 ⟨rfl, m, rfl⟩; rw [HC.out])
      | (go_at_call 24; refine (wrong_is T _ e f b _ (by exact HR.out) hT).mono ?_; rintro e w6 ⟨rfl, hk6, hw6⟩; have HK6 := hide1 (but_undrew hk6); have HW6 := hide1 hw6; clear hk6 hw6)
      | go_quiet (fail))
    all_goals
      go_ret
      rw [HE.out]
      exact ⟨rfl, ⟨Int.natCast_nonneg _, Int.le_refl _⟩, by first | exact HK6.out | exact but_undrew HK6.out, HW6.out⟩
  · have hlt : k < (T.size : Int) := by omega
    rw [if_neg hk] at HE
    by_cases hd : digitP c = true
    · have hd2 : 48 ≤ c ∧ c ≤ 57 := by unfold digitP at hd; simpa using hd
      have hv : hexV c = c - 48 := by unfold hexV; rw [if_pos hd]
      have HV := hide1 hv
      clear hv
      go_wp2_with (first
        | (go_at_call 43; refine (peek_is T _ e f b _ (by exact HR.out) h0 h1 hT).mono ?_; rintro e w6 ⟨rfl, m, rfl⟩; rw [HC.out])
        | (go_at_call 80; refine (digit_is _ _).mono ?_; rintro e w6 ⟨rfl, rfl⟩; rw [hd])
        | go_quiet (fail))
      all_goals
        go_ret
        rw [HE.out, HV.out, if_neg (by omega)]
        exact ⟨rfl, ⟨by show 0 ≤ k + 1; omega, by show k + 1 ≤ _; omega⟩, but_set (by first | exact but_drew (but_refl _ _) _ | exact but_drew (but_drew (but_refl _ _) _) _) _ _, (HR.out.drew _).move _⟩
    · have hd' : digitP c = false := by simpa using hd
      by_cases ha : 97 ≤ c ∧ c ≤ 102
      · have hv : hexV c = c - 87 := by unfold hexV; rw [if_neg hd, if_pos ha]
        have HV := hide1 hv
        clear hv
        obtain ⟨ha1, ha2⟩ := ha
        go_wp2_with (first
          | (go_at_call 43; refine (peek_is T _ e f b _ (by exact HR.out) h0 h1 hT).mono ?_; rintro e w6 ⟨rfl, m, rfl⟩; rw [HC.out])
          | (go_at_call 80; refine (digit_is _ _).mono ?_; rintro e w6 ⟨rfl, rfl⟩; rw [hd'])
          | go_quiet (fail))
        all_goals
          go_ret
          rw [HE.out, HV.out, if_neg (by omega)]
          refine ⟨by go_num, ⟨by show 0 ≤ k + 1; omega, by show k + 1 ≤ _; omega⟩, but_set (by first | exact but_drew (but_refl _ _) _ | exact but_drew (but_drew (but_refl _ _) _) _) _ _, (HR.out.drew _).move _⟩
      · by_cases hA : 65 ≤ c ∧ c ≤ 70
        · have hv : hexV c = c - 55 := by unfold hexV; rw [if_neg hd, if_neg ha, if_pos hA]
          have HV := hide1 hv
          clear hv
          obtain ⟨ha1, ha2⟩ := hA
          go_wp2_with (first
            | (go_at_call 43; refine (peek_is T _ e f b _ (by exact HR.out) h0 h1 hT).mono ?_; rintro e w6 ⟨rfl, m, rfl⟩; rw [HC.out])
            | (go_at_call 80; refine (digit_is _ _).mono ?_; rintro e w6 ⟨rfl, rfl⟩; rw [hd'])
            | go_quiet (fail))
          all_goals
            go_ret
            rw [HE.out, HV.out, if_neg (by omega)]
            refine ⟨by go_num, ⟨by show 0 ≤ k + 1; omega, by show k + 1 ≤ _; omega⟩, but_set (by first | exact but_drew (but_refl _ _) _ | exact but_drew (but_drew (but_refl _ _) _) _) _ _, (HR.out.drew _).move _⟩
        · have hv : hexV c = -1 := by unfold hexV; rw [if_neg hd, if_neg ha, if_neg hA]
          have HV := hide1 hv
          clear hv
          go_wp2_with (first
            | (go_at_call 43; refine (peek_is T _ e f b _ (by exact HR.out) h0 h1 hT).mono ?_; rintro e w6 ⟨rfl, m, rfl⟩; rw [HC.out])
            | (go_at_call 80; refine (digit_is _ _).mono ?_; rintro e w6 ⟨rfl, rfl⟩; rw [hd'])
            | (go_at_call 34; refine (fail_is T _ e f _ _ b _ (by exact (HR.out.drew _).move _)).mono ?_; rintro e w6 ⟨rfl, hk6, hw6⟩; have HK6 := hide1 hk6; have HW6 := hide1 hw6; clear hk6 hw6)
            | go_quiet (fail))
          all_goals
            go_ret
            rw [HE.out, HV.out, if_pos (by omega)]
            exact ⟨rfl, ⟨Int.natCast_nonneg _, Int.le_refl _⟩, (but_set (by first | exact but_drew (but_refl _ _) _ | exact but_drew (but_drew (but_refl _ _) _) _) _ _).trans HK6.out, HW6.out⟩

end Ex
end Go.Proofs.YtnffjobobegieaaDoor
namespace Go.Proofs.YtnffjobobegieaaDoor
open Go.RowKit
attribute [local go_sem] Oper.semAt_some
namespace Ex

theorem take_no (T : ByteArray) (k e f c : Int) (b : Nat) (w : World) (h : RAt w b T k e f) (h0 : 0 ≤ k) (h1 : k ≤ T.size) (hT : T.size ≤ 4096) (hc : peekP T k ≠ c) :
    Calls Tryd.prog 33 #[.pointer (some ⟨b, 0, none⟩), .int .u8 c] w fun r w' => r = .returned (.bool false) ∧ KeptBut b w w' ∧ RAt w' b T k e f := by
  refine (take_is T k e f c b w h h0 h1 hT).mono ?_
  rintro r w' ⟨rfl, h2, h3⟩
  rw [takeK, if_neg hc] at h3
  exact ⟨by simp [hc], h2, h3⟩
theorem take_yes (T : ByteArray) (k e f c : Int) (b : Nat) (w : World) (h : RAt w b T k e f) (h0 : 0 ≤ k) (h1 : k ≤ T.size) (hT : T.size ≤ 4096) (hc : peekP T k = c) :
    Calls Tryd.prog 33 #[.pointer (some ⟨b, 0, none⟩), .int .u8 c] w fun r w' => r = .returned (.bool true) ∧ KeptBut b w w' ∧ RAt w' b T (k + 1) e f := by
  refine (take_is T k e f c b w h h0 h1 hT).mono ?_
  rintro r w' ⟨rfl, h2, h3⟩
  rw [takeK, if_pos hc] at h3
  exact ⟨by simp [hc], h2, h3⟩

/-- An escape that begins at s. -/
def escBad (c : Int) : Bool := decide (c = 32) || !printedP c || letterP c || digitP c
def escapeS (T : ByteArray) (s : Int × Int × Int) : Int × Int × Int × Int :=
  if s.1 + 1 = T.size then (0, wrongS T (s.1 + 1, s.2)) else
  if peekP T (s.1 + 1) = 110 then (10, s.1 + 1 + 1, s.2) else
  if peekP T (s.1 + 1) = 114 then (13, s.1 + 1 + 1, s.2) else
  if peekP T (s.1 + 1) = 116 then (9, s.1 + 1 + 1, s.2) else
  if peekP T (s.1 + 1) = 120 then ((hexR T (s.1 + 1 + 1, s.2) s.1).1 * 16 + (hexR T (hexR T (s.1 + 1 + 1, s.2) s.1).2 s.1).1, (hexR T (hexR T (s.1 + 1 + 1, s.2) s.1).2 s.1).2) else
  if escBad (peekP T (s.1 + 1)) then (0, failS T s 22 s.1) else (peekP T (s.1 + 1), s.1 + 1 + 1, s.2)

def nibB : Bool := (List.range 16).all fun x => (List.range 16).all fun y => decide (bits .or .i64 (wrap64 ((x : Int) * 16)) (y : Int) = (x : Int) * 16 + (y : Int))
theorem nibB_is : nibB = true := by kernel_rfl
theorem nib_all (x y : Nat) (hx : x < 16) (hy : y < 16) : bits .or .i64 (wrap64 ((x : Int) * 16)) (y : Int) = (x : Int) * 16 + (y : Int) :=
  of_decide_eq_true (List.all_eq_true.1 (List.all_eq_true.1 nibB_is x (List.mem_range.2 hx)) y (List.mem_range.2 hy))
theorem nib_or {x y : Int} (hx : 0 ≤ x ∧ x ≤ 15) (hy : 0 ≤ y ∧ y ≤ 15) : bits .or .i64 (wrap64 (x * 16)) y = x * 16 + y := by
  obtain ⟨a, rfl⟩ := Int.eq_ofNat_of_zero_le hx.1
  obtain ⟨c, rfl⟩ := Int.eq_ofNat_of_zero_le hy.1
  exact nib_all a c (by omega) (by omega)

set_option linter.unusedSimpArgs false in
set_option maxRecDepth 100000 in
set_option maxHeartbeats 4000000 in
theorem escape_is (T : ByteArray) (k e f : Int) (b : Nat) (w : World) (h : RAt w b T k e f) (h0 : 0 ≤ k) (h1 : k < T.size) (hT : T.size ≤ 4096) :
    Calls Tryd.prog 59 #[.pointer (some ⟨b, 0, none⟩)] w fun r w' => r = .returned (.int .i64 (escapeS T (k, e, f)).1) ∧ RGave b w T (escapeS T (k, e, f)).2 w' := by
  have HR := hide1 h
  obtain ⟨c0, c1, c2, c3, c4⟩ := h.cells
  obtain ⟨z0, z1, z2, z3, z4⟩ := h.free
  have hb := h.lt
  have gT : (T.size : Int) ≤ 4096 := by omega
  clear h
  have hc := peek_byte T (k + 1)
  unfold IsB at hc
  have HE : Hid (escapeS T (k, e, f) =   if k + 1 = T.size then (0, wrongS T (k + 1, e, f)) else
  if peekP T (k + 1) = 110 then (10, k + 1 + 1, e, f) else
  if peekP T (k + 1) = 114 then (13, k + 1 + 1, e, f) else
  if peekP T (k + 1) = 116 then (9, k + 1 + 1, e, f) else
  if peekP T (k + 1) = 120 then ((hexR T (k + 1 + 1, e, f) k).1 * 16 + (hexR T (hexR T (k + 1 + 1, e, f) k).2 k).1, (hexR T (hexR T (k + 1 + 1, e, f) k).2 k).2) else
  if escBad (peekP T (k + 1)) then (0, failS T (k, e, f) 22 k) else (peekP T (k + 1), k + 1 + 1, e, f)) := rfl
  obtain ⟨c, hcc⟩ : ∃ c, peekP T (k + 1) = c := ⟨_, rfl⟩
  rw [hcc] at hc HE
  have HC := hide1 hcc
  clear hcc
  go_enter Tryd.func59, Tryd.ntmps59

  by_cases hk : k + 1 = (T.size : Int)
  · rw [if_pos hk] at HE
    rw [hk] at HE HC
    go_wp2_with (first
      | (go_at_call 43; refine (peek_is T (T.size : Int) e f b _ (by first | exact (HR.out.drew _).move _ | exact HR.out.move _) (by omega) (by omega) hT).mono ?_; rintro r w6 ⟨rfl, m, hw6⟩; rw [HC.out]; have HK : Hid (KeptBut b w w6) := (by rw [hw6]; first | exact but_drew (but_set (but_drew (but_refl _ _) _) _ _) _ | exact but_drew (but_set (but_refl _ _) _ _) _); have HW : Hid (RAt w6 b T (T.size : Int) e f) := (by rw [hw6]; first | exact ((HR.out.drew _).move _).drew _ | exact (HR.out.move _).drew _); clear hw6; obtain ⟨c0, c1, c2, c3, c4⟩ := HW.out.cells; obtain ⟨z0, z1, z2, z3, z4⟩ := HW.out.free; have hb := HW.out.lt)
      | (go_at_call 24; refine (wrong_is T (T.size : Int) e f b _ (by first | exact HW.out | exact HW.out.drew _) hT).mono ?_; rintro r w6 ⟨rfl, hk6, hw6⟩; have HK := hide1 (HK.out.trans (by first | exact hk6 | exact but_undrew hk6)); have HW := hide1 hw6; clear hk6 hw6)
      | go_quiet (fail))
    all_goals
      go_ret
      rw [HE.out]
      exact ⟨rfl, ⟨Int.natCast_nonneg _, Int.le_refl _⟩, HK.out, HW.out⟩
  · rw [if_neg hk] at HE
    have hlt : k + 1 < (T.size : Int) := by omega
    by_cases hc110 : c = 110
    · rw [if_pos hc110] at HE
      go_wp2_with (first
        | (go_at_call 43; refine (peek_is T (k + 1) e f b _ (by first | exact (HR.out.drew _).move _ | exact HR.out.move _) (by omega) (by omega) hT).mono ?_; rintro r w6 ⟨rfl, m, hw6⟩; rw [HC.out]; have HK : Hid (KeptBut b w w6) := (by rw [hw6]; first | exact but_drew (but_set (but_drew (but_refl _ _) _) _ _) _ | exact but_drew (but_set (but_refl _ _) _ _) _); have HW : Hid (RAt w6 b T (k + 1) e f) := (by rw [hw6]; first | exact ((HR.out.drew _).move _).drew _ | exact (HR.out.move _).drew _); clear hw6; obtain ⟨c0, c1, c2, c3, c4⟩ := HW.out.cells; obtain ⟨z0, z1, z2, z3, z4⟩ := HW.out.free; have hb := HW.out.lt)
        | (go_at_call 33; refine (take_no T (k + 1) e f _ b _ (by first | exact HW.out | exact HW.out.drew _) (by omega) (by omega) hT (by rw [HC.out]; omega)).mono ?_; rintro r w6 ⟨rfl, hk6, hw6⟩; have HK := hide1 (HK.out.trans (by first | exact hk6 | exact but_undrew hk6)); have HW := hide1 hw6; obtain ⟨c0, c1, c2, c3, c4⟩ := hw6.cells; obtain ⟨z0, z1, z2, z3, z4⟩ := hw6.free; have hb := hw6.lt; clear hk6 hw6)
        | (go_at_call 33; refine (take_yes T (k + 1) e f _ b _ (by first | exact HW.out | exact HW.out.drew _) (by omega) (by omega) hT (by rw [HC.out]; omega)).mono ?_; rintro r w6 ⟨rfl, hk6, hw6⟩; have HK := hide1 (HK.out.trans (by first | exact hk6 | exact but_undrew hk6)); have HW := hide1 hw6; obtain ⟨c0, c1, c2, c3, c4⟩ := hw6.cells; obtain ⟨z0, z1, z2, z3, z4⟩ := hw6.free; have hb := hw6.lt; clear hk6 hw6)
        | go_quiet (fail))
      all_goals
        go_ret
        rw [HE.out]
        exact ⟨rfl, ⟨by show 0 ≤ k + 1 + 1; omega, by show k + 1 + 1 ≤ _; omega⟩, HK.out, HW.out⟩
    · rw [if_neg hc110] at HE
      by_cases hc114 : c = 114
      · rw [if_pos hc114] at HE
        go_wp2_with (first
          | (go_at_call 43; refine (peek_is T (k + 1) e f b _ (by first | exact (HR.out.drew _).move _ | exact HR.out.move _) (by omega) (by omega) hT).mono ?_; rintro r w6 ⟨rfl, m, hw6⟩; rw [HC.out]; have HK : Hid (KeptBut b w w6) := (by rw [hw6]; first | exact but_drew (but_set (but_drew (but_refl _ _) _) _ _) _ | exact but_drew (but_set (but_refl _ _) _ _) _); have HW : Hid (RAt w6 b T (k + 1) e f) := (by rw [hw6]; first | exact ((HR.out.drew _).move _).drew _ | exact (HR.out.move _).drew _); clear hw6; obtain ⟨c0, c1, c2, c3, c4⟩ := HW.out.cells; obtain ⟨z0, z1, z2, z3, z4⟩ := HW.out.free; have hb := HW.out.lt)
          | (go_at_call 33; refine (take_no T (k + 1) e f _ b _ (by first | exact HW.out | exact HW.out.drew _) (by omega) (by omega) hT (by rw [HC.out]; omega)).mono ?_; rintro r w6 ⟨rfl, hk6, hw6⟩; have HK := hide1 (HK.out.trans (by first | exact hk6 | exact but_undrew hk6)); have HW := hide1 hw6; obtain ⟨c0, c1, c2, c3, c4⟩ := hw6.cells; obtain ⟨z0, z1, z2, z3, z4⟩ := hw6.free; have hb := hw6.lt; clear hk6 hw6)
          | (go_at_call 33; refine (take_yes T (k + 1) e f _ b _ (by first | exact HW.out | exact HW.out.drew _) (by omega) (by omega) hT (by rw [HC.out]; omega)).mono ?_; rintro r w6 ⟨rfl, hk6, hw6⟩; have HK := hide1 (HK.out.trans (by first | exact hk6 | exact but_undrew hk6)); have HW := hide1 hw6; obtain ⟨c0, c1, c2, c3, c4⟩ := hw6.cells; obtain ⟨z0, z1, z2, z3, z4⟩ := hw6.free; have hb := hw6.lt; clear hk6 hw6)
          | go_quiet (fail))
        all_goals
          go_ret
          rw [HE.out]
          exact ⟨rfl, ⟨by show 0 ≤ k + 1 + 1; omega, by show k + 1 + 1 ≤ _; omega⟩, HK.out, HW.out⟩
      · rw [if_neg hc114] at HE
        by_cases hc116 : c = 116
        · rw [if_pos hc116] at HE
          go_wp2_with (first
            | (go_at_call 43; refine (peek_is T (k + 1) e f b _ (by first | exact (HR.out.drew _).move _ | exact HR.out.move _) (by omega) (by omega) hT).mono ?_; rintro r w6 ⟨rfl, m, hw6⟩; rw [HC.out]; have HK : Hid (KeptBut b w w6) := (by rw [hw6]; first | exact but_drew (but_set (but_drew (but_refl _ _) _) _ _) _ | exact but_drew (but_set (but_refl _ _) _ _) _); have HW : Hid (RAt w6 b T (k + 1) e f) := (by rw [hw6]; first | exact ((HR.out.drew _).move _).drew _ | exact (HR.out.move _).drew _); clear hw6; obtain ⟨c0, c1, c2, c3, c4⟩ := HW.out.cells; obtain ⟨z0, z1, z2, z3, z4⟩ := HW.out.free; have hb := HW.out.lt)
            | (go_at_call 33; refine (take_no T (k + 1) e f _ b _ (by first | exact HW.out | exact HW.out.drew _) (by omega) (by omega) hT (by rw [HC.out]; omega)).mono ?_; rintro r w6 ⟨rfl, hk6, hw6⟩; have HK := hide1 (HK.out.trans (by first | exact hk6 | exact but_undrew hk6)); have HW := hide1 hw6; obtain ⟨c0, c1, c2, c3, c4⟩ := hw6.cells; obtain ⟨z0, z1, z2, z3, z4⟩ := hw6.free; have hb := hw6.lt; clear hk6 hw6)
            | (go_at_call 33; refine (take_yes T (k + 1) e f _ b _ (by first | exact HW.out | exact HW.out.drew _) (by omega) (by omega) hT (by rw [HC.out]; omega)).mono ?_; rintro r w6 ⟨rfl, hk6, hw6⟩; have HK := hide1 (HK.out.trans (by first | exact hk6 | exact but_undrew hk6)); have HW := hide1 hw6; obtain ⟨c0, c1, c2, c3, c4⟩ := hw6.cells; obtain ⟨z0, z1, z2, z3, z4⟩ := hw6.free; have hb := hw6.lt; clear hk6 hw6)
            | go_quiet (fail))
          all_goals
            go_ret
            rw [HE.out]
            exact ⟨rfl, ⟨by show 0 ≤ k + 1 + 1; omega, by show k + 1 + 1 ≤ _; omega⟩, HK.out, HW.out⟩
        · rw [if_neg hc116] at HE
          by_cases hc120 : c = 120
          · rw [if_pos hc120] at HE
            go_wp2_with (first
              | (go_at_call 43; refine (peek_is T (k + 1) e f b _ (by first | exact (HR.out.drew _).move _ | exact HR.out.move _) (by omega) (by omega) hT).mono ?_; rintro r w6 ⟨rfl, m, hw6⟩; rw [HC.out]; have HK : Hid (KeptBut b w w6) := (by rw [hw6]; first | exact but_drew (but_set (but_drew (but_refl _ _) _) _ _) _ | exact but_drew (but_set (but_refl _ _) _ _) _); have HW : Hid (RAt w6 b T (k + 1) e f) := (by rw [hw6]; first | exact ((HR.out.drew _).move _).drew _ | exact (HR.out.move _).drew _); clear hw6; obtain ⟨c0, c1, c2, c3, c4⟩ := HW.out.cells; obtain ⟨z0, z1, z2, z3, z4⟩ := HW.out.free; have hb := HW.out.lt)
              | (go_at_call 33; refine (take_no T (k + 1) e f _ b _ (by first | exact HW.out | exact HW.out.drew _) (by omega) (by omega) hT (by rw [HC.out]; omega)).mono ?_; rintro r w6 ⟨rfl, hk6, hw6⟩; have HK := hide1 (HK.out.trans (by first | exact hk6 | exact but_undrew hk6)); have HW := hide1 hw6; obtain ⟨c0, c1, c2, c3, c4⟩ := hw6.cells; obtain ⟨z0, z1, z2, z3, z4⟩ := hw6.free; have hb := hw6.lt; clear hk6 hw6)
              | (go_at_call 33; refine (take_yes T (k + 1) e f _ b _ (by first | exact HW.out | exact HW.out.drew _) (by omega) (by omega) hT (by rw [HC.out]; omega)).mono ?_; rintro r w6 ⟨rfl, hk6, hw6⟩; have HK := hide1 (HK.out.trans (by first | exact hk6 | exact but_undrew hk6)); have HW := hide1 hw6; obtain ⟨c0, c1, c2, c3, c4⟩ := hw6.cells; obtain ⟨z0, z1, z2, z3, z4⟩ := hw6.free; have hb := hw6.lt; clear hk6 hw6)
              | (go_at_call 78; refine (hex_is T _ _ _ _ b _ (by first | exact HW.out | exact HW.out.drew _) (by omega) (by omega) hT).mono ?_; rintro r w6 ⟨rfl, hg6⟩; have HK := hide1 (HK.out.trans (by first | exact hg6.2.1 | exact but_undrew hg6.2.1)); have HW := hide1 hg6.2.2; obtain ⟨c0, c1, c2, c3, c4⟩ := hg6.2.2.cells; obtain ⟨z0, z1, z2, z3, z4⟩ := hg6.2.2.free; have hb := hg6.2.2.lt; have hpl := hg6.1; clear hg6)
              | go_quiet (fail))
            all_goals
              go_ret
              rw [HE.out]
              refine ⟨?_, hpl, HK.out, HW.out⟩
              have r1 := hexR_range T (k + 1 + 1, e, f) k
              have r2 := hexR_range T (hexR T (k + 1 + 1, e, f) k).2 k
              exact congrArg (fun x => Ending.returned (.int .i64 x)) (nib_or r1 r2)
          · rw [if_neg hc120] at HE
            by_cases hsp : c = 32
            · rw [show escBad c = true by simp [escBad, hsp], if_pos rfl] at HE
              go_wp2_with (first
                | (go_at_call 43; refine (peek_is T (k + 1) e f b _ (by first | exact (HR.out.drew _).move _ | exact HR.out.move _) (by omega) (by omega) hT).mono ?_; rintro r w6 ⟨rfl, m, hw6⟩; rw [HC.out]; have HK : Hid (KeptBut b w w6) := (by rw [hw6]; first | exact but_drew (but_set (but_drew (but_refl _ _) _) _ _) _ | exact but_drew (but_set (but_refl _ _) _ _) _); have HW : Hid (RAt w6 b T (k + 1) e f) := (by rw [hw6]; first | exact ((HR.out.drew _).move _).drew _ | exact (HR.out.move _).drew _); clear hw6; obtain ⟨c0, c1, c2, c3, c4⟩ := HW.out.cells; obtain ⟨z0, z1, z2, z3, z4⟩ := HW.out.free; have hb := HW.out.lt)
                | (go_at_call 33; refine (take_no T (k + 1) e f _ b _ (by first | exact HW.out | exact HW.out.drew _) (by omega) (by omega) hT (by rw [HC.out]; omega)).mono ?_; rintro r w6 ⟨rfl, hk6, hw6⟩; have HK := hide1 (HK.out.trans (by first | exact hk6 | exact but_undrew hk6)); have HW := hide1 hw6; obtain ⟨c0, c1, c2, c3, c4⟩ := hw6.cells; obtain ⟨z0, z1, z2, z3, z4⟩ := hw6.free; have hb := hw6.lt; clear hk6 hw6)
                | (go_at_call 34; refine (fail_is T _ e f _ _ b _ (by first | exact HW.out | exact HW.out.drew _)).mono ?_; rintro r w6 ⟨rfl, hk6, hw6⟩; have HK := hide1 (HK.out.trans (by first | exact hk6 | exact but_undrew hk6)); have HW := hide1 hw6; clear hk6 hw6)
                | (go_at_call 40; refine (printed_is _ _).mono ?_; rintro r w6 ⟨rfl, rfl⟩; rw [hpr])
                | (go_at_call 79; refine (letter_is _ _).mono ?_; rintro r w6 ⟨rfl, rfl⟩; rw [hle])
                | (go_at_call 80; refine (digit_is _ _).mono ?_; rintro r w6 ⟨rfl, rfl⟩; rw [hdi])
                | go_quiet (fail))
              all_goals
                go_ret
                rw [HE.out]
                exact ⟨rfl, ⟨Int.natCast_nonneg _, Int.le_refl _⟩, HK.out, HW.out⟩
            · cases hpr : printedP c
              · rw [show escBad c = true by simp [escBad, hpr], if_pos rfl] at HE
                go_wp2_with (first
                  | (go_at_call 43; refine (peek_is T (k + 1) e f b _ (by first | exact (HR.out.drew _).move _ | exact HR.out.move _) (by omega) (by omega) hT).mono ?_; rintro r w6 ⟨rfl, m, hw6⟩; rw [HC.out]; have HK : Hid (KeptBut b w w6) := (by rw [hw6]; first | exact but_drew (but_set (but_drew (but_refl _ _) _) _ _) _ | exact but_drew (but_set (but_refl _ _) _ _) _); have HW : Hid (RAt w6 b T (k + 1) e f) := (by rw [hw6]; first | exact ((HR.out.drew _).move _).drew _ | exact (HR.out.move _).drew _); clear hw6; obtain ⟨c0, c1, c2, c3, c4⟩ := HW.out.cells; obtain ⟨z0, z1, z2, z3, z4⟩ := HW.out.free; have hb := HW.out.lt)
                  | (go_at_call 33; refine (take_no T (k + 1) e f _ b _ (by first | exact HW.out | exact HW.out.drew _) (by omega) (by omega) hT (by rw [HC.out]; omega)).mono ?_; rintro r w6 ⟨rfl, hk6, hw6⟩; have HK := hide1 (HK.out.trans (by first | exact hk6 | exact but_undrew hk6)); have HW := hide1 hw6; obtain ⟨c0, c1, c2, c3, c4⟩ := hw6.cells; obtain ⟨z0, z1, z2, z3, z4⟩ := hw6.free; have hb := hw6.lt; clear hk6 hw6)
                  | (go_at_call 34; refine (fail_is T _ e f _ _ b _ (by first | exact HW.out | exact HW.out.drew _)).mono ?_; rintro r w6 ⟨rfl, hk6, hw6⟩; have HK := hide1 (HK.out.trans (by first | exact hk6 | exact but_undrew hk6)); have HW := hide1 hw6; clear hk6 hw6)
                  | (go_at_call 40; refine (printed_is _ _).mono ?_; rintro r w6 ⟨rfl, rfl⟩; rw [hpr])
                  | (go_at_call 79; refine (letter_is _ _).mono ?_; rintro r w6 ⟨rfl, rfl⟩; rw [hle])
                  | (go_at_call 80; refine (digit_is _ _).mono ?_; rintro r w6 ⟨rfl, rfl⟩; rw [hdi])
                  | go_quiet (fail))
                all_goals
                  go_ret
                  rw [HE.out]
                  exact ⟨rfl, ⟨Int.natCast_nonneg _, Int.le_refl _⟩, HK.out, HW.out⟩
              · cases hle : letterP c
                · cases hdi : digitP c
                  · rw [show escBad c = false by simp [escBad, hpr, hle, hdi, hsp], if_neg (by simp)] at HE
                    go_wp2_with (first
                      | (go_at_call 43; refine (peek_is T (k + 1) e f b _ (by first | exact (HR.out.drew _).move _ | exact HR.out.move _) (by omega) (by omega) hT).mono ?_; rintro r w6 ⟨rfl, m, hw6⟩; rw [HC.out]; have HK : Hid (KeptBut b w w6) := (by rw [hw6]; first | exact but_drew (but_set (but_drew (but_refl _ _) _) _ _) _ | exact but_drew (but_set (but_refl _ _) _ _) _); have HW : Hid (RAt w6 b T (k + 1) e f) := (by rw [hw6]; first | exact ((HR.out.drew _).move _).drew _ | exact (HR.out.move _).drew _); clear hw6; obtain ⟨c0, c1, c2, c3, c4⟩ := HW.out.cells; obtain ⟨z0, z1, z2, z3, z4⟩ := HW.out.free; have hb := HW.out.lt)
                      | (go_at_call 33; refine (take_no T (k + 1) e f _ b _ (by first | exact HW.out | exact HW.out.drew _) (by omega) (by omega) hT (by rw [HC.out]; omega)).mono ?_; rintro r w6 ⟨rfl, hk6, hw6⟩; have HK := hide1 (HK.out.trans (by first | exact hk6 | exact but_undrew hk6)); have HW := hide1 hw6; obtain ⟨c0, c1, c2, c3, c4⟩ := hw6.cells; obtain ⟨z0, z1, z2, z3, z4⟩ := hw6.free; have hb := hw6.lt; clear hk6 hw6)
                      | (go_at_call 34; refine (fail_is T _ e f _ _ b _ (by first | exact HW.out | exact HW.out.drew _)).mono ?_; rintro r w6 ⟨rfl, hk6, hw6⟩; have HK := hide1 (HK.out.trans (by first | exact hk6 | exact but_undrew hk6)); have HW := hide1 hw6; clear hk6 hw6)
                      | (go_at_call 40; refine (printed_is _ _).mono ?_; rintro r w6 ⟨rfl, rfl⟩; rw [hpr])
                      | (go_at_call 79; refine (letter_is _ _).mono ?_; rintro r w6 ⟨rfl, rfl⟩; rw [hle])
                      | (go_at_call 80; refine (digit_is _ _).mono ?_; rintro r w6 ⟨rfl, rfl⟩; rw [hdi])
                      | go_quiet (fail))
                    all_goals
                      go_ret
                      rw [HE.out]
                      exact ⟨rfl, ⟨by show 0 ≤ k + 1 + 1; omega, by show k + 1 + 1 ≤ _; omega⟩, but_set HK.out _ _, HW.out.move _⟩
                  · rw [show escBad c = true by simp [escBad, hpr, hle, hdi], if_pos rfl] at HE
                    go_wp2_with (first
                      | (go_at_call 43; refine (peek_is T (k + 1) e f b _ (by first | exact (HR.out.drew _).move _ | exact HR.out.move _) (by omega) (by omega) hT).mono ?_; rintro r w6 ⟨rfl, m, hw6⟩; rw [HC.out]; have HK : Hid (KeptBut b w w6) := (by rw [hw6]; first | exact but_drew (but_set (but_drew (but_refl _ _) _) _ _) _ | exact but_drew (but_set (but_refl _ _) _ _) _); have HW : Hid (RAt w6 b T (k + 1) e f) := (by rw [hw6]; first | exact ((HR.out.drew _).move _).drew _ | exact (HR.out.move _).drew _); clear hw6; obtain ⟨c0, c1, c2, c3, c4⟩ := HW.out.cells; obtain ⟨z0, z1, z2, z3, z4⟩ := HW.out.free; have hb := HW.out.lt)
                      | (go_at_call 33; refine (take_no T (k + 1) e f _ b _ (by first | exact HW.out | exact HW.out.drew _) (by omega) (by omega) hT (by rw [HC.out]; omega)).mono ?_; rintro r w6 ⟨rfl, hk6, hw6⟩; have HK := hide1 (HK.out.trans (by first | exact hk6 | exact but_undrew hk6)); have HW := hide1 hw6; obtain ⟨c0, c1, c2, c3, c4⟩ := hw6.cells; obtain ⟨z0, z1, z2, z3, z4⟩ := hw6.free; have hb := hw6.lt; clear hk6 hw6)
                      | (go_at_call 34; refine (fail_is T _ e f _ _ b _ (by first | exact HW.out | exact HW.out.drew _)).mono ?_; rintro r w6 ⟨rfl, hk6, hw6⟩; have HK := hide1 (HK.out.trans (by first | exact hk6 | exact but_undrew hk6)); have HW := hide1 hw6; clear hk6 hw6)
                      | (go_at_call 40; refine (printed_is _ _).mono ?_; rintro r w6 ⟨rfl, rfl⟩; rw [hpr])
                      | (go_at_call 79; refine (letter_is _ _).mono ?_; rintro r w6 ⟨rfl, rfl⟩; rw [hle])
                      | (go_at_call 80; refine (digit_is _ _).mono ?_; rintro r w6 ⟨rfl, rfl⟩; rw [hdi])
                      | go_quiet (fail))
                    all_goals
                      go_ret
                      rw [HE.out]
                      exact ⟨rfl, ⟨Int.natCast_nonneg _, Int.le_refl _⟩, HK.out, HW.out⟩
                · rw [show escBad c = true by simp [escBad, hpr, hle], if_pos rfl] at HE
                  go_wp2_with (first
                    | (go_at_call 43; refine (peek_is T (k + 1) e f b _ (by first | exact (HR.out.drew _).move _ | exact HR.out.move _) (by omega) (by omega) hT).mono ?_; rintro r w6 ⟨rfl, m, hw6⟩; rw [HC.out]; have HK : Hid (KeptBut b w w6) := (by rw [hw6]; first | exact but_drew (but_set (but_drew (but_refl _ _) _) _ _) _ | exact but_drew (but_set (but_refl _ _) _ _) _); have HW : Hid (RAt w6 b T (k + 1) e f) := (by rw [hw6]; first | exact ((HR.out.drew _).move _).drew _ | exact (HR.out.move _).drew _); clear hw6; obtain ⟨c0, c1, c2, c3, c4⟩ := HW.out.cells; obtain ⟨z0, z1, z2, z3, z4⟩ := HW.out.free; have hb := HW.out.lt)
                    | (go_at_call 33; refine (take_no T (k + 1) e f _ b _ (by first | exact HW.out | exact HW.out.drew _) (by omega) (by omega) hT (by rw [HC.out]; omega)).mono ?_; rintro r w6 ⟨rfl, hk6, hw6⟩; have HK := hide1 (HK.out.trans (by first | exact hk6 | exact but_undrew hk6)); have HW := hide1 hw6; obtain ⟨c0, c1, c2, c3, c4⟩ := hw6.cells; obtain ⟨z0, z1, z2, z3, z4⟩ := hw6.free; have hb := hw6.lt; clear hk6 hw6)
                    | (go_at_call 34; refine (fail_is T _ e f _ _ b _ (by first | exact HW.out | exact HW.out.drew _)).mono ?_; rintro r w6 ⟨rfl, hk6, hw6⟩; have HK := hide1 (HK.out.trans (by first | exact hk6 | exact but_undrew hk6)); have HW := hide1 hw6; clear hk6 hw6)
                    | (go_at_call 40; refine (printed_is _ _).mono ?_; rintro r w6 ⟨rfl, rfl⟩; rw [hpr])
                    | (go_at_call 79; refine (letter_is _ _).mono ?_; rintro r w6 ⟨rfl, rfl⟩; rw [hle])
                    | (go_at_call 80; refine (digit_is _ _).mono ?_; rintro r w6 ⟨rfl, rfl⟩; rw [hdi])
                    | go_quiet (fail))
                  all_goals
                    go_ret
                    rw [HE.out]
                    exact ⟨rfl, ⟨Int.natCast_nonneg _, Int.le_refl _⟩, HK.out, HW.out⟩

end Ex
end Go.Proofs.YtnffjobobegieaaDoor
namespace Go.Proofs.YtnffjobobegieaaDoor
open Go.RowKit
attribute [local go_sem] Oper.semAt_some
namespace Ex

set_option linter.unusedSimpArgs false in
set_option maxRecDepth 100000 in
set_option maxHeartbeats 2000000 in
theorem one_at (T : ByteArray) (k e f : Int) (b : Nat) (w : World) (h : RAt w b T k e f) (h0 : 0 ≤ k) (h1 : k ≤ T.size) (hT : T.size ≤ 4096) (hne : peekP T k ≠ 92) :
    Calls Tryd.prog 91 #[.pointer (some ⟨b, 0, none⟩)] w fun r w' => r = .returned (.int .i64 (oneS T (k, e, f)).1) ∧ RGave b w T (oneS T (k, e, f)).2 w' := by
  have HR := hide1 h
  obtain ⟨c0, c1, c2, c3, c4⟩ := h.cells
  obtain ⟨z0, z1, z2, z3, z4⟩ := h.free
  have hb := h.lt
  have gT : (T.size : Int) ≤ 4096 := by omega
  clear h
  have hc := peek_byte T k
  unfold IsB at hc
  have HE : Hid (oneS T (k, e, f) = if printedP (peekP T k) && !inS classSignsS (peekP T k) then (peekP T k, k + 1, e, f) else (0, wrongS T (k, e, f))) := rfl
  have HLT : Hid (peekP T k ≠ 0 → 0 ≤ k ∧ k < T.size) := fun h => peek_lt h
  obtain ⟨c, hcc⟩ : ∃ c, peekP T k = c := ⟨_, rfl⟩
  rw [hcc] at hc hne HE HLT
  have HC := hide1 hcc
  clear hcc
  go_enter Tryd.func91, Tryd.ntmps91
  by_cases hpr : printedP c = true
  · have hlt : 0 ≤ k ∧ k < T.size := HLT.out (by unfold printedP at hpr; simp at hpr; omega)
    obtain ⟨x, hx⟩ : ∃ x, firstIdx { data := #[93, 92, 45, 47] } c.toNat.toUInt8 = x := ⟨_, rfl⟩
    have HX := hide1 hx
    by_cases hin : x < 0
    · have hin2 : inS classSignsS c = false := by unfold inS classSignsS; rw [hx]; simpa using hin
      clear hx
      go_wp2_with (first
        | (go_at_call 43; refine (peek_is T k e f b _ (by exact HR.out) h0 h1 hT).mono ?_; rintro e w6 ⟨rfl, m, rfl⟩; rw [HC.out])
        | (go_at_call 40; refine (printed_is _ _).mono ?_; rintro e w6 ⟨rfl, rfl⟩; rw [hpr])
        | (go_at_call 41; refine (index_is _ _ _).mono ?_; rintro e w6 ⟨rfl, rfl⟩; rw [HX.out]))
      all_goals
        go_ret
        rw [HE.out, hpr, hin2]
        exact ⟨rfl, ⟨by show 0 ≤ k + 1; omega, by show k + 1 ≤ _; omega⟩, but_set (but_drew (but_refl _ _) _) _ _, (HR.out.drew _).move _⟩
    · have hin2 : inS classSignsS c = true := by unfold inS classSignsS; rw [hx]; simpa using hin
      clear hx
      go_wp2_with (first
        | (go_at_call 43; refine (peek_is T k e f b _ (by exact HR.out) h0 h1 hT).mono ?_; rintro e w6 ⟨rfl, m, rfl⟩; rw [HC.out])
        | (go_at_call 40; refine (printed_is _ _).mono ?_; rintro e w6 ⟨rfl, rfl⟩; rw [hpr])
        | (go_at_call 41; refine (index_is _ _ _).mono ?_; rintro e w6 ⟨rfl, rfl⟩; rw [HX.out])
        | (go_at_call 24; refine (wrong_is T k e f b _ (by exact HR.out) hT).mono ?_; rintro e w6 ⟨rfl, hk6, hw6⟩; have HK6 := hide1 (but_undrew hk6); have HW6 := hide1 hw6; clear hk6 hw6))
      all_goals
        go_ret
        rw [HE.out, hpr, hin2]
        exact ⟨rfl, ⟨Int.natCast_nonneg _, Int.le_refl _⟩, HK6.out, HW6.out⟩
  · have hpr2 : printedP c = false := by simpa using hpr
    go_wp2_with (first
      | (go_at_call 43; refine (peek_is T k e f b _ (by exact HR.out) h0 h1 hT).mono ?_; rintro e w6 ⟨rfl, m, rfl⟩; rw [HC.out])
      | (go_at_call 40; refine (printed_is _ _).mono ?_; rintro e w6 ⟨rfl, rfl⟩; rw [hpr2])
      | (go_at_call 24; refine (wrong_is T k e f b _ (by exact HR.out) hT).mono ?_; rintro e w6 ⟨rfl, hk6, hw6⟩; have HK6 := hide1 (but_undrew hk6); have HW6 := hide1 hw6; clear hk6 hw6))
    all_goals
      go_ret
      rw [HE.out, hpr2]
      exact ⟨rfl, ⟨Int.natCast_nonneg _, Int.le_refl _⟩, HK6.out, HW6.out⟩


def oneA (T : ByteArray) (s : Int × Int × Int) : Int × Int × Int × Int := if peekP T s.1 = 92 then escapeS T s else oneS T s
theorem hex_ok {T : ByteArray} {s : Int × Int × Int} {o : Int} (h : OkS T s) : OkS T (hexR T s o).2 ∧ s.1 ≤ (hexR T s o).2.1 := by
  unfold hexR
  split
  · exact ⟨wrong_ok T s, h.2⟩
  · rename_i h1
    split
    · exact ⟨fail_ok _ _ _ _, h.2⟩
    · have := h.1; have := h.2
      exact ⟨⟨by show 0 ≤ s.1 + 1; omega, by show s.1 + 1 ≤ _; omega⟩, by show s.1 ≤ s.1 + 1; omega⟩
theorem esc_ok {T : ByteArray} {s : Int × Int × Int} (h0 : 0 ≤ s.1) (h1 : s.1 < T.size) : OkS T (escapeS T s).2 ∧ s.1 ≤ (escapeS T s).2.1 := by
  unfold escapeS
  split
  · exact ⟨wrong_ok T _, by show s.1 ≤ (T.size : Int); omega⟩
  · rename_i h2
    have g : OkS T (s.1 + 1 + 1, s.2) ∧ s.1 ≤ s.1 + 1 + 1 := ⟨⟨by show 0 ≤ s.1 + 1 + 1; omega, by show s.1 + 1 + 1 ≤ _; omega⟩, by omega⟩
    split
    · exact g
    · split
      · exact g
      · split
        · exact g
        · split
          · have a := hex_ok (o := s.1) g.1
            have c := hex_ok (o := s.1) a.1
            have a2 : s.1 + 1 + 1 ≤ (hexR T (s.1 + 1 + 1, s.2) s.1).2.1 := a.2
            have c2 := c.2
            exact ⟨c.1, by show s.1 ≤ (hexR T (hexR T (s.1 + 1 + 1, s.2) s.1).2 s.1).2.1; omega⟩
          · split
            · exact ⟨fail_ok _ _ _ _, by show s.1 ≤ (T.size : Int); omega⟩
            · exact g
theorem oneA_ok {T : ByteArray} {s : Int × Int × Int} (h : OkS T s) : OkS T (oneA T s).2 ∧ s.1 ≤ (oneA T s).2.1 := by
  unfold oneA
  split
  · rename_i hc
    have := peek_lt (T := T) (k := s.1) (by rw [hc]; decide)
    exact esc_ok this.1 this.2
  · exact one_ok h

set_option linter.unusedSimpArgs false in
set_option maxRecDepth 100000 in
set_option maxHeartbeats 2000000 in
theorem oneA_is (T : ByteArray) (k e f : Int) (b : Nat) (w : World) (h : RAt w b T k e f) (h0 : 0 ≤ k) (h1 : k ≤ T.size) (hT : T.size ≤ 4096) :
    Calls Tryd.prog 91 #[.pointer (some ⟨b, 0, none⟩)] w fun r w' => r = .returned (.int .i64 (oneA T (k, e, f)).1) ∧ RGave b w T (oneA T (k, e, f)).2 w' := by
  by_cases hc : peekP T k = 92
  · have hlt := peek_lt (T := T) (k := k) (by rw [hc]; decide)
    have HE : Hid (oneA T (k, e, f) = escapeS T (k, e, f)) := by show oneA T (k, e, f) = _; unfold oneA; rw [if_pos hc]
    rw [HE.out]
    have HR := hide1 h
    obtain ⟨c0, c1, c2, c3, c4⟩ := h.cells
    have hb := h.lt
    have HC := hide1 hc
    clear h hc
    go_enter Tryd.func91, Tryd.ntmps91
    go_wp2_with (first
      | (go_at_call 43; refine (peek_is T k e f b _ (by exact HR.out) h0 h1 hT).mono ?_; rintro e w6 ⟨rfl, m, rfl⟩; rw [HC.out])
      | (go_at_call 59; refine (escape_is T k e f b _ (by first | exact HR.out | exact HR.out.drew _) h0 hlt.2 hT).mono ?_; rintro e w6 ⟨rfl, hg6⟩; have HG := hide1 hg6; clear hg6))
    all_goals
      go_ret
      exact ⟨rfl, HG.out.1, but_undrew HG.out.2.1, HG.out.2.2⟩
  · have e1 : oneA T (k, e, f) = oneS T (k, e, f) := by unfold oneA; rw [if_neg hc]
    rw [e1]
    exact one_at T k e f b w h h0 h1 hT hc

/-- A member's first byte, its last, the state behind. -/
def memberF (T : ByteArray) (s : Int × Int × Int) : Int × Int × Int × Int := if peekP T (oneA T s).2.1 = 45 then oneA T ((oneA T s).2.1 + 1, (oneA T s).2.2) else oneA T s
def memberA (T : ByteArray) (s : Int × Int × Int) (y : Int) : Pat × Int × Int × Int := (rangeP (oneA T s).1 (memberF T s).1, if (memberF T s).1 < (oneA T s).1 then failS T (memberF T s).2 22 y else (memberF T s).2)

set_option linter.unusedSimpArgs false in
set_option maxRecDepth 100000 in
set_option maxHeartbeats 2000000 in
theorem memberA_is (T : ByteArray) (k e f y : Int) (b : Nat) (w : World) (h : RAt w b T k e f) (h0 : 0 ≤ k) (h1 : k ≤ T.size) (hT : T.size ≤ 4096) :
    Calls Tryd.prog 81 #[.pointer (some ⟨b, 0, none⟩), .int .i64 y] w fun r w' => r = .returned (rangeV (oneA T (k, e, f)).1 (memberF T (k, e, f)).1) ∧ RGave b w T (memberA T (k, e, f) y).2 w' := by
  have HR := hide1 h
  have hb := h.lt
  have gT : (T.size : Int) ≤ 4096 := by omega
  have hok := oneA_ok (T := T) (s := (k, e, f)) ⟨h0, h1⟩
  have HF : Hid ((memberA T (k, e, f) y).2 = if (memberF T (k, e, f)).1 < (oneA T (k, e, f)).1 then failS T (memberF T (k, e, f)).2 22 y else (memberF T (k, e, f)).2) := rfl
  have HE : Hid (memberF T (k, e, f) = if peekP T (oneA T (k, e, f)).2.1 = 45 then oneA T ((oneA T (k, e, f)).2.1 + 1, (oneA T (k, e, f)).2.2) else oneA T (k, e, f)) := rfl
  unfold rangeV
  obtain ⟨⟨a, k1, e1, f1⟩, hA⟩ : ∃ x, oneA T (k, e, f) = x := ⟨_, rfl⟩
  rw [hA] at hok HE HF ⊢
  have HA := hide1 hA
  obtain ⟨ok1, hk1⟩ := hok
  unfold OkS at ok1
  dsimp only at ok1 hk1
  clear hA h
  by_cases hc : peekP T k1 = 45
  · have ok2 := take_ok (T := T) (s := (k1, e1, f1)) (c := 45) (by decide) hc
    have ok3 := oneA_ok ok2
    have HE2 : Hid (memberF T (k, e, f) = oneA T (k1 + 1, e1, f1)) := by have := HE.out; rw [if_pos hc] at this; exact this
    have HTK : Hid (takeK T k1 45 = k1 + 1) := by show _ = _; rw [takeK, if_pos hc]
    have HTB : Hid ((peekP T k1 == 45) = true) := by show _ = _; rw [hc]; rfl
    obtain ⟨⟨z, k2, e2, f2⟩, hB⟩ : ∃ x, oneA T (k1 + 1, e1, f1) = x := ⟨_, rfl⟩
    have HE3 := HE2.out
    rw [hB] at ok3 HE3
    rw [HE3] at HF ⊢
    have HB := hide1 hB
    obtain ⟨ok3, _⟩ := ok3
    unfold OkS at ok2 ok3
    dsimp only at ok2 ok3 HF ⊢
    clear hB HE HE2 HE3 hc
    go_enter Tryd.func81, Tryd.ntmps81
    by_cases hz : z < a
    · rw [HF.out, if_pos hz]
      go_wp2_with (first
        | (go_at_call 91; have _g := HW2; clear _g; refine (oneA_is T (k1 + 1) e1 f1 b _ (by exact HW2.out) ok2.1 ok2.2 hT).mono ?_; rintro r w8 ⟨rfl, hg⟩; rw [HB.out] at hg ⊢; obtain ⟨_, hk8, hw8⟩ := hg; have HK3 := hide1 (HK2.out.trans hk8); have HW3 := hide1 hw8; clear hk8 hw8)
        | (go_at_call 91; refine (oneA_is T k e f b _ (HR.out.keep ((Kept.refl _).alloc _ _)) h0 h1 hT).mono ?_; rintro r w6 ⟨rfl, hg⟩; rw [HA.out] at hg ⊢; obtain ⟨_, hk6, hw6⟩ := hg; have HK1 := hide1 hk6; have HW1 := hide1 hw6; clear hk6 hw6)
        | (go_at_call 33; refine (take_is T k1 e1 f1 45 b _ (by exact HW1.out) ok1.1 ok1.2 hT).mono ?_; rintro r w7 ⟨rfl, hk7, hw7⟩; rw [HTK.out] at hw7; rw [HTB.out]; have HK2 := hide1 (HK1.out.trans hk7); have HW2 := hide1 hw7; clear hk7 hw7)
        | (go_at_call 34; refine (fail_is T k2 e2 f2 _ _ b _ (by exact HW3.out)).mono ?_; rintro r w9 ⟨rfl, hk9, hw9⟩; have HK4 := hide1 (HK3.out.trans hk9); have HW4 := hide1 hw9; obtain ⟨⟨q0, q1, q2, q3, q4, q5⟩, y0, y1, y2, y3, y4, y5⟩ := box_end HK4.out hb; clear hk9 hw9))
      (try simp only [Exit.inBlock, Exit.then])
      refine bodyPost_ret (box_returns rfl _ _ w.heap.size _ _ _ _ _ _ rfl (box_full (box_kept HK4.out hb))) rfl ?_
      exact ⟨rfl, fail_ok _ _ _ _, fin_but (but_allocd HK4.out) (Nat.le_refl _), HW4.out.fin (by omega)⟩
    · rw [HF.out, if_neg hz]
      go_wp2_with (first
        | (go_at_call 91; have _g := HW2; clear _g; refine (oneA_is T (k1 + 1) e1 f1 b _ (by exact HW2.out) ok2.1 ok2.2 hT).mono ?_; rintro r w8 ⟨rfl, hg⟩; rw [HB.out] at hg ⊢; obtain ⟨_, hk8, hw8⟩ := hg; have HK3 := hide1 (HK2.out.trans hk8); have HW3 := hide1 hw8; obtain ⟨⟨q0, q1, q2, q3, q4, q5⟩, y0, y1, y2, y3, y4, y5⟩ := box_end HK3.out hb; clear hk8 hw8)
        | (go_at_call 91; refine (oneA_is T k e f b _ (HR.out.keep ((Kept.refl _).alloc _ _)) h0 h1 hT).mono ?_; rintro r w6 ⟨rfl, hg⟩; rw [HA.out] at hg ⊢; obtain ⟨_, hk6, hw6⟩ := hg; have HK1 := hide1 hk6; have HW1 := hide1 hw6; clear hk6 hw6)
        | (go_at_call 33; refine (take_is T k1 e1 f1 45 b _ (by exact HW1.out) ok1.1 ok1.2 hT).mono ?_; rintro r w7 ⟨rfl, hk7, hw7⟩; rw [HTK.out] at hw7; rw [HTB.out]; have HK2 := hide1 (HK1.out.trans hk7); have HW2 := hide1 hw7; clear hk7 hw7))
      (try simp only [Exit.inBlock, Exit.then])
      refine bodyPost_ret (box_returns rfl _ _ w.heap.size _ _ _ _ _ _ rfl (box_full (box_kept HK3.out hb))) rfl ?_
      exact ⟨rfl, ok3, fin_but (but_allocd HK3.out) (Nat.le_refl _), HW3.out.fin (by omega)⟩
  · have HTK : Hid (takeK T k1 45 = k1) := by show _ = _; rw [takeK, if_neg hc]
    have HTB : Hid ((peekP T k1 == 45) = false) := by show _ = _; simpa using hc
    have HE3 := HE.out
    rw [if_neg hc] at HE3
    rw [HE3] at HF ⊢
    have hz : ¬ a < a := by omega
    dsimp only at HF ⊢
    clear HE HE3 hc
    go_enter Tryd.func81, Tryd.ntmps81
    rw [HF.out, if_neg hz]
    go_wp2_with (first
      | (go_at_call 91; refine (oneA_is T k e f b _ (HR.out.keep ((Kept.refl _).alloc _ _)) h0 h1 hT).mono ?_; rintro r w6 ⟨rfl, hg⟩; rw [HA.out] at hg ⊢; obtain ⟨_, hk6, hw6⟩ := hg; have HK1 := hide1 hk6; have HW1 := hide1 hw6; clear hk6 hw6)
      | (go_at_call 33; refine (take_is T k1 e1 f1 45 b _ (by exact HW1.out) ok1.1 ok1.2 hT).mono ?_; rintro r w7 ⟨rfl, hk7, hw7⟩; rw [HTK.out] at hw7; rw [HTB.out]; have HK2 := hide1 (HK1.out.trans hk7); have HW2 := hide1 hw7; obtain ⟨⟨q0, q1, q2, q3, q4, q5⟩, y0, y1, y2, y3, y4, y5⟩ := box_end HK2.out hb; clear hk7 hw7))
    (try simp only [Exit.inBlock, Exit.then])
    refine bodyPost_ret (box_returns rfl _ _ w.heap.size _ _ _ _ _ _ rfl (box_full (box_kept HK2.out hb))) rfl ?_
    exact ⟨rfl, ok1, fin_but (but_allocd HK2.out) (Nat.le_refl _), HW2.out.fin (by omega)⟩

end Ex
end Go.Proofs.YtnffjobobegieaaDoor
