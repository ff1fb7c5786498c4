import Derived.Test.YtnchmhginmaliaaGreatDoorMExDr0
import Derived.Test.YtnchmhginmaliaaGreatDoorMExDr1
import Derived.Test.YtnchmhginmaliaaGreatDoorMExWr1
namespace Go.Proofs.YtnchmhginmaliaaGreatDoor
open Go.RowKit
attribute [local go_sem] Oper.semAt_some
namespace Ex

/-- Up to m hex digits, each sixteen times the ones ahead. -/
def hxG (T : ByteArray) (o : Int) : Nat → Int → Int × Int × Int → Int × Int × Int × Int
  | 0, n, s => (n, s)
  | m + 1, n, s => if (hexR T s o).2.2.1 = 0 then hxG T o m (16 * n + (hexR T s o).1) (hexR T s o).2 else (0, (hexR T s o).2)
/-- What a call of the document's reader leaves, where ours leaves s: the same fault; without one the same place. -/
def DGave (b : Nat) (w : World) (T : ByteArray) (s : Int × Int × Int) (w' : World) : Prop := ∃ k2, 0 ≤ k2 ∧ k2 ≤ (T.size : Int) ∧ (s.2.1 = 0 → k2 = s.1) ∧ KeptBut b w w' ∧ DAt w' b T k2 s.2.1 s.2.2
/-- A byte that is answered, where ours answers v. -/
def IGave (b : Nat) (w : World) (T : ByteArray) (v : Int × Int × Int × Int) (r : Ending) (w' : World) : Prop := (∃ c, r = .returned (.int .i64 c) ∧ 0 ≤ c ∧ c ≤ 255 ∧ (v.2.2.1 = 0 → c = v.1)) ∧ DGave b w T v.2 w'
theorem wrongS_ne (T : ByteArray) (s : Int × Int × Int) : (wrongS T s).2.1 ≠ 0 := failE_ne (wrongC_ne _ _)
theorem fail22_ne (T : ByteArray) (s : Int × Int × Int) (y : Int) : (failS T s 22 y).2.1 ≠ 0 := failE_ne (by decide)
theorem esc_x {T : ByteArray} {k f : Int} (h1 : ¬ k + 1 = T.size) (hc : peekP T (k + 1) = 120) : (escapeS T (k, 0, f)).2 = (hxG T k 2 0 (k + 1 + 1, 0, f)).2 ∧ ((escapeS T (k, 0, f)).2.2.1 = 0 → (escapeS T (k, 0, f)).1 = (hxG T k 2 0 (k + 1 + 1, 0, f)).1) := by
  have e : escapeS T (k, 0, f) = ((hexR T (k + 1 + 1, 0, f) k).1 * 16 + (hexR T (hexR T (k + 1 + 1, 0, f) k).2 k).1, (hexR T (hexR T (k + 1 + 1, 0, f) k).2 k).2) := by
    unfold escapeS
    dsimp only
    rw [if_neg h1, hc]
    simp
  have hs := hexR_stop (T := T) (f := f) (s := (k + 1 + 1, 0, f)) (o := k) stop_zero
  rw [e]
  unfold hxG
  obtain ⟨⟨n, k1, e1, f1⟩, hA⟩ : ∃ x, hexR T (k + 1 + 1, 0, f) k = x := ⟨_, rfl⟩
  rw [hA] at hs ⊢
  dsimp only
  by_cases he : e1 = 0
  · subst he
    rw [if_pos rfl]
    unfold hxG
    obtain ⟨⟨n2, k2, e2, f2⟩, hB⟩ : ∃ x, hexR T (k1, 0, f1) k = x := ⟨_, rfl⟩
    rw [hB]
    dsimp only
    by_cases he2 : e2 = 0
    · subst he2
      rw [if_pos rfl]
      unfold hxG
      exact ⟨rfl, fun _ => by show _ = 16 * (16 * 0 + n) + n2; omega⟩
    · rw [if_neg he2]
      exact ⟨rfl, fun h => absurd h he2⟩
  · rw [if_neg he]
    have hk : k1 = T.size := hs.1 he
    subst hk
    rw [hexR_stays he]
    exact ⟨rfl, fun h => absurd h he⟩
theorem esc_last {T : ByteArray} {k f c : Int} (h1 : ¬ k + 1 = T.size) (hc : peekP T (k + 1) = c) (h2 : c ≠ 110) (h3 : c ≠ 114) (h4 : c ≠ 116) (h5 : c ≠ 120) : escapeS T (k, 0, f) = if escBad c then (0, failS T (k, 0, f) 22 k) else (c, k + 1 + 1, 0, f) := by
  unfold escapeS
  dsimp only
  rw [if_neg h1, hc, if_neg h2, if_neg h3, if_neg h4, if_neg h5]
theorem escBad_is (c : Int) : escBad c = !(decide (32 < c) && decide (c ≤ 126) && !(letterP c || digitP c)) := by
  have hl : (letterP c || digitP c) = true ∨ (letterP c || digitP c) = false := by cases (letterP c || digitP c) <;> simp
  unfold escBad printedP
  rw [Bool.or_assoc _ (letterP c) (digitP c)]
  rcases hl with h | h
  · rw [h]; simp
  · rw [h]
    by_cases h1 : 32 < c
    · by_cases h2 : c ≤ 126
      · simp [h1, h2, show ¬ c = 32 by omega, show 32 ≤ c by omega]
      · simp [h2]
    · by_cases h3 : c = 32
      · simp [h3]
      · simp [h1, show ¬ 32 ≤ c by omega]
theorem ddigit_v (c v : Int) (w : World) (h : 0 ≤ c ∧ c ≤ 255) (hv : hexV c = v) : Calls Tryz.prog 76 #[.int .u8 c] w fun e w' => e = .returned (.int .i64 v) ∧ w' = w := by
  subst hv
  exact ddigit_is c w h.1 h.2
/-- The loop of the two hex digits. -/
def HexR (b : Nat) (w : World) (T : ByteArray) (k f : Int) (n i : Value) (wr : World) : Prop :=
  ∃ (j : Nat) (n1 k1 : Int), n = .int .i64 n1 ∧ i = .int .i64 (j : Int) ∧ j ≤ 2 ∧ 0 ≤ n1 ∧ n1 < 16 ^ j ∧ 0 ≤ k1 ∧ k1 ≤ (T.size : Int) ∧ KeptBut b w wr ∧ DAt wr b T k1 0 f ∧ hxG T k 2 0 (k + 1 + 1, 0, f) = hxG T k (2 - j) n1 (k1, 0, f)

set_option linter.unusedSimpArgs false in
set_option maxRecDepth 100000 in
set_option maxHeartbeats 4000000 in
theorem descape_is (T : ByteArray) (k f : Int) (b : Nat) (w : World) (h : DAt w b T k 0 f) (h0 : 0 ≤ k) (h1 : k < T.size) (hT : T.size ≤ 4096) :
    Calls Tryz.prog 55 #[.pointer (some ⟨b, 0, none⟩)] w fun r w' => IGave b w T (escapeS T (k, 0, f)) r w' := by
  have HW := hide1 h
  have HK := hide1 (but_refl b w)
  obtain ⟨c0, c1, c2, c3⟩ := h.cells
  obtain ⟨z0, z1, z2, z3⟩ := h.free
  have hb := h.lt
  have gT : (T.size : Int) ≤ 4096 := by omega
  clear h
  go_enter Tryz.func55, Tryz.ntmps55
  by_cases hk : k + 1 = (T.size : Int)
  · have HH : Hid (hasD T (k + 1) 0 = false) := by show _ = _; simp [hasD, hk]
    have HE : Hid (escapeS T (k, 0, f) = (0, wrongS T (k + 1, 0, f))) := by show _ = _; unfold escapeS; rw [if_pos hk]
    clear hk
    go_wp2_with (first
      | (go_at_call 11; refine (has_b T (k + 1) (0) (f) b _ (by first | exact HW.out | exact HW.out.drew _ | exact HW.out.move _ | exact (HW.out.drew _).move _ | exact (HW.out.move _).drew _) hT).mono ?_; rintro r w6 ⟨rfl, hk6, hw6⟩; rw [HH.out]; have HK := hide1 ((HK.out.trans (by first | exact but_refl _ _ | exact but_drew (but_refl _ _) _ | exact but_set (but_refl _ _) _ _ | exact but_set (but_drew (but_refl _ _) _) _ _ | exact but_drew (but_set (but_refl _ _) _ _) _)).trans hk6); have HW := hide1 hw6; obtain ⟨c0, c1, c2, c3⟩ := hw6.cells; obtain ⟨z0, z1, z2, z3⟩ := hw6.free; have hb := hw6.lt; clear hk6 hw6)
      | (go_at_call 12; refine (dwrong_is T (k + 1) (0) (f) b _ (by first | exact HW.out | exact HW.out.drew _ | exact HW.out.move _ | exact (HW.out.drew _).move _ | exact (HW.out.move _).drew _) (by omega) hT).mono ?_; rintro r w6 ⟨rfl, hk6, hw6⟩; have HK := hide1 ((HK.out.trans (by first | exact but_refl _ _ | exact but_drew (but_refl _ _) _ | exact but_set (but_refl _ _) _ _ | exact but_set (but_drew (but_refl _ _) _) _ _ | exact but_drew (but_set (but_refl _ _) _ _) _)).trans hk6); have HW := hide1 hw6; obtain ⟨c0, c1, c2, c3⟩ := hw6.cells; obtain ⟨z0, z1, z2, z3⟩ := hw6.free; have hb := hw6.lt; clear hk6 hw6)
      | go_quiet (fail))
    all_goals
      go_ret
      rw [HE.out]
      exact ⟨⟨0, rfl, by omega, by omega, fun _ => rfl⟩, k + 1, by omega, by omega, fun h => absurd h (wrongS_ne _ _), HK.out, HW.out⟩
  · have hlt : k + 1 < (T.size : Int) := by omega
    have HH : Hid (hasD T (k + 1) 0 = true) := by show _ = _; simp [hasD, hlt]
    have hr := idx_at T (k + 1) (by omega) hlt
    have hcb := peek_byte T (k + 1)
    unfold IsB at hcb
    obtain ⟨c, hcc⟩ : ∃ c, peekP T (k + 1) = c := ⟨_, rfl⟩
    rw [hcc] at hr hcb
    have HC := hide1 hcc
    have HNE := hide1 hk
    clear hk
    by_cases hc110 : c = 110
    · have HE : Hid (escapeS T (k, 0, f) = (10, k + 1 + 1, 0, f)) := by
        show _ = _
        unfold escapeS
        dsimp only
        rw [if_neg HNE.out, hcc, hc110]
        simp
      clear hcc
      subst hc110
      go_wp2_with (first
        | (go_at_call 11; refine (has_b T (k + 1) (0) (f) b _ (by first | exact HW.out | exact HW.out.drew _ | exact HW.out.move _ | exact (HW.out.drew _).move _ | exact (HW.out.move _).drew _) hT).mono ?_; rintro r w6 ⟨rfl, hk6, hw6⟩; rw [HH.out]; have HK := hide1 ((HK.out.trans (by first | exact but_refl _ _ | exact but_drew (but_refl _ _) _ | exact but_set (but_refl _ _) _ _ | exact but_set (but_drew (but_refl _ _) _) _ _ | exact but_drew (but_set (but_refl _ _) _ _) _)).trans hk6); have HW := hide1 hw6; obtain ⟨c0, c1, c2, c3⟩ := hw6.cells; obtain ⟨z0, z1, z2, z3⟩ := hw6.free; have hb := hw6.lt; clear hk6 hw6)
        | go_quiet (fail))
      all_goals
        go_ret
        rw [HE.out]
        exact ⟨⟨_, rfl, by omega, by omega, fun _ => rfl⟩, k + 1 + 1, by omega, by omega, fun _ => rfl, HK.out.trans (but_set (but_refl _ _) _ _), HW.out.move _⟩
    by_cases hc114 : c = 114
    · have HE : Hid (escapeS T (k, 0, f) = (13, k + 1 + 1, 0, f)) := by
        show _ = _
        unfold escapeS
        dsimp only
        rw [if_neg HNE.out, hcc, hc114]
        simp
      clear hcc
      subst hc114
      go_wp2_with (first
        | (go_at_call 11; refine (has_b T (k + 1) (0) (f) b _ (by first | exact HW.out | exact HW.out.drew _ | exact HW.out.move _ | exact (HW.out.drew _).move _ | exact (HW.out.move _).drew _) hT).mono ?_; rintro r w6 ⟨rfl, hk6, hw6⟩; rw [HH.out]; have HK := hide1 ((HK.out.trans (by first | exact but_refl _ _ | exact but_drew (but_refl _ _) _ | exact but_set (but_refl _ _) _ _ | exact but_set (but_drew (but_refl _ _) _) _ _ | exact but_drew (but_set (but_refl _ _) _ _) _)).trans hk6); have HW := hide1 hw6; obtain ⟨c0, c1, c2, c3⟩ := hw6.cells; obtain ⟨z0, z1, z2, z3⟩ := hw6.free; have hb := hw6.lt; clear hk6 hw6)
        | go_quiet (fail))
      all_goals
        go_ret
        rw [HE.out]
        exact ⟨⟨_, rfl, by omega, by omega, fun _ => rfl⟩, k + 1 + 1, by omega, by omega, fun _ => rfl, HK.out.trans (but_set (but_refl _ _) _ _), HW.out.move _⟩
    by_cases hc116 : c = 116
    · have HE : Hid (escapeS T (k, 0, f) = (9, k + 1 + 1, 0, f)) := by
        show _ = _
        unfold escapeS
        dsimp only
        rw [if_neg HNE.out, hcc, hc116]
        simp
      clear hcc
      subst hc116
      go_wp2_with (first
        | (go_at_call 11; refine (has_b T (k + 1) (0) (f) b _ (by first | exact HW.out | exact HW.out.drew _ | exact HW.out.move _ | exact (HW.out.drew _).move _ | exact (HW.out.move _).drew _) hT).mono ?_; rintro r w6 ⟨rfl, hk6, hw6⟩; rw [HH.out]; have HK := hide1 ((HK.out.trans (by first | exact but_refl _ _ | exact but_drew (but_refl _ _) _ | exact but_set (but_refl _ _) _ _ | exact but_set (but_drew (but_refl _ _) _) _ _ | exact but_drew (but_set (but_refl _ _) _ _) _)).trans hk6); have HW := hide1 hw6; obtain ⟨c0, c1, c2, c3⟩ := hw6.cells; obtain ⟨z0, z1, z2, z3⟩ := hw6.free; have hb := hw6.lt; clear hk6 hw6)
        | go_quiet (fail))
      all_goals
        go_ret
        rw [HE.out]
        exact ⟨⟨_, rfl, by omega, by omega, fun _ => rfl⟩, k + 1 + 1, by omega, by omega, fun _ => rfl, HK.out.trans (but_set (but_refl _ _) _ _), HW.out.move _⟩
    by_cases hc120 : c = 120
    · have HX := hide1 (esc_x HNE.out (hcc.trans hc120) (f := f))
      clear hcc
      subst hc120
      go_wp2_with (first
        | (go_at_call 11; refine (has_b T (k + 1) (0) (f) b _ (by first | exact HW.out | exact HW.out.drew _ | exact HW.out.move _ | exact (HW.out.drew _).move _ | exact (HW.out.move _).drew _) hT).mono ?_; rintro r w6 ⟨rfl, hk6, hw6⟩; rw [HH.out]; have HK := hide1 ((HK.out.trans (by first | exact but_refl _ _ | exact but_drew (but_refl _ _) _ | exact but_set (but_refl _ _) _ _ | exact but_set (but_drew (but_refl _ _) _) _ _ | exact but_drew (but_set (but_refl _ _) _ _) _)).trans hk6); have HW := hide1 hw6; obtain ⟨c0, c1, c2, c3⟩ := hw6.cells; obtain ⟨z0, z1, z2, z3⟩ := hw6.free; have hb := hw6.lt; clear hk6 hw6)
        | go_quiet (fail))
      have HW := hide1 (HW.out.move (k + 1 + 1))
      have HK := hide1 (HK.out.trans (but_set (o := 1) (v := .int .i64 (k + 1 + 1)) (but_refl _ _)))
      go_loopw [5, 6] (fun n i wr => HexR b w T k f n i wr) (fun _ i _ => 2 - (intOf i).toNat)
      case atStart => exact ⟨0, 0, k + 1 + 1, rfl, rfl, by omega, by omega, by decide, by omega, by omega, HK.out, HW.out, rfl⟩
      case round =>
        obtain ⟨j, n1, k1, rfl, rfl, hj, hn0, hn1, hk0, hk1, hKr, hRr, hM⟩ := hrel
        have HKr := hide1 hKr
        have HW := hide1 hRr
        have HK := hide1 (but_refl b wr)
        have HM := hide1 hM
        obtain ⟨c0, c1, c2, c3⟩ := hRr.cells
        obtain ⟨z0, z1, z2, z3⟩ := hRr.free
        have hb := hRr.lt
        clear hKr hRr hM hr
        by_cases hj2 : j < 2
        · have hm : 2 - j = (1 - j) + 1 := by omega
          have hn2 : n1 ≤ 15 := by
            rcases (show j = 0 ∨ j = 1 by omega) with rfl | rfl
            · simp at hn1; omega
            · simp at hn1; omega
          have HM1 : hxG T k 2 0 (k + 1 + 1, 0, f) = if (hexR T (k1, 0, f) k).2.2.1 = 0 then hxG T k (1 - j) (16 * n1 + (hexR T (k1, 0, f) k).1) (hexR T (k1, 0, f) k).2 else (0, (hexR T (k1, 0, f) k).2) := HM.out.trans (by rw [hm, hxG])
          have hj2i : (j : Int) < 2 := by omega
          by_cases hk : k1 = (T.size : Int)
          · have HH : Hid (hasD T k1 0 = false) := by show _ = _; simp [hasD, hk]
            have e1 : hexR T (k1, 0, f) k = (0, wrongS T (k1, 0, f)) := by unfold hexR; rw [if_pos hk]
            rw [e1] at HM1
            dsimp only at HM1
            rw [if_neg (wrongS_ne _ _)] at HM1
            have HM2 := hide1 HM1
            clear HM1 e1 hn1 hk
            go_wp2_with (first
              | (go_at_call 11; refine (has_b T (k1) (0) (f) b _ (by first | exact HW.out | exact HW.out.drew _ | exact HW.out.move _ | exact (HW.out.drew _).move _ | exact (HW.out.move _).drew _) hT).mono ?_; rintro r w6 ⟨rfl, hk6, hw6⟩; rw [HH.out]; have HK := hide1 ((HK.out.trans (by first | exact but_refl _ _ | exact but_drew (but_refl _ _) _ | exact but_set (but_refl _ _) _ _ | exact but_set (but_drew (but_refl _ _) _) _ _ | exact but_drew (but_set (but_refl _ _) _ _) _)).trans hk6); have HW := hide1 hw6; obtain ⟨c0, c1, c2, c3⟩ := hw6.cells; obtain ⟨z0, z1, z2, z3⟩ := hw6.free; have hb := hw6.lt; clear hk6 hw6)
              | (go_at_call 12; refine (dwrong_is T (k1) (0) (f) b _ (by first | exact HW.out | exact HW.out.drew _ | exact HW.out.move _ | exact (HW.out.drew _).move _ | exact (HW.out.move _).drew _) (by omega) hT).mono ?_; rintro r w6 ⟨rfl, hk6, hw6⟩; have HK := hide1 ((HK.out.trans (by first | exact but_refl _ _ | exact but_drew (but_refl _ _) _ | exact but_set (but_refl _ _) _ _ | exact but_set (but_drew (but_refl _ _) _) _ _ | exact but_drew (but_set (but_refl _ _) _ _) _)).trans hk6); have HW := hide1 hw6; obtain ⟨c0, c1, c2, c3⟩ := hw6.cells; obtain ⟨z0, z1, z2, z3⟩ := hw6.free; have hb := hw6.lt; clear hk6 hw6)
              | go_quiet (fail))
            all_goals
              go_ret
              exact ⟨⟨0, rfl, by omega, by omega, fun h => absurd h (by rw [HX.out.1, HM2.out]; exact wrongS_ne _ _)⟩, k1, by omega, by omega, fun h => absurd h (by rw [HX.out.1, HM2.out]; exact wrongS_ne _ _), HKr.out.trans HK.out, by rw [HX.out.1, HM2.out]; exact HW.out⟩
          · have hlt : k1 < (T.size : Int) := by omega
            have HH : Hid (hasD T k1 0 = true) := by show _ = _; simp [hasD, hlt]
            have hr := idx_at T k1 hk0 hlt
            have hdb := peek_byte T k1
            unfold IsB at hdb
            obtain ⟨d, hd⟩ : ∃ d, peekP T k1 = d := ⟨_, rfl⟩
            rw [hd] at hr hdb
            have hle := hexV_le d
            obtain ⟨v, hv⟩ : ∃ v, hexV d = v := ⟨_, rfl⟩
            have HV := hide1 hv
            rw [hv] at hle
            by_cases hneg : v < 0
            · have e1 : hexR T (k1, 0, f) k = (0, failS T (k1, 0, f) 22 k) := by unfold hexR; rw [if_neg hk, hd, hv, if_pos hneg]
              rw [e1] at HM1
              dsimp only at HM1
              rw [if_neg (fail22_ne _ _ _)] at HM1
              have HM2 := hide1 HM1
              clear HM1 e1 hn1 hd hv hk
              go_wp2_with (first
                | (go_at_call 11; refine (has_b T (k1) (0) (f) b _ (by first | exact HW.out | exact HW.out.drew _ | exact HW.out.move _ | exact (HW.out.drew _).move _ | exact (HW.out.move _).drew _) hT).mono ?_; rintro r w6 ⟨rfl, hk6, hw6⟩; rw [HH.out]; have HK := hide1 ((HK.out.trans (by first | exact but_refl _ _ | exact but_drew (but_refl _ _) _ | exact but_set (but_refl _ _) _ _ | exact but_set (but_drew (but_refl _ _) _) _ _ | exact but_drew (but_set (but_refl _ _) _ _) _)).trans hk6); have HW := hide1 hw6; obtain ⟨c0, c1, c2, c3⟩ := hw6.cells; obtain ⟨z0, z1, z2, z3⟩ := hw6.free; have hb := hw6.lt; clear hk6 hw6)
                | (go_at_call 23; refine (dfail_is T (k1) (0) (f) _ _ b _ (by first | exact HW.out | exact HW.out.drew _ | exact HW.out.move _ | exact (HW.out.drew _).move _ | exact (HW.out.move _).drew _)).mono ?_; rintro r w6 ⟨rfl, hk6, hw6⟩; have HK := hide1 ((HK.out.trans (by first | exact but_refl _ _ | exact but_drew (but_refl _ _) _ | exact but_set (but_refl _ _) _ _ | exact but_set (but_drew (but_refl _ _) _) _ _ | exact but_drew (but_set (but_refl _ _) _ _) _)).trans hk6); have HW := hide1 hw6; obtain ⟨c0, c1, c2, c3⟩ := hw6.cells; obtain ⟨z0, z1, z2, z3⟩ := hw6.free; have hb := hw6.lt; clear hk6 hw6)
                | go_quiet ((go_at_call 76; exact Calls.quiet_of_same (ddigit_v d v _ hdb HV.out))))
              all_goals
                go_ret
                exact ⟨⟨0, rfl, by omega, by omega, fun h => absurd h (by rw [HX.out.1, HM2.out]; exact fail22_ne _ _ _)⟩, k1, by omega, by omega, fun h => absurd h (by rw [HX.out.1, HM2.out]; exact fail22_ne _ _ _), HKr.out.trans HK.out, by rw [HX.out.1, HM2.out]; exact HW.out⟩
            · have e1 : hexR T (k1, 0, f) k = (v, k1 + 1, 0, f) := by unfold hexR; rw [if_neg hk, hd, hv, if_neg hneg]
              rw [e1, if_pos rfl] at HM1
              have HM2 := hide1 HM1
              have HP : Hid (16 * n1 + v < 16 ^ (j + 1)) := by
                show _ < _
                rcases (show j = 0 ∨ j = 1 by omega) with rfl | rfl
                · simp at hn1 ⊢; omega
                · simp at hn1 ⊢; omega
              clear HM1 e1 hn1 hd hv hk
              go_wp2_with (first
                | (go_at_call 11; refine (has_b T (k1) (0) (f) b _ (by first | exact HW.out | exact HW.out.drew _ | exact HW.out.move _ | exact (HW.out.drew _).move _ | exact (HW.out.move _).drew _) hT).mono ?_; rintro r w6 ⟨rfl, hk6, hw6⟩; rw [HH.out]; have HK := hide1 ((HK.out.trans (by first | exact but_refl _ _ | exact but_drew (but_refl _ _) _ | exact but_set (but_refl _ _) _ _ | exact but_set (but_drew (but_refl _ _) _) _ _ | exact but_drew (but_set (but_refl _ _) _ _) _)).trans hk6); have HW := hide1 hw6; obtain ⟨c0, c1, c2, c3⟩ := hw6.cells; obtain ⟨z0, z1, z2, z3⟩ := hw6.free; have hb := hw6.lt; clear hk6 hw6)
                | go_quiet ((go_at_call 76; exact Calls.quiet_of_same (ddigit_v d v _ hdb HV.out))))
              go_roundw
              case rel => exact ⟨j + 1, 16 * n1 + v, k1 + 1, by go_num, by go_num, by omega, by omega, HP.out, by omega, by omega, (HKr.out.trans HK.out).trans (by first | exact but_set (but_refl _ _) _ _ | exact but_set (but_drew (but_refl _ _) _) _ _), (by first | exact HW.out.move _ | exact (HW.out.drew _).move _), by rw [show 2 - (j + 1) = 1 - j by omega]; exact HM2.out⟩
              case measure => simp [intOf]; omega
        · have hj3 : j = 2 := by omega
          subst hj3
          have HM1 : hxG T k 2 0 (k + 1 + 1, 0, f) = (n1, k1, 0, f) := HM.out
          have HM2 := hide1 HM1
          have hn3 : n1 ≤ 255 := by simp at hn1; omega
          clear HM1 hn1
          go_wp2_with (first

            | go_quiet (fail))
          all_goals
            go_ret
            exact ⟨⟨n1, rfl, by omega, by omega, fun h => by rw [HX.out.2 h, HM2.out]⟩, k1, by omega, by omega, fun _ => by rw [HX.out.1, HM2.out], HKr.out, by rw [HX.out.1, HM2.out]; exact HW.out⟩
    · have HE := hide1 (esc_last (f := f) HNE.out hcc hc110 hc114 hc116 hc120)
      have HB := hide1 (escBad_is c)
      obtain ⟨lb, hlb⟩ : ∃ x, (letterP c || digitP c) = x := ⟨_, rfl⟩
      have HLB := hide1 hlb
      rw [hlb] at HB
      clear hcc hlb
      by_cases hin : 32 < c ∧ c ≤ 126
      · obtain ⟨hin1, hin2⟩ := hin
        cases lb with
        | true =>
          have HE2 : Hid (escapeS T (k, 0, f) = (0, failS T (k, 0, f) 22 k))   := by show _ = _; have := HE.out; rw [HB.out] at this; simpa using this
          go_wp2_with (first
            | (go_at_call 11; refine (has_b T (k + 1) (0) (f) b _ (by first | exact HW.out | exact HW.out.drew _ | exact HW.out.move _ | exact (HW.out.drew _).move _ | exact (HW.out.move _).drew _) hT).mono ?_; rintro r w6 ⟨rfl, hk6, hw6⟩; rw [HH.out]; have HK := hide1 ((HK.out.trans (by first | exact but_refl _ _ | exact but_drew (but_refl _ _) _ | exact but_set (but_refl _ _) _ _ | exact but_set (but_drew (but_refl _ _) _) _ _ | exact but_drew (but_set (but_refl _ _) _ _) _)).trans hk6); have HW := hide1 hw6; obtain ⟨c0, c1, c2, c3⟩ := hw6.cells; obtain ⟨z0, z1, z2, z3⟩ := hw6.free; have hb := hw6.lt; clear hk6 hw6)
            | (go_at_call 77; refine (dletter_is _ _).mono ?_; rintro r w6 ⟨rfl, rfl⟩; rw [HLB.out])
            | (go_at_call 23; refine (dfail_is T (k + 1 + 1) (0) (f) _ _ b _ (by first | exact HW.out | exact HW.out.drew _ | exact HW.out.move _ | exact (HW.out.drew _).move _ | exact (HW.out.move _).drew _)).mono ?_; rintro r w6 ⟨rfl, hk6, hw6⟩; have HK := hide1 ((HK.out.trans (by first | exact but_refl _ _ | exact but_drew (but_refl _ _) _ | exact but_set (but_refl _ _) _ _ | exact but_set (but_drew (but_refl _ _) _) _ _ | exact but_drew (but_set (but_refl _ _) _ _) _)).trans hk6); have HW := hide1 hw6; obtain ⟨c0, c1, c2, c3⟩ := hw6.cells; obtain ⟨z0, z1, z2, z3⟩ := hw6.free; have hb := hw6.lt; clear hk6 hw6)
            | go_quiet (fail))
          all_goals
            go_ret
            rw [HE2.out]
            exact ⟨⟨0, rfl, by omega, by omega, fun _ => rfl⟩, k + 1 + 1, by omega, by omega, fun h => absurd h (fail22_ne _ _ _), HK.out, HW.out⟩
        | false =>
          have HE2 : Hid (escapeS T (k, 0, f) = (c, k + 1 + 1, 0, f))   := by show _ = _; have := HE.out; rw [HB.out] at this; simpa [hin1, hin2] using this
          go_wp2_with (first
            | (go_at_call 11; refine (has_b T (k + 1) (0) (f) b _ (by first | exact HW.out | exact HW.out.drew _ | exact HW.out.move _ | exact (HW.out.drew _).move _ | exact (HW.out.move _).drew _) hT).mono ?_; rintro r w6 ⟨rfl, hk6, hw6⟩; rw [HH.out]; have HK := hide1 ((HK.out.trans (by first | exact but_refl _ _ | exact but_drew (but_refl _ _) _ | exact but_set (but_refl _ _) _ _ | exact but_set (but_drew (but_refl _ _) _) _ _ | exact but_drew (but_set (but_refl _ _) _ _) _)).trans hk6); have HW := hide1 hw6; obtain ⟨c0, c1, c2, c3⟩ := hw6.cells; obtain ⟨z0, z1, z2, z3⟩ := hw6.free; have hb := hw6.lt; clear hk6 hw6)
            | (go_at_call 77; refine (dletter_is _ _).mono ?_; rintro r w6 ⟨rfl, rfl⟩; rw [HLB.out])
            | go_quiet (fail))
          all_goals
            go_ret
            rw [HE2.out]
            exact ⟨⟨c, by go_num, by omega, by omega, fun _ => rfl⟩, k + 1 + 1, by omega, by omega, fun _ => rfl, HK.out.trans (but_set (but_refl _ _) _ _), HW.out.move _⟩
      · have HE2 : Hid (escapeS T (k, 0, f) = (0, failS T (k, 0, f) 22 k)) := by
          show _ = _
          have h := HE.out
          rw [HB.out, show (decide (32 < c) && decide (c ≤ 126)) = false by simpa using hin] at h
          simpa using h
        by_cases hin1 : 32 < c
        · have hin2 : ¬ c ≤ 126 := fun h => hin ⟨hin1, h⟩
          clear hin
          go_wp2_with (first
            | (go_at_call 11; refine (has_b T (k + 1) (0) (f) b _ (by first | exact HW.out | exact HW.out.drew _ | exact HW.out.move _ | exact (HW.out.drew _).move _ | exact (HW.out.move _).drew _) hT).mono ?_; rintro r w6 ⟨rfl, hk6, hw6⟩; rw [HH.out]; have HK := hide1 ((HK.out.trans (by first | exact but_refl _ _ | exact but_drew (but_refl _ _) _ | exact but_set (but_refl _ _) _ _ | exact but_set (but_drew (but_refl _ _) _) _ _ | exact but_drew (but_set (but_refl _ _) _ _) _)).trans hk6); have HW := hide1 hw6; obtain ⟨c0, c1, c2, c3⟩ := hw6.cells; obtain ⟨z0, z1, z2, z3⟩ := hw6.free; have hb := hw6.lt; clear hk6 hw6)
            | (go_at_call 23; refine (dfail_is T (k + 1 + 1) (0) (f) _ _ b _ (by first | exact HW.out | exact HW.out.drew _ | exact HW.out.move _ | exact (HW.out.drew _).move _ | exact (HW.out.move _).drew _)).mono ?_; rintro r w6 ⟨rfl, hk6, hw6⟩; have HK := hide1 ((HK.out.trans (by first | exact but_refl _ _ | exact but_drew (but_refl _ _) _ | exact but_set (but_refl _ _) _ _ | exact but_set (but_drew (but_refl _ _) _) _ _ | exact but_drew (but_set (but_refl _ _) _ _) _)).trans hk6); have HW := hide1 hw6; obtain ⟨c0, c1, c2, c3⟩ := hw6.cells; obtain ⟨z0, z1, z2, z3⟩ := hw6.free; have hb := hw6.lt; clear hk6 hw6)
            | go_quiet (fail))
          all_goals
            go_ret
            rw [HE2.out]
            exact ⟨⟨0, rfl, by omega, by omega, fun _ => rfl⟩, k + 1 + 1, by omega, by omega, fun h => absurd h (fail22_ne _ _ _), HK.out, HW.out⟩
        · clear hin
          go_wp2_with (first
            | (go_at_call 11; refine (has_b T (k + 1) (0) (f) b _ (by first | exact HW.out | exact HW.out.drew _ | exact HW.out.move _ | exact (HW.out.drew _).move _ | exact (HW.out.move _).drew _) hT).mono ?_; rintro r w6 ⟨rfl, hk6, hw6⟩; rw [HH.out]; have HK := hide1 ((HK.out.trans (by first | exact but_refl _ _ | exact but_drew (but_refl _ _) _ | exact but_set (but_refl _ _) _ _ | exact but_set (but_drew (but_refl _ _) _) _ _ | exact but_drew (but_set (but_refl _ _) _ _) _)).trans hk6); have HW := hide1 hw6; obtain ⟨c0, c1, c2, c3⟩ := hw6.cells; obtain ⟨z0, z1, z2, z3⟩ := hw6.free; have hb := hw6.lt; clear hk6 hw6)
            | (go_at_call 23; refine (dfail_is T (k + 1 + 1) (0) (f) _ _ b _ (by first | exact HW.out | exact HW.out.drew _ | exact HW.out.move _ | exact (HW.out.drew _).move _ | exact (HW.out.move _).drew _)).mono ?_; rintro r w6 ⟨rfl, hk6, hw6⟩; have HK := hide1 ((HK.out.trans (by first | exact but_refl _ _ | exact but_drew (but_refl _ _) _ | exact but_set (but_refl _ _) _ _ | exact but_set (but_drew (but_refl _ _) _) _ _ | exact but_drew (but_set (but_refl _ _) _ _) _)).trans hk6); have HW := hide1 hw6; obtain ⟨c0, c1, c2, c3⟩ := hw6.cells; obtain ⟨z0, z1, z2, z3⟩ := hw6.free; have hb := hw6.lt; clear hk6 hw6)
            | go_quiet (fail))
          all_goals
            go_ret
            rw [HE2.out]
            exact ⟨⟨0, rfl, by omega, by omega, fun _ => rfl⟩, k + 1 + 1, by omega, by omega, fun h => absurd h (fail22_ne _ _ _), HK.out, HW.out⟩

end Ex
end Go.Proofs.YtnchmhginmaliaaGreatDoor
