import Derived.Test.YtnchmhginmaliaaGreatDoorMExDr3
import Derived.BigQuiet
namespace Go.Proofs.YtnchmhginmaliaaGreatDoor
open Go.RowKit
attribute [local go_sem] Oper.semAt_some
namespace Ex

def clsS : ByteArray := ⟨#[93, 45, 47]⟩
theorem cls_is (c : Int) (h0 : 0 ≤ c) (h1 : c ≤ 255) (hn : c ≠ 92) : inS classSignsS c = amongP (strI clsS) c := by
  have h : ∀ k : Fin 256, k.val ≠ 92 → inS classSignsS (k.val : Int) = amongP (strI clsS) (k.val : Int) := by decide +kernel
  have := h ⟨c.toNat, by omega⟩ (by show c.toNat ≠ 92; omega)
  simp only [] at this
  rwa [show ((c.toNat : Nat) : Int) = c by omega] at this
theorem next_v (T : ByteArray) (k e f c : Int) (b : Nat) (w : World) (h : DAt w b T k e f) (h0 : 0 ≤ k) (hT : T.size ≤ 4096) (v : Bool) (hv : nextD T k e c = v) :
    Calls Tryz.prog 39 #[.pointer (some ⟨b, 0, none⟩), .int .u8 c] w fun r w' => r = .returned (.bool v) ∧ KeptBut b w w' ∧ DAt w' b T k e f := by
  subst hv
  exact next_b T k e f c b w h h0 hT
theorem next_at {T : ByteArray} {k c : Int} (hc : c ≠ 0) (h : peekP T k = c) : nextD T k 0 c = true := by
  have := peek_lt (T := T) (k := k) (by rw [h]; exact hc)
  simp [nextD, hasD, this.2, h]
theorem next_not {T : ByteArray} {k e c : Int} (h : peekP T k ≠ c) : nextD T k e c = false := by simp [nextD, h]
theorem next_bad {T : ByteArray} {k e c : Int} (h : e ≠ 0) : nextD T k e c = false := by simp [nextD, hasD, h]
theorem has_at {T : ByteArray} {k : Int} (h : k < T.size) : hasD T k 0 = true := by simp [hasD, h]
theorem has_not {T : ByteArray} {k e : Int} (h : ¬ k < T.size) : hasD T k e = false := by simp [hasD]; omega
theorem has_bad {T : ByteArray} {k e : Int} (h : e ≠ 0) : hasD T k e = false := by simp [hasD, h]
theorem has_v (T : ByteArray) (k e f : Int) (b : Nat) (w : World) (h : DAt w b T k e f) (hT : T.size ≤ 4096) (v : Bool) (hv : hasD T k e = v) :
    Calls Tryz.prog 11 #[.pointer (some ⟨b, 0, none⟩)] w fun r w' => r = .returned (.bool v) ∧ KeptBut b w w' ∧ DAt w' b T k e f := by
  subst hv
  exact has_b T k e f b w h hT
theorem next_q (T : ByteArray) (k e f c : Int) (b : Nat) (w : World) (h : DAt w b T k e f) (h0 : 0 ≤ k) (hT : T.size ≤ 4096) (v : Bool) (hv : nextD T k e c = v) :
    Calls Tryz.prog 39 #[.pointer (some ⟨b, 0, none⟩), .int .u8 c] w fun r w' => r = .returned (.bool v) ∧ ∃ m, w' = w.drewN m := by
  subst hv
  exact next_is T k e f c b w h h0 hT
theorem printable_v (c : Int) (w : World) (v : Bool) (hv : printedP c = v) : Calls Tryz.prog 53 #[.int .u8 c] w fun e w' => e = .returned (.bool v) ∧ w' = w := by
  subst hv
  exact printable_is c w
set_option linter.unusedSimpArgs false in
set_option maxRecDepth 100000 in
set_option maxHeartbeats 4000000 in
theorem among_q (c : Int) (l : ByteArray) (w : World) (hl : l.size ≤ 1000) (v : Bool) (hv : amongP (strI l) c = v) : Calls Tryz.prog 36 #[.int .u8 c, .string l] w fun e w' => e = .returned (.bool v) ∧ ∃ m, w' = w.drewN m := by
  subst hv
  go_enter Tryz.func36, Tryz.ntmps36
  go_wp2_with fail
  go_loopw [5] (fun i wr => ∃ j m : Nat, i = .int .i64 (j : Int) ∧ j ≤ l.size ∧ Hid (wr = w.drewN m) ∧ Hid (((strI l).take j).any (fun x => x == c) = false)) (fun i _ => l.size - (intOf i).toNat)
  case atStart => exact ⟨0, 0, rfl, Nat.zero_le _, rfl, rfl⟩
  case round =>
    obtain ⟨j, m, rfl, hj, HKr, HA⟩ := hrel
    by_cases hlt : (j : Int) < (l.size : Int)
    · obtain ⟨x, hx, hrun⟩ := idx_str l j (by omega)
      have HX := hide1 hx
      have hr := hrun .i64
      clear hx hrun
      by_cases hxc : x = c
      · have hb : (x == c) = true := by simpa using hxc
        subst hxc
        go_wp2_with fail
        go_ret
        exact ⟨by unfold amongP; rw [any_hit HX.out]; rfl, by rw [HKr.out]; first | exact ⟨_, rfl⟩ | exact ⟨_, World.drewN_drewN _ _ _⟩⟩
      · have hb : (x == c) = false := by simpa using hxc
        go_wp2_with fail
        go_roundw
        case rel => exact ⟨j + 1, m, by go_num, by omega, HKr, any_take HX.out HA.out hxc⟩
        case measure => simp [intOf]; omega
    · go_wp2_with fail
      go_ret
      have h := HA.out
      rw [List.take_of_length_le (by rw [strI_len]; omega)] at h
      exact ⟨by unfold amongP; rw [h]; rfl, by rw [HKr.out]; first | exact ⟨_, rfl⟩ | exact ⟨_, World.drewN_drewN _ _ _⟩⟩

set_option linter.unusedSimpArgs false in
set_option maxRecDepth 100000 in
set_option maxHeartbeats 4000000 in
theorem done_is (T : ByteArray) (k f : Int) (b : Nat) (w : World) (h : DAt w b T k 0 f) (h0 : 0 ≤ k) (h1 : k ≤ T.size) (hT : T.size ≤ 4096) :
    Calls Tryz.prog 74 #[.pointer (some ⟨b, 0, none⟩)] w fun r w' => IGave b w T (oneA T (k, 0, f)) r w' := by
  have HW := hide1 h
  have HK := hide1 (but_refl b w)
  obtain ⟨c0, c1, c2, c3⟩ := h.cells
  obtain ⟨z0, z1, z2, z3⟩ := h.free
  have hb := h.lt
  have gT : (T.size : Int) ≤ 4096 := by omega
  have hcb := peek_byte T k
  unfold IsB at hcb
  clear h
  go_enter Tryz.func74, Tryz.ntmps74
  by_cases hc : peekP T k = 92
  · have hlt := (peek_lt (T := T) (k := k) (by rw [hc]; decide)).2
    have HN := hide1 (next_at (T := T) (k := k) (by decide) hc)
    have HE : Hid (oneA T (k, 0, f) = escapeS T (k, 0, f)) := by show _ = _; unfold oneA; rw [if_pos hc]
    clear hc
    go_wp2_with (first
      | (go_at_call 39; refine (next_v T (k) (0) (f) 92 b _ (by first | exact HW.out | exact HW.out.drew _ | exact HW.out.move _ | exact (HW.out.drew _).move _ | exact (HW.out.move _).drew _) (by omega) hT true HN.out).mono ?_; rintro r w6 ⟨rfl, hk6, hw6⟩; have HK := hide1 ((HK.out.trans (by first | exact but_refl _ _ | exact but_drew (but_refl _ _) _ | exact but_set (but_refl _ _) _ _ | exact but_set (but_drew (but_refl _ _) _) _ _ | exact but_drew (but_set (but_refl _ _) _ _) _)).trans hk6); have HW := hide1 hw6; obtain ⟨c0, c1, c2, c3⟩ := hw6.cells; obtain ⟨z0, z1, z2, z3⟩ := hw6.free; have hb := hw6.lt; clear hk6 hw6)
      | (go_at_call 55; refine (descape_is T k f b _ (by first | exact HW.out | exact HW.out.drew _ | exact HW.out.move _ | exact (HW.out.drew _).move _ | exact (HW.out.move _).drew _) h0 hlt hT).mono ?_; rintro r w6 ⟨⟨c, rfl, i0, i1, i2⟩, k2, j0, j1, j2, hk6, hw6⟩; have HI := hide1 i2; have HJ := hide1 j2; have HK := hide1 ((HK.out.trans (by first | exact but_refl _ _ | exact but_drew (but_refl _ _) _ | exact but_set (but_refl _ _) _ _ | exact but_set (but_drew (but_refl _ _) _) _ _ | exact but_drew (but_set (but_refl _ _) _ _) _)).trans hk6); have HW := hide1 hw6; clear i2 j2 hk6 hw6)
      | go_quiet (fail))
    all_goals
      go_ret
      rw [HE.out]
      exact ⟨⟨c, rfl, i0, i1, HI.out⟩, k2, j0, j1, HJ.out, HK.out, HW.out⟩
  · have HN := hide1 (next_not (T := T) (k := k) (e := 0) hc)
    have HE : Hid (oneA T (k, 0, f) = oneS T (k, 0, f)) := by show _ = _; unfold oneA; rw [if_neg hc]
    by_cases hlt : k < (T.size : Int)
    · have HH := hide1 (has_at hlt)
      have hr := idx_at T k h0 hlt
      have HS : Hid (oneS T (k, 0, f) = if printedP (peekP T k) && !amongP (strI clsS) (peekP T k) then (peekP T k, k + 1, 0, f) else (0, wrongS T (k, 0, f))) := by
        show _ = _
        unfold oneS
        rw [← cls_is _ hcb.1 hcb.2 hc]
      obtain ⟨c, hcc⟩ : ∃ c, peekP T k = c := ⟨_, rfl⟩
      rw [hcc] at hr hcb HS
      obtain ⟨pr, hpr⟩ : ∃ v, printedP c = v := ⟨_, rfl⟩
      obtain ⟨am, ham⟩ : ∃ v, amongP (strI clsS) c = v := ⟨_, rfl⟩
      have HPR := hide1 hpr
      have HAM := hide1 ham
      rw [hpr, ham] at HS
      clear hpr ham hcc hc
      cases pr with
      | false =>
        have HS2 := hide1 (HE.out.trans HS.out)
        go_wp2_with (first
          | (go_at_call 39; refine (next_v T (k) (0) (f) 92 b _ (by first | exact HW.out | exact HW.out.drew _ | exact HW.out.move _ | exact (HW.out.drew _).move _ | exact (HW.out.move _).drew _) (by omega) hT false HN.out).mono ?_; rintro r w6 ⟨rfl, hk6, hw6⟩; have HK := hide1 ((HK.out.trans (by first | exact but_refl _ _ | exact but_drew (but_refl _ _) _ | exact but_set (but_refl _ _) _ _ | exact but_set (but_drew (but_refl _ _) _) _ _ | exact but_drew (but_set (but_refl _ _) _ _) _)).trans hk6); have HW := hide1 hw6; obtain ⟨c0, c1, c2, c3⟩ := hw6.cells; obtain ⟨z0, z1, z2, z3⟩ := hw6.free; have hb := hw6.lt; clear hk6 hw6)
          | (go_at_call 12; refine (dwrong_is T (k) (0) (f) b _ (by first | exact HW.out | exact HW.out.drew _ | exact HW.out.move _ | exact (HW.out.drew _).move _ | exact (HW.out.move _).drew _) (by omega) hT).mono ?_; rintro r w6 ⟨rfl, hk6, hw6⟩; have HK := hide1 ((HK.out.trans (by first | exact but_refl _ _ | exact but_drew (but_refl _ _) _ | exact but_set (but_refl _ _) _ _ | exact but_set (but_drew (but_refl _ _) _) _ _ | exact but_drew (but_set (but_refl _ _) _ _) _)).trans hk6); have HW := hide1 hw6; obtain ⟨c0, c1, c2, c3⟩ := hw6.cells; obtain ⟨z0, z1, z2, z3⟩ := hw6.free; have hb := hw6.lt; clear hk6 hw6)
          | go_quiet ((first | (go_at_call 11; exact Calls.quiet_of (has_q T k 0 f b _ (HW.out.drew _) hT true HH.out)) | (go_at_call 53; exact Calls.quiet_of_same (printable_v c _ false HPR.out)) | (go_at_call 36; exact Calls.quiet_of (among_q c clsS _ (by decide) am HAM.out)))))
        all_goals
          go_ret
          rw [HS2.out]
          exact ⟨⟨0, rfl, by omega, by omega, fun _ => rfl⟩, k, by omega, by omega, fun h => absurd h (wrongS_ne _ _), HK.out, HW.out⟩
      | true =>
        cases am with
        | true =>
          have HS2 := hide1 (HE.out.trans HS.out)
          go_wp2_with (first
            | (go_at_call 39; refine (next_v T (k) (0) (f) 92 b _ (by first | exact HW.out | exact HW.out.drew _ | exact HW.out.move _ | exact (HW.out.drew _).move _ | exact (HW.out.move _).drew _) (by omega) hT false HN.out).mono ?_; rintro r w6 ⟨rfl, hk6, hw6⟩; have HK := hide1 ((HK.out.trans (by first | exact but_refl _ _ | exact but_drew (but_refl _ _) _ | exact but_set (but_refl _ _) _ _ | exact but_set (but_drew (but_refl _ _) _) _ _ | exact but_drew (but_set (but_refl _ _) _ _) _)).trans hk6); have HW := hide1 hw6; obtain ⟨c0, c1, c2, c3⟩ := hw6.cells; obtain ⟨z0, z1, z2, z3⟩ := hw6.free; have hb := hw6.lt; clear hk6 hw6)
            | (go_at_call 12; refine (dwrong_is T (k) (0) (f) b _ (by first | exact HW.out | exact HW.out.drew _ | exact HW.out.move _ | exact (HW.out.drew _).move _ | exact (HW.out.move _).drew _) (by omega) hT).mono ?_; rintro r w6 ⟨rfl, hk6, hw6⟩; have HK := hide1 ((HK.out.trans (by first | exact but_refl _ _ | exact but_drew (but_refl _ _) _ | exact but_set (but_refl _ _) _ _ | exact but_set (but_drew (but_refl _ _) _) _ _ | exact but_drew (but_set (but_refl _ _) _ _) _)).trans hk6); have HW := hide1 hw6; obtain ⟨c0, c1, c2, c3⟩ := hw6.cells; obtain ⟨z0, z1, z2, z3⟩ := hw6.free; have hb := hw6.lt; clear hk6 hw6)
            | go_quiet ((first | (go_at_call 11; exact Calls.quiet_of (has_q T k 0 f b _ (HW.out.drew _) hT true HH.out)) | (go_at_call 53; exact Calls.quiet_of_same (printable_v c _ true HPR.out)) | (go_at_call 36; exact Calls.quiet_of (among_q c clsS _ (by decide) true HAM.out)))))
          all_goals
            go_ret
            rw [HS2.out]
            exact ⟨⟨0, rfl, by omega, by omega, fun _ => rfl⟩, k, by omega, by omega, fun h => absurd h (wrongS_ne _ _), HK.out, HW.out⟩
        | false =>
          have HS2 := hide1 (HE.out.trans HS.out)
          go_wp2_with (first
            | (go_at_call 39; refine (next_v T (k) (0) (f) 92 b _ (by first | exact HW.out | exact HW.out.drew _ | exact HW.out.move _ | exact (HW.out.drew _).move _ | exact (HW.out.move _).drew _) (by omega) hT false HN.out).mono ?_; rintro r w6 ⟨rfl, hk6, hw6⟩; have HK := hide1 ((HK.out.trans (by first | exact but_refl _ _ | exact but_drew (but_refl _ _) _ | exact but_set (but_refl _ _) _ _ | exact but_set (but_drew (but_refl _ _) _) _ _ | exact but_drew (but_set (but_refl _ _) _ _) _)).trans hk6); have HW := hide1 hw6; obtain ⟨c0, c1, c2, c3⟩ := hw6.cells; obtain ⟨z0, z1, z2, z3⟩ := hw6.free; have hb := hw6.lt; clear hk6 hw6)
            | (go_at_call 12; refine (dwrong_is T (k) (0) (f) b _ (by first | exact HW.out | exact HW.out.drew _ | exact HW.out.move _ | exact (HW.out.drew _).move _ | exact (HW.out.move _).drew _) (by omega) hT).mono ?_; rintro r w6 ⟨rfl, hk6, hw6⟩; have HK := hide1 ((HK.out.trans (by first | exact but_refl _ _ | exact but_drew (but_refl _ _) _ | exact but_set (but_refl _ _) _ _ | exact but_set (but_drew (but_refl _ _) _) _ _ | exact but_drew (but_set (but_refl _ _) _ _) _)).trans hk6); have HW := hide1 hw6; obtain ⟨c0, c1, c2, c3⟩ := hw6.cells; obtain ⟨z0, z1, z2, z3⟩ := hw6.free; have hb := hw6.lt; clear hk6 hw6)
            | go_quiet ((first | (go_at_call 11; exact Calls.quiet_of (has_q T k 0 f b _ (HW.out.drew _) hT true HH.out)) | (go_at_call 53; exact Calls.quiet_of_same (printable_v c _ true HPR.out)) | (go_at_call 36; exact Calls.quiet_of (among_q c clsS _ (by decide) false HAM.out)))))
          all_goals
            go_ret
            rw [HS2.out]
            exact ⟨⟨c, by go_num, by omega, by omega, fun _ => rfl⟩, k + 1, by omega, by omega, fun _ => rfl, HK.out.trans (by first | exact but_set (but_drew (but_refl _ _) _) _ _ | exact but_set (but_drew (but_drew (but_refl _ _) _) _) _ _ | exact but_set (but_refl _ _) _ _), by first | exact (HW.out.drew _).move _ | exact ((HW.out.drew _).drew _).move _ | exact HW.out.move _⟩
    · have HH := hide1 (has_not (e := 0) hlt)
      have HS2 : Hid (oneA T (k, 0, f) = (0, wrongS T (k, 0, f))) := by
        show _ = _
        have hk : k = T.size := by omega
        rw [HE.out]
        unfold oneS
        dsimp only
        rw [hk, peek_end]
        rfl
      clear hc
      go_wp2_with (first
        | (go_at_call 39; refine (next_v T (k) (0) (f) 92 b _ (by first | exact HW.out | exact HW.out.drew _ | exact HW.out.move _ | exact (HW.out.drew _).move _ | exact (HW.out.move _).drew _) (by omega) hT false HN.out).mono ?_; rintro r w6 ⟨rfl, hk6, hw6⟩; have HK := hide1 ((HK.out.trans (by first | exact but_refl _ _ | exact but_drew (but_refl _ _) _ | exact but_set (but_refl _ _) _ _ | exact but_set (but_drew (but_refl _ _) _) _ _ | exact but_drew (but_set (but_refl _ _) _ _) _)).trans hk6); have HW := hide1 hw6; obtain ⟨c0, c1, c2, c3⟩ := hw6.cells; obtain ⟨z0, z1, z2, z3⟩ := hw6.free; have hb := hw6.lt; clear hk6 hw6)
        | (go_at_call 12; refine (dwrong_is T (k) (0) (f) b _ (by first | exact HW.out | exact HW.out.drew _ | exact HW.out.move _ | exact (HW.out.drew _).move _ | exact (HW.out.move _).drew _) (by omega) hT).mono ?_; rintro r w6 ⟨rfl, hk6, hw6⟩; have HK := hide1 ((HK.out.trans (by first | exact but_refl _ _ | exact but_drew (but_refl _ _) _ | exact but_set (but_refl _ _) _ _ | exact but_set (but_drew (but_refl _ _) _) _ _ | exact but_drew (but_set (but_refl _ _) _ _) _)).trans hk6); have HW := hide1 hw6; obtain ⟨c0, c1, c2, c3⟩ := hw6.cells; obtain ⟨z0, z1, z2, z3⟩ := hw6.free; have hb := hw6.lt; clear hk6 hw6)
        | go_quiet ((first | (go_at_call 11; exact Calls.quiet_of (has_q T k 0 f b _ (HW.out.drew _) hT false HH.out)))))
      all_goals
        go_ret
        rw [HS2.out]
        exact ⟨⟨0, rfl, by omega, by omega, fun _ => rfl⟩, k, by omega, by omega, fun h => absurd h (wrongS_ne _ _), HK.out, HW.out⟩

end Ex
end Go.Proofs.YtnchmhginmaliaaGreatDoor
namespace Go.Proofs.YtnchmhginmaliaaGreatDoor
open Go.RowKit
attribute [local go_sem] Oper.semAt_some
namespace Ex

/-- The loop of number. -/
def NumR (b : Nat) (w : World) (T : ByteArray) (k f : Int) (n i : Value) (wr : World) : Prop :=
  ∃ (j : Nat) (k1 n1 : Int), n = .int .i64 n1 ∧ i = .int .i64 (j : Int) ∧ k1 = k + (j : Int) ∧ j ≤ 4 ∧ k1 ≤ (T.size : Int) ∧ 0 ≤ n1 ∧ n1 < 10 ^ j ∧ KeptBut b w wr ∧ DAt wr b T k1 0 f ∧ ∀ N, numG T (j + N) k 0 = numG T N k1 n1
theorem ten_le {j : Nat} {n : Int} (h : n < 10 ^ j) (hj : j ≤ 4) : n ≤ 10000 := by
  have : ∀ i : Fin 5, (10 : Int) ^ i.val ≤ 10000 := by decide
  have := this ⟨j, by omega⟩
  simp only [] at this
  omega

set_option linter.unusedSimpArgs false in
set_option maxRecDepth 100000 in
set_option maxHeartbeats 4000000 in
theorem dnumber_is (T : ByteArray) (k f : Int) (b : Nat) (w : World) (h : DAt w b T k 0 f) (h0 : 0 ≤ k) (h1 : k ≤ T.size) (hT : T.size ≤ 4096) :
    Calls Tryz.prog 56 #[.pointer (some ⟨b, 0, none⟩)] w fun r w' => r = .returned (.int .i64 (numberS T (k, 0, f)).1) ∧ DGave b w T (numberS T (k, 0, f)).2 w' := by
  have HR := hide1 h
  have gT : (T.size : Int) ≤ 4096 := by omega
  clear h
  go_enter Tryz.func56, Tryz.ntmps56
  go_wp2_with fail
  go_loopw [3, 4] (fun n i wr => NumR b w T k f n i wr) (fun _ i _ => 4 - (intOf i).toNat)
  case atStart => exact ⟨0, k, 0, rfl, rfl, by omega, by omega, h1, by omega, by decide, but_refl b w, HR.out, fun N => by rw [Nat.zero_add]⟩
  case round =>
    obtain ⟨j, k1, n1, rfl, rfl, hk1, hj, hks, hn0, hn1, hKr, hRr, hM⟩ := hrel
    have HKr := hide1 hKr
    have HW := hide1 hRr
    have HK := hide1 (but_refl b wr)
    have HM := hide1 hM
    obtain ⟨c0, c1, c2, c3⟩ := hRr.cells
    obtain ⟨z0, z1, z2, z3⟩ := hRr.free
    have hb := hRr.lt
    have hn9 := ten_le hn1 hj
    have HN1 := hide1 hn1
    have hk0 : 0 ≤ k1 := by omega
    have HK1 := hide1 hk1
    clear hKr hRr hM hn1 hk1
    by_cases hj4 : j < 4
    · have hj4i : (j : Int) < 4 := by omega
      by_cases hlt : k1 < (T.size : Int)
      · have HH := hide1 (has_at hlt)
        have hr := idx_at T k1 (by omega) hlt
        have hcb := peek_byte T k1
        unfold IsB at hcb
        obtain ⟨c, hcc⟩ : ∃ c, peekP T k1 = c := ⟨_, rfl⟩
        rw [hcc] at hr hcb
        by_cases hd : 48 ≤ c ∧ c ≤ 57
        · obtain ⟨hd1, hd2⟩ := hd
          have HST : Hid (∀ N, numG T (N + 1) k1 n1 = numG T N (k1 + 1) (n1 * 10 + (c - 48))) := fun N => by rw [numG, hcc, if_pos (by simp [digitP]; omega)]
          have HP : Hid (10 * n1 + (c - 48) < 10 ^ (j + 1)) := by
            have := HN1.out
            show _ < _
            rw [Int.pow_succ]
            omega
          clear hcc
          go_wp2_with (first
            | fail
            | go_quiet ((go_at_call 11; exact Calls.quiet_of (has_q T k1 0 f b _ (by first | exact HW.out.drew _ | exact HW.out) hT true HH.out))))
          go_roundw
          case rel => exact ⟨j + 1, k1 + 1, 10 * n1 + (c - 48), by go_num, by go_num, by have := HK1.out; omega, by omega, by omega, by omega, HP.out, HKr.out.trans (by first | exact but_set (but_refl _ _) _ _ | exact but_set (but_drew (but_refl _ _) _) _ _ | exact but_set (but_drew (but_drew (but_refl _ _) _) _) _ _), (by first | exact HW.out.move _ | exact (HW.out.drew _).move _ | exact ((HW.out.drew _).drew _).move _), fun N => by rw [show j + 1 + N = j + (N + 1) by omega, HM.out, HST.out, show n1 * 10 + (c - 48) = 10 * n1 + (c - 48) by omega]⟩
          case measure => simp [intOf]; omega
        · have HE : Hid (numG T 4 k 0 = (n1, k1)) := by
            show _ = _
            rw [show 4 = j + (4 - j) by omega, HM.out, numG_end (Or.inr (by rw [hcc]; simp only [digitP]; simpa using hd))]
          by_cases hd1 : 48 ≤ c
          · have hd2 : ¬ c ≤ 57 := fun h => hd ⟨hd1, h⟩
            have bd2 : decide (c ≤ 57) = false := decide_eq_false hd2
            clear hcc hd
            by_cases hj0 : j = 0
            · have hj0i : (j : Int) = 0 := by omega
              have HNS : Hid (numberS T (k, 0, f) = (n1, wrongS T (k, 0, f))) := by show _ = _; unfold numberS; rw [HE.out, if_pos (by have := HK1.out; show k1 = k; omega)]
              have hkk : k1 = k := by have := HK1.out; omega
              subst hkk
              subst hj0
              clear hj0i HK1
              go_wp2_with (first
                | (go_at_call 12; refine (dwrong_is T (k1) (0) (f) b _ (by first | exact HW.out | exact HW.out.drew _ | exact HW.out.move _ | exact (HW.out.drew _).move _ | exact (HW.out.move _).drew _) (by omega) hT).mono ?_; rintro r w6 ⟨rfl, hk6, hw6⟩; have HK := hide1 ((HK.out.trans (by first | exact but_refl _ _ | exact but_drew (but_refl _ _) _ | exact but_set (but_refl _ _) _ _ | exact but_set (but_drew (but_refl _ _) _) _ _ | exact but_drew (but_set (but_refl _ _) _ _) _)).trans hk6); have HW := hide1 hw6; obtain ⟨c0, c1, c2, c3⟩ := hw6.cells; obtain ⟨z0, z1, z2, z3⟩ := hw6.free; have hb := hw6.lt; clear hk6 hw6)
                | go_quiet ((go_at_call 11; exact Calls.quiet_of (has_q T k1 0 f b _ (by first | exact HW.out.drew _ | exact HW.out) hT true HH.out))))
              all_goals
                go_ret
                rw [HNS.out]
                exact ⟨rfl, k1, by omega, by omega, fun h => absurd h (wrongS_ne _ _), HKr.out.trans HK.out, HW.out⟩
            · have HNS : Hid (numberS T (k, 0, f) = (n1, k1, 0, f)) := by show _ = _; unfold numberS; rw [HE.out, if_neg (by have := HK1.out; show ¬ k1 = k; omega)]
              have hj0i : ¬ (j : Int) = 0 := by omega
              go_wp2_with (first
                | fail
                | go_quiet ((go_at_call 11; exact Calls.quiet_of (has_q T k1 0 f b _ (by first | exact HW.out.drew _ | exact HW.out) hT true HH.out))))
              all_goals
                go_ret
                rw [HNS.out]
                exact ⟨rfl, k1, by omega, by omega, fun _ => rfl, HKr.out.trans (by first | exact HK.out | exact but_drew HK.out _ | exact but_drew (but_drew HK.out _) _), by first | exact HW.out | exact HW.out.drew _ | exact (HW.out.drew _).drew _⟩
          · have bd1 : decide (48 ≤ c) = false := decide_eq_false hd1
            have bd2 : decide (c ≥ 48) = false := decide_eq_false hd1
            clear hcc hd
            by_cases hj0 : j = 0
            · have hj0i : (j : Int) = 0 := by omega
              have HNS : Hid (numberS T (k, 0, f) = (n1, wrongS T (k, 0, f))) := by show _ = _; unfold numberS; rw [HE.out, if_pos (by have := HK1.out; show k1 = k; omega)]
              have hkk : k1 = k := by have := HK1.out; omega
              subst hkk
              subst hj0
              clear hj0i HK1
              go_wp2_with (first
                | (go_at_call 12; refine (dwrong_is T (k1) (0) (f) b _ (by first | exact HW.out | exact HW.out.drew _ | exact HW.out.move _ | exact (HW.out.drew _).move _ | exact (HW.out.move _).drew _) (by omega) hT).mono ?_; rintro r w6 ⟨rfl, hk6, hw6⟩; have HK := hide1 ((HK.out.trans (by first | exact but_refl _ _ | exact but_drew (but_refl _ _) _ | exact but_set (but_refl _ _) _ _ | exact but_set (but_drew (but_refl _ _) _) _ _ | exact but_drew (but_set (but_refl _ _) _ _) _)).trans hk6); have HW := hide1 hw6; obtain ⟨c0, c1, c2, c3⟩ := hw6.cells; obtain ⟨z0, z1, z2, z3⟩ := hw6.free; have hb := hw6.lt; clear hk6 hw6)
                | go_quiet ((go_at_call 11; exact Calls.quiet_of (has_q T k1 0 f b _ (by first | exact HW.out.drew _ | exact HW.out) hT true HH.out))))
              all_goals
                go_ret
                rw [HNS.out]
                exact ⟨rfl, k1, by omega, by omega, fun h => absurd h (wrongS_ne _ _), HKr.out.trans HK.out, HW.out⟩
            · have HNS : Hid (numberS T (k, 0, f) = (n1, k1, 0, f)) := by show _ = _; unfold numberS; rw [HE.out, if_neg (by have := HK1.out; show ¬ k1 = k; omega)]
              have hj0i : ¬ (j : Int) = 0 := by omega
              go_wp2_with (first
                | fail
                | go_quiet ((go_at_call 11; exact Calls.quiet_of (has_q T k1 0 f b _ (by first | exact HW.out.drew _ | exact HW.out) hT true HH.out))))
              all_goals
                go_ret
                rw [HNS.out]
                exact ⟨rfl, k1, by omega, by omega, fun _ => rfl, HKr.out.trans (by first | exact HK.out | exact but_drew HK.out _ | exact but_drew (but_drew HK.out _) _), by first | exact HW.out | exact HW.out.drew _ | exact (HW.out.drew _).drew _⟩
      · have HH := hide1 (has_not (e := 0) hlt)
        have HE : Hid (numG T 4 k 0 = (n1, k1)) := by
          show _ = _
          rw [show 4 = j + (4 - j) by omega, HM.out, numG_end (Or.inr (by rw [show k1 = T.size by omega, peek_end]; rfl))]
        by_cases hj0 : j = 0
        · have hj0i : (j : Int) = 0 := by omega
          have HNS : Hid (numberS T (k, 0, f) = (n1, wrongS T (k, 0, f))) := by show _ = _; unfold numberS; rw [HE.out, if_pos (by have := HK1.out; show k1 = k; omega)]
          have hkk : k1 = k := by have := HK1.out; omega
          subst hkk
          subst hj0
          clear hj0i HK1
          go_wp2_with (first
            | (go_at_call 12; refine (dwrong_is T (k1) (0) (f) b _ (by first | exact HW.out | exact HW.out.drew _ | exact HW.out.move _ | exact (HW.out.drew _).move _ | exact (HW.out.move _).drew _) (by omega) hT).mono ?_; rintro r w6 ⟨rfl, hk6, hw6⟩; have HK := hide1 ((HK.out.trans (by first | exact but_refl _ _ | exact but_drew (but_refl _ _) _ | exact but_set (but_refl _ _) _ _ | exact but_set (but_drew (but_refl _ _) _) _ _ | exact but_drew (but_set (but_refl _ _) _ _) _)).trans hk6); have HW := hide1 hw6; obtain ⟨c0, c1, c2, c3⟩ := hw6.cells; obtain ⟨z0, z1, z2, z3⟩ := hw6.free; have hb := hw6.lt; clear hk6 hw6)
            | go_quiet ((go_at_call 11; exact Calls.quiet_of (has_q T k1 0 f b _ (by first | exact HW.out.drew _ | exact HW.out) hT false HH.out))))
          all_goals
            go_ret
            rw [HNS.out]
            exact ⟨rfl, k1, by omega, by omega, fun h => absurd h (wrongS_ne _ _), HKr.out.trans HK.out, HW.out⟩
        · have HNS : Hid (numberS T (k, 0, f) = (n1, k1, 0, f)) := by show _ = _; unfold numberS; rw [HE.out, if_neg (by have := HK1.out; show ¬ k1 = k; omega)]
          have hj0i : ¬ (j : Int) = 0 := by omega
          go_wp2_with (first
            | fail
            | go_quiet ((go_at_call 11; exact Calls.quiet_of (has_q T k1 0 f b _ (by first | exact HW.out.drew _ | exact HW.out) hT false HH.out))))
          all_goals
            go_ret
            rw [HNS.out]
            exact ⟨rfl, k1, by omega, by omega, fun _ => rfl, HKr.out.trans (by first | exact HK.out | exact but_drew HK.out _ | exact but_drew (but_drew HK.out _) _), by first | exact HW.out | exact HW.out.drew _ | exact (HW.out.drew _).drew _⟩
    · have HE : Hid (numG T 4 k 0 = (n1, k1)) := by
        show _ = _
        rw [show 4 = j + (4 - j) by omega, HM.out, numG_end (Or.inl (by omega))]
      have HNS : Hid (numberS T (k, 0, f) = (n1, k1, 0, f)) := by show _ = _; unfold numberS; rw [HE.out, if_neg (by have := HK1.out; show ¬ k1 = k; omega)]
      have bj : decide ((j : Int) < 4) = false := decide_eq_false (by omega)
      have hj44 : j = 4 := by omega
      subst hj44
      go_wp2_with (go_quiet (fail))
      all_goals
        go_ret
        rw [HNS.out]
        exact ⟨rfl, k1, by omega, by omega, fun _ => rfl, HKr.out.trans (by first | exact HK.out | exact but_drew HK.out _), by first | exact HW.out | exact HW.out.drew _⟩

end Ex
end Go.Proofs.YtnchmhginmaliaaGreatDoor
