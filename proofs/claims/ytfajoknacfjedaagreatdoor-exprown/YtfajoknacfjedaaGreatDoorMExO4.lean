import Derived.Test.YtfajoknacfjedaaGreatDoorMExO3
import Derived.Test.YtfajoknacfjedaaGreatDoorMExCl3
import Derived.Test.YtfajoknacfjedaaGreatDoorMExRd8
namespace Go.Proofs.YtfajoknacfjedaaGreatDoor
open Go.RowKit
attribute [local go_sem] Oper.semAt_some
namespace Ex

/-- What pattern does, where less than N bytes are left. -/
def PatCU (T : ByteArray) (N : Nat) (pat : Int × Int × Int → Pat × Int × Int × Int) : Prop :=
  ∀ (k e f : Int) (b : Nat) (w : World), RAt w b T k e f → 0 ≤ k → k ≤ T.size → (T.size : Int) < k + (N : Int) →
    Calls Tryz.prog 26 #[.pointer (some ⟨b, 0, none⟩)] w fun r w' => PGivU (fun d => w.heap.size ≤ d) (pat (k, e, f)).1 r w' ∧ RGave b w T (pat (k, e, f)).2 w'
set_option linter.unusedSimpArgs false in
set_option maxRecDepth 100000 in
set_option maxHeartbeats 4000000 in
theorem atomU_is (T : ByteArray) (N : Nat) (pat : Int × Int × Int → Pat × Int × Int × Int) (hPC : PatCU T N pat) (hPO : PatOk T N pat) (k e f : Int) (b : Nat) (w : World) (h : RAt w b T k e f) (h0 : 0 ≤ k) (h1 : k < T.size) (hN : (T.size : Int) < k + ((N + 1 : Nat) : Int)) (hT : T.size ≤ 4096) :
    Calls Tryz.prog 55 #[.pointer (some ⟨b, 0, none⟩)] w fun r w' => PGivU (fun d => w.heap.size ≤ d) (atomA pat T (k, e, f)).1 r w' ∧ RGave b w T (atomA pat T (k, e, f)).2 w' := by
  have HR := hide1 h
  have HPC := hide1 hPC
  have hb := h.lt
  obtain ⟨c0, c1, c2, c3, c4⟩ := h.cells
  obtain ⟨z0, z1, z2, z3, z4⟩ := h.free
  have gT : (T.size : Int) ≤ 4096 := by omega
  have HA : Hid (atomA pat T (k, e, f) = if peekP T k = 92 then (rangeP (escapeS T (k, e, f)).1 (escapeS T (k, e, f)).1, (escapeS T (k, e, f)).2) else if peekP T k = 91 then classA T (k, e, f) else if peekP T k = 46 then (rangeP 0 255, k + 1, e, f) else if peekP T k = 40 then ((pat (k + 1, e, f)).1, if peekP T (pat (k + 1, e, f)).2.1 = 41 then ((pat (k + 1, e, f)).2.1 + 1, (pat (k + 1, e, f)).2.2) else wrongS T (pat (k + 1, e, f)).2) else if plainP (peekP T k) then (rangeP (peekP T k) (peekP T k), k + 1, e, f) else (zeroP, wrongS T (k, e, f))) := rfl
  obtain ⟨c, hcc⟩ : ∃ c, peekP T k = c := ⟨_, rfl⟩
  have hby := peek_byte T k
  unfold IsB at hby
  rw [hcc] at HA hby
  have HC := hide1 hcc
  clear h hcc hPC
  go_enter Tryz.func55, Tryz.ntmps55
  by_cases hne : c = 92
  · subst hne
    have HE : Hid (atomA pat T (k, e, f) = (rangeP (escapeS T (k, e, f)).1 (escapeS T (k, e, f)).1, (escapeS T (k, e, f)).2)) := by have := HA.out; rw [if_pos rfl] at this; exact this
    obtain ⟨⟨z, k3, e3, f3⟩, hz⟩ : ∃ x, escapeS T (k, e, f) = x := ⟨_, rfl⟩
    rw [hz] at HE
    have HZ := hide1 hz
    clear hz
    go_wp2_with (first
      | (go_at_call 53; refine (peek_is T k e f b _ (HR.out.keep ((Kept.refl _).alloc _ _)) h0 (by omega) hT).mono ?_; rintro r w6 ⟨rfl, nd, rfl⟩; rw [HC.out]; have HK := hide1 (box_start HR.out nd).1; have HW := hide1 (box_start HR.out nd).2.1; have HBZ := hide1 (box_start HR.out nd).2.2; obtain ⟨⟨p0, p1, p2, p3, p4, p5⟩, x0, x1, x2, x3, x4, x5⟩ := HBZ.out.facts)
      | (go_at_call 73; refine (escape_is T k e f b _ (by exact HW.out) h0 h1 hT).mono ?_; rintro r w8 ⟨rfl, hg⟩; rw [HZ.out] at hg ⊢; obtain ⟨hok8, hk8, hw8⟩ := hg; have HOK := hide1 hok8; have HK := hide1 (HK.out.trans hk8); have HW := hide1 hw8; have HBZ := hide1 (HBZ.out.but hk8 (by omega)); clear hk8 hw8 hok8)
      | (go_at_call 72; refine (single_is _ _).mono ?_; rintro r w9 ⟨rfl, hk9⟩; unfold rangeV; have HK := hide1 (HK.out.trans (hk9.but b)); have HW := hide1 (HW.out.keep hk9); have HBZ := hide1 (HBZ.out.keep hk9); obtain ⟨⟨p0, p1, p2, p3, p4, p5⟩, x0, x1, x2, x3, x4, x5⟩ := HBZ.out.facts; clear hk9))
    (try simp only [Exit.inBlock, Exit.then])
    refine bodyPost_ret (box_returns rfl _ _ w.heap.size _ _ _ _ _ _ rfl (BoxAt.set (by exact HBZ.out))) rfl ?_
    rw [HE.out]
    exact ⟨⟨_, rfl, rangeU_pat _ _ _ _⟩, HOK.out, fin_but HK.out (by omega), HW.out.fin (by omega)⟩
  · rw [if_neg hne] at HA
    by_cases hc1 : c = 91
    · subst hc1
      have HE : Hid (atomA pat T (k, e, f) = classA T (k, e, f)) := by have := HA.out; rw [if_pos rfl] at this; exact this
      go_wp2_with (first
        | (go_at_call 53; refine (peek_is T k e f b _ (HR.out.keep ((Kept.refl _).alloc _ _)) h0 (by omega) hT).mono ?_; rintro r w6 ⟨rfl, nd, rfl⟩; rw [HC.out]; have HK := hide1 (box_start HR.out nd).1; have HW := hide1 (box_start HR.out nd).2.1; have HBZ := hide1 (box_start HR.out nd).2.2; obtain ⟨⟨p0, p1, p2, p3, p4, p5⟩, x0, x1, x2, x3, x4, x5⟩ := HBZ.out.facts)
        | (go_at_call 74; refine (classU_is T k e f b _ (by exact HW.out) h0 h1 hT).mono ?_; rintro r w7 ⟨⟨v7, rfl, u7, rfl, hkk⟩, hg⟩; rw [valOf_eq]; obtain ⟨a7, c7, e7⟩ := hkk.form; subst e7; obtain ⟨hok, hk7, hw7⟩ := hg; have HOK := hide1 hok; have HKI := hide1 hkk; clear hkk hok; have HK := hide1 (HK.out.trans hk7); have HW := hide1 hw7; have HBZ := hide1 (HBZ.out.but hk7 (by omega)); obtain ⟨⟨p0, p1, p2, p3, p4, p5⟩, x0, x1, x2, x3, x4, x5⟩ := HBZ.out.facts; clear hk7 hw7))
      (try simp only [Exit.inBlock, Exit.then])
      refine bodyPost_ret (box_returns rfl _ _ w.heap.size _ _ _ _ _ _ rfl (BoxAt.set (by exact HBZ.out))) rfl ?_
      rw [HE.out]
      exact ⟨⟨_, rfl, _, rfl, KidsO.mono (set6_holdsU (S := fun d => w.heap.size < d) (fun h => absurd h (by omega))) (fun d h => by omega) _ _ _ (KidsO.mono (fun _ _ _ => rfl) (fun d h => by have h2 := h; simp at h2; omega) _ _ _ HKI.out)⟩, HOK.out, fin_but HK.out (by omega), HW.out.fin (by omega)⟩
    · by_cases hc2 : c = 46
      · subst hc2
        have HE : Hid (atomA pat T (k, e, f) = (rangeP 0 255, k + 1, e, f)) := by have := HA.out; rw [if_neg hc1, if_pos rfl] at this; exact this
        go_wp2_with (first
          | (go_at_call 53; refine (peek_is T k e f b _ (HR.out.keep ((Kept.refl _).alloc _ _)) h0 (by omega) hT).mono ?_; rintro r w6 ⟨rfl, nd, rfl⟩; rw [HC.out]; have HK := hide1 (box_start HR.out nd).1; have HW := hide1 (box_start HR.out nd).2.1; have HBZ := hide1 (box_start HR.out nd).2.2; obtain ⟨⟨p0, p1, p2, p3, p4, p5⟩, x0, x1, x2, x3, x4, x5⟩ := HBZ.out.facts)
          | (go_at_call 38; refine (take_is T k e f _ b _ (by exact HW.out) h0 (by omega) hT).mono ?_; rintro r w8 ⟨rfl, hk8, hw8⟩; rw [HC.out]; simp [takeK, HC.out] at hw8; have HK := hide1 (HK.out.trans hk8); have HW := hide1 hw8; have HBZ := hide1 (HBZ.out.but hk8 (by omega)); obtain ⟨⟨p0, p1, p2, p3, p4, p5⟩, x0, x1, x2, x3, x4, x5⟩ := HBZ.out.facts; clear hk8 hw8))
        (try simp only [Exit.inBlock, Exit.then])
        refine bodyPost_ret (box_returns rfl _ _ w.heap.size _ _ _ _ _ _ rfl (BoxAt.set (by exact HBZ.out))) rfl ?_
        rw [HE.out]
        exact ⟨⟨_, rfl, rangeU_pat _ _ _ _⟩, ⟨by show 0 ≤ k + 1; omega, by show k + 1 ≤ _; omega⟩, fin_but HK.out (by omega), HW.out.fin (by omega)⟩
      · by_cases hc3 : c = 40
        · subst hc3
          have hok := hPO (k + 1, e, f) ⟨by show 0 ≤ k + 1; omega, by show k + 1 ≤ _; omega⟩ (by show (T.size : Int) < k + 1 + N; omega)
          have HE0 := HA.out
          rw [if_neg hc1, if_neg hc2, if_pos rfl] at HE0
          obtain ⟨⟨q, k3, e3, f3⟩, hq⟩ : ∃ x, pat (k + 1, e, f) = x := ⟨_, rfl⟩
          rw [hq] at hok HE0
          have HQ := hide1 hq
          obtain ⟨ok3, _⟩ := hok
          unfold OkS at ok3
          dsimp only at ok3 HE0
          by_cases hd : peekP T k3 = 41
          · have HTK : Hid (takeK T k3 41 = k3 + 1) := by show _ = _; rw [takeK, if_pos hd]
            have HTB : Hid ((peekP T k3 == 41) = true) := by show _ = _; rw [hd]; rfl
            have hlt := (peek_lt (T := T) (k := k3) (by rw [hd]; decide)).2
            rw [if_pos hd] at HE0
            have HE := hide1 HE0
            clear HE0 hd hq hPO
            go_wp2_with (first
              | (go_at_call 53; refine (peek_is T k e f b _ (HR.out.keep ((Kept.refl _).alloc _ _)) h0 (by omega) hT).mono ?_; rintro r w6 ⟨rfl, nd, rfl⟩; rw [HC.out]; have HK := hide1 (box_start HR.out nd).1; have HW := hide1 (box_start HR.out nd).2.1; have HBZ := hide1 (box_start HR.out nd).2.2; obtain ⟨⟨p0, p1, p2, p3, p4, p5⟩, x0, x1, x2, x3, x4, x5⟩ := HBZ.out.facts)
              | (have _g := HKI; clear _g; go_at_call 38; refine (take_is T k3 e3 f3 41 b _ (HW.out.keep ((Kept.refl _).alloc _ _)) ok3.1 ok3.2 hT).mono ?_; rintro r w9 ⟨rfl, hq9, hw9⟩; rw [HTK.out] at hw9; rw [HTB.out]; have HBE := hide1 (BoxAt.but (BoxAt.new w7 _ _ _ _ _ _) hq9 (by have := HW.out.lt; omega)); have hk9 := but_allocd hq9; have HKI := hide1 (KidsO.mono (hk9.holdsU (S := fun d => w.heap.size < d) (by omega)) (fun _ h => h) _ _ _ HKI.out); obtain ⟨⟨q0, q1, q2, q3, q4, q5⟩, _⟩ := HBE.out.facts; have HK := hide1 (HK.out.trans hk9); have HW := hide1 hw9; have HBZ := hide1 (HBZ.out.but hk9 (by omega)); obtain ⟨⟨p0, p1, p2, p3, p4, p5⟩, x0, x1, x2, x3, x4, x5⟩ := HBZ.out.facts; clear hk9 hw9)
              | (go_at_call 38; refine (take_is T k e f _ b _ (by exact HW.out) h0 (by omega) hT).mono ?_; rintro r w8 ⟨rfl, hk8, hw8⟩; rw [HC.out]; simp [takeK, HC.out] at hw8; have HK := hide1 (HK.out.trans hk8); have HW := hide1 hw8; have HBZ := hide1 (HBZ.out.but hk8 (by omega)); obtain ⟨⟨p0, p1, p2, p3, p4, p5⟩, x0, x1, x2, x3, x4, x5⟩ := HBZ.out.facts; clear hk8 hw8)
              | (go_at_call 26; refine (HPC.out (k + 1) e f b _ (by exact HW.out) (by omega) (by omega) (by omega)).mono ?_; rintro r w7 ⟨⟨v7, rfl, u7, rfl, hkk⟩, hg⟩; rw [HQ.out] at hg hkk ⊢; rw [valOf_eq]; obtain ⟨a7, c7, e7⟩ := hkk.form; subst e7; obtain ⟨hok, hk7, hw7⟩ := hg; have HKI := hide1 (KidsO.mono (S' := fun d => w.heap.size < d) (fun _ _ _ => rfl) (fun d h => by have := HBZ.out.lt; omega) _ _ _ hkk); clear hkk hok; have HK := hide1 (HK.out.trans hk7); have HW := hide1 hw7; have HBZ := hide1 (HBZ.out.but hk7 (by omega)); obtain ⟨⟨p0, p1, p2, p3, p4, p5⟩, x0, x1, x2, x3, x4, x5⟩ := HBZ.out.facts; clear hk7 hw7))
            (try simp only [Exit.inBlock, Exit.then])
            refine bodyPost_ret (box_returns rfl _ _ w.heap.size _ _ _ _ _ _ rfl (BoxAt.set (by exact HBZ.out))) rfl ?_
            rw [HE.out]
            exact ⟨⟨_, rfl, _, rfl, KidsO.mono (set6_holdsU (S := fun d => w.heap.size < d) (fun h => absurd h (by omega))) (fun d h => by omega) _ _ _ HKI.out⟩, ⟨by show 0 ≤ k3 + 1; omega, by show k3 + 1 ≤ _; omega⟩, fin_but HK.out (by omega), HW.out.fin (by omega)⟩
          · have HTK : Hid (takeK T k3 41 = k3) := by show _ = _; rw [takeK, if_neg hd]
            have HTB : Hid ((peekP T k3 == 41) = false) := by show _ = _; simpa using hd
            rw [if_neg hd] at HE0
            have HE := hide1 HE0
            clear HE0 hd hq hPO
            go_wp2_with (first
              | (go_at_call 53; refine (peek_is T k e f b _ (HR.out.keep ((Kept.refl _).alloc _ _)) h0 (by omega) hT).mono ?_; rintro r w6 ⟨rfl, nd, rfl⟩; rw [HC.out]; have HK := hide1 (box_start HR.out nd).1; have HW := hide1 (box_start HR.out nd).2.1; have HBZ := hide1 (box_start HR.out nd).2.2; obtain ⟨⟨p0, p1, p2, p3, p4, p5⟩, x0, x1, x2, x3, x4, x5⟩ := HBZ.out.facts)
              | (have _g := HKI; clear _g; go_at_call 38; refine (take_is T k3 e3 f3 41 b _ (HW.out.keep ((Kept.refl _).alloc _ _)) ok3.1 ok3.2 hT).mono ?_; rintro r w9 ⟨rfl, hq9, hw9⟩; rw [HTK.out] at hw9; rw [HTB.out]; have HBE := hide1 (BoxAt.but (BoxAt.new w7 _ _ _ _ _ _) hq9 (by have := HW.out.lt; omega)); have hk9 := but_allocd hq9; have HKI := hide1 (KidsO.mono (hk9.holdsU (S := fun d => w.heap.size < d) (by omega)) (fun _ h => h) _ _ _ HKI.out); have HB7 : Hid (b < w7.heap.size) := HW.out.lt; obtain ⟨⟨q0, q1, q2, q3, q4, q5⟩, _⟩ := HBE.out.facts; have HK := hide1 (HK.out.trans hk9); have HW := hide1 hw9; have HBZ := hide1 (HBZ.out.but hk9 (by omega)); obtain ⟨⟨p0, p1, p2, p3, p4, p5⟩, x0, x1, x2, x3, x4, x5⟩ := HBZ.out.facts; clear hk9 hw9)
              | (go_at_call 38; refine (take_is T k e f _ b _ (by exact HW.out) h0 (by omega) hT).mono ?_; rintro r w8 ⟨rfl, hk8, hw8⟩; rw [HC.out]; simp [takeK, HC.out] at hw8; have HK := hide1 (HK.out.trans hk8); have HW := hide1 hw8; have HBZ := hide1 (HBZ.out.but hk8 (by omega)); obtain ⟨⟨p0, p1, p2, p3, p4, p5⟩, x0, x1, x2, x3, x4, x5⟩ := HBZ.out.facts; clear hk8 hw8)
              | (go_at_call 26; refine (HPC.out (k + 1) e f b _ (by exact HW.out) (by omega) (by omega) (by omega)).mono ?_; rintro r w7 ⟨⟨v7, rfl, u7, rfl, hkk⟩, hg⟩; rw [HQ.out] at hg hkk ⊢; rw [valOf_eq]; obtain ⟨a7, c7, e7⟩ := hkk.form; subst e7; obtain ⟨hok, hk7, hw7⟩ := hg; have HKI := hide1 (KidsO.mono (S' := fun d => w.heap.size < d) (fun _ _ _ => rfl) (fun d h => by have := HBZ.out.lt; omega) _ _ _ hkk); clear hkk hok; have HK := hide1 (HK.out.trans hk7); have HW := hide1 hw7; have HBZ := hide1 (HBZ.out.but hk7 (by omega)); obtain ⟨⟨p0, p1, p2, p3, p4, p5⟩, x0, x1, x2, x3, x4, x5⟩ := HBZ.out.facts; clear hk7 hw7)
              | (go_at_call 27; refine (wrong_is T _ _ _ b _ (by exact HW.out) hT).mono ?_; rintro r w10 ⟨rfl, hk10, hw10⟩; have HKI := hide1 (KidsO.mono (hk10.holdsU (S := fun d => w.heap.size < d) (by omega)) (fun _ h => h) _ _ _ HKI.out); have HBE := hide1 (HBE.out.but hk10 (by have := HBE.out.lt; have := HB7.out; omega)); obtain ⟨⟨q0, q1, q2, q3, q4, q5⟩, _⟩ := HBE.out.facts; have HK := hide1 (HK.out.trans hk10); have HW := hide1 hw10; have HBZ := hide1 (HBZ.out.but hk10 (by omega)); obtain ⟨⟨p0, p1, p2, p3, p4, p5⟩, x0, x1, x2, x3, x4, x5⟩ := HBZ.out.facts; clear hk10 hw10))
            (try simp only [Exit.inBlock, Exit.then])
            refine bodyPost_ret (box_returns rfl _ _ w.heap.size _ _ _ _ _ _ rfl (BoxAt.set (by exact HBZ.out))) rfl ?_
            rw [HE.out]
            exact ⟨⟨_, rfl, _, rfl, KidsO.mono (set6_holdsU (S := fun d => w.heap.size < d) (fun h => absurd h (by omega))) (fun d h => by omega) _ _ _ HKI.out⟩, wrong_ok _ _, fin_but HK.out (by omega), HW.out.fin (by omega)⟩
        · by_cases hc4 : plainP c = true
          · have HPL := hide1 hc4
            have HE : Hid (atomA pat T (k, e, f) = (rangeP c c, k + 1, e, f)) := by have := HA.out; rw [if_neg hc1, if_neg hc2, if_neg hc3, if_pos hc4] at this; exact this
            clear hc4
            go_wp2_with (first
              | (go_at_call 53; refine (peek_is T k e f b _ (HR.out.keep ((Kept.refl _).alloc _ _)) h0 (by omega) hT).mono ?_; rintro r w6 ⟨rfl, nd, rfl⟩; rw [HC.out]; have HK := hide1 (box_start HR.out nd).1; have HW := hide1 (box_start HR.out nd).2.1; have HBZ := hide1 (box_start HR.out nd).2.2; obtain ⟨⟨p0, p1, p2, p3, p4, p5⟩, x0, x1, x2, x3, x4, x5⟩ := HBZ.out.facts)
              | (go_at_call 38; refine (take_is T k e f _ b _ (by exact HW.out) h0 (by omega) hT).mono ?_; rintro r w8 ⟨rfl, hk8, hw8⟩; rw [HC.out]; simp [takeK, HC.out, hc2, hc3] at hw8; have HK := hide1 (HK.out.trans hk8); have HW := hide1 hw8; have HBZ := hide1 (HBZ.out.but hk8 (by omega)); obtain ⟨d0, d1, d2, d3, d4⟩ := HW.out.cells; obtain ⟨e0, e1, e2, e3, e4⟩ := HW.out.free; obtain ⟨⟨p0, p1, p2, p3, p4, p5⟩, x0, x1, x2, x3, x4, x5⟩ := HBZ.out.facts; clear hk8 hw8)
              | (go_at_call 75; refine (plain_is _ _).mono ?_; rintro r w6 ⟨rfl, rfl⟩; rw [HPL.out])
              | (go_at_call 72; refine (single_is _ _).mono ?_; rintro r w9 ⟨rfl, hk9⟩; unfold rangeV; have HK := hide1 (HK.out.trans ((setCell_but _ _ _ _).trans (hk9.but b))); have HW := hide1 ((HW.out.move _).keep hk9); have HBZ := hide1 ((HBZ.out.but (setCell_but _ _ _ _) (by omega)).keep hk9); obtain ⟨⟨p0, p1, p2, p3, p4, p5⟩, x0, x1, x2, x3, x4, x5⟩ := HBZ.out.facts; clear hk9))
            (try simp only [Exit.inBlock, Exit.then])
            refine bodyPost_ret (box_returns rfl _ _ w.heap.size _ _ _ _ _ _ rfl (BoxAt.set (by exact HBZ.out))) rfl ?_
            rw [HE.out]
            exact ⟨⟨_, rfl, rangeU_pat _ _ _ _⟩, ⟨by show 0 ≤ k + 1; omega, by show k + 1 ≤ _; omega⟩, fin_but HK.out (by omega), HW.out.fin (by omega)⟩
          · have hc5 : plainP c = false := by simpa using hc4
            have HPL := hide1 hc5
            have HE : Hid (atomA pat T (k, e, f) = (zeroP, wrongS T (k, e, f))) := by have := HA.out; rw [if_neg hc1, if_neg hc2, if_neg hc3, if_neg hc4] at this; exact this
            clear hc4 hc5
            go_wp2_with (first
              | (go_at_call 53; refine (peek_is T k e f b _ (HR.out.keep ((Kept.refl _).alloc _ _)) h0 (by omega) hT).mono ?_; rintro r w6 ⟨rfl, nd, rfl⟩; rw [HC.out]; have HK := hide1 (box_start HR.out nd).1; have HW := hide1 (box_start HR.out nd).2.1; have HBZ := hide1 (box_start HR.out nd).2.2; obtain ⟨⟨p0, p1, p2, p3, p4, p5⟩, x0, x1, x2, x3, x4, x5⟩ := HBZ.out.facts)
              | (go_at_call 38; refine (take_is T k e f _ b _ (by exact HW.out) h0 (by omega) hT).mono ?_; rintro r w8 ⟨rfl, hk8, hw8⟩; rw [HC.out]; simp [takeK, HC.out, hc2, hc3] at hw8; have HK := hide1 (HK.out.trans hk8); have HW := hide1 hw8; have HBZ := hide1 (HBZ.out.but hk8 (by omega)); obtain ⟨⟨p0, p1, p2, p3, p4, p5⟩, x0, x1, x2, x3, x4, x5⟩ := HBZ.out.facts; clear hk8 hw8)
              | (go_at_call 75; refine (plain_is _ _).mono ?_; rintro r w6 ⟨rfl, rfl⟩; rw [HPL.out])
              | (go_at_call 27; refine (wrong_is T _ _ _ b _ (by exact HW.out) hT).mono ?_; rintro r w10 ⟨rfl, hk10, hw10⟩; have HK := hide1 (HK.out.trans hk10); have HW := hide1 hw10; have HBZ := hide1 (HBZ.out.but hk10 (by omega)); obtain ⟨⟨p0, p1, p2, p3, p4, p5⟩, x0, x1, x2, x3, x4, x5⟩ := HBZ.out.facts; clear hk10 hw10))
            (try simp only [Exit.inBlock, Exit.then])
            refine bodyPost_ret (box_returns rfl _ _ w.heap.size _ _ _ _ _ _ rfl (BoxAt.set (by exact HBZ.out))) rfl ?_
            rw [HE.out]
            exact ⟨⟨_, rfl, .slice none 0 0, rfl, kidsO_nil _ _ _ _ _ _ rfl⟩, wrong_ok _ _, fin_but HK.out (by omega), HW.out.fin (by omega)⟩

end Ex
end Go.Proofs.YtfajoknacfjedaaGreatDoor
namespace Go.Proofs.YtfajoknacfjedaaGreatDoor
open Go.RowKit
attribute [local go_sem] Oper.semAt_some
namespace Ex

theorem clG_ok {T : ByteArray} {y : Int} : ∀ (m : Nat) (l : List (Int × Int)) (s : Int × Int × Int), OkS T s → OkS T (clG T y m l s).2 ∧ s.1 ≤ (clG T y m l s).2.1
  | 0, l, s, h => ⟨h, Int.le_refl _⟩
  | m + 1, l, s, h => by
    rw [clG]
    split
    · split
      · rename_i hc
        exact ⟨take_ok (T := T) (s := s) (c := 93) (by decide) hc, by show s.1 ≤ s.1 + 1; omega⟩
      · have h1 := memberA_ok (y := y) h
        have h2 := clG_ok (y := y) m (l ++ [(memR T s y).1]) (memR T s y).2 h1.1
        exact ⟨h2.1, by have h3 := h1.2.1; have h4 : (memberA T s y).2.1 ≤ _ := h2.2; omega⟩
    · exact ⟨h, Int.le_refl _⟩
theorem classA_ok {T : ByteArray} {s : Int × Int × Int} (h : OkS T (s.1 + 1, s.2)) : OkS T (classA T s).2 ∧ s.1 < (classA T s).2.1 := by
  have h0 : OkS T (takeK T (s.1 + 1) 94, s.2) ∧ s.1 + 1 ≤ takeK T (s.1 + 1) 94 := by
    unfold takeK
    split
    · rename_i hc
      exact ⟨take_ok (T := T) (s := (s.1 + 1, s.2)) (c := 94) (by decide) hc, by omega⟩
    · exact ⟨h, Int.le_refl _⟩
  have h1 := memberA_ok (y := s.1) h0.1
  have h2 := clG_ok (y := s.1) 4098 [(memR T (takeK T (s.1 + 1) 94, s.2) s.1).1] (memR T (takeK T (s.1 + 1) 94, s.2) s.1).2 h1.1
  have h3 : takeK T (s.1 + 1) 94 ≤ (memberA T (takeK T (s.1 + 1) 94, s.2) s.1).2.1 := h1.2.1
  have h4 : (memberA T (takeK T (s.1 + 1) 94, s.2) s.1).2.1 ≤ (clL T s).2.1 := h2.2
  have h5 := h0.2
  have h6 : s.1 + 1 ≤ T.size := h.2
  unfold classA clE
  split
  · exact ⟨fail_ok _ _ _ _, by show s.1 < (T.size : Int); omega⟩
  · exact ⟨h2.1, by show s.1 < (clL T s).2.1; omega⟩
theorem escape_far {T : ByteArray} {s : Int × Int × Int} (h0 : 0 ≤ s.1) (h1 : s.1 < T.size) : s.1 < (escapeS T s).2.1 := by
  unfold escapeS
  split
  · exact h1
  · rename_i h2
    have g : OkS T (s.1 + 1 + 1, s.2) := ⟨by show 0 ≤ s.1 + 1 + 1; omega, by show s.1 + 1 + 1 ≤ _; omega⟩
    split
    · show s.1 < s.1 + 1 + 1; omega
    · split
      · show s.1 < s.1 + 1 + 1; omega
      · split
        · show s.1 < s.1 + 1 + 1; omega
        · split
          · have a := hex_ok (o := s.1) g
            have c := hex_ok (o := s.1) a.1
            have a2 : s.1 + 1 + 1 ≤ (hexR T (s.1 + 1 + 1, s.2) s.1).2.1 := a.2
            have c2 := c.2
            show s.1 < (hexR T (hexR T (s.1 + 1 + 1, s.2) s.1).2 s.1).2.1; omega
          · split
            · exact h1
            · show s.1 < s.1 + 1 + 1; omega
theorem atomA_ok {T : ByteArray} {N : Nat} {pat : Int × Int × Int → Pat × Int × Int × Int} (hP : PatOk T N pat) {s : Int × Int × Int} (h : OkS T s) (hlt : s.1 < T.size) (hN : (T.size : Int) < s.1 + ((N + 1 : Nat) : Int)) : OkS T (atomA pat T s).2 ∧ s.1 < (atomA pat T s).2.1 := by
  have h0 := h.1
  have h1 : OkS T (s.1 + 1, s.2) := ⟨by show 0 ≤ s.1 + 1; omega, by show s.1 + 1 ≤ _; omega⟩
  unfold atomA
  split
  · exact ⟨(esc_ok h0 hlt).1, escape_far h0 hlt⟩
  split
  · exact classA_ok h1
  · split
    · exact ⟨h1, by show s.1 < s.1 + 1; omega⟩
    · split
      · have h2 := hP (s.1 + 1, s.2) h1 (by show (T.size : Int) < s.1 + 1 + N; omega)
        have h3 := h2.2
        dsimp only at h3
        dsimp only
        split
        · rename_i hc
          exact ⟨take_ok (T := T) (s := (pat (s.1 + 1, s.2)).2) (c := 41) (by decide) hc, by show s.1 < (pat (s.1 + 1, s.2)).2.1 + 1; omega⟩
        · exact ⟨wrong_ok _ _, hlt⟩
      · split
        · exact ⟨h1, by show s.1 < s.1 + 1; omega⟩
        · exact ⟨wrong_ok _ _, hlt⟩
/-- An atom and how often it stands. -/
def itemA (pat : Int × Int × Int → Pat × Int × Int × Int) (T : ByteArray) (s : Int × Int × Int) : Pat × Int × Int × Int := timesS T (atomA pat T s).1 (atomA pat T s).2
theorem itemA_ok {T : ByteArray} {N : Nat} {pat : Int × Int × Int → Pat × Int × Int × Int} (hP : PatOk T N pat) {s : Int × Int × Int} (h : OkS T s) (hlt : s.1 < T.size) (hN : (T.size : Int) < s.1 + ((N + 1 : Nat) : Int)) : OkS T (itemA pat T s).2 ∧ s.1 < (itemA pat T s).2.1 := by
  have h1 := atomA_ok hP h hlt hN
  have h2 := timesG_ok 4097 (atomA pat T s).1 (atomA pat T s).2 h1.1
  exact ⟨h2.1, by have := h1.2; have := h2.2; show s.1 < (timesS T (atomA pat T s).1 (atomA pat T s).2).2.1; unfold timesS; omega⟩
def patA (T : ByteArray) : Nat → Int × Int × Int → Pat × Int × Int × Int
  | 0, s => (zeroP, s)
  | N + 1, s => patO (rowS (itemA (patA T N) T) T) T s
theorem patA_ok {T : ByteArray} : ∀ N, PatOk T N (patA T N) := by
  intro N
  induction N with
  | zero => intro s h hN; have := h.2; omega
  | succ N ih =>
    have hR : ∀ s, OkS T s → (T.size : Int) < s.1 + ((N + 1 : Nat) : Int) → OkS T (rowS (itemA (patA T N) T) T s).2 ∧ s.1 ≤ (rowS (itemA (patA T N) T) T s).2.1 := fun s h hN => rowG_ok (N := N + 1) (fun s h hlt hN => itemA_ok ih h hlt hN) 4097 [] s h hN
    intro s h hN
    have h1 := hR s h hN
    have h2 := patG_ok hR 4097 [(rowS (itemA (patA T N) T) T s).1] (rowS (itemA (patA T N) T) T s).2 h1.1 (by have := h1.2; omega)
    exact ⟨h2.1, by have := h1.2; have := h2.2; show s.1 ≤ (patG _ T 4097 _ _).2.1; omega⟩

end Ex
end Go.Proofs.YtfajoknacfjedaaGreatDoor
