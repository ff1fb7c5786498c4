import Derived.Test.YtbnchnlogikecaaGreatDoorPExO3
import Derived.Test.YtbnchnlogikecaaGreatDoorPExCl3
namespace Go.Proofs.YtbnchnlogikecaaGreatDoor
open Go.RowKit
attribute [local go_sem] Oper.semAt_some
set_option linter.unusedSimpArgs false
set_option maxRecDepth 100000
set_option maxHeartbeats 4000000
namespace Ex
def PatCU (T : ByteArray) (N : Nat) (pat : Int × Int × Int → Pat × Int × Int × Int) : Prop :=
  ∀ (k e f : Int) (b : Nat) (w : World), RAt w b T k e f → 0 ≤ k → k ≤ T.size → (T.size : Int) < k + (N : Int) →
    Calls Tryz.prog 130 #[.pointer (some ⟨b, 0, none⟩)] w fun r w' => PGivU (fun d => w.heap.size ≤ d) (pat (k, e, f)).1 r w' ∧ RGave b w T (pat (k, e, f)).2 w'
theorem atomU_is (T : ByteArray) (N : Nat) (pat : Int × Int × Int → Pat × Int × Int × Int) (hPC : PatCU T N pat) (hPO : PatOk T N pat) (k e f : Int) (b : Nat) (w : World) (h : RAt w b T k e f) (h0 : 0 ≤ k) (h1 : k < T.size) (hN : (T.size : Int) < k + ((N + 1 : Nat) : Int)) (hT : T.size ≤ 4096) :
    Calls Tryz.prog 137 #[.pointer (some ⟨b, 0, none⟩)] w fun r w' => PGivU (fun d => w.heap.size ≤ d) (atomA pat T (k, e, f)).1 r w' ∧ RGave b w T (atomA pat T (k, e, f)).2 w' := by
  have HR := hide1 h
  have HPC := hide1 hPC
  have hb := h.lt
  obtain ⟨c0, c1, c2, c3, c4⟩ := h.cells
  obtain ⟨z0, z1, z2, z3, z4⟩ := h.free
  have gT : (T.size : Int) ≤ 4096 := by omega
  have HA : Hid (atomA pat T (k, e, f) = if peekP T k = 92 then (rangeP (escapeS T (k, e, f)).1 (escapeS T (k, e, f)).1, (escapeS T (k, e, f)).2) else if peekP T k = 91 then classA T (k, e, f) else if peekP T k = 46 then (rangeP 0 255, k + 1, e, f) else if peekP T k = 40 then ((pat (k + 1, e, f)).1, if peekP T (pat (k + 1, e, f)).2.1 = 41 then ((pat (k + 1, e, f)).2.1 + 1, (pat (k + 1, e, f)).2.2) else wrongS T (pat (k + 1, e, f)).2) else if plainP (peekP T k) then (rangeP (peekP T k) (peekP T k), k + 1, e, f) else (zeroP, wrongS T (k, e, f))) := rfl
  obtain ⟨c, hcc⟩ : ∃ c, peekP T k = c := ⟨_, rfl⟩
  have hby := peek_byte T k
  unfold IsB at hby
  rw [hcc] at HA hby
  have HC := hide1 hcc
  clear h hcc hPC
  go_enter Tryz.func137, Tryz.ntmps137
  by_cases hne : c = 92
  · subst hne
    have HE : Hid (atomA pat T (k, e, f) = (rangeP (escapeS T (k, e, f)).1 (escapeS T (k, e, f)).1, (escapeS T (k, e, f)).2)) := by have := HA.out; rw [if_pos rfl] at this; exact this
    obtain ⟨⟨z, k3, e3, f3⟩, hz⟩ : ∃ x, escapeS T (k, e, f) = x := ⟨_, rfl⟩
    rw [hz] at HE
    have HZ := hide1 hz
    clear hz
    go_wp2_with (first
      | (go_at_call 135; refine (peek_is T k e f b _ (HR.out.keep ((Kept.refl _).alloc _ _)) h0 (by omega) hT).mono ?_; rintro r w6 ⟨rfl, nd, rfl⟩; rw [HC.out]; have HK := hide1 (box_start HR.out nd).1; have HW := hide1 (box_start HR.out nd).2.1; have HBZ := hide1 (box_start HR.out nd).2.2; obtain ⟨⟨p0, p1, p2, p3, p4, p5⟩, x0, x1, x2, x3, x4, x5⟩ := HBZ.out.facts)
      | (go_at_call 141; refine (escape_is T k e f b _ (by exact HW.out) h0 h1 hT).mono ?_; rintro r w8 ⟨rfl, hg⟩; rw [HZ.out] at hg ⊢; obtain ⟨hok8, hk8, hw8⟩ := hg; have HOK := hide1 hok8; have HK := hide1 (HK.out.trans hk8); have HW := hide1 hw8; have HBZ := hide1 (HBZ.out.but hk8 (by omega)); clear hk8 hw8 hok8)
      | (go_at_call 140; refine (single_is _ _).mono ?_; rintro r w9 ⟨rfl, hk9⟩; unfold rangeV; have HK := hide1 (HK.out.trans (hk9.but b)); have HW := hide1 (HW.out.keep hk9); have HBZ := hide1 (HBZ.out.keep hk9); obtain ⟨⟨p0, p1, p2, p3, p4, p5⟩, x0, x1, x2, x3, x4, x5⟩ := HBZ.out.facts; clear hk9))
    (try simp only [Exit.inBlock, Exit.then])
    refine bodyPost_ret (box_returns rfl _ _ w.heap.size _ _ _ _ _ _ rfl (BoxAt.set (by exact HBZ.out))) rfl ?_
    rw [HE.out]
    exact ⟨⟨_, rfl, rangeU_pat _ _ _ _⟩, HOK.out, fin_but HK.out (by omega), HW.out.fin (by omega)⟩
  · rw [if_neg hne] at HA
    by_cases hc1 : c = 91
    · subst hc1
      have HE : Hid (atomA pat T (k, e, f) = classA T (k, e, f)) := by have := HA.out; rw [if_pos rfl] at this; exact this
      go_wp2_with (first
        | (go_at_call 135; refine (peek_is T k e f b _ (HR.out.keep ((Kept.refl _).alloc _ _)) h0 (by omega) hT).mono ?_; rintro r w6 ⟨rfl, nd, rfl⟩; rw [HC.out]; have HK := hide1 (box_start HR.out nd).1; have HW := hide1 (box_start HR.out nd).2.1; have HBZ := hide1 (box_start HR.out nd).2.2; obtain ⟨⟨p0, p1, p2, p3, p4, p5⟩, x0, x1, x2, x3, x4, x5⟩ := HBZ.out.facts)
        | (go_at_call 142; refine (classU_is T k e f b _ (by exact HW.out) h0 h1 hT).mono ?_; rintro r w7 ⟨⟨v7, rfl, u7, rfl, hkk⟩, hg⟩; rw [valOf_eq]; obtain ⟨a7, c7, e7⟩ := hkk.form; subst e7; obtain ⟨hok, hk7, hw7⟩ := hg; have HOK := hide1 hok; have HKI := hide1 hkk; clear hkk hok; have HK := hide1 (HK.out.trans hk7); have HW := hide1 hw7; have HBZ := hide1 (HBZ.out.but hk7 (by omega)); obtain ⟨⟨p0, p1, p2, p3, p4, p5⟩, x0, x1, x2, x3, x4, x5⟩ := HBZ.out.facts; clear hk7 hw7))
      (try simp only [Exit.inBlock, Exit.then])
      refine bodyPost_ret (box_returns rfl _ _ w.heap.size _ _ _ _ _ _ rfl (BoxAt.set (by exact HBZ.out))) rfl ?_
      rw [HE.out]
      exact ⟨⟨_, rfl, _, rfl, KidsO.mono (set6_holdsU (S := fun d => w.heap.size < d) (fun h => absurd h (by omega))) (fun d h => by omega) _ _ _ (KidsO.mono (fun _ _ _ => rfl) (fun d h => by have h2 := h; simp at h2; omega) _ _ _ HKI.out)⟩, HOK.out, fin_but HK.out (by omega), HW.out.fin (by omega)⟩
    · by_cases hc2 : c = 46
      · subst hc2
        have HE : Hid (atomA pat T (k, e, f) = (rangeP 0 255, k + 1, e, f)) := by have := HA.out; rw [if_neg hc1, if_pos rfl] at this; exact this
        go_wp2_with (first
          | (go_at_call 135; refine (peek_is T k e f b _ (HR.out.keep ((Kept.refl _).alloc _ _)) h0 (by omega) hT).mono ?_; rintro r w6 ⟨rfl, nd, rfl⟩; rw [HC.out]; have HK := hide1 (box_start HR.out nd).1; have HW := hide1 (box_start HR.out nd).2.1; have HBZ := hide1 (box_start HR.out nd).2.2; obtain ⟨⟨p0, p1, p2, p3, p4, p5⟩, x0, x1, x2, x3, x4, x5⟩ := HBZ.out.facts)
          | (go_at_call 133; refine (take_is T k e f _ b _ (by exact HW.out) h0 (by omega) hT).mono ?_; rintro r w8 ⟨rfl, hk8, hw8⟩; rw [HC.out]; simp [takeK, HC.out] at hw8; have HK := hide1 (HK.out.trans hk8); have HW := hide1 hw8; have HBZ := hide1 (HBZ.out.but hk8 (by omega)); obtain ⟨⟨p0, p1, p2, p3, p4, p5⟩, x0, x1, x2, x3, x4, x5⟩ := HBZ.out.facts; clear hk8 hw8))
        (try simp only [Exit.inBlock, Exit.then])
        refine bodyPost_ret (box_returns rfl _ _ w.heap.size _ _ _ _ _ _ rfl (BoxAt.set (by exact HBZ.out))) rfl ?_
        rw [HE.out]
        exact ⟨⟨_, rfl, rangeU_pat _ _ _ _⟩, ⟨by show 0 ≤ k + 1; omega, by show k + 1 ≤ _; omega⟩, fin_but HK.out (by omega), HW.out.fin (by omega)⟩
      · by_cases hc3 : c = 40
        · subst hc3
          have hok := hPO (k + 1, e, f) ⟨by show 0 ≤ k + 1; omega, by show k + 1 ≤ _; omega⟩ (by show (T.size : Int) < k + 1 + N; omega)
          have HE0 := HA.out
          rw [if_neg hc1, if_neg hc2, if_pos rfl] at HE0
          obtain ⟨⟨q, k3, e3, f3⟩, hq⟩ : ∃ x, pat (k + 1, e, f) = x := ⟨_, rfl⟩
          rw [hq] at hok HE0
          have HQ := hide1 hq
          obtain ⟨ok3, _⟩ := hok
          unfold OkS at ok3
          dsimp only at ok3 HE0
          by_cases hd : peekP T k3 = 41
          · have HTK : Hid (takeK T k3 41 = k3 + 1) := by show _ = _; rw [takeK, if_pos hd]
            have HTB : Hid ((peekP T k3 == 41) = true) := by show _ = _; rw [hd]; rfl
            have hlt := (peek_lt (T := T) (k := k3) (by rw [hd]; decide)).2
            rw [if_pos hd] at HE0
            have HE := hide1 HE0
            clear HE0 hd hq hPO
            go_wp2_with (first
              | (go_at_call 135; refine (peek_is T k e f b _ (HR.out.keep ((Kept.refl _).alloc _ _)) h0 (by omega) hT).mono ?_; rintro r w6 ⟨rfl, nd, rfl⟩; rw [HC.out]; have HK := hide1 (box_start HR.out nd).1; have HW := hide1 (box_start HR.out nd).2.1; have HBZ := hide1 (box_start HR.out nd).2.2; obtain ⟨⟨p0, p1, p2, p3, p4, p5⟩, x0, x1, x2, x3, x4, x5⟩ := HBZ.out.facts)
              | (have _g := HKI; clear _g; go_at_call 133; refine (take_is T k3 e3 f3 41 b _ (HW.out.keep ((Kept.refl _).alloc _ _)) ok3.1 ok3.2 hT).mono ?_; rintro r w9 ⟨rfl, hq9, hw9⟩; rw [HTK.out] at hw9; rw [HTB.out]; have HBE := hide1 (BoxAt.but (BoxAt.new w7 _ _ _ _ _ _) hq9 (by have := HW.out.lt; omega)); have hk9 := but_allocd hq9; have HKI := hide1 (KidsO.mono (hk9.holdsU (S := fun d => w.heap.size < d) (by omega)) (fun _ h => h) _ _ _ HKI.out); obtain ⟨⟨q0, q1, q2, q3, q4, q5⟩, _⟩ := HBE.out.facts; have HK := hide1 (HK.out.trans hk9); have HW := hide1 hw9; have HBZ := hide1 (HBZ.out.but hk9 (by omega)); obtain ⟨⟨p0, p1, p2, p3, p4, p5⟩, x0, x1, x2, x3, x4, x5⟩ := HBZ.out.facts; clear hk9 hw9)
              | (go_at_call 133; refine (take_is T k e f _ b _ (by exact HW.out) h0 (by omega) hT).mono ?_; rintro r w8 ⟨rfl, hk8, hw8⟩; rw [HC.out]; simp [takeK, HC.out] at hw8; have HK := hide1 (HK.out.trans hk8); have HW := hide1 hw8; have HBZ := hide1 (HBZ.out.but hk8 (by omega)); obtain ⟨⟨p0, p1, p2, p3, p4, p5⟩, x0, x1, x2, x3, x4, x5⟩ := HBZ.out.facts; clear hk8 hw8)
              | (go_at_call 130; refine (HPC.out (k + 1) e f b _ (by exact HW.out) (by omega) (by omega) (by omega)).mono ?_; rintro r w7 ⟨⟨v7, rfl, u7, rfl, hkk⟩, hg⟩; rw [HQ.out] at hg hkk ⊢; rw [valOf_eq]; obtain ⟨a7, c7, e7⟩ := hkk.form; subst e7; obtain ⟨hok, hk7, hw7⟩ := hg; have HKI := hide1 (KidsO.mono (S' := fun d => w.heap.size < d) (fun _ _ _ => rfl) (fun d h => by have := HBZ.out.lt; omega) _ _ _ hkk); clear hkk hok; have HK := hide1 (HK.out.trans hk7); have HW := hide1 hw7; have HBZ := hide1 (HBZ.out.but hk7 (by omega)); obtain ⟨⟨p0, p1, p2, p3, p4, p5⟩, x0, x1, x2, x3, x4, x5⟩ := HBZ.out.facts; clear hk7 hw7))
            (try simp only [Exit.inBlock, Exit.then])
            refine bodyPost_ret (box_returns rfl _ _ w.heap.size _ _ _ _ _ _ rfl (BoxAt.set (by exact HBZ.out))) rfl ?_
            rw [HE.out]
            exact ⟨⟨_, rfl, _, rfl, KidsO.mono (set6_holdsU (S := fun d => w.heap.size < d) (fun h => absurd h (by omega))) (fun d h => by omega) _ _ _ HKI.out⟩, ⟨by show 0 ≤ k3 + 1; omega, by show k3 + 1 ≤ _; omega⟩, fin_but HK.out (by omega), HW.out.fin (by omega)⟩
          · have HTK : Hid (takeK T k3 41 = k3) := by show _ = _; rw [takeK, if_neg hd]
            have HTB : Hid ((peekP T k3 == 41) = false) := by show _ = _; simpa using hd
            rw [if_neg hd] at HE0
            have HE := hide1 HE0
            clear HE0 hd hq hPO
            go_wp2_with (first
              | (go_at_call 135; refine (peek_is T k e f b _ (HR.out.keep ((Kept.refl _).alloc _ _)) h0 (by omega) hT).mono ?_; rintro r w6 ⟨rfl, nd, rfl⟩; rw [HC.out]; have HK := hide1 (box_start HR.out nd).1; have HW := hide1 (box_start HR.out nd).2.1; have HBZ := hide1 (box_start HR.out nd).2.2; obtain ⟨⟨p0, p1, p2, p3, p4, p5⟩, x0, x1, x2, x3, x4, x5⟩ := HBZ.out.facts)
              | (have _g := HKI; clear _g; go_at_call 133; refine (take_is T k3 e3 f3 41 b _ (HW.out.keep ((Kept.refl _).alloc _ _)) ok3.1 ok3.2 hT).mono ?_; rintro r w9 ⟨rfl, hq9, hw9⟩; rw [HTK.out] at hw9; rw [HTB.out]; have HBE := hide1 (BoxAt.but (BoxAt.new w7 _ _ _ _ _ _) hq9 (by have := HW.out.lt; omega)); have hk9 := but_allocd hq9; have HKI := hide1 (KidsO.mono (hk9.holdsU (S := fun d => w.heap.size < d) (by omega)) (fun _ h => h) _ _ _ HKI.out); have HB7 : Hid (b < w7.heap.size) := HW.out.lt; obtain ⟨⟨q0, q1, q2, q3, q4, q5⟩, _⟩ := HBE.out.facts; have HK := hide1 (HK.out.trans hk9); have HW := hide1 hw9; have HBZ := hide1 (HBZ.out.but hk9 (by omega)); obtain ⟨⟨p0, p1, p2, p3, p4, p5⟩, x0, x1, x2, x3, x4, x5⟩ := HBZ.out.facts; clear hk9 hw9)
              | (go_at_call 133; refine (take_is T k e f _ b _ (by exact HW.out) h0 (by omega) hT).mono ?_; rintro r w8 ⟨rfl, hk8, hw8⟩; rw [HC.out]; simp [takeK, HC.out] at hw8; have HK := hide1 (HK.out.trans hk8); have HW := hide1 hw8; have HBZ := hide1 (HBZ.out.but hk8 (by omega)); obtain ⟨⟨p0, p1, p2, p3, p4, p5⟩, x0, x1, x2, x3, x4, x5⟩ := HBZ.out.facts; clear hk8 hw8)
              | (go_at_call 130; refine (HPC.out (k + 1) e f b _ (by exact HW.out) (by omega) (by omega) (by omega)).mono ?_; rintro r w7 ⟨⟨v7, rfl, u7, rfl, hkk⟩, hg⟩; rw [HQ.out] at hg hkk ⊢; rw [valOf_eq]; obtain ⟨a7, c7, e7⟩ := hkk.form; subst e7; obtain ⟨hok, hk7, hw7⟩ := hg; have HKI := hide1 (KidsO.mono (S' := fun d => w.heap.size < d) (fun _ _ _ => rfl) (fun d h => by have := HBZ.out.lt; omega) _ _ _ hkk); clear hkk hok; have HK := hide1 (HK.out.trans hk7); have HW := hide1 hw7; have HBZ := hide1 (HBZ.out.but hk7 (by omega)); obtain ⟨⟨p0, p1, p2, p3, p4, p5⟩, x0, x1, x2, x3, x4, x5⟩ := HBZ.out.facts; clear hk7 hw7)
              | (go_at_call 131; refine (wrong_is T _ _ _ b _ (by exact HW.out) hT).mono ?_; rintro r w10 ⟨rfl, hk10, hw10⟩; have HKI := hide1 (KidsO.mono (hk10.holdsU (S := fun d => w.heap.size < d) (by omega)) (fun _ h => h) _ _ _ HKI.out); have HBE := hide1 (HBE.out.but hk10 (by have := HBE.out.lt; have := HB7.out; omega)); obtain ⟨⟨q0, q1, q2, q3, q4, q5⟩, _⟩ := HBE.out.facts; have HK := hide1 (HK.out.trans hk10); have HW := hide1 hw10; have HBZ := hide1 (HBZ.out.but hk10 (by omega)); obtain ⟨⟨p0, p1, p2, p3, p4, p5⟩, x0, x1, x2, x3, x4, x5⟩ := HBZ.out.facts; clear hk10 hw10))
            (try simp only [Exit.inBlock, Exit.then])
            refine bodyPost_ret (box_returns rfl _ _ w.heap.size _ _ _ _ _ _ rfl (BoxAt.set (by exact HBZ.out))) rfl ?_
            rw [HE.out]
            exact ⟨⟨_, rfl, _, rfl, KidsO.mono (set6_holdsU (S := fun d => w.heap.size < d) (fun h => absurd h (by omega))) (fun d h => by omega) _ _ _ HKI.out⟩, wrong_ok _ _, fin_but HK.out (by omega), HW.out.fin (by omega)⟩
        · by_cases hc4 : plainP c = true
          · have HPL := hide1 hc4
            have HE : Hid (atomA pat T (k, e, f) = (rangeP c c, k + 1, e, f)) := by have := HA.out; rw [if_neg hc1, if_neg hc2, if_neg hc3, if_pos hc4] at this; exact this
            clear hc4
            go_wp2_with (first
              | (go_at_call 135; refine (peek_is T k e f b _ (HR.out.keep ((Kept.refl _).alloc _ _)) h0 (by omega) hT).mono ?_; rintro r w6 ⟨rfl, nd, rfl⟩; rw [HC.out]; have HK := hide1 (box_start HR.out nd).1; have HW := hide1 (box_start HR.out nd).2.1; have HBZ := hide1 (box_start HR.out nd).2.2; obtain ⟨⟨p0, p1, p2, p3, p4, p5⟩, x0, x1, x2, x3, x4, x5⟩ := HBZ.out.facts)
              | (go_at_call 133; refine (take_is T k e f _ b _ (by exact HW.out) h0 (by omega) hT).mono ?_; rintro r w8 ⟨rfl, hk8, hw8⟩; rw [HC.out]; simp [takeK, HC.out, hc2, hc3] at hw8; have HK := hide1 (HK.out.trans hk8); have HW := hide1 hw8; have HBZ := hide1 (HBZ.out.but hk8 (by omega)); obtain ⟨d0, d1, d2, d3, d4⟩ := HW.out.cells; obtain ⟨e0, e1, e2, e3, e4⟩ := HW.out.free; obtain ⟨⟨p0, p1, p2, p3, p4, p5⟩, x0, x1, x2, x3, x4, x5⟩ := HBZ.out.facts; clear hk8 hw8)
              | (go_at_call 143; refine (plain_is _ _).mono ?_; rintro r w6 ⟨rfl, rfl⟩; rw [HPL.out])
              | (go_at_call 140; refine (single_is _ _).mono ?_; rintro r w9 ⟨rfl, hk9⟩; unfold rangeV; have HK := hide1 (HK.out.trans ((setCell_but _ _ _ _).trans (hk9.but b))); have HW := hide1 ((HW.out.move _).keep hk9); have HBZ := hide1 ((HBZ.out.but (setCell_but _ _ _ _) (by omega)).keep hk9); obtain ⟨⟨p0, p1, p2, p3, p4, p5⟩, x0, x1, x2, x3, x4, x5⟩ := HBZ.out.facts; clear hk9))
            (try simp only [Exit.inBlock, Exit.then])
            refine bodyPost_ret (box_returns rfl _ _ w.heap.size _ _ _ _ _ _ rfl (BoxAt.set (by exact HBZ.out))) rfl ?_
            rw [HE.out]
            exact ⟨⟨_, rfl, rangeU_pat _ _ _ _⟩, ⟨by show 0 ≤ k + 1; omega, by show k + 1 ≤ _; omega⟩, fin_but HK.out (by omega), HW.out.fin (by omega)⟩
          · have hc5 : plainP c = false := by simpa using hc4
            have HPL := hide1 hc5
            have HE : Hid (atomA pat T (k, e, f) = (zeroP, wrongS T (k, e, f))) := by have := HA.out; rw [if_neg hc1, if_neg hc2, if_neg hc3, if_neg hc4] at this; exact this
            clear hc4 hc5
            go_wp2_with (first
              | (go_at_call 135; refine (peek_is T k e f b _ (HR.out.keep ((Kept.refl _).alloc _ _)) h0 (by omega) hT).mono ?_; rintro r w6 ⟨rfl, nd, rfl⟩; rw [HC.out]; have HK := hide1 (box_start HR.out nd).1; have HW := hide1 (box_start HR.out nd).2.1; have HBZ := hide1 (box_start HR.out nd).2.2; obtain ⟨⟨p0, p1, p2, p3, p4, p5⟩, x0, x1, x2, x3, x4, x5⟩ := HBZ.out.facts)
              | (go_at_call 133; refine (take_is T k e f _ b _ (by exact HW.out) h0 (by omega) hT).mono ?_; rintro r w8 ⟨rfl, hk8, hw8⟩; rw [HC.out]; simp [takeK, HC.out, hc2, hc3] at hw8; have HK := hide1 (HK.out.trans hk8); have HW := hide1 hw8; have HBZ := hide1 (HBZ.out.but hk8 (by omega)); obtain ⟨⟨p0, p1, p2, p3, p4, p5⟩, x0, x1, x2, x3, x4, x5⟩ := HBZ.out.facts; clear hk8 hw8)
              | (go_at_call 143; refine (plain_is _ _).mono ?_; rintro r w6 ⟨rfl, rfl⟩; rw [HPL.out])
              | (go_at_call 131; refine (wrong_is T _ _ _ b _ (by exact HW.out) hT).mono ?_; rintro r w10 ⟨rfl, hk10, hw10⟩; have HK := hide1 (HK.out.trans hk10); have HW := hide1 hw10; have HBZ := hide1 (HBZ.out.but hk10 (by omega)); obtain ⟨⟨p0, p1, p2, p3, p4, p5⟩, x0, x1, x2, x3, x4, x5⟩ := HBZ.out.facts; clear hk10 hw10))
            (try simp only [Exit.inBlock, Exit.then])
            refine bodyPost_ret (box_returns rfl _ _ w.heap.size _ _ _ _ _ _ rfl (BoxAt.set (by exact HBZ.out))) rfl ?_
            rw [HE.out]
            exact ⟨⟨_, rfl, .slice none 0 0, rfl, kidsO_nil _ _ _ _ _ _ rfl⟩, wrong_ok _ _, fin_but HK.out (by omega), HW.out.fin (by omega)⟩
end Ex
end Go.Proofs.YtbnchnlogikecaaGreatDoor
