import Derived.Test.YtbnchnlogikecaaGreatDoorMExO4
import Derived.Test.YtbnchnlogikecaaGreatDoorMExRd9
import Derived.Deep.DeepMust
import Derived.OwnWalk
import Derived.Test.YtbnchnlogikecaaGreatDoorMExPos
namespace Go.Proofs.YtbnchnlogikecaaGreatDoor
open Go.RowKit
attribute [local go_sem] Oper.semAt_some
namespace Ex

set_option linter.unusedSimpArgs false in
set_option maxRecDepth 100000 in
set_option maxHeartbeats 4000000 in
theorem rowU_is (T : ByteArray) (N : Nat) (pat : Int × Int × Int → Pat × Int × Int × Int) (hPC : PatCU T N pat) (hPO : PatOk T N pat) (k e f : Int) (b : Nat) (w : World) (h : RAt w b T k e f) (h0 : 0 ≤ k) (h1 : k ≤ T.size) (hN : (T.size : Int) < k + ((N + 1 : Nat) : Int)) (hT : T.size ≤ 4096) :
    Calls Tryz.prog 132 #[.pointer (some ⟨b, 0, none⟩)] w fun r w' => PGivU (fun d => w.heap.size ≤ d) (rowS (itemA pat T) T (k, e, f)).1 r w' ∧ RGave b w T (rowS (itemA pat T) T (k, e, f)).2 w' := by
  have HR := hide1 h
  have HPC := hide1 hPC
  have HPO := hide1 hPO
  have hb := h.lt
  have gT : (T.size : Int) ≤ 4096 := by omega
  clear h hPC hPO
  go_enter Tryz.func132, Tryz.ntmps132
  go_wp2_with fail
  go_loopw [3] (fun v wr => ListU b w T (rowG (itemA pat T) T) [] (k, e, f) (rowB k) v wr) (fun _ wr => T.size - placeOf b wr)
  case atStart => exact ⟨0, [], k, e, f, h0, h1, rfl, by unfold rowB; omega, ((Kept.refl w).alloc _ _).but b, HR.out.keep ((Kept.refl w).alloc _ _), BoxAt.new w _ _ _ _ _ _, PatsU.nil _ _ _, fun N => by rw [Nat.zero_add]⟩
  case round =>
    obtain ⟨j, l, k2, e2, f2, hk0, hk2, hl, hB, hKW, hW, hBZ, hOW, hM⟩ := hrel
    obtain ⟨av, cv, rfl⟩ := hOW.form
    obtain ⟨c0, c1, c2, c3, c4⟩ := hW.cells
    have HKW := hide1 hKW
    have HRr := hide1 hW
    have HW := hide1 hW
    have HBZ := hide1 hBZ
    have HOW := hide1 hOW
    have HM := hide1 hM
    have HK := hide1 (but_refl b wr)
    have HOL := hide1 (fun d e => (hOW.lt d e).2)
    have hsw := hBZ.lt
    unfold rowB at hB
    have hj : j ≤ 4096 := by omega
    have hl2 : l.length = j := by simp at hl; omega
    have HL2 := hide1 hl2
    have hl3 : l.length ≤ 4096 := by omega
    clear hKW hW hBZ hOW hM hl hl2
    have hby := peek_byte T k2
    unfold IsB at hby
    by_cases hgo : rowGo T k2
    · obtain ⟨hlt, hn1, hn2⟩ := hgo
      have hgo : rowGo T k2 := ⟨hlt, hn1, hn2⟩
      have HOW := hide1 HOW.out.tight
      have hb1 : (peekP T k2 != 124) = true := by simpa using hn1
      have hb2 : (peekP T k2 != 41) = true := by simpa using hn2
      have oka := atomA_ok HPO.out (s := (k2, e2, f2)) ⟨hk0, hk2⟩ hlt (by show (T.size : Int) < k2 + ((N + 1 : Nat) : Int); omega)
      have HST : Hid (∀ M, rowG (itemA pat T) T (M + 1) l (k2, e2, f2) = rowG (itemA pat T) T M (l ++ [(itemA pat T (k2, e2, f2)).1]) (itemA pat T (k2, e2, f2)).2) := fun M => by rw [rowG, if_pos hgo]
      have HI : Hid (itemA pat T (k2, e2, f2) = timesS T (atomA pat T (k2, e2, f2)).1 (atomA pat T (k2, e2, f2)).2) := rfl
      obtain ⟨⟨q, k3, e3, f3⟩, hq⟩ : ∃ x, atomA pat T (k2, e2, f2) = x := ⟨_, rfl⟩
      have HI2 := HI.out
      rw [hq] at oka HI2
      have HQ := hide1 hq
      obtain ⟨ok3, hlt3⟩ := oka
      have okt := timesG_ok 4097 q (k3, e3, f3) ok3
      dsimp only at HI2
      obtain ⟨⟨q2, k4, e4, f4⟩, hq2⟩ : ∃ x, timesS T q (k3, e3, f3) = x := ⟨_, rfl⟩
      have hq3 : timesG T 4097 q (k3, e3, f3) = (q2, k4, e4, f4) := hq2
      rw [hq2] at HI2
      rw [hq3] at okt
      have HQ2 := hide1 hq2
      have HST2 := HST.out
      rw [HI2] at HST2
      have HST3 := hide1 HST2
      obtain ⟨ok4, hlt4⟩ := okt
      unfold OkS at ok3 ok4
      dsimp only at ok3 hlt3 ok4 hlt4
      clear hq hq2 hq3 HI2 HST2 HST HI hgo
      go_wp2_with (first
        | go_quiet ((go_at_call 135; exact Calls.quiet_of (peek_is T k2 e2 f2 b _ (HW.out.drew _) hk0 hk2 hT)))
        | (go_at_call 137; refine (atomU_is T N pat HPC.out HPO.out k2 e2 f2 b _ (by exact HW.out) hk0 (by omega) (by omega) hT).mono ?_; rintro r w7 ⟨⟨v7, rfl, u7, rfl, hkk⟩, hg⟩; rw [HQ.out] at hg hkk ⊢; rw [valOf_eq]; obtain ⟨a7, c7, e7⟩ := hkk.form; subst e7; obtain ⟨hok7, hk7, hw7⟩ := hg; dsimp only at hok7; have HK := hide1 (HK.out.trans (but_undrew hk7)); have HW := hide1 hw7; have HBZ := hide1 (HBZ.out.but (but_undrew hk7) (by omega)); have HOW := hide1 (HOW.out.but (but_undrew hk7) (by omega) (by omega)); have HSZ : Hid (wr.heap.size ≤ w7.heap.size) := (but_undrew hk7).2.2.2.1; have HKI := hide1 (show PatU (fun d => wr.heap.size ≤ d) w7 q (valOf q.2 _) from ⟨_, rfl, hkk⟩); rw [valOf_eq] at HKI; clear hkk hk7 hw7)
        | (go_at_call 136; refine (timesU_is (fun d => wr.heap.size ≤ d) q _ T k3 e3 f3 b _ (by exact HW.out) ok3.1 ok3.2 hT HKI.out (by have := HRr.out.lt; omega) (fun d hd => by have := HSZ.out; omega)).mono ?_; rintro r w8 ⟨⟨v8, rfl, u8, rfl, hkk⟩, hg⟩; rw [HQ2.out] at hg hkk ⊢; rw [valOf_eq]; obtain ⟨a8, c8, e8⟩ := hkk.form; subst e8; obtain ⟨hok8, hk8, hw8⟩ := hg; dsimp only at hok8; have HK := hide1 (HK.out.trans hk8); have HW := hide1 hw8; have HBZ := hide1 (HBZ.out.but hk8 (by omega)); have HOW := hide1 (HOW.out.but hk8 (by omega) (by omega)); have HKI2 := hide1 hkk; clear hkk hk8 hw8)
        | (at_builtin; go_must (refine wpl_append_patU rfl _ _ rfl _ (w.heap.size + 1) wr.heap.size (fun d => w.heap.size < d) _ l l.length rfl (by rfl) (HOW.out.keep ((Kept.refl _).alloc _ _)) _ q2 _ (by rfl) (BoxAt.new _ _ _ _ _ _ _) (KidsO.mono (((Kept.refl _).alloc _ _).holdsU _) (fun d hd => ⟨by omega, hd, fun e => by have := HOL.out d e; omega⟩) _ _ _ HKI2.out) (by omega) (by have := HBZ.out.lt; simp; omega) ?_; intro g9 c9 w9 ho9 hg9; have HK := hide1 (KeptBut.grownU (HKW.out.trans (HK.out.trans (((Kept.refl _).alloc _ _).but b))) (HOW.out.keep ((Kept.refl _).alloc _ _)) (by omega) hg9); have HW := hide1 (show RAt w9 b T _ _ _ from (heap_grownU (HOW.out.keep ((Kept.refl _).alloc _ _)) hg9 (by omega) (by have := HW.out.lt; simp; omega)).trans (HW.out.keep ((Kept.refl _).alloc _ _))); have HBZ := hide1 (show BoxAt w9 _ _ _ _ _ _ _ from (heap_grownU (HOW.out.keep ((Kept.refl _).alloc _ _)) hg9 (by omega) (by have := HBZ.out.lt; simp; omega)).trans (HBZ.out.keep ((Kept.refl _).alloc _ _))); have HOW := hide1 ho9; clear ho9 hg9)))
      go_roundw
      case rel => exact ⟨j + 1, l ++ [q2], k4, e4, f4, ok4.1, ok4.2, by have := HL2.out; simp; omega, by unfold rowB; omega, HK.out, HW.out, HBZ.out, HOW.out, fun M => by rw [show j + 1 + M = j + (M + 1) by omega, HM.out, HST3.out]⟩
      case measure => rw [HW.out.place, HRr.out.place]; omega
    · have HE : Hid (rowS (itemA pat T) T (k, e, f) = (oneOf 2 l, k2, e2, f2)) := by
        show (oneOf 2 (rowG (itemA pat T) T 4097 [] (k, e, f)).1, (rowG (itemA pat T) T 4097 [] (k, e, f)).2) = _
        have e1 : ∀ M, rowG (itemA pat T) T M l (k2, e2, f2) = (l, k2, e2, f2) := fun M => by
          cases M with
          | zero => rfl
          | succ M => rw [rowG, if_neg hgo]
        rw [show 4097 = j + (4097 - j) by omega, HM.out, e1]
      by_cases hlt : k2 < (T.size : Int)
      · by_cases hn1 : peekP T k2 = 124
        · have hb1 : (peekP T k2 != 124) = false := by simpa using hn1
          clear hgo hn1
          by_cases hl1 : l.length = 1
          · obtain ⟨q, rfl⟩ := list_one hl1
            obtain ⟨g, hgv, hcv⟩ := HOW.out.nonnil
            subst hgv
            have hcv2 : (1 : Int) ≤ (cv : Int) := by omega
            clear hl1 hcv HL2 hl3
            obtain ⟨u, ⟨m0, m1, m2, m3, m4, m5⟩, hu⟩ := HOW.out.one_facts; have HU := hide1 hu; obtain ⟨ua, uc, rfl⟩ := hu.form; clear hu
            obtain ⟨⟨p0, p1, p2, p3, p4, p5⟩, x0, x1, x2, x3, x4, x5⟩ := HBZ.out.facts
            go_wp2_with (go_quiet ((go_at_call 135; exact Calls.quiet_of (peek_is T k2 e2 f2 b _ (HW.out.drew _) hk0 hk2 hT))))
            (try simp only [Exit.inBlock, Exit.then])
            refine bodyPost_ret (box_returns rfl _ _ w.heap.size _ _ _ _ _ _ rfl (BoxAt.set (by exact HBZ.out))) rfl ?_
            rw [HE.out]
            exact ⟨endU_one (kd := 2) (HU.out.drew _), ⟨by show 0 ≤ k2; omega, by show k2 ≤ _; omega⟩, fin_but (but_drew HKW.out _) (by omega), RAt.fin (by exact HW.out) (by omega)⟩
          · have HL1 := hide1 hl1
            have hl1a : ¬ (l.length : Int) = 1 := by omega
            clear hl1
            obtain ⟨⟨p0, p1, p2, p3, p4, p5⟩, x0, x1, x2, x3, x4, x5⟩ := HBZ.out.facts
            go_wp2_with (go_quiet ((go_at_call 135; exact Calls.quiet_of (peek_is T k2 e2 f2 b _ (HW.out.drew _) hk0 hk2 hT))))
            (try simp only [Exit.inBlock, Exit.then])
            refine bodyPost_ret (box_returns rfl _ _ w.heap.size _ _ _ _ _ _ rfl (BoxAt.set (by exact HBZ.out))) rfl ?_
            rw [HE.out]
            exact ⟨endU_list (kd := 2) (HOW.out.keep (drewN_kept _ _)) HL1.out (by omega), ⟨by show 0 ≤ k2; omega, by show k2 ≤ _; omega⟩, fin_but (but_drew HKW.out _) (by omega), RAt.fin (by exact HW.out) (by omega)⟩
        · have hb1 : (peekP T k2 != 124) = true := by simpa using hn1
          have hb2 : (peekP T k2 != 41) = false := by
            by_cases h : peekP T k2 = 41
            · simpa using h
            · exact absurd ⟨hlt, hn1, h⟩ hgo
          clear hgo hn1
          by_cases hl1 : l.length = 1
          · obtain ⟨q, rfl⟩ := list_one hl1
            obtain ⟨g, hgv, hcv⟩ := HOW.out.nonnil
            subst hgv
            have hcv2 : (1 : Int) ≤ (cv : Int) := by omega
            clear hl1 hcv HL2 hl3
            obtain ⟨u, ⟨m0, m1, m2, m3, m4, m5⟩, hu⟩ := HOW.out.one_facts; have HU := hide1 hu; obtain ⟨ua, uc, rfl⟩ := hu.form; clear hu
            obtain ⟨⟨p0, p1, p2, p3, p4, p5⟩, x0, x1, x2, x3, x4, x5⟩ := HBZ.out.facts
            go_wp2_with (go_quiet ((go_at_call 135; exact Calls.quiet_of (peek_is T k2 e2 f2 b _ (HW.out.drew _) hk0 hk2 hT))))
            (try simp only [Exit.inBlock, Exit.then])
            refine bodyPost_ret (box_returns rfl _ _ w.heap.size _ _ _ _ _ _ rfl (BoxAt.set (by exact HBZ.out))) rfl ?_
            rw [HE.out]
            exact ⟨endU_one (kd := 2) (HU.out.drew _), ⟨by show 0 ≤ k2; omega, by show k2 ≤ _; omega⟩, fin_but (but_drew HKW.out _) (by omega), RAt.fin (by exact HW.out) (by omega)⟩
          · have HL1 := hide1 hl1
            have hl1a : ¬ (l.length : Int) = 1 := by omega
            clear hl1
            obtain ⟨⟨p0, p1, p2, p3, p4, p5⟩, x0, x1, x2, x3, x4, x5⟩ := HBZ.out.facts
            go_wp2_with (go_quiet ((go_at_call 135; exact Calls.quiet_of (peek_is T k2 e2 f2 b _ (HW.out.drew _) hk0 hk2 hT))))
            (try simp only [Exit.inBlock, Exit.then])
            refine bodyPost_ret (box_returns rfl _ _ w.heap.size _ _ _ _ _ _ rfl (BoxAt.set (by exact HBZ.out))) rfl ?_
            rw [HE.out]
            exact ⟨endU_list (kd := 2) (HOW.out.keep (drewN_kept _ _)) HL1.out (by omega), ⟨by show 0 ≤ k2; omega, by show k2 ≤ _; omega⟩, fin_but (but_drew HKW.out _) (by omega), RAt.fin (by exact HW.out) (by omega)⟩
      · clear hgo
        by_cases hl1 : l.length = 1
        · obtain ⟨q, rfl⟩ := list_one hl1
          obtain ⟨g, hgv, hcv⟩ := HOW.out.nonnil
          subst hgv
          have hcv2 : (1 : Int) ≤ (cv : Int) := by omega
          clear hl1 hcv HL2 hl3
          obtain ⟨u, ⟨m0, m1, m2, m3, m4, m5⟩, hu⟩ := HOW.out.one_facts; have HU := hide1 hu; obtain ⟨ua, uc, rfl⟩ := hu.form; clear hu
          obtain ⟨⟨p0, p1, p2, p3, p4, p5⟩, x0, x1, x2, x3, x4, x5⟩ := HBZ.out.facts
          go_wp2_with (go_quiet ((go_at_call 135; exact Calls.quiet_of (peek_is T k2 e2 f2 b _ (HW.out.drew _) hk0 hk2 hT))))
          (try simp only [Exit.inBlock, Exit.then])
          refine bodyPost_ret (box_returns rfl _ _ w.heap.size _ _ _ _ _ _ rfl (BoxAt.set (by exact HBZ.out))) rfl ?_
          rw [HE.out]
          exact ⟨endU_one (kd := 2) (HU.out.drew _), ⟨by show 0 ≤ k2; omega, by show k2 ≤ _; omega⟩, fin_but (but_drew HKW.out _) (by omega), RAt.fin (by exact HW.out) (by omega)⟩
        · have HL1 := hide1 hl1
          have hl1a : ¬ (l.length : Int) = 1 := by omega
          clear hl1
          obtain ⟨⟨p0, p1, p2, p3, p4, p5⟩, x0, x1, x2, x3, x4, x5⟩ := HBZ.out.facts
          go_wp2_with (go_quiet ((go_at_call 135; exact Calls.quiet_of (peek_is T k2 e2 f2 b _ (HW.out.drew _) hk0 hk2 hT))))
          (try simp only [Exit.inBlock, Exit.then])
          refine bodyPost_ret (box_returns rfl _ _ w.heap.size _ _ _ _ _ _ rfl (BoxAt.set (by exact HBZ.out))) rfl ?_
          rw [HE.out]
          exact ⟨endU_list (kd := 2) (HOW.out.keep (drewN_kept _ _)) HL1.out (by omega), ⟨by show 0 ≤ k2; omega, by show k2 ≤ _; omega⟩, fin_but (but_drew HKW.out _) (by omega), RAt.fin (by exact HW.out) (by omega)⟩

end Ex
end Go.Proofs.YtbnchnlogikecaaGreatDoor
namespace Go.Proofs.YtbnchnlogikecaaGreatDoor
open Go.RowKit
attribute [local go_sem] Oper.semAt_some
namespace Ex

/-- What row does. -/
def RowC (T : ByteArray) (N : Nat) (R : Int × Int × Int → Pat × Int × Int × Int) : Prop :=
  ∀ (k e f : Int) (b : Nat) (w : World), RAt w b T k e f → 0 ≤ k → k ≤ T.size → (T.size : Int) < k + (N : Int) →
    Calls Tryz.prog 132 #[.pointer (some ⟨b, 0, none⟩)] w fun r w' => PGives (fun d => w.heap.size ≤ d) (R (k, e, f)).1 r w' ∧ RGave b w T (R (k, e, f)).2 w'
set_option linter.unusedSimpArgs false in
set_option maxRecDepth 100000 in
set_option maxHeartbeats 4000000 in
theorem patO_is (T : ByteArray) (N : Nat) (R : Int × Int × Int → Pat × Int × Int × Int) (hRC : RowC T N R) (hRO : ∀ s, OkS T s → (T.size : Int) < s.1 + (N : Int) → OkS T (R s).2 ∧ s.1 ≤ (R s).2.1) (hT : T.size ≤ 4096) : PatC T N (patO R T) := by
  intro k e f b w h h0 h1 hN
  have HR := hide1 h
  have HROW := hide1 hRC
  have HRO := hide1 hRO
  have hb := h.lt
  have gT : (T.size : Int) ≤ 4096 := by omega
  have oka := hRO (k, e, f) ⟨h0, h1⟩ hN
  have HS : Hid (patL R T (k, e, f) = patG R T 4097 [(R (k, e, f)).1] (R (k, e, f)).2) := rfl
  obtain ⟨⟨q1, k1, e1, f1⟩, hq⟩ : ∃ x, R (k, e, f) = x := ⟨_, rfl⟩
  have HS2 := HS.out
  rw [hq] at oka HS2
  have HQ := hide1 hq
  have HS3 := hide1 HS2
  obtain ⟨ok1, hlt1⟩ := oka
  unfold OkS at ok1
  dsimp only at ok1 hlt1
  clear h hRC hRO hq HS HS2
  go_enter Tryz.func130, Tryz.ntmps130
  go_wp2_with (first
    | (go_at_call 132; refine (HROW.out k e f b _ (HR.out.keep ((Kept.refl _).alloc _ _)) h0 h1 (by omega)).mono ?_; rintro r w7 ⟨⟨v7, rfl, u7, rfl, hkk⟩, hg⟩; rw [HQ.out] at hg hkk ⊢; rw [valOf_eq]; obtain ⟨a7, c7, e7⟩ := hkk.form; subst e7; obtain ⟨hok7, hk7, hw7⟩ := hg; dsimp only at hok7; have HK := hide1 (but_allocd hk7); have HW := hide1 hw7; have HBZ := hide1 (BoxAt.but (BoxAt.new w _ _ _ _ _ _) hk7 (by omega)); have HKI := hide1 (KidsAt.mono (S' := fun d => w.heap.size < d) (fun _ _ _ _ h => h) (fun d h => by have h2 := h; simp at h2; omega) _ _ _ hkk); clear hkk hk7 hw7))
  go_loopw [3] (fun v wr => ListR b w T (patG R T) [q1] (k1, e1, f1) (rowB k1) v wr) (fun _ wr => T.size - placeOf b wr)
  case atStart =>
    refine ⟨0, [q1], k1, e1, f1, ok1.1, ok1.2, rfl, by unfold rowB; omega, HK.out.trans (((Kept.refl _).alloc _ _).but b), HW.out.keep ((Kept.refl _).alloc _ _), HBZ.out.keep ((Kept.refl _).alloc _ _), ?_, fun N => by rw [Nat.zero_add]⟩
    exact PatsOwn.one (BoxAt.new _ _ _ _ _ _ _) (by have := HBZ.out.lt; omega) (KidsAt.mono (((Kept.refl _).alloc _ _).holds _) (fun d hd => ⟨hd.1, by omega⟩) _ _ _ HKI.out.tight)
  case round =>
    obtain ⟨j, l, k2, e2, f2, hk0, hk2, hl, hB, hKW, hW, hBZ, hOW, hM⟩ := hrel
    obtain ⟨av, cv, rfl⟩ := hOW.form
    have HKW := hide1 hKW
    have HRr := hide1 hW
    have HW := hide1 hW
    have HBZ := hide1 hBZ
    have HOW := hide1 hOW
    have HM := hide1 hM
    have HK := hide1 (but_refl b wr)
    have HOL := hide1 (fun d e => (hOW.lt d e).2)
    have hsw := hBZ.lt
    unfold rowB at hB
    have hj : j ≤ 4096 := by omega
    have hl2 : l.length = j + 1 := by simp at hl; omega
    have HL2 := hide1 hl2
    have hl3 : l.length ≤ 4097 := by omega
    clear hKW hW hBZ hOW hM hl hl2
    by_cases hd : peekP T k2 = 124
    · have HTK : Hid (takeK T k2 124 = k2 + 1) := by show _ = _; rw [takeK, if_pos hd]
      have HTB : Hid ((peekP T k2 == 124) = true) := by show _ = _; rw [hd]; rfl
      have hlt := (peek_lt (T := T) (k := k2) (by rw [hd]; decide)).2
      have oka := HRO.out (k2 + 1, e2, f2) ⟨by show 0 ≤ k2 + 1; omega, by show k2 + 1 ≤ _; omega⟩ (by show (T.size : Int) < k2 + 1 + N; omega)
      have HST : Hid (∀ M, patG R T (M + 1) l (k2, e2, f2) = patG R T M (l ++ [(R (k2 + 1, e2, f2)).1]) (R (k2 + 1, e2, f2)).2) := fun M => by rw [patG, if_pos hd]
      obtain ⟨⟨q2, k4, e4, f4⟩, hq2⟩ : ∃ x, R (k2 + 1, e2, f2) = x := ⟨_, rfl⟩
      have HST2 := HST.out
      rw [hq2] at oka HST2
      have HQ2 := hide1 hq2
      have HST3 := hide1 HST2
      obtain ⟨ok4, hlt4⟩ := oka
      unfold OkS at ok4
      dsimp only at ok4 hlt4
      clear hq2 HST2 HST hd
      go_wp2_with (first
        | (go_at_call 133; refine (take_is T k2 e2 f2 124 b _ (by exact HW.out) hk0 hk2 hT).mono ?_; rintro r w7 ⟨rfl, hk7, hw7⟩; rw [HTB.out]; rw [HTK.out] at hw7; have HK := hide1 (HK.out.trans hk7); have HW := hide1 hw7; have HBZ := hide1 (HBZ.out.but hk7 (by omega)); have HOW := hide1 (HOW.out.but hk7 (by omega) (by omega)); have HSZ : Hid (wr.heap.size ≤ w7.heap.size) := hk7.2.2.2.1;  clear hk7 hw7)
        | (go_at_call 132; refine (HROW.out (k2 + 1) e2 f2 b _ (by exact HW.out) (by omega) (by omega) (by omega)).mono ?_; rintro r w8 ⟨⟨v8, rfl, u8, rfl, hkk⟩, hg⟩; rw [HQ2.out] at hg hkk ⊢; rw [valOf_eq]; obtain ⟨a8, c8, e8⟩ := hkk.form; subst e8; obtain ⟨hok8, hk8, hw8⟩ := hg; dsimp only at hok8; have HK := hide1 (HK.out.trans hk8); have HW := hide1 hw8; have HBZ := hide1 (HBZ.out.but hk8 (by omega)); have HOW := hide1 (HOW.out.but hk8 (by omega) (by omega)); have HKI2 := hide1 (KidsAt.mono (S' := fun d => wr.heap.size ≤ d) (fun _ _ _ _ h => h) (fun d h => by have := HSZ.out; omega) _ _ _ hkk); clear hkk hk8 hw8)
        | (at_builtin; go_must (refine wpl_append_pat rfl _ _ rfl _ (w.heap.size + 1) (fun d => w.heap.size < d) _ l l.length rfl (by rfl) (HOW.out.keep ((Kept.refl _).alloc _ _)) _ q2 _ (by rfl) (BoxAt.new _ _ _ _ _ _ _) (KidsAt.mono (((Kept.refl _).alloc _ _).holds _) (fun d hd => ⟨by omega, fun e => by have := HOL.out d e; omega⟩) _ _ _ HKI2.out) (by omega) (by have := HBZ.out.lt; simp; omega) ?_; intro g9 c9 w9 ho9 hg9; have HK := hide1 (KeptBut.grown (HKW.out.trans (HK.out.trans (((Kept.refl _).alloc _ _).but b))) (HOW.out.keep ((Kept.refl _).alloc _ _)) (by omega) hg9); have HW := hide1 (show RAt w9 b T _ _ _ from (heap_grown (HOW.out.keep ((Kept.refl _).alloc _ _)) hg9 (by omega) (by have := HW.out.lt; simp; omega)).trans (HW.out.keep ((Kept.refl _).alloc _ _))); have HBZ := hide1 (show BoxAt w9 _ _ _ _ _ _ _ from (heap_grown (HOW.out.keep ((Kept.refl _).alloc _ _)) hg9 (by omega) (by have := HBZ.out.lt; simp; omega)).trans (HBZ.out.keep ((Kept.refl _).alloc _ _))); have HOW := hide1 ho9; clear ho9 hg9)))
      go_roundw
      case rel => exact ⟨j + 1, l ++ [q2], k4, e4, f4, ok4.1, ok4.2, by have := HL2.out; simp; omega, by unfold rowB; omega, HK.out, HW.out, HBZ.out, HOW.out, fun M => by rw [show j + 1 + M = j + (M + 1) by omega, HM.out, HST3.out]⟩
      case measure => rw [HW.out.place, HRr.out.place]; omega
    · have HTK : Hid (takeK T k2 124 = k2) := by show _ = _; rw [takeK, if_neg hd]
      have HTB : Hid ((peekP T k2 == 124) = false) := by show _ = _; simpa using hd
      have HE : Hid (patO R T (k, e, f) = (oneOf 3 l, k2, e2, f2)) := by
        show (oneOf 3 (patL R T (k, e, f)).1, (patL R T (k, e, f)).2) = _
        have e1 : ∀ M, patG R T M l (k2, e2, f2) = (l, k2, e2, f2) := fun M => by
          cases M with
          | zero => rfl
          | succ M => rw [patG, if_neg hd]
        rw [HS3.out, show 4097 = j + (4097 - j) by omega, HM.out, e1]
      clear hd
      by_cases hl1 : l.length = 1
      · obtain ⟨q, rfl⟩ := list_one hl1
        obtain ⟨g, hgv, hcv⟩ := HOW.out.nonnil
        subst hgv
        have hcv2 : (1 : Int) ≤ (cv : Int) := by omega
        clear hl1 hcv HL2 hl3
        go_wp2_with (first
          | (go_at_call 133; refine (take_is T k2 e2 f2 124 b _ (by exact HW.out) hk0 hk2 hT).mono ?_; rintro r w7 ⟨rfl, hk7, hw7⟩; rw [HTB.out]; rw [HTK.out] at hw7; have HK := hide1 (HK.out.trans hk7); have HW := hide1 hw7; have HBZ := hide1 (HBZ.out.but hk7 (by omega)); have HOW := hide1 (HOW.out.but hk7 (by omega) (by omega)); have HSZ : Hid (wr.heap.size ≤ w7.heap.size) := hk7.2.2.2.1; obtain ⟨u, ⟨m0, m1, m2, m3, m4, m5⟩, hu⟩ := HOW.out.one_facts; have HU := hide1 hu; obtain ⟨ua, uc, rfl⟩ := hu.form; clear hu; obtain ⟨⟨p0, p1, p2, p3, p4, p5⟩, x0, x1, x2, x3, x4, x5⟩ := HBZ.out.facts;  clear hk7 hw7))
        (try simp only [Exit.inBlock, Exit.then])
        refine bodyPost_ret (box_returns rfl _ _ w.heap.size _ _ _ _ _ _ rfl (BoxAt.set (by exact HBZ.out))) rfl ?_
        rw [HE.out]
        exact ⟨end_one (kd := 3) (by exact HU.out), ⟨by show 0 ≤ k2; omega, by show k2 ≤ _; omega⟩, fin_but (HKW.out.trans HK.out) (by omega), RAt.fin (by exact HW.out) (by omega)⟩
      · have HL1 := hide1 hl1
        have hl1a : ¬ (l.length : Int) = 1 := by omega
        clear hl1
        go_wp2_with (first
          | (go_at_call 133; refine (take_is T k2 e2 f2 124 b _ (by exact HW.out) hk0 hk2 hT).mono ?_; rintro r w7 ⟨rfl, hk7, hw7⟩; rw [HTB.out]; rw [HTK.out] at hw7; have HK := hide1 (HK.out.trans hk7); have HW := hide1 hw7; have HBZ := hide1 (HBZ.out.but hk7 (by omega)); have HOW := hide1 (HOW.out.but hk7 (by omega) (by omega)); have HSZ : Hid (wr.heap.size ≤ w7.heap.size) := hk7.2.2.2.1; obtain ⟨⟨p0, p1, p2, p3, p4, p5⟩, x0, x1, x2, x3, x4, x5⟩ := HBZ.out.facts;  clear hk7 hw7))
        (try simp only [Exit.inBlock, Exit.then])
        refine bodyPost_ret (box_returns rfl _ _ w.heap.size _ _ _ _ _ _ rfl (BoxAt.set (by exact HBZ.out))) rfl ?_
        rw [HE.out]
        exact ⟨end_list (kd := 3) (by exact HOW.out) HL1.out (by omega), ⟨by show 0 ≤ k2; omega, by show k2 ≤ _; omega⟩, fin_but (HKW.out.trans HK.out) (by omega), RAt.fin (by exact HW.out) (by omega)⟩

theorem patS_is (T : ByteArray) (hT : T.size ≤ 4096) (hP : Plain T) : ∀ N, PatC T N (patS T N)
  | 0 => fun k e f b w h h0 h1 hN => absurd hN (by omega)
  | N + 1 => patO_is T (N + 1) (rowS (itemS (patS T N) T) T) (fun k e f b w h h0 h1 hN => row_is T N (patS T N) (patS_is T hT hP N) (pat_ok N) k e f b w h h0 h1 hN hT hP) (fun s h hN => rowG_ok (N := N + 1) (fun s h hlt hN => item_ok (pat_ok N) h hlt hN) 4097 [] s h hN) hT

end Ex
end Go.Proofs.YtbnchnlogikecaaGreatDoor
namespace Go.Proofs.YtbnchnlogikecaaGreatDoor
open Go.RowKit
attribute [local go_sem] Oper.semAt_some
namespace Ex

/-- Is a tree small enough? -/
def boundsP {n : Nat} (p : PatN (n + 1)) : Int := if 4096 < (lookP (n + 1) p 1 (0, 0)).1 then 2 else if 64 < (lookP (n + 1) p 1 (0, 0)).2 then 5 else 0

theorem KeptBut.up {b : Nat} {w u w' : World} (h : Kept w u) (hb : w.heap.size ≤ b) (hk : KeptBut b u w') : Kept w w' :=
  ⟨hk.1.trans h.1, hk.2.1.trans h.2.1, hk.2.2.1.trans h.2.2.1, Nat.le_trans h.size hk.2.2.2.1, fun k hlt => (hk.2.2.2.2 k (Nat.lt_of_lt_of_le hlt h.size) (by omega)).trans (h.2.2.2.2 k hlt)⟩
theorem new_walk (w : World) (o : Obj) : WalkAt ((w.alloc o).alloc (.cells #[.int .i64 0, .int .i64 0] 159)) (w.heap.size + 1) (0, 0) := by
  show ((w.heap.push o).push (.cells #[.int .i64 0, .int .i64 0] 159))[w.heap.size + 1]? = _
  simp [Array.getElem_push]

set_option linter.unusedSimpArgs false in
set_option maxRecDepth 100000 in
set_option maxHeartbeats 4000000 in
theorem bounds_is (S : Nat → Prop) (n : Nat) (p : PatN (n + 1)) (v : Value) (w : World) (h : KidsAt S w n (kids p) v) (hS : ∀ b, S b → b < w.heap.size) :
    Calls Tryz.prog 78 #[valOf p v] w fun e w' => e = .returned (.int .i64 (boundsP p)) ∧ Kept w w' := by
  have HK := hide1 h
  have HS := hide1 hS
  obtain ⟨a, cap, rfl⟩ := h.form
  rw [valOf_eq]
  clear h hS
  go_enter Tryz.func78, Tryz.ntmps78
  obtain ⟨⟨s1, s2⟩, hs⟩ : ∃ s, lookP (n + 1) p 1 (0, 0) = s := ⟨_, rfl⟩
  have HB : Hid (boundsP p = if 4096 < s1 then 2 else if 64 < s2 then 5 else 0) := by show _ = _; unfold boundsP; rw [hs]
  have HLS := hide1 hs
  clear hs
  go_wp2_with (go_at_call 95; refine (look_is S n p _ _ (w.heap.size + 1) 0 0 1 (HK.out.kept (((Kept.refl w).alloc _ _).alloc _ _)) (fun h => absurd (HS.out _ h) (by omega)) (new_walk _ _) (by omega) (by omega) (by omega) (by omega) (by omega) (by omega)).mono ?_; rintro e w6 ⟨rfl, hk6, hw6⟩; rw [HLS.out] at hw6; obtain ⟨c0, c1, z0, z1⟩ := hw6.cells; have HK6 := hide1 (KeptBut.up (((Kept.refl w).alloc _ _).alloc _ _) (by omega) hk6); clear hk6 hw6 z0 z1)
  all_goals
    go_ret
    refine ⟨?_, HK6.out⟩
    rw [HB.out]
    first
    | (rw [if_pos (by omega)]; rfl)
    | (rw [if_neg (by omega), if_pos (by omega)]; rfl)
    | (rw [if_neg (by omega), if_neg (by omega)]; rfl)

end Ex
end Go.Proofs.YtbnchnlogikecaaGreatDoor
namespace Go.Proofs.YtbnchnlogikecaaGreatDoor
open Go.RowKit
attribute [local go_sem] Oper.semAt_some
namespace Ex

/-- What is wrong with a tree, if anything is (P201). -/
def checkP {n : Nat} (p : PatN (n + 1)) : Int := if boundsP p = 0 then if rightP (n + 1) p = true then if 4096 < posP (n + 1) p then 21 else 0 else 20 else boundsP p
def positionsP {n : Nat} (p : PatN (n + 1)) : Int := if checkP p = 0 then posP (n + 1) p else 0

set_option linter.unusedSimpArgs false in
set_option maxRecDepth 100000 in
set_option maxHeartbeats 4000000 in
theorem Positions_is (S : Nat → Prop) (n : Nat) (p : PatN (n + 1)) (v : Value) (w : World) (h : KidsAt S w n (kids p) v) (hS : ∀ b, S b → b < w.heap.size) :
    Calls Tryz.prog 62 #[valOf p v] w fun e w' => e = .returned (.tuple #[.int .i64 (positionsP p), .int .i64 (checkP p)]) ∧ Kept w w' := by
  have HK := hide1 h
  have HS := hide1 hS
  obtain ⟨a, cap, rfl⟩ := h.form
  obtain ⟨b0, b1, b2, b3, b4, b5⟩ := box_at w (.int .i64 (kind p)) (.int .i64 (from_ p)) (.int .i64 (to_ p)) (.int .i64 (min_ p)) (.int .i64 (max_ p)) (.slice a (kids p).length cap) 70
  have HB := hide1 (And.intro b0 (And.intro b1 (And.intro b2 (And.intro b3 (And.intro b4 b5)))))
  clear b0 b1 b2 b3 b4 b5
  rw [valOf_eq]
  clear h hS
  have HC : Hid (checkP p = if boundsP p = 0 then if rightP (n + 1) p = true then if 4096 < posP (n + 1) p then 21 else 0 else 20 else boundsP p) := rfl
  have HP : Hid (positionsP p = if checkP p = 0 then posP (n + 1) p else 0) := rfl
  go_enter Tryz.func62, Tryz.ntmps62
  obtain ⟨bo, hbo⟩ : ∃ x, boundsP p = x := ⟨_, rfl⟩
  obtain ⟨po, hpo⟩ : ∃ x, posP (n + 1) p = x := ⟨_, rfl⟩
  have HBO := hide1 hbo
  have HPO := hide1 hpo
  rw [hbo, hpo] at HC
  rw [hpo] at HP
  clear hbo hpo
  by_cases hb0 : bo = 0
  · have eb : (bo != 0) = false := by simpa using hb0
    rw [if_pos hb0] at HC
    clear hb0
    by_cases hr : rightP (n + 1) p = true
    · have HRT := hide1 hr
      rw [if_pos hr] at HC
      clear hr
      by_cases hp : 4096 < po
      · rw [if_pos hp] at HC
        go_wp2_with (first
          | (go_at_call 78; refine (bounds_is S n p _ _ (HK.out.kept ((Kept.refl w).alloc _ _)) (fun b hb => Nat.lt_of_lt_of_le (HS.out b hb) ((Kept.refl w).alloc _ _).size)).mono ?_; rintro e w6 ⟨rfl, hk6⟩; rw [HBO.out]; have HK6 := hide1 (gtrans ((Kept.refl w).alloc _ _) hk6); have d0 := grown_cell hk6 HB.out.1; have d1 := grown_cell hk6 HB.out.2.1; have d2 := grown_cell hk6 HB.out.2.2.1; have d3 := grown_cell hk6 HB.out.2.2.2.1; have d4 := grown_cell hk6 HB.out.2.2.2.2.1; have d5 := grown_cell hk6 HB.out.2.2.2.2.2; clear hk6)
          | (go_at_call 79; refine (right_is S n p _ _ (HK.out.kept HK6.out)).mono ?_; rintro e w7 ⟨rfl, hk7⟩; rw [HRT.out]; have HK7 := hide1 (gtrans HK6.out hk7); have f0 := grown_cell hk7 d0; have f1 := grown_cell hk7 d1; have f2 := grown_cell hk7 d2; have f3 := grown_cell hk7 d3; have f4 := grown_cell hk7 d4; have f5 := grown_cell hk7 d5; clear hk7 d0 d1 d2 d3 d4 d5)
          | (go_at_call 80; refine (pos_is S n p _ _ (HK.out.kept HK7.out) HRT.out).mono ?_; rintro e w8 ⟨rfl, hk8⟩; rw [HPO.out]; have HK8 := hide1 (gtrans HK7.out hk8); clear hk8 f0 f1 f2 f3 f4 f5))
        go_ret2
        exact ⟨by rw [HP.out, HC.out]; rfl, HK8.out⟩
      · rw [if_neg hp] at HC
        go_wp2_with (first
          | (go_at_call 78; refine (bounds_is S n p _ _ (HK.out.kept ((Kept.refl w).alloc _ _)) (fun b hb => Nat.lt_of_lt_of_le (HS.out b hb) ((Kept.refl w).alloc _ _).size)).mono ?_; rintro e w6 ⟨rfl, hk6⟩; rw [HBO.out]; have HK6 := hide1 (gtrans ((Kept.refl w).alloc _ _) hk6); have d0 := grown_cell hk6 HB.out.1; have d1 := grown_cell hk6 HB.out.2.1; have d2 := grown_cell hk6 HB.out.2.2.1; have d3 := grown_cell hk6 HB.out.2.2.2.1; have d4 := grown_cell hk6 HB.out.2.2.2.2.1; have d5 := grown_cell hk6 HB.out.2.2.2.2.2; clear hk6)
          | (go_at_call 79; refine (right_is S n p _ _ (HK.out.kept HK6.out)).mono ?_; rintro e w7 ⟨rfl, hk7⟩; rw [HRT.out]; have HK7 := hide1 (gtrans HK6.out hk7); have f0 := grown_cell hk7 d0; have f1 := grown_cell hk7 d1; have f2 := grown_cell hk7 d2; have f3 := grown_cell hk7 d3; have f4 := grown_cell hk7 d4; have f5 := grown_cell hk7 d5; clear hk7 d0 d1 d2 d3 d4 d5)
          | (go_at_call 80; refine (pos_is S n p _ _ (HK.out.kept HK7.out) HRT.out).mono ?_; rintro e w8 ⟨rfl, hk8⟩; rw [HPO.out]; have HK8 := hide1 (gtrans HK7.out hk8); clear hk8 f0 f1 f2 f3 f4 f5))
        go_ret2
        exact ⟨by rw [HP.out, HC.out]; rfl, HK8.out⟩
    · have HRT : Hid (rightP (n + 1) p = false) := by show _ = _; simpa using hr
      rw [if_neg hr] at HC
      clear hr
      go_wp2_with (first
        | (go_at_call 78; refine (bounds_is S n p _ _ (HK.out.kept ((Kept.refl w).alloc _ _)) (fun b hb => Nat.lt_of_lt_of_le (HS.out b hb) ((Kept.refl w).alloc _ _).size)).mono ?_; rintro e w6 ⟨rfl, hk6⟩; rw [HBO.out]; have HK6 := hide1 (gtrans ((Kept.refl w).alloc _ _) hk6); have d0 := grown_cell hk6 HB.out.1; have d1 := grown_cell hk6 HB.out.2.1; have d2 := grown_cell hk6 HB.out.2.2.1; have d3 := grown_cell hk6 HB.out.2.2.2.1; have d4 := grown_cell hk6 HB.out.2.2.2.2.1; have d5 := grown_cell hk6 HB.out.2.2.2.2.2; clear hk6)
        | (go_at_call 79; refine (right_is S n p _ _ (HK.out.kept HK6.out)).mono ?_; rintro e w7 ⟨rfl, hk7⟩; rw [HRT.out]; have HK7 := hide1 (gtrans HK6.out hk7); have f0 := grown_cell hk7 d0; have f1 := grown_cell hk7 d1; have f2 := grown_cell hk7 d2; have f3 := grown_cell hk7 d3; have f4 := grown_cell hk7 d4; have f5 := grown_cell hk7 d5; clear hk7 d0 d1 d2 d3 d4 d5))
      go_ret2
      exact ⟨by rw [HP.out, HC.out]; rfl, HK7.out⟩
  · have eb : (bo != 0) = true := by simpa using hb0
    rw [if_neg hb0] at HC
    have HZ := hide1 hb0
    clear hb0
    go_wp2_with (go_at_call 78; refine (bounds_is S n p _ _ (HK.out.kept ((Kept.refl w).alloc _ _)) (fun b hb => Nat.lt_of_lt_of_le (HS.out b hb) ((Kept.refl w).alloc _ _).size)).mono ?_; rintro e w6 ⟨rfl, hk6⟩; rw [HBO.out]; have HK6 := hide1 (gtrans ((Kept.refl w).alloc _ _) hk6); have d0 := grown_cell hk6 HB.out.1; have d1 := grown_cell hk6 HB.out.2.1; have d2 := grown_cell hk6 HB.out.2.2.1; have d3 := grown_cell hk6 HB.out.2.2.2.1; have d4 := grown_cell hk6 HB.out.2.2.2.2.1; have d5 := grown_cell hk6 HB.out.2.2.2.2.2; clear hk6)
    go_ret2
    exact ⟨by rw [HP.out, HC.out, if_neg HZ.out]; rfl, HK6.out⟩

end Ex
end Go.Proofs.YtbnchnlogikecaaGreatDoor
namespace Go.Proofs.YtbnchnlogikecaaGreatDoor
open Go.RowKit
attribute [local go_sem] Oper.semAt_some
namespace Ex

set_option linter.unusedSimpArgs false in
set_option maxRecDepth 100000 in
set_option maxHeartbeats 4000000 in
theorem Check_is (S : Nat → Prop) (n : Nat) (p : PatN (n + 1)) (v : Value) (w : World) (h : KidsAt S w n (kids p) v) (hS : ∀ b, S b → b < w.heap.size) :
    Calls Tryz.prog 45 #[valOf p v] w fun e w' => e = .returned (.int .i64 (checkP p)) ∧ Kept w w' := by
  have HK := hide1 h
  have HS := hide1 hS
  obtain ⟨a, cap, rfl⟩ := h.form
  obtain ⟨b0, b1, b2, b3, b4, b5⟩ := box_at w (.int .i64 (kind p)) (.int .i64 (from_ p)) (.int .i64 (to_ p)) (.int .i64 (min_ p)) (.int .i64 (max_ p)) (.slice a (kids p).length cap) 70
  have HB := hide1 (And.intro b0 (And.intro b1 (And.intro b2 (And.intro b3 (And.intro b4 b5)))))
  clear b0 b1 b2 b3 b4 b5
  rw [valOf_eq]
  clear h hS
  go_enter Tryz.func45, Tryz.ntmps45
  go_wp2_with (go_at_call 62; refine (Positions_is S n p _ _ (HK.out.kept ((Kept.refl w).alloc _ _)) (fun b hb => Nat.lt_of_lt_of_le (HS.out b hb) ((Kept.refl w).alloc _ _).size)).mono ?_; rintro e w6 ⟨rfl, hk6⟩; have HK6 := hide1 (gtrans ((Kept.refl w).alloc _ _) hk6); clear hk6)
  go_ret
  exact ⟨rfl, HK6.out⟩

theorem check_right {n : Nat} {p : PatN (n + 1)} (h : checkP p = 0) : rightP (n + 1) p = true := by
  unfold checkP at h
  split at h
  · split at h
    · assumption
    · cases h
  · exact absurd h (by assumption)

end Ex
end Go.Proofs.YtbnchnlogikecaaGreatDoor
