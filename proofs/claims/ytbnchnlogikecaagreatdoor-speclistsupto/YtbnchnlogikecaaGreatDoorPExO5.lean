import Derived.Test.YtbnchnlogikecaaGreatDoorPExO4
import Derived.Test.YtbnchnlogikecaaGreatDoorPExRd9
import Derived.Deep.DeepMust
import Derived.OwnWalk
namespace Go.Proofs.YtbnchnlogikecaaGreatDoor
open Go.RowKit
attribute [local go_sem] Oper.semAt_some
set_option linter.unusedSimpArgs false
set_option maxRecDepth 100000
set_option maxHeartbeats 4000000
namespace Ex
theorem rowU_is (T : ByteArray) (N : Nat) (pat : Int × Int × Int → Pat × Int × Int × Int) (hPC : PatCU T N pat) (hPO : PatOk T N pat) (k e f : Int) (b : Nat) (w : World) (h : RAt w b T k e f) (h0 : 0 ≤ k) (h1 : k ≤ T.size) (hN : (T.size : Int) < k + ((N + 1 : Nat) : Int)) (hT : T.size ≤ 4096) :
    Calls Tryz.prog 132 #[.pointer (some ⟨b, 0, none⟩)] w fun r w' => PGivU (fun d => w.heap.size ≤ d) (rowS (itemA pat T) T (k, e, f)).1 r w' ∧ RGave b w T (rowS (itemA pat T) T (k, e, f)).2 w' := by
  have HR := hide1 h
  have HPC := hide1 hPC
  have HPO := hide1 hPO
  have hb := h.lt
  have gT : (T.size : Int) ≤ 4096 := by omega
  clear h hPC hPO
  go_enter Tryz.func132, Tryz.ntmps132
  go_wp2_with fail
  go_loopw [3] (fun v wr => ListU b w T (rowG (itemA pat T) T) [] (k, e, f) (rowB k) v wr) (fun _ wr => T.size - placeOf b wr)
  case atStart => exact ⟨0, [], k, e, f, h0, h1, rfl, by unfold rowB; omega, ((Kept.refl w).alloc _ _).but b, HR.out.keep ((Kept.refl w).alloc _ _), BoxAt.new w _ _ _ _ _ _, PatsU.nil _ _ _, fun N => by rw [Nat.zero_add]⟩
  case round =>
    obtain ⟨j, l, k2, e2, f2, hk0, hk2, hl, hB, hKW, hW, hBZ, hOW, hM⟩ := hrel
    obtain ⟨av, cv, rfl⟩ := hOW.form
    obtain ⟨c0, c1, c2, c3, c4⟩ := hW.cells
    have HKW := hide1 hKW
    have HRr := hide1 hW
    have HW := hide1 hW
    have HBZ := hide1 hBZ
    have HOW := hide1 hOW
    have HM := hide1 hM
    have HK := hide1 (but_refl b wr)
    have HOL := hide1 (fun d e => (hOW.lt d e).2)
    have hsw := hBZ.lt
    unfold rowB at hB
    have hj : j ≤ 4096 := by omega
    have hl2 : l.length = j := by simp at hl; omega
    have HL2 := hide1 hl2
    have hl3 : l.length ≤ 4096 := by omega
    clear hKW hW hBZ hOW hM hl hl2
    have hby := peek_byte T k2
    unfold IsB at hby
    by_cases hgo : rowGo T k2
    · obtain ⟨hlt, hn1, hn2⟩ := hgo
      have hgo : rowGo T k2 := ⟨hlt, hn1, hn2⟩
      have HOW := hide1 HOW.out.tight
      have hb1 : (peekP T k2 != 124) = true := by simpa using hn1
      have hb2 : (peekP T k2 != 41) = true := by simpa using hn2
      have oka := atomA_ok HPO.out (s := (k2, e2, f2)) ⟨hk0, hk2⟩ hlt (by show (T.size : Int) < k2 + ((N + 1 : Nat) : Int); omega)
      have HST : Hid (∀ M, rowG (itemA pat T) T (M + 1) l (k2, e2, f2) = rowG (itemA pat T) T M (l ++ [(itemA pat T (k2, e2, f2)).1]) (itemA pat T (k2, e2, f2)).2) := fun M => by rw [rowG, if_pos hgo]
      have HI : Hid (itemA pat T (k2, e2, f2) = timesS T (atomA pat T (k2, e2, f2)).1 (atomA pat T (k2, e2, f2)).2) := rfl
      obtain ⟨⟨q, k3, e3, f3⟩, hq⟩ : ∃ x, atomA pat T (k2, e2, f2) = x := ⟨_, rfl⟩
      have HI2 := HI.out
      rw [hq] at oka HI2
      have HQ := hide1 hq
      obtain ⟨ok3, hlt3⟩ := oka
      have okt := timesG_ok 4097 q (k3, e3, f3) ok3
      dsimp only at HI2
      obtain ⟨⟨q2, k4, e4, f4⟩, hq2⟩ : ∃ x, timesS T q (k3, e3, f3) = x := ⟨_, rfl⟩
      have hq3 : timesG T 4097 q (k3, e3, f3) = (q2, k4, e4, f4) := hq2
      rw [hq2] at HI2
      rw [hq3] at okt
      have HQ2 := hide1 hq2
      have HST2 := HST.out
      rw [HI2] at HST2
      have HST3 := hide1 HST2
      obtain ⟨ok4, hlt4⟩ := okt
      unfold OkS at ok3 ok4
      dsimp only at ok3 hlt3 ok4 hlt4
      clear hq hq2 hq3 HI2 HST2 HST HI hgo
      go_wp2_with (first
        | go_quiet ((go_at_call 135; exact Calls.quiet_of (peek_is T k2 e2 f2 b _ (HW.out.drew _) hk0 hk2 hT)))
        | (go_at_call 137; refine (atomU_is T N pat HPC.out HPO.out k2 e2 f2 b _ (by exact HW.out) hk0 (by omega) (by omega) hT).mono ?_; rintro r w7 ⟨⟨v7, rfl, u7, rfl, hkk⟩, hg⟩; rw [HQ.out] at hg hkk ⊢; rw [valOf_eq]; obtain ⟨a7, c7, e7⟩ := hkk.form; subst e7; obtain ⟨hok7, hk7, hw7⟩ := hg; dsimp only at hok7; have HK := hide1 (HK.out.trans (but_undrew hk7)); have HW := hide1 hw7; have HBZ := hide1 (HBZ.out.but (but_undrew hk7) (by omega)); have HOW := hide1 (HOW.out.but (but_undrew hk7) (by omega) (by omega)); have HSZ : Hid (wr.heap.size ≤ w7.heap.size) := (but_undrew hk7).2.2.2.1; have HKI := hide1 (show PatU (fun d => wr.heap.size ≤ d) w7 q (valOf q.2 _) from ⟨_, rfl, hkk⟩); rw [valOf_eq] at HKI; clear hkk hk7 hw7)
        | (go_at_call 136; refine (timesU_is (fun d => wr.heap.size ≤ d) q _ T k3 e3 f3 b _ (by exact HW.out) ok3.1 ok3.2 hT HKI.out (by have := HRr.out.lt; omega) (fun d hd => by have := HSZ.out; omega)).mono ?_; rintro r w8 ⟨⟨v8, rfl, u8, rfl, hkk⟩, hg⟩; rw [HQ2.out] at hg hkk ⊢; rw [valOf_eq]; obtain ⟨a8, c8, e8⟩ := hkk.form; subst e8; obtain ⟨hok8, hk8, hw8⟩ := hg; dsimp only at hok8; have HK := hide1 (HK.out.trans hk8); have HW := hide1 hw8; have HBZ := hide1 (HBZ.out.but hk8 (by omega)); have HOW := hide1 (HOW.out.but hk8 (by omega) (by omega)); have HKI2 := hide1 hkk; clear hkk hk8 hw8)
        | (at_builtin; go_must (refine wpl_append_patU rfl _ _ rfl _ (w.heap.size + 1) wr.heap.size (fun d => w.heap.size < d) _ l l.length rfl (by rfl) (HOW.out.keep ((Kept.refl _).alloc _ _)) _ q2 _ (by rfl) (BoxAt.new _ _ _ _ _ _ _) (KidsO.mono (((Kept.refl _).alloc _ _).holdsU _) (fun d hd => ⟨by omega, hd, fun e => by have := HOL.out d e; omega⟩) _ _ _ HKI2.out) (by omega) (by have := HBZ.out.lt; simp; omega) ?_; intro g9 c9 w9 ho9 hg9; have HK := hide1 (KeptBut.grownU (HKW.out.trans (HK.out.trans (((Kept.refl _).alloc _ _).but b))) (HOW.out.keep ((Kept.refl _).alloc _ _)) (by omega) hg9); have HW := hide1 (show RAt w9 b T _ _ _ from (heap_grownU (HOW.out.keep ((Kept.refl _).alloc _ _)) hg9 (by omega) (by have := HW.out.lt; simp; omega)).trans (HW.out.keep ((Kept.refl _).alloc _ _))); have HBZ := hide1 (show BoxAt w9 _ _ _ _ _ _ _ from (heap_grownU (HOW.out.keep ((Kept.refl _).alloc _ _)) hg9 (by omega) (by have := HBZ.out.lt; simp; omega)).trans (HBZ.out.keep ((Kept.refl _).alloc _ _))); have HOW := hide1 ho9; clear ho9 hg9)))
      go_roundw
      case rel => exact ⟨j + 1, l ++ [q2], k4, e4, f4, ok4.1, ok4.2, by have := HL2.out; simp; omega, by unfold rowB; omega, HK.out, HW.out, HBZ.out, HOW.out, fun M => by rw [show j + 1 + M = j + (M + 1) by omega, HM.out, HST3.out]⟩
      case measure => rw [HW.out.place, HRr.out.place]; omega
    · have HE : Hid (rowS (itemA pat T) T (k, e, f) = (oneOf 2 l, k2, e2, f2)) := by
        show (oneOf 2 (rowG (itemA pat T) T 4097 [] (k, e, f)).1, (rowG (itemA pat T) T 4097 [] (k, e, f)).2) = _
        have e1 : ∀ M, rowG (itemA pat T) T M l (k2, e2, f2) = (l, k2, e2, f2) := fun M => by
          cases M with
          | zero => rfl
          | succ M => rw [rowG, if_neg hgo]
        rw [show 4097 = j + (4097 - j) by omega, HM.out, e1]
      by_cases hlt : k2 < (T.size : Int)
      · by_cases hn1 : peekP T k2 = 124
        · have hb1 : (peekP T k2 != 124) = false := by simpa using hn1
          clear hgo hn1
          by_cases hl1 : l.length = 1
          · obtain ⟨q, rfl⟩ := list_one hl1
            obtain ⟨g, hgv, hcv⟩ := HOW.out.nonnil
            subst hgv
            have hcv2 : (1 : Int) ≤ (cv : Int) := by omega
            clear hl1 hcv HL2 hl3
            obtain ⟨u, ⟨m0, m1, m2, m3, m4, m5⟩, hu⟩ := HOW.out.one_facts; have HU := hide1 hu; obtain ⟨ua, uc, rfl⟩ := hu.form; clear hu
            obtain ⟨⟨p0, p1, p2, p3, p4, p5⟩, x0, x1, x2, x3, x4, x5⟩ := HBZ.out.facts
            go_wp2_with (go_quiet ((go_at_call 135; exact Calls.quiet_of (peek_is T k2 e2 f2 b _ (HW.out.drew _) hk0 hk2 hT))))
            (try simp only [Exit.inBlock, Exit.then])
            refine bodyPost_ret (box_returns rfl _ _ w.heap.size _ _ _ _ _ _ rfl (BoxAt.set (by exact HBZ.out))) rfl ?_
            rw [HE.out]
            exact ⟨endU_one (kd := 2) (HU.out.drew _), ⟨by show 0 ≤ k2; omega, by show k2 ≤ _; omega⟩, fin_but (but_drew HKW.out _) (by omega), RAt.fin (by exact HW.out) (by omega)⟩
          · have HL1 := hide1 hl1
            have hl1a : ¬ (l.length : Int) = 1 := by omega
            clear hl1
            obtain ⟨⟨p0, p1, p2, p3, p4, p5⟩, x0, x1, x2, x3, x4, x5⟩ := HBZ.out.facts
            go_wp2_with (go_quiet ((go_at_call 135; exact Calls.quiet_of (peek_is T k2 e2 f2 b _ (HW.out.drew _) hk0 hk2 hT))))
            (try simp only [Exit.inBlock, Exit.then])
            refine bodyPost_ret (box_returns rfl _ _ w.heap.size _ _ _ _ _ _ rfl (BoxAt.set (by exact HBZ.out))) rfl ?_
            rw [HE.out]
            exact ⟨endU_list (kd := 2) (HOW.out.keep (drewN_kept _ _)) HL1.out (by omega), ⟨by show 0 ≤ k2; omega, by show k2 ≤ _; omega⟩, fin_but (but_drew HKW.out _) (by omega), RAt.fin (by exact HW.out) (by omega)⟩
        · have hb1 : (peekP T k2 != 124) = true := by simpa using hn1
          have hb2 : (peekP T k2 != 41) = false := by
            by_cases h : peekP T k2 = 41
            · simpa using h
            · exact absurd ⟨hlt, hn1, h⟩ hgo
          clear hgo hn1
          by_cases hl1 : l.length = 1
          · obtain ⟨q, rfl⟩ := list_one hl1
            obtain ⟨g, hgv, hcv⟩ := HOW.out.nonnil
            subst hgv
            have hcv2 : (1 : Int) ≤ (cv : Int) := by omega
            clear hl1 hcv HL2 hl3
            obtain ⟨u, ⟨m0, m1, m2, m3, m4, m5⟩, hu⟩ := HOW.out.one_facts; have HU := hide1 hu; obtain ⟨ua, uc, rfl⟩ := hu.form; clear hu
            obtain ⟨⟨p0, p1, p2, p3, p4, p5⟩, x0, x1, x2, x3, x4, x5⟩ := HBZ.out.facts
            go_wp2_with (go_quiet ((go_at_call 135; exact Calls.quiet_of (peek_is T k2 e2 f2 b _ (HW.out.drew _) hk0 hk2 hT))))
            (try simp only [Exit.inBlock, Exit.then])
            refine bodyPost_ret (box_returns rfl _ _ w.heap.size _ _ _ _ _ _ rfl (BoxAt.set (by exact HBZ.out))) rfl ?_
            rw [HE.out]
            exact ⟨endU_one (kd := 2) (HU.out.drew _), ⟨by show 0 ≤ k2; omega, by show k2 ≤ _; omega⟩, fin_but (but_drew HKW.out _) (by omega), RAt.fin (by exact HW.out) (by omega)⟩
          · have HL1 := hide1 hl1
            have hl1a : ¬ (l.length : Int) = 1 := by omega
            clear hl1
            obtain ⟨⟨p0, p1, p2, p3, p4, p5⟩, x0, x1, x2, x3, x4, x5⟩ := HBZ.out.facts
            go_wp2_with (go_quiet ((go_at_call 135; exact Calls.quiet_of (peek_is T k2 e2 f2 b _ (HW.out.drew _) hk0 hk2 hT))))
            (try simp only [Exit.inBlock, Exit.then])
            refine bodyPost_ret (box_returns rfl _ _ w.heap.size _ _ _ _ _ _ rfl (BoxAt.set (by exact HBZ.out))) rfl ?_
            rw [HE.out]
            exact ⟨endU_list (kd := 2) (HOW.out.keep (drewN_kept _ _)) HL1.out (by omega), ⟨by show 0 ≤ k2; omega, by show k2 ≤ _; omega⟩, fin_but (but_drew HKW.out _) (by omega), RAt.fin (by exact HW.out) (by omega)⟩
      · clear hgo
        by_cases hl1 : l.length = 1
        · obtain ⟨q, rfl⟩ := list_one hl1
          obtain ⟨g, hgv, hcv⟩ := HOW.out.nonnil
          subst hgv
          have hcv2 : (1 : Int) ≤ (cv : Int) := by omega
          clear hl1 hcv HL2 hl3
          obtain ⟨u, ⟨m0, m1, m2, m3, m4, m5⟩, hu⟩ := HOW.out.one_facts; have HU := hide1 hu; obtain ⟨ua, uc, rfl⟩ := hu.form; clear hu
          obtain ⟨⟨p0, p1, p2, p3, p4, p5⟩, x0, x1, x2, x3, x4, x5⟩ := HBZ.out.facts
          go_wp2_with (go_quiet ((go_at_call 135; exact Calls.quiet_of (peek_is T k2 e2 f2 b _ (HW.out.drew _) hk0 hk2 hT))))
          (try simp only [Exit.inBlock, Exit.then])
          refine bodyPost_ret (box_returns rfl _ _ w.heap.size _ _ _ _ _ _ rfl (BoxAt.set (by exact HBZ.out))) rfl ?_
          rw [HE.out]
          exact ⟨endU_one (kd := 2) (HU.out.drew _), ⟨by show 0 ≤ k2; omega, by show k2 ≤ _; omega⟩, fin_but (but_drew HKW.out _) (by omega), RAt.fin (by exact HW.out) (by omega)⟩
        · have HL1 := hide1 hl1
          have hl1a : ¬ (l.length : Int) = 1 := by omega
          clear hl1
          obtain ⟨⟨p0, p1, p2, p3, p4, p5⟩, x0, x1, x2, x3, x4, x5⟩ := HBZ.out.facts
          go_wp2_with (go_quiet ((go_at_call 135; exact Calls.quiet_of (peek_is T k2 e2 f2 b _ (HW.out.drew _) hk0 hk2 hT))))
          (try simp only [Exit.inBlock, Exit.then])
          refine bodyPost_ret (box_returns rfl _ _ w.heap.size _ _ _ _ _ _ rfl (BoxAt.set (by exact HBZ.out))) rfl ?_
          rw [HE.out]
          exact ⟨endU_list (kd := 2) (HOW.out.keep (drewN_kept _ _)) HL1.out (by omega), ⟨by show 0 ≤ k2; omega, by show k2 ≤ _; omega⟩, fin_but (but_drew HKW.out _) (by omega), RAt.fin (by exact HW.out) (by omega)⟩
end Ex
end Go.Proofs.YtbnchnlogikecaaGreatDoor
