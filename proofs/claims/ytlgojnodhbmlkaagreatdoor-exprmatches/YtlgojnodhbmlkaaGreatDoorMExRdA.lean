import Derived.Test.YtlgojnodhbmlkaaGreatDoorMExRd8
import Derived.Deep.DeepMust
import Derived.OwnWalk
namespace Go.Proofs.YtlgojnodhbmlkaaGreatDoor
open Go.RowKit
attribute [local go_sem] Oper.semAt_some
namespace Ex

def rowB (k1 : Int) (j : Nat) (k2 _e : Int) : Prop := k1 + (j : Int) ≤ k2
set_option linter.unusedSimpArgs false in
set_option maxRecDepth 100000 in
set_option maxHeartbeats 4000000 in
theorem row_is (T : ByteArray) (N : Nat) (pat : Int × Int × Int → Pat × Int × Int × Int) (hPC : PatC T N pat) (hPO : PatOk T N pat) (k e f : Int) (b : Nat) (w : World) (h : RAt w b T k e f) (h0 : 0 ≤ k) (h1 : k ≤ T.size) (hN : (T.size : Int) < k + ((N + 1 : Nat) : Int)) (hT : T.size ≤ 4096) (hP : Plain T) :
    Calls Tryz.prog 69 #[.pointer (some ⟨b, 0, none⟩)] w fun r w' => PGives (fun d => w.heap.size ≤ d) (rowS (itemS pat T) T (k, e, f)).1 r w' ∧ RGave b w T (rowS (itemS pat T) T (k, e, f)).2 w' := by
  have HR := hide1 h
  have HP := hide1 hP
  have HPC := hide1 hPC
  have HPO := hide1 hPO
  have hb := h.lt
  have gT : (T.size : Int) ≤ 4096 := by omega
  clear h hP hPC hPO
  go_enter Tryz.func69, Tryz.ntmps69
  go_wp2_with fail
  go_loopw [3] (fun v wr => ListR b w T (rowG (itemS pat T) T) [] (k, e, f) (rowB k) v wr) (fun _ wr => T.size - placeOf b wr)
  case atStart => exact ⟨0, [], k, e, f, h0, h1, rfl, by unfold rowB; omega, ((Kept.refl w).alloc _ _).but b, HR.out.keep ((Kept.refl w).alloc _ _), BoxAt.new w _ _ _ _ _ _, PatsOwn.nil _ _ _, fun N => by rw [Nat.zero_add]⟩
  case round =>
    obtain ⟨j, l, k2, e2, f2, hk0, hk2, hl, hB, hKW, hW, hBZ, hOW, hM⟩ := hrel
    obtain ⟨av, cv, rfl⟩ := hOW.form
    obtain ⟨c0, c1, c2, c3, c4⟩ := hW.cells
    have HKW := hide1 hKW
    have HRr := hide1 hW
    have HW := hide1 hW
    have HBZ := hide1 hBZ
    have HOW := hide1 hOW
    have HM := hide1 hM
    have HK := hide1 (but_refl b wr)
    have HOL := hide1 (fun d e => (hOW.lt d e).2)
    have hsw := hBZ.lt
    unfold rowB at hB
    have hj : j ≤ 4096 := by omega
    have hl2 : l.length = j := by simp at hl; omega
    have HL2 := hide1 hl2
    have hl3 : l.length ≤ 4096 := by omega
    clear hKW hW hBZ hOW hM hl hl2
    have hby := peek_byte T k2
    unfold IsB at hby
    by_cases hgo : rowGo T k2
    · obtain ⟨hlt, hn1, hn2⟩ := hgo
      have hgo : rowGo T k2 := ⟨hlt, hn1, hn2⟩
      have hb1 : (peekP T k2 != 124) = true := by simpa using hn1
      have hb2 : (peekP T k2 != 41) = true := by simpa using hn2
      have oka := atom_ok HPO.out (s := (k2, e2, f2)) ⟨hk0, hk2⟩ hlt (by show (T.size : Int) < k2 + ((N + 1 : Nat) : Int); omega)
      have HST : Hid (∀ M, rowG (itemS pat T) T (M + 1) l (k2, e2, f2) = rowG (itemS pat T) T M (l ++ [(itemS pat T (k2, e2, f2)).1]) (itemS pat T (k2, e2, f2)).2) := fun M => by rw [rowG, if_pos hgo]
      have HI : Hid (itemS pat T (k2, e2, f2) = timesS T (atomS pat T (k2, e2, f2)).1 (atomS pat T (k2, e2, f2)).2) := rfl
      obtain ⟨⟨q, k3, e3, f3⟩, hq⟩ : ∃ x, atomS pat T (k2, e2, f2) = x := ⟨_, rfl⟩
      have HI2 := HI.out
      rw [hq] at oka HI2
      have HQ := hide1 hq
      obtain ⟨ok3, hlt3⟩ := oka
      have okt := timesG_ok 4097 q (k3, e3, f3) ok3
      dsimp only at HI2
      obtain ⟨⟨q2, k4, e4, f4⟩, hq2⟩ : ∃ x, timesS T q (k3, e3, f3) = x := ⟨_, rfl⟩
      have hq3 : timesG T 4097 q (k3, e3, f3) = (q2, k4, e4, f4) := hq2
      rw [hq2] at HI2
      rw [hq3] at okt
      have HQ2 := hide1 hq2
      have HST2 := HST.out
      rw [HI2] at HST2
      have HST3 := hide1 HST2
      obtain ⟨ok4, hlt4⟩ := okt
      unfold OkS at ok3 ok4
      dsimp only at ok3 hlt3 ok4 hlt4
      clear hq hq2 hq3 HI2 HST2 HST HI hgo
      go_wp2_with (first
        | go_quiet ((go_at_call 81; exact Calls.quiet_of (peek_is T k2 e2 f2 b _ (HW.out.drew _) hk0 hk2 hT)))
        | (go_at_call 83; refine (atom_is T N pat HPC.out HPO.out k2 e2 f2 b _ (by exact HW.out) hk0 (by omega) (by omega) hT HP.out).mono ?_; rintro r w7 ⟨⟨v7, rfl, u7, rfl, hkk⟩, hg⟩; rw [HQ.out] at hg hkk ⊢; rw [valOf_eq]; obtain ⟨a7, c7, e7⟩ := hkk.form; subst e7; obtain ⟨hok7, hk7, hw7⟩ := hg; dsimp only at hok7; have HK := hide1 (HK.out.trans (but_undrew hk7)); have HW := hide1 hw7; have HBZ := hide1 (HBZ.out.but (but_undrew hk7) (by omega)); have HOW := hide1 (HOW.out.but (but_undrew hk7) (by omega) (by omega)); have HSZ : Hid (wr.heap.size ≤ w7.heap.size) := (but_undrew hk7).2.2.2.1; have HKI := hide1 (show PatV (fun d => wr.heap.size ≤ d) w7 q (valOf q.2 _) from ⟨_, rfl, hkk⟩); rw [valOf_eq] at HKI; clear hkk hk7 hw7)
        | (go_at_call 82; refine (timesR_is (fun d => wr.heap.size ≤ d) q _ T k3 e3 f3 b _ (by exact HW.out) ok3.1 ok3.2 hT HKI.out (by have := HRr.out.lt; omega) (fun d hd => by have := HSZ.out; omega)).mono ?_; rintro r w8 ⟨⟨v8, rfl, u8, rfl, hkk⟩, hg⟩; rw [HQ2.out] at hg hkk ⊢; rw [valOf_eq]; obtain ⟨a8, c8, e8⟩ := hkk.form; subst e8; obtain ⟨hok8, hk8, hw8⟩ := hg; dsimp only at hok8; have HK := hide1 (HK.out.trans hk8); have HW := hide1 hw8; have HBZ := hide1 (HBZ.out.but hk8 (by omega)); have HOW := hide1 (HOW.out.but hk8 (by omega) (by omega)); have HKI2 := hide1 hkk; clear hkk hk8 hw8)
        | (at_builtin; go_must (refine wpl_append_pat rfl _ _ rfl _ (w.heap.size + 1) (fun d => w.heap.size < d) _ l l.length rfl (by rfl) (HOW.out.keep ((Kept.refl _).alloc _ _)) _ q2 _ (by rfl) (BoxAt.new _ _ _ _ _ _ _) (KidsAt.mono (((Kept.refl _).alloc _ _).holds _) (fun d hd => ⟨by omega, fun e => by have := HOL.out d e; omega⟩) _ _ _ HKI2.out) (by omega) (by have := HBZ.out.lt; simp; omega) ?_; intro g9 c9 w9 ho9 hg9; have HK := hide1 (KeptBut.grown (HKW.out.trans (HK.out.trans (((Kept.refl _).alloc _ _).but b))) (HOW.out.keep ((Kept.refl _).alloc _ _)) (by omega) hg9); have HW := hide1 (show RAt w9 b T _ _ _ from (heap_grown (HOW.out.keep ((Kept.refl _).alloc _ _)) hg9 (by omega) (by have := HW.out.lt; simp; omega)).trans (HW.out.keep ((Kept.refl _).alloc _ _))); have HBZ := hide1 (show BoxAt w9 _ _ _ _ _ _ _ from (heap_grown (HOW.out.keep ((Kept.refl _).alloc _ _)) hg9 (by omega) (by have := HBZ.out.lt; simp; omega)).trans (HBZ.out.keep ((Kept.refl _).alloc _ _))); have HOW := hide1 ho9; clear ho9 hg9)))
      go_roundw
      case rel => exact ⟨j + 1, l ++ [q2], k4, e4, f4, ok4.1, ok4.2, by have := HL2.out; simp; omega, by unfold rowB; omega, HK.out, HW.out, HBZ.out, HOW.out, fun M => by rw [show j + 1 + M = j + (M + 1) by omega, HM.out, HST3.out]⟩
      case measure => rw [HW.out.place, HRr.out.place]; omega
    · have HE : Hid (rowS (itemS pat T) T (k, e, f) = (oneOf 2 l, k2, e2, f2)) := by
        show (oneOf 2 (rowG (itemS pat T) T 4097 [] (k, e, f)).1, (rowG (itemS pat T) T 4097 [] (k, e, f)).2) = _
        have e1 : ∀ M, rowG (itemS pat T) T M l (k2, e2, f2) = (l, k2, e2, f2) := fun M => by
          cases M with
          | zero => rfl
          | succ M => rw [rowG, if_neg hgo]
        rw [show 4097 = j + (4097 - j) by omega, HM.out, e1]
      by_cases hlt : k2 < (T.size : Int)
      · by_cases hn1 : peekP T k2 = 124
        · have hb1 : (peekP T k2 != 124) = false := by simpa using hn1
          clear hgo hn1
          by_cases hl1 : l.length = 1
          · obtain ⟨q, rfl⟩ := list_one hl1
            obtain ⟨g, hgv, hcv⟩ := HOW.out.nonnil
            subst hgv
            have hcv2 : (1 : Int) ≤ (cv : Int) := by omega
            clear hl1 hcv HL2 hl3
            obtain ⟨u, ⟨m0, m1, m2, m3, m4, m5⟩, hu⟩ := HOW.out.one_facts; have HU := hide1 hu; obtain ⟨ua, uc, rfl⟩ := hu.form; clear hu
            obtain ⟨⟨p0, p1, p2, p3, p4, p5⟩, x0, x1, x2, x3, x4, x5⟩ := HBZ.out.facts
            go_wp2_with (go_quiet ((go_at_call 81; exact Calls.quiet_of (peek_is T k2 e2 f2 b _ (HW.out.drew _) hk0 hk2 hT))))
            (try simp only [Exit.inBlock, Exit.then])
            refine bodyPost_ret (box_returns rfl _ _ w.heap.size _ _ _ _ _ _ rfl (BoxAt.set (by exact HBZ.out))) rfl ?_
            rw [HE.out]
            exact ⟨end_one (kd := 2) (HU.out.drew _), ⟨by show 0 ≤ k2; omega, by show k2 ≤ _; omega⟩, fin_but (but_drew HKW.out _) (by omega), RAt.fin (by exact HW.out) (by omega)⟩
          · have HL1 := hide1 hl1
            have hl1a : ¬ (l.length : Int) = 1 := by omega
            clear hl1
            obtain ⟨⟨p0, p1, p2, p3, p4, p5⟩, x0, x1, x2, x3, x4, x5⟩ := HBZ.out.facts
            go_wp2_with (go_quiet ((go_at_call 81; exact Calls.quiet_of (peek_is T k2 e2 f2 b _ (HW.out.drew _) hk0 hk2 hT))))
            (try simp only [Exit.inBlock, Exit.then])
            refine bodyPost_ret (box_returns rfl _ _ w.heap.size _ _ _ _ _ _ rfl (BoxAt.set (by exact HBZ.out))) rfl ?_
            rw [HE.out]
            exact ⟨end_list (kd := 2) (HOW.out.keep (drewN_kept _ _)) HL1.out (by omega), ⟨by show 0 ≤ k2; omega, by show k2 ≤ _; omega⟩, fin_but (but_drew HKW.out _) (by omega), RAt.fin (by exact HW.out) (by omega)⟩
        · have hb1 : (peekP T k2 != 124) = true := by simpa using hn1
          have hb2 : (peekP T k2 != 41) = false := by
            by_cases h : peekP T k2 = 41
            · simpa using h
            · exact absurd ⟨hlt, hn1, h⟩ hgo
          clear hgo hn1
          by_cases hl1 : l.length = 1
          · obtain ⟨q, rfl⟩ := list_one hl1
            obtain ⟨g, hgv, hcv⟩ := HOW.out.nonnil
            subst hgv
            have hcv2 : (1 : Int) ≤ (cv : Int) := by omega
            clear hl1 hcv HL2 hl3
            obtain ⟨u, ⟨m0, m1, m2, m3, m4, m5⟩, hu⟩ := HOW.out.one_facts; have HU := hide1 hu; obtain ⟨ua, uc, rfl⟩ := hu.form; clear hu
            obtain ⟨⟨p0, p1, p2, p3, p4, p5⟩, x0, x1, x2, x3, x4, x5⟩ := HBZ.out.facts
            go_wp2_with (go_quiet ((go_at_call 81; exact Calls.quiet_of (peek_is T k2 e2 f2 b _ (HW.out.drew _) hk0 hk2 hT))))
            (try simp only [Exit.inBlock, Exit.then])
            refine bodyPost_ret (box_returns rfl _ _ w.heap.size _ _ _ _ _ _ rfl (BoxAt.set (by exact HBZ.out))) rfl ?_
            rw [HE.out]
            exact ⟨end_one (kd := 2) (HU.out.drew _), ⟨by show 0 ≤ k2; omega, by show k2 ≤ _; omega⟩, fin_but (but_drew HKW.out _) (by omega), RAt.fin (by exact HW.out) (by omega)⟩
          · have HL1 := hide1 hl1
            have hl1a : ¬ (l.length : Int) = 1 := by omega
            clear hl1
            obtain ⟨⟨p0, p1, p2, p3, p4, p5⟩, x0, x1, x2, x3, x4, x5⟩ := HBZ.out.facts
            go_wp2_with (go_quiet ((go_at_call 81; exact Calls.quiet_of (peek_is T k2 e2 f2 b _ (HW.out.drew _) hk0 hk2 hT))))
            (try simp only [Exit.inBlock, Exit.then])
            refine bodyPost_ret (box_returns rfl _ _ w.heap.size _ _ _ _ _ _ rfl (BoxAt.set (by exact HBZ.out))) rfl ?_
            rw [HE.out]
            exact ⟨end_list (kd := 2) (HOW.out.keep (drewN_kept _ _)) HL1.out (by omega), ⟨by show 0 ≤ k2; omega, by show k2 ≤ _; omega⟩, fin_but (but_drew HKW.out _) (by omega), RAt.fin (by exact HW.out) (by omega)⟩
      · clear hgo
        by_cases hl1 : l.length = 1
        · obtain ⟨q, rfl⟩ := list_one hl1
          obtain ⟨g, hgv, hcv⟩ := HOW.out.nonnil
          subst hgv
          have hcv2 : (1 : Int) ≤ (cv : Int) := by omega
          clear hl1 hcv HL2 hl3
          obtain ⟨u, ⟨m0, m1, m2, m3, m4, m5⟩, hu⟩ := HOW.out.one_facts; have HU := hide1 hu; obtain ⟨ua, uc, rfl⟩ := hu.form; clear hu
          obtain ⟨⟨p0, p1, p2, p3, p4, p5⟩, x0, x1, x2, x3, x4, x5⟩ := HBZ.out.facts
          go_wp2_with (go_quiet ((go_at_call 81; exact Calls.quiet_of (peek_is T k2 e2 f2 b _ (HW.out.drew _) hk0 hk2 hT))))
          (try simp only [Exit.inBlock, Exit.then])
          refine bodyPost_ret (box_returns rfl _ _ w.heap.size _ _ _ _ _ _ rfl (BoxAt.set (by exact HBZ.out))) rfl ?_
          rw [HE.out]
          exact ⟨end_one (kd := 2) (HU.out.drew _), ⟨by show 0 ≤ k2; omega, by show k2 ≤ _; omega⟩, fin_but (but_drew HKW.out _) (by omega), RAt.fin (by exact HW.out) (by omega)⟩
        · have HL1 := hide1 hl1
          have hl1a : ¬ (l.length : Int) = 1 := by omega
          clear hl1
          obtain ⟨⟨p0, p1, p2, p3, p4, p5⟩, x0, x1, x2, x3, x4, x5⟩ := HBZ.out.facts
          go_wp2_with (go_quiet ((go_at_call 81; exact Calls.quiet_of (peek_is T k2 e2 f2 b _ (HW.out.drew _) hk0 hk2 hT))))
          (try simp only [Exit.inBlock, Exit.then])
          refine bodyPost_ret (box_returns rfl _ _ w.heap.size _ _ _ _ _ _ rfl (BoxAt.set (by exact HBZ.out))) rfl ?_
          rw [HE.out]
          exact ⟨end_list (kd := 2) (HOW.out.keep (drewN_kept _ _)) HL1.out (by omega), ⟨by show 0 ≤ k2; omega, by show k2 ≤ _; omega⟩, fin_but (but_drew HKW.out _) (by omega), RAt.fin (by exact HW.out) (by omega)⟩

end Ex
end Go.Proofs.YtlgojnodhbmlkaaGreatDoor
namespace Go.Proofs.YtlgojnodhbmlkaaGreatDoor
open Go.RowKit
attribute [local go_sem] Oper.semAt_some
namespace Ex

/-- What row does. -/
def RowC (T : ByteArray) (N : Nat) (R : Int × Int × Int → Pat × Int × Int × Int) : Prop :=
  ∀ (k e f : Int) (b : Nat) (w : World), RAt w b T k e f → 0 ≤ k → k ≤ T.size → (T.size : Int) < k + (N : Int) →
    Calls Tryz.prog 69 #[.pointer (some ⟨b, 0, none⟩)] w fun r w' => PGives (fun d => w.heap.size ≤ d) (R (k, e, f)).1 r w' ∧ RGave b w T (R (k, e, f)).2 w'
set_option linter.unusedSimpArgs false in
set_option maxRecDepth 100000 in
set_option maxHeartbeats 4000000 in
theorem patO_is (T : ByteArray) (N : Nat) (R : Int × Int × Int → Pat × Int × Int × Int) (hRC : RowC T N R) (hRO : ∀ s, OkS T s → (T.size : Int) < s.1 + (N : Int) → OkS T (R s).2 ∧ s.1 ≤ (R s).2.1) (hT : T.size ≤ 4096) : PatC T N (patO R T) := by
  intro k e f b w h h0 h1 hN
  have HR := hide1 h
  have HROW := hide1 hRC
  have HRO := hide1 hRO
  have hb := h.lt
  have gT : (T.size : Int) ≤ 4096 := by omega
  have oka := hRO (k, e, f) ⟨h0, h1⟩ hN
  have HS : Hid (patL R T (k, e, f) = patG R T 4097 [(R (k, e, f)).1] (R (k, e, f)).2) := rfl
  obtain ⟨⟨q1, k1, e1, f1⟩, hq⟩ : ∃ x, R (k, e, f) = x := ⟨_, rfl⟩
  have HS2 := HS.out
  rw [hq] at oka HS2
  have HQ := hide1 hq
  have HS3 := hide1 HS2
  obtain ⟨ok1, hlt1⟩ := oka
  unfold OkS at ok1
  dsimp only at ok1 hlt1
  clear h hRC hRO hq HS HS2
  go_enter Tryz.func48, Tryz.ntmps48
  go_wp2_with (first
    | (go_at_call 69; refine (HROW.out k e f b _ (HR.out.keep ((Kept.refl _).alloc _ _)) h0 h1 (by omega)).mono ?_; rintro r w7 ⟨⟨v7, rfl, u7, rfl, hkk⟩, hg⟩; rw [HQ.out] at hg hkk ⊢; rw [valOf_eq]; obtain ⟨a7, c7, e7⟩ := hkk.form; subst e7; obtain ⟨hok7, hk7, hw7⟩ := hg; dsimp only at hok7; have HK := hide1 (but_allocd hk7); have HW := hide1 hw7; have HBZ := hide1 (BoxAt.but (BoxAt.new w _ _ _ _ _ _) hk7 (by omega)); have HKI := hide1 (KidsAt.mono (S' := fun d => w.heap.size < d) (fun _ _ _ _ h => h) (fun d h => by have h2 := h; simp at h2; omega) _ _ _ hkk); clear hkk hk7 hw7))
  go_loopw [3] (fun v wr => ListR b w T (patG R T) [q1] (k1, e1, f1) (rowB k1) v wr) (fun _ wr => T.size - placeOf b wr)
  case atStart =>
    refine ⟨0, [q1], k1, e1, f1, ok1.1, ok1.2, rfl, by unfold rowB; omega, HK.out.trans (((Kept.refl _).alloc _ _).but b), HW.out.keep ((Kept.refl _).alloc _ _), HBZ.out.keep ((Kept.refl _).alloc _ _), ?_, fun N => by rw [Nat.zero_add]⟩
    exact PatsOwn.one (BoxAt.new _ _ _ _ _ _ _) (by have := HBZ.out.lt; omega) (KidsAt.mono (((Kept.refl _).alloc _ _).holds _) (fun d hd => ⟨hd.1, by omega⟩) _ _ _ HKI.out.tight)
  case round =>
    obtain ⟨j, l, k2, e2, f2, hk0, hk2, hl, hB, hKW, hW, hBZ, hOW, hM⟩ := hrel
    obtain ⟨av, cv, rfl⟩ := hOW.form
    have HKW := hide1 hKW
    have HRr := hide1 hW
    have HW := hide1 hW
    have HBZ := hide1 hBZ
    have HOW := hide1 hOW
    have HM := hide1 hM
    have HK := hide1 (but_refl b wr)
    have HOL := hide1 (fun d e => (hOW.lt d e).2)
    have hsw := hBZ.lt
    unfold rowB at hB
    have hj : j ≤ 4096 := by omega
    have hl2 : l.length = j + 1 := by simp at hl; omega
    have HL2 := hide1 hl2
    have hl3 : l.length ≤ 4097 := by omega
    clear hKW hW hBZ hOW hM hl hl2
    by_cases hd : peekP T k2 = 124
    · have HTK : Hid (takeK T k2 124 = k2 + 1) := by show _ = _; rw [takeK, if_pos hd]
      have HTB : Hid ((peekP T k2 == 124) = true) := by show _ = _; rw [hd]; rfl
      have hlt := (peek_lt (T := T) (k := k2) (by rw [hd]; decide)).2
      have oka := HRO.out (k2 + 1, e2, f2) ⟨by show 0 ≤ k2 + 1; omega, by show k2 + 1 ≤ _; omega⟩ (by show (T.size : Int) < k2 + 1 + N; omega)
      have HST : Hid (∀ M, patG R T (M + 1) l (k2, e2, f2) = patG R T M (l ++ [(R (k2 + 1, e2, f2)).1]) (R (k2 + 1, e2, f2)).2) := fun M => by rw [patG, if_pos hd]
      obtain ⟨⟨q2, k4, e4, f4⟩, hq2⟩ : ∃ x, R (k2 + 1, e2, f2) = x := ⟨_, rfl⟩
      have HST2 := HST.out
      rw [hq2] at oka HST2
      have HQ2 := hide1 hq2
      have HST3 := hide1 HST2
      obtain ⟨ok4, hlt4⟩ := oka
      unfold OkS at ok4
      dsimp only at ok4 hlt4
      clear hq2 HST2 HST hd
      go_wp2_with (first
        | (go_at_call 70; refine (take_is T k2 e2 f2 124 b _ (by exact HW.out) hk0 hk2 hT).mono ?_; rintro r w7 ⟨rfl, hk7, hw7⟩; rw [HTB.out]; rw [HTK.out] at hw7; have HK := hide1 (HK.out.trans hk7); have HW := hide1 hw7; have HBZ := hide1 (HBZ.out.but hk7 (by omega)); have HOW := hide1 (HOW.out.but hk7 (by omega) (by omega)); have HSZ : Hid (wr.heap.size ≤ w7.heap.size) := hk7.2.2.2.1;  clear hk7 hw7)
        | (go_at_call 69; refine (HROW.out (k2 + 1) e2 f2 b _ (by exact HW.out) (by omega) (by omega) (by omega)).mono ?_; rintro r w8 ⟨⟨v8, rfl, u8, rfl, hkk⟩, hg⟩; rw [HQ2.out] at hg hkk ⊢; rw [valOf_eq]; obtain ⟨a8, c8, e8⟩ := hkk.form; subst e8; obtain ⟨hok8, hk8, hw8⟩ := hg; dsimp only at hok8; have HK := hide1 (HK.out.trans hk8); have HW := hide1 hw8; have HBZ := hide1 (HBZ.out.but hk8 (by omega)); have HOW := hide1 (HOW.out.but hk8 (by omega) (by omega)); have HKI2 := hide1 (KidsAt.mono (S' := fun d => wr.heap.size ≤ d) (fun _ _ _ _ h => h) (fun d h => by have := HSZ.out; omega) _ _ _ hkk); clear hkk hk8 hw8)
        | (at_builtin; go_must (refine wpl_append_pat rfl _ _ rfl _ (w.heap.size + 1) (fun d => w.heap.size < d) _ l l.length rfl (by rfl) (HOW.out.keep ((Kept.refl _).alloc _ _)) _ q2 _ (by rfl) (BoxAt.new _ _ _ _ _ _ _) (KidsAt.mono (((Kept.refl _).alloc _ _).holds _) (fun d hd => ⟨by omega, fun e => by have := HOL.out d e; omega⟩) _ _ _ HKI2.out) (by omega) (by have := HBZ.out.lt; simp; omega) ?_; intro g9 c9 w9 ho9 hg9; have HK := hide1 (KeptBut.grown (HKW.out.trans (HK.out.trans (((Kept.refl _).alloc _ _).but b))) (HOW.out.keep ((Kept.refl _).alloc _ _)) (by omega) hg9); have HW := hide1 (show RAt w9 b T _ _ _ from (heap_grown (HOW.out.keep ((Kept.refl _).alloc _ _)) hg9 (by omega) (by have := HW.out.lt; simp; omega)).trans (HW.out.keep ((Kept.refl _).alloc _ _))); have HBZ := hide1 (show BoxAt w9 _ _ _ _ _ _ _ from (heap_grown (HOW.out.keep ((Kept.refl _).alloc _ _)) hg9 (by omega) (by have := HBZ.out.lt; simp; omega)).trans (HBZ.out.keep ((Kept.refl _).alloc _ _))); have HOW := hide1 ho9; clear ho9 hg9)))
      go_roundw
      case rel => exact ⟨j + 1, l ++ [q2], k4, e4, f4, ok4.1, ok4.2, by have := HL2.out; simp; omega, by unfold rowB; omega, HK.out, HW.out, HBZ.out, HOW.out, fun M => by rw [show j + 1 + M = j + (M + 1) by omega, HM.out, HST3.out]⟩
      case measure => rw [HW.out.place, HRr.out.place]; omega
    · have HTK : Hid (takeK T k2 124 = k2) := by show _ = _; rw [takeK, if_neg hd]
      have HTB : Hid ((peekP T k2 == 124) = false) := by show _ = _; simpa using hd
      have HE : Hid (patO R T (k, e, f) = (oneOf 3 l, k2, e2, f2)) := by
        show (oneOf 3 (patL R T (k, e, f)).1, (patL R T (k, e, f)).2) = _
        have e1 : ∀ M, patG R T M l (k2, e2, f2) = (l, k2, e2, f2) := fun M => by
          cases M with
          | zero => rfl
          | succ M => rw [patG, if_neg hd]
        rw [HS3.out, show 4097 = j + (4097 - j) by omega, HM.out, e1]
      clear hd
      by_cases hl1 : l.length = 1
      · obtain ⟨q, rfl⟩ := list_one hl1
        obtain ⟨g, hgv, hcv⟩ := HOW.out.nonnil
        subst hgv
        have hcv2 : (1 : Int) ≤ (cv : Int) := by omega
        clear hl1 hcv HL2 hl3
        go_wp2_with (first
          | (go_at_call 70; refine (take_is T k2 e2 f2 124 b _ (by exact HW.out) hk0 hk2 hT).mono ?_; rintro r w7 ⟨rfl, hk7, hw7⟩; rw [HTB.out]; rw [HTK.out] at hw7; have HK := hide1 (HK.out.trans hk7); have HW := hide1 hw7; have HBZ := hide1 (HBZ.out.but hk7 (by omega)); have HOW := hide1 (HOW.out.but hk7 (by omega) (by omega)); have HSZ : Hid (wr.heap.size ≤ w7.heap.size) := hk7.2.2.2.1; obtain ⟨u, ⟨m0, m1, m2, m3, m4, m5⟩, hu⟩ := HOW.out.one_facts; have HU := hide1 hu; obtain ⟨ua, uc, rfl⟩ := hu.form; clear hu; obtain ⟨⟨p0, p1, p2, p3, p4, p5⟩, x0, x1, x2, x3, x4, x5⟩ := HBZ.out.facts;  clear hk7 hw7))
        (try simp only [Exit.inBlock, Exit.then])
        refine bodyPost_ret (box_returns rfl _ _ w.heap.size _ _ _ _ _ _ rfl (BoxAt.set (by exact HBZ.out))) rfl ?_
        rw [HE.out]
        exact ⟨end_one (kd := 3) (by exact HU.out), ⟨by show 0 ≤ k2; omega, by show k2 ≤ _; omega⟩, fin_but (HKW.out.trans HK.out) (by omega), RAt.fin (by exact HW.out) (by omega)⟩
      · have HL1 := hide1 hl1
        have hl1a : ¬ (l.length : Int) = 1 := by omega
        clear hl1
        go_wp2_with (first
          | (go_at_call 70; refine (take_is T k2 e2 f2 124 b _ (by exact HW.out) hk0 hk2 hT).mono ?_; rintro r w7 ⟨rfl, hk7, hw7⟩; rw [HTB.out]; rw [HTK.out] at hw7; have HK := hide1 (HK.out.trans hk7); have HW := hide1 hw7; have HBZ := hide1 (HBZ.out.but hk7 (by omega)); have HOW := hide1 (HOW.out.but hk7 (by omega) (by omega)); have HSZ : Hid (wr.heap.size ≤ w7.heap.size) := hk7.2.2.2.1; obtain ⟨⟨p0, p1, p2, p3, p4, p5⟩, x0, x1, x2, x3, x4, x5⟩ := HBZ.out.facts;  clear hk7 hw7))
        (try simp only [Exit.inBlock, Exit.then])
        refine bodyPost_ret (box_returns rfl _ _ w.heap.size _ _ _ _ _ _ rfl (BoxAt.set (by exact HBZ.out))) rfl ?_
        rw [HE.out]
        exact ⟨end_list (kd := 3) (by exact HOW.out) HL1.out (by omega), ⟨by show 0 ≤ k2; omega, by show k2 ≤ _; omega⟩, fin_but (HKW.out.trans HK.out) (by omega), RAt.fin (by exact HW.out) (by omega)⟩

theorem patS_is (T : ByteArray) (hT : T.size ≤ 4096) (hP : Plain T) : ∀ N, PatC T N (patS T N)
  | 0 => fun k e f b w h h0 h1 hN => absurd hN (by omega)
  | N + 1 => patO_is T (N + 1) (rowS (itemS (patS T N) T) T) (fun k e f b w h h0 h1 hN => row_is T N (patS T N) (patS_is T hT hP N) (pat_ok N) k e f b w h h0 h1 hN hT hP) (fun s h hN => rowG_ok (N := N + 1) (fun s h hlt hN => item_ok (pat_ok N) h hlt hN) 4097 [] s h hN) hT

end Ex
end Go.Proofs.YtlgojnodhbmlkaaGreatDoor
