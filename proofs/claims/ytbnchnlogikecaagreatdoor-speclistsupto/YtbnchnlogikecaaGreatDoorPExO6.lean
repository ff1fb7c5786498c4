import Derived.Test.YtbnchnlogikecaaGreatDoorPExO5
import Derived.Test.YtbnchnlogikecaaGreatDoorPExRdC
namespace Go.Proofs.YtbnchnlogikecaaGreatDoor
open Go.RowKit
attribute [local go_sem] Oper.semAt_some
set_option linter.unusedSimpArgs false
set_option maxRecDepth 100000
set_option maxHeartbeats 4000000
namespace Ex
def RowCU (T : ByteArray) (N : Nat) (R : Int × Int × Int → Pat × Int × Int × Int) : Prop :=
  ∀ (k e f : Int) (b : Nat) (w : World), RAt w b T k e f → 0 ≤ k → k ≤ T.size → (T.size : Int) < k + (N : Int) →
    Calls Tryz.prog 132 #[.pointer (some ⟨b, 0, none⟩)] w fun r w' => PGivU (fun d => w.heap.size ≤ d) (R (k, e, f)).1 r w' ∧ RGave b w T (R (k, e, f)).2 w'
theorem patOU_is (T : ByteArray) (N : Nat) (R : Int × Int × Int → Pat × Int × Int × Int) (hRC : RowCU T N R) (hRO : ∀ s, OkS T s → (T.size : Int) < s.1 + (N : Int) → OkS T (R s).2 ∧ s.1 ≤ (R s).2.1) (hT : T.size ≤ 4096) : PatCU T N (patO R T) := by
  intro k e f b w h h0 h1 hN
  have HR := hide1 h
  have HROW := hide1 hRC
  have HRO := hide1 hRO
  have hb := h.lt
  have gT : (T.size : Int) ≤ 4096 := by omega
  have oka := hRO (k, e, f) ⟨h0, h1⟩ hN
  have HS : Hid (patL R T (k, e, f) = patG R T 4097 [(R (k, e, f)).1] (R (k, e, f)).2) := rfl
  obtain ⟨⟨q1, k1, e1, f1⟩, hq⟩ : ∃ x, R (k, e, f) = x := ⟨_, rfl⟩
  have HS2 := HS.out
  rw [hq] at oka HS2
  have HQ := hide1 hq
  have HS3 := hide1 HS2
  obtain ⟨ok1, hlt1⟩ := oka
  unfold OkS at ok1
  dsimp only at ok1 hlt1
  clear h hRC hRO hq HS HS2
  go_enter Tryz.func130, Tryz.ntmps130
  go_wp2_with (first
    | (go_at_call 132; refine (HROW.out k e f b _ (HR.out.keep ((Kept.refl _).alloc _ _)) h0 h1 (by omega)).mono ?_; rintro r w7 ⟨⟨v7, rfl, u7, rfl, hkk⟩, hg⟩; rw [HQ.out] at hg hkk ⊢; rw [valOf_eq]; obtain ⟨a7, c7, e7⟩ := hkk.form; subst e7; obtain ⟨hok7, hk7, hw7⟩ := hg; dsimp only at hok7; have HK := hide1 (but_allocd hk7); have HW := hide1 hw7; have HBZ := hide1 (BoxAt.but (BoxAt.new w _ _ _ _ _ _) hk7 (by omega)); have HKI := hide1 (KidsO.mono (S' := fun d => w.heap.size < d) (fun _ _ _ => rfl) (fun d h => by have h2 := h; simp at h2; omega) _ _ _ hkk); clear hkk hk7 hw7))
  go_loopw [3] (fun v wr => ListU b w T (patG R T) [q1] (k1, e1, f1) (rowB k1) v wr) (fun _ wr => T.size - placeOf b wr)
  case atStart =>
    refine ⟨0, [q1], k1, e1, f1, ok1.1, ok1.2, rfl, by unfold rowB; omega, HK.out.trans (((Kept.refl _).alloc _ _).but b), HW.out.keep ((Kept.refl _).alloc _ _), HBZ.out.keep ((Kept.refl _).alloc _ _), ?_, fun N => by rw [Nat.zero_add]⟩
    exact PatsU.one (BoxAt.new _ _ _ _ _ _ _) (by have := HBZ.out.lt; omega) (KidsO.mono (((Kept.refl _).alloc _ _).holdsU _) (fun d hd => ⟨hd.1, by omega⟩) _ _ _ HKI.out.tight)
  case round =>
    obtain ⟨j, l, k2, e2, f2, hk0, hk2, hl, hB, hKW, hW, hBZ, hOW, hM⟩ := hrel
    obtain ⟨av, cv, rfl⟩ := hOW.form
    have HKW := hide1 hKW
    have HRr := hide1 hW
    have HW := hide1 hW
    have HBZ := hide1 hBZ
    have HOW := hide1 hOW
    have HM := hide1 hM
    have HK := hide1 (but_refl b wr)
    have HOL := hide1 (fun d e => (hOW.lt d e).2)
    have hsw := hBZ.lt
    unfold rowB at hB
    have hj : j ≤ 4096 := by omega
    have hl2 : l.length = j + 1 := by simp at hl; omega
    have HL2 := hide1 hl2
    have hl3 : l.length ≤ 4097 := by omega
    clear hKW hW hBZ hOW hM hl hl2
    by_cases hd : peekP T k2 = 124
    · have HOW := hide1 HOW.out.tight
      have HTK : Hid (takeK T k2 124 = k2 + 1) := by show _ = _; rw [takeK, if_pos hd]
      have HTB : Hid ((peekP T k2 == 124) = true) := by show _ = _; rw [hd]; rfl
      have hlt := (peek_lt (T := T) (k := k2) (by rw [hd]; decide)).2
      have oka := HRO.out (k2 + 1, e2, f2) ⟨by show 0 ≤ k2 + 1; omega, by show k2 + 1 ≤ _; omega⟩ (by show (T.size : Int) < k2 + 1 + N; omega)
      have HST : Hid (∀ M, patG R T (M + 1) l (k2, e2, f2) = patG R T M (l ++ [(R (k2 + 1, e2, f2)).1]) (R (k2 + 1, e2, f2)).2) := fun M => by rw [patG, if_pos hd]
      obtain ⟨⟨q2, k4, e4, f4⟩, hq2⟩ : ∃ x, R (k2 + 1, e2, f2) = x := ⟨_, rfl⟩
      have HST2 := HST.out
      rw [hq2] at oka HST2
      have HQ2 := hide1 hq2
      have HST3 := hide1 HST2
      obtain ⟨ok4, hlt4⟩ := oka
      unfold OkS at ok4
      dsimp only at ok4 hlt4
      clear hq2 HST2 HST hd
      go_wp2_with (first
        | (go_at_call 133; refine (take_is T k2 e2 f2 124 b _ (by exact HW.out) hk0 hk2 hT).mono ?_; rintro r w7 ⟨rfl, hk7, hw7⟩; rw [HTB.out]; rw [HTK.out] at hw7; have HK := hide1 (HK.out.trans hk7); have HW := hide1 hw7; have HBZ := hide1 (HBZ.out.but hk7 (by omega)); have HOW := hide1 (HOW.out.but hk7 (by omega) (by omega)); have HSZ : Hid (wr.heap.size ≤ w7.heap.size) := hk7.2.2.2.1;  clear hk7 hw7)
        | (go_at_call 132; refine (HROW.out (k2 + 1) e2 f2 b _ (by exact HW.out) (by omega) (by omega) (by omega)).mono ?_; rintro r w8 ⟨⟨v8, rfl, u8, rfl, hkk⟩, hg⟩; rw [HQ2.out] at hg hkk ⊢; rw [valOf_eq]; obtain ⟨a8, c8, e8⟩ := hkk.form; subst e8; obtain ⟨hok8, hk8, hw8⟩ := hg; dsimp only at hok8; have HK := hide1 (HK.out.trans hk8); have HW := hide1 hw8; have HBZ := hide1 (HBZ.out.but hk8 (by omega)); have HOW := hide1 (HOW.out.but hk8 (by omega) (by omega)); have HKI2 := hide1 (KidsO.mono (S' := fun d => wr.heap.size ≤ d) (fun _ _ _ => rfl) (fun d h => by have := HSZ.out; omega) _ _ _ hkk); clear hkk hk8 hw8)
        | (at_builtin; go_must (refine wpl_append_patU rfl _ _ rfl _ (w.heap.size + 1) wr.heap.size (fun d => w.heap.size < d) _ l l.length rfl (by rfl) (HOW.out.keep ((Kept.refl _).alloc _ _)) _ q2 _ (by rfl) (BoxAt.new _ _ _ _ _ _ _) (KidsO.mono (((Kept.refl _).alloc _ _).holdsU _) (fun d hd => ⟨by omega, hd, fun e => by have := HOL.out d e; omega⟩) _ _ _ HKI2.out) (by omega) (by have := HBZ.out.lt; simp; omega) ?_; intro g9 c9 w9 ho9 hg9; have HK := hide1 (KeptBut.grownU (HKW.out.trans (HK.out.trans (((Kept.refl _).alloc _ _).but b))) (HOW.out.keep ((Kept.refl _).alloc _ _)) (by omega) hg9); have HW := hide1 (show RAt w9 b T _ _ _ from (heap_grownU (HOW.out.keep ((Kept.refl _).alloc _ _)) hg9 (by omega) (by have := HW.out.lt; simp; omega)).trans (HW.out.keep ((Kept.refl _).alloc _ _))); have HBZ := hide1 (show BoxAt w9 _ _ _ _ _ _ _ from (heap_grownU (HOW.out.keep ((Kept.refl _).alloc _ _)) hg9 (by omega) (by have := HBZ.out.lt; simp; omega)).trans (HBZ.out.keep ((Kept.refl _).alloc _ _))); have HOW := hide1 ho9; clear ho9 hg9)))
      go_roundw
      case rel => exact ⟨j + 1, l ++ [q2], k4, e4, f4, ok4.1, ok4.2, by have := HL2.out; simp; omega, by unfold rowB; omega, HK.out, HW.out, HBZ.out, HOW.out, fun M => by rw [show j + 1 + M = j + (M + 1) by omega, HM.out, HST3.out]⟩
      case measure => rw [HW.out.place, HRr.out.place]; omega
    · have HTK : Hid (takeK T k2 124 = k2) := by show _ = _; rw [takeK, if_neg hd]
      have HTB : Hid ((peekP T k2 == 124) = false) := by show _ = _; simpa using hd
      have HE : Hid (patO R T (k, e, f) = (oneOf 3 l, k2, e2, f2)) := by
        show (oneOf 3 (patL R T (k, e, f)).1, (patL R T (k, e, f)).2) = _
        have e1 : ∀ M, patG R T M l (k2, e2, f2) = (l, k2, e2, f2) := fun M => by
          cases M with
          | zero => rfl
          | succ M => rw [patG, if_neg hd]
        rw [HS3.out, show 4097 = j + (4097 - j) by omega, HM.out, e1]
      clear hd
      by_cases hl1 : l.length = 1
      · obtain ⟨q, rfl⟩ := list_one hl1
        obtain ⟨g, hgv, hcv⟩ := HOW.out.nonnil
        subst hgv
        have hcv2 : (1 : Int) ≤ (cv : Int) := by omega
        clear hl1 hcv HL2 hl3
        go_wp2_with (first
          | (go_at_call 133; refine (take_is T k2 e2 f2 124 b _ (by exact HW.out) hk0 hk2 hT).mono ?_; rintro r w7 ⟨rfl, hk7, hw7⟩; rw [HTB.out]; rw [HTK.out] at hw7; have HK := hide1 (HK.out.trans hk7); have HW := hide1 hw7; have HBZ := hide1 (HBZ.out.but hk7 (by omega)); have HOW := hide1 (HOW.out.but hk7 (by omega) (by omega)); have HSZ : Hid (wr.heap.size ≤ w7.heap.size) := hk7.2.2.2.1; obtain ⟨u, ⟨m0, m1, m2, m3, m4, m5⟩, hu⟩ := HOW.out.one_facts; have HU := hide1 hu; obtain ⟨ua, uc, rfl⟩ := hu.form; clear hu; obtain ⟨⟨p0, p1, p2, p3, p4, p5⟩, x0, x1, x2, x3, x4, x5⟩ := HBZ.out.facts;  clear hk7 hw7))
        (try simp only [Exit.inBlock, Exit.then])
        refine bodyPost_ret (box_returns rfl _ _ w.heap.size _ _ _ _ _ _ rfl (BoxAt.set (by exact HBZ.out))) rfl ?_
        rw [HE.out]
        exact ⟨endU_one (kd := 3) (by exact HU.out), ⟨by show 0 ≤ k2; omega, by show k2 ≤ _; omega⟩, fin_but (HKW.out.trans HK.out) (by omega), RAt.fin (by exact HW.out) (by omega)⟩
      · have HL1 := hide1 hl1
        have hl1a : ¬ (l.length : Int) = 1 := by omega
        clear hl1
        go_wp2_with (first
          | (go_at_call 133; refine (take_is T k2 e2 f2 124 b _ (by exact HW.out) hk0 hk2 hT).mono ?_; rintro r w7 ⟨rfl, hk7, hw7⟩; rw [HTB.out]; rw [HTK.out] at hw7; have HK := hide1 (HK.out.trans hk7); have HW := hide1 hw7; have HBZ := hide1 (HBZ.out.but hk7 (by omega)); have HOW := hide1 (HOW.out.but hk7 (by omega) (by omega)); have HSZ : Hid (wr.heap.size ≤ w7.heap.size) := hk7.2.2.2.1; obtain ⟨⟨p0, p1, p2, p3, p4, p5⟩, x0, x1, x2, x3, x4, x5⟩ := HBZ.out.facts;  clear hk7 hw7))
        (try simp only [Exit.inBlock, Exit.then])
        refine bodyPost_ret (box_returns rfl _ _ w.heap.size _ _ _ _ _ _ rfl (BoxAt.set (by exact HBZ.out))) rfl ?_
        rw [HE.out]
        exact ⟨endU_list (kd := 3) (by exact HOW.out) HL1.out (by omega), ⟨by show 0 ≤ k2; omega, by show k2 ≤ _; omega⟩, fin_but (HKW.out.trans HK.out) (by omega), RAt.fin (by exact HW.out) (by omega)⟩
theorem patU_is (T : ByteArray) (hT : T.size ≤ 4096) : ∀ N, PatCU T N (patA T N)
  | 0 => fun k e f b w h h0 h1 hN => absurd hN (by omega)
  | N + 1 => patOU_is T (N + 1) (rowS (itemA (patA T N) T) T) (fun k e f b w h h0 h1 hN => rowU_is T N (patA T N) (patU_is T hT N) (patA_ok N) k e f b w h h0 h1 hN hT) (fun s h hN => rowG_ok (N := N + 1) (fun s h hlt hN => itemA_ok (patA_ok N) h hlt hN) 4097 [] s h hN) hT
theorem wholeU_is (T : ByteArray) (k e f : Int) (b : Nat) (w : World) (h : RAt w b T k e f) (h0 : 0 ≤ k) (h1 : k ≤ T.size) (hT : T.size ≤ 4096) :
    Calls Tryz.prog 127 #[.pointer (some ⟨b, 0, none⟩)] w fun r w' => PGivU (fun d => w.heap.size ≤ d) (wholeA T (k, e, f)).1 r w' ∧ RGave b w T (wholeA T (k, e, f)).2 w' := by
  have HR := hide1 h
  have hb := h.lt
  have gT : (T.size : Int) ≤ 4096 := by omega
  have oka := patA_ok (T := T) 4098 (k, e, f) ⟨h0, h1⟩ (by show (T.size : Int) < k + ((4098 : Nat) : Int); omega)
  have HE0 : wholeA T (k, e, f) = if (patA T 4098 (k, e, f)).2.1 < T.size then ((patA T 4098 (k, e, f)).1, wrongS T (patA T 4098 (k, e, f)).2) else patA T 4098 (k, e, f) := rfl
  obtain ⟨⟨q, k1, e1, f1⟩, hq⟩ : ∃ x, patA T 4098 (k, e, f) = x := ⟨_, rfl⟩
  rw [hq] at oka HE0
  have HQ := hide1 hq
  obtain ⟨ok1, hlt1⟩ := oka
  unfold OkS at ok1
  dsimp only at ok1 hlt1 HE0
  clear h hq
  go_enter Tryz.func127, Tryz.ntmps127
  by_cases hlt : k1 < T.size
  · rw [if_pos hlt] at HE0
    have HE := hide1 HE0
    clear HE0
    go_wp2_with (first
      | go_quiet (fail)
      | (go_at_call 130; refine (patU_is T hT 4098 k e f b _ (HR.out.keep ((Kept.refl _).alloc _ _)) h0 h1 (by omega)).mono ?_; rintro r w7 ⟨⟨v7, rfl, u7, rfl, hkk⟩, hg⟩; rw [HQ.out] at hg hkk ⊢; rw [valOf_eq]; obtain ⟨a7, c7, e7⟩ := hkk.form; subst e7; obtain ⟨hok7, hk7, hw7⟩ := hg; have HK := hide1 (but_allocd hk7); have HW := hide1 hw7; have HBZ := hide1 (BoxAt.but (BoxAt.new w _ _ _ _ _ _) hk7 (by omega)); have HKI := hide1 (KidsO.mono (S' := fun d => w.heap.size < d) (fun _ _ _ => rfl) (fun d h => by have h2 := h; simp at h2; omega) _ _ _ hkk); obtain ⟨c0, c1, c2, c3, c4⟩ := HW.out.cells; obtain ⟨⟨p0, p1, p2, p3, p4, p5⟩, x0, x1, x2, x3, x4, x5⟩ := HBZ.out.facts; have hb7 := HW.out.lt; have hz7 := HBZ.out.lt; clear hkk hk7 hw7 hok7)
      | (go_at_call 131; refine (wrong_is T _ _ _ b _ ((HW.out.keep ((Kept.refl _).alloc _ _)).drew _) hT).mono ?_; rintro r w10 ⟨rfl, hq10, hw10⟩; have hk10 := but_allocd (but_undrew hq10); have HBE := hide1 (BoxAt.but (BoxAt.new w7 _ _ _ _ _ _) (but_undrew hq10) (by omega)); have HKI := hide1 (KidsO.mono (hk10.holdsU (S := fun d => w.heap.size < d) (by omega)) (fun _ h => h) _ _ _ HKI.out); have HK := hide1 (HK.out.trans hk10); have HW := hide1 hw10; have HBZ := hide1 (HBZ.out.but hk10 (by omega)); obtain ⟨⟨q0, q1, q2, q3, q4, q5⟩, _⟩ := HBE.out.facts; obtain ⟨⟨p0, p1, p2, p3, p4, p5⟩, x0, x1, x2, x3, x4, x5⟩ := HBZ.out.facts; clear hk10 hq10 hw10))
    (try simp only [Exit.inBlock, Exit.then])
    refine bodyPost_ret (box_returns rfl _ _ w.heap.size _ _ _ _ _ _ rfl (BoxAt.set (by exact HBZ.out))) rfl ?_
    rw [HE.out]
    exact ⟨⟨_, rfl, _, rfl, KidsO.mono (set6_holdsU (S := fun d => w.heap.size < d) (fun h => absurd h (by omega))) (fun d h => by omega) _ _ _ HKI.out⟩, wrong_ok _ _, fin_but HK.out (by omega), HW.out.fin (by omega)⟩
  · rw [if_neg hlt] at HE0
    have HE := hide1 HE0
    clear HE0
    go_wp2_with (first
      | go_quiet (fail)
      | (go_at_call 130; refine (patU_is T hT 4098 k e f b _ (HR.out.keep ((Kept.refl _).alloc _ _)) h0 h1 (by omega)).mono ?_; rintro r w7 ⟨⟨v7, rfl, u7, rfl, hkk⟩, hg⟩; rw [HQ.out] at hg hkk ⊢; rw [valOf_eq]; obtain ⟨a7, c7, e7⟩ := hkk.form; subst e7; obtain ⟨hok7, hk7, hw7⟩ := hg; have HK := hide1 (but_allocd hk7); have HW := hide1 hw7; have HBZ := hide1 (BoxAt.but (BoxAt.new w _ _ _ _ _ _) hk7 (by omega)); have HKI := hide1 (KidsO.mono (S' := fun d => w.heap.size < d) (fun _ _ _ => rfl) (fun d h => by have h2 := h; simp at h2; omega) _ _ _ hkk); obtain ⟨c0, c1, c2, c3, c4⟩ := HW.out.cells; obtain ⟨⟨p0, p1, p2, p3, p4, p5⟩, x0, x1, x2, x3, x4, x5⟩ := HBZ.out.facts; have hb7 := HW.out.lt; have hz7 := HBZ.out.lt; clear hkk hk7 hw7 hok7))
    (try simp only [Exit.inBlock, Exit.then])
    refine bodyPost_ret (box_returns rfl _ _ w.heap.size _ _ _ _ _ _ rfl (BoxAt.set ((HBZ.out.keep ((Kept.refl _).alloc _ _)).keep (drewN_kept _ _)))) rfl ?_
    rw [HE.out]
    exact ⟨⟨_, rfl, _, rfl, KidsO.mono (set6_holdsU (S := fun d => w.heap.size < d) (fun h => absurd h (by omega))) (fun d h => by omega) _ _ _ ((HKI.out.kept ((Kept.refl _).alloc _ _)).drew _)⟩, ok1, fin_but (but_drew (HK.out.trans (((Kept.refl _).alloc _ _).but b)) _) (by omega), ((HW.out.keep ((Kept.refl _).alloc _ _)).drew _).fin (by omega)⟩
theorem heap_drew {W : World} {d : Nat} {x : Option Obj} (h : W.heap[d]? = x) : (W.drew).heap[d]? = x := h
def zeroV : Value := .agg #[.int .i64 0, .int .i64 0, .int .i64 0, .int .i64 0, .int .i64 0, .slice none 0 0]
theorem ParseA_long (T : ByteArray) (w : World) (hT : 4096 < T.size) (hT2 : T.size ≤ 200000000000000) :
    Calls Tryz.prog 121 #[.string T] w fun r w' => r = .returned (.tuple #[zeroV, .agg #[.int .i64 2, .int .i64 0, .string ⟨#[]⟩]]) ∧ Kept w w' := by
  have gT : (4096 : Int) < T.size := by omega
  have gT2 : (T.size : Int) ≤ 200000000000000 := by omega
  unfold zeroV
  clear hT hT2
  go_enter Tryz.func121, Tryz.ntmps121
  go_wp2
  (try simp only [Exit.inBlock, Exit.then])
  refine bodyPost_ret (parse_results rfl _ _ w.heap.size (w.heap.size + 1) _ _ _ _ _ _ _ _ _ rfl ((heap_alloc_old _ _ (by simp)).trans (heap_alloc_new w _)) rfl (heap_alloc2_new w _ _)) rfl ?_
  exact ⟨rfl, ((Kept.refl w).alloc _ _).alloc _ _⟩
end Ex
end Go.Proofs.YtbnchnlogikecaaGreatDoor
namespace Go.Proofs.YtbnchnlogikecaaGreatDoor
open Go.RowKit
attribute [local go_sem] Oper.semAt_some
namespace Ex
def parseM (T : ByteArray) : Pat × Int × Int :=
  if 4096 < T.size then (zeroP, 2, 0)
  else if (wholeA T (0, 0, 0)).2.2.1 ≠ 0 then (zeroP, (wholeA T (0, 0, 0)).2.2.1, (wholeA T (0, 0, 0)).2.2.2)
  else if checkP (wholeA T (0, 0, 0)).1.2 ≠ 0 then (zeroP, checkP (wholeA T (0, 0, 0)).1.2, (wholeA T (0, 0, 0)).2.2.2)
  else ((wholeA T (0, 0, 0)).1, 0, 0)
end Ex
end Go.Proofs.YtbnchnlogikecaaGreatDoor
