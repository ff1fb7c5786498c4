import Derived.Test.YtbnchnlogikecaaGreatDoorPExO2
namespace Go.Proofs.YtbnchnlogikecaaGreatDoor
open Go.RowKit
attribute [local go_sem] Oper.semAt_some
set_option linter.unusedSimpArgs false
set_option maxRecDepth 100000
set_option maxHeartbeats 8000000
namespace Ex
theorem classU_is (T : ByteArray) (k e f : Int) (b : Nat) (w : World) (h : RAt w b T k e f) (h0 : 0 ≤ k) (h1 : k < T.size) (hT : T.size ≤ 4096) :
    Calls Tryz.prog 142 #[.pointer (some ⟨b, 0, none⟩)] w fun r w' => PGivU (fun d => w.heap.size ≤ d) (classA T (k, e, f)).1 r w' ∧ RGave b w T (classA T (k, e, f)).2 w' := by
  have HR := hide1 h
  have hb := h.lt
  obtain ⟨c0, c1, c2, c3, c4⟩ := h.cells
  obtain ⟨z0, z1, z2, z3, z4⟩ := h.free
  have gT : (T.size : Int) ≤ 4096 := by omega
  have ok0 : OkS T (k + 1, e, f) := ⟨by show 0 ≤ k + 1; omega, by show k + 1 ≤ _; omega⟩
  have HE0 : Hid (classA T (k, e, f) = clE T k (clR (peekP T (k + 1) == 94) (clL T (k, e, f)).1) (clL T (k, e, f)).2) := rfl
  have HL0 : Hid (clL T (k, e, f) = clG T k 4098 [(memR T (takeK T (k + 1) 94, e, f) k).1] (memR T (takeK T (k + 1) 94, e, f) k).2) := rfl
  have ok9 : OkS T (takeK T (k + 1) 94, e, f) := by
    unfold takeK
    split
    · rename_i h; exact take_ok (T := T) (s := (k + 1, e, f)) (c := 94) (by decide) h
    · exact ok0
  obtain ⟨nt, hnt⟩ : ∃ nt, (peekP T (k + 1) == 94) = nt := ⟨_, rfl⟩
  obtain ⟨kk, hkk⟩ : ∃ kk, takeK T (k + 1) 94 = kk := ⟨_, rfl⟩
  rw [hnt] at HE0
  rw [hkk] at HL0 ok9
  have HNT := hide1 hnt
  have HKK := hide1 hkk
  have okm := memberA_ok (T := T) (s := (kk, e, f)) (y := k) ok9
  obtain ⟨⟨⟨x, y⟩, k1, e1, f1⟩, hm⟩ : ∃ x, memR T (kk, e, f) k = x := ⟨_, rfl⟩
  have HS : Hid (clL T (k, e, f) = clG T k 4098 [(x, y)] (k1, e1, f1)) := by have h := HL0.out; rw [hm] at h; exact h
  have HM1 : Hid ((memberA T (kk, e, f) k).2 = (k1, e1, f1)) := congrArg Prod.snd hm
  have HM2 : Hid (rangeV (oneA T (kk, e, f)).1 (memberF T (kk, e, f)).1 = .agg #[.int .i64 1, .int .i64 x, .int .i64 y, .int .i64 0, .int .i64 0, .slice none 0 0]) := by
    have h2 : ((oneA T (kk, e, f)).1, (memberF T (kk, e, f)).1) = (x, y) := congrArg Prod.fst hm
    show rangeV _ _ = rangeV x y
    rw [(Prod.mk.inj h2).1, (Prod.mk.inj h2).2]
  have HBY : Hid (Bytes [(x, y)]) := by
    have h := memR_bytes T (kk, e, f) k (l := []) (fun p hp => by cases hp)
    rw [hm] at h
    exact h
  rw [HM1.out] at okm
  obtain ⟨ok1, _⟩ := okm
  unfold OkS at ok0 ok1 ok9
  dsimp only at ok0 ok1 ok9
  clear h hnt hkk hm HL0
  go_enter Tryz.func142, Tryz.ntmps142
  go_wp2_with (first
    | (go_at_call 133; refine (take_is T (k + 1) e f 94 b _ ((HR.out.move _).keep ((Kept.refl _).alloc _ _)) ok0.1 ok0.2 hT).mono ?_; rintro r w7 ⟨rfl, hk7, hw7⟩; rw [HNT.out]; rw [HKK.out] at hw7; have HBZ := hide1 (box_moved hk7 hb); have HK1 := hide1 ((setCell_but _ _ _ _).trans (but_allocd hk7)); have HW1 := hide1 hw7; clear hk7 hw7)
    | (go_at_call 148; refine (memberA_is T kk e f k b _ (by exact HW1.out) ok9.1 ok9.2 hT).mono ?_; rintro r w8 ⟨rfl, hg⟩; rw [HM1.out] at hg; rw [HM2.out]; obtain ⟨_, hk8, hw8⟩ := hg; have HK2 := hide1 (HK1.out.trans hk8); have HW2 := hide1 hw8; have HBZ := hide1 (HBZ.out.but hk8 (by omega)); clear hk8 hw8))
  go_loopw [5] (fun v wr => ClassR b w T k [(x, y)] k1 (k1, e1, f1) v wr) (fun _ wr => 2 * (T.size - placeOf b wr) + (if errOf b wr = 0 then 1 else 0))
  case atStart =>
    refine ⟨0, [(x, y)], k1, e1, f1, ok1.1, ok1.2, rfl, ?_, HK2.out.trans (((Kept.refl _).alloc _ _).but b), HW2.out.keep ((Kept.refl _).alloc _ _), HBZ.out.keep ((Kept.refl _).alloc _ _), ?_, HBY.out, fun N => by rw [Nat.zero_add]⟩
    · unfold classB; split <;> omega
    · exact PatsOwn.one (p := rangeP x y) (u := .slice none 0 0) (BoxAt.new _ _ _ _ _ _ _) (by have := HBZ.out.lt; omega) (kids_nil _ _ _ _ _ _ rfl)
  case round =>
    clear c0 c1 c2 c3 c4 z0 z1 z2 z3 z4 HBY
    obtain ⟨j, l, k2, e2, f2, hk0, hk2, hl, hB, hKW, hW, hBZ, hOW, hBY, hM⟩ := hrel
    obtain ⟨av, cv, e9⟩ := hOW.form
    obtain ⟨n, hn⟩ : ∃ n, (rangesP l).length = n := ⟨_, rfl⟩
    rw [hn] at e9
    subst e9
    obtain ⟨c0, c1, c2, c3, c4⟩ := hW.cells
    have HKW := hide1 hKW
    have HRr := hide1 hW
    have HW := hide1 hW
    have HBZ := hide1 hBZ
    have HOW := hide1 hOW
    have HBY := hide1 hBY
    have HM := hide1 hM
    have HK := hide1 (but_refl b wr)
    have HNL := hide1 hn
    have hsw := hBZ.lt
    have hj : j ≤ 4097 := by unfold classB at hB; split at hB <;> omega
    have hnj : n = j + 1 := by rw [← hn, rangesP_len, hl]
    have HNJ := hide1 hnj
    have HLJ := hide1 hl
    have hn3 : n ≤ 4098 := by omega
    have HB := hide1 hB
    clear hKW hW hBZ hOW hM hl hB hn hnj hBY
    by_cases he : e2 = 0
    · by_cases hd : peekP T k2 = 93
      · have HTK : Hid (takeK T k2 93 = k2 + 1) := by show _ = _; rw [takeK, if_pos hd]
        have HTB : Hid ((peekP T k2 == 93) = true) := by show _ = _; rw [hd]; rfl
        have hlt := (peek_lt (T := T) (k := k2) (by rw [hd]; decide)).2
        have HE : Hid (classA T (k, e, f) = clE T k (clR nt l) (k2 + 1, e2, f2)) := by
          show _ = _
          have h4 : clL T (k, e, f) = (l, k2 + 1, e2, f2) := by
            rw [HS.out, show 4098 = j + (4097 - j + 1) by omega, HM.out]
            simp [clG, he, hd]
          rw [HE0.out, h4]
        clear hd
        cases nt
        · by_cases hn1 : n = 1
          · obtain ⟨q, hq⟩ : ∃ q, l = [q] := List.length_eq_one_iff.1 (by have := HNJ.out; have := HLJ.out; omega)
            rw [show clR false l = l from rfl, clE_one T k _ hq] at HE
            subst hq
            have HOW := hide1 (show PatsOwn _ _ _ _ [rangeP q.1 q.2] from HOW.out)
            obtain ⟨g, hgv, hcv⟩ := HOW.out.nonnil
            subst hgv
            subst hn1
            have hcv2 : (1 : Int) ≤ (cv : Int) := by omega
            clear hcv HNJ HNL HLJ hn3
            go_wp2_with (first
              | (go_at_call 133; refine (take_is T k2 _ f2 93 b _ (by exact HW.out) hk0 hk2 hT).mono ?_; rintro r w7 ⟨rfl, hk7, hw7⟩; rw [HTB.out]; rw [HTK.out] at hw7; have HK := hide1 (HK.out.trans hk7); have HW := hide1 hw7; have HBZ := hide1 (HBZ.out.but hk7 (by omega)); have HOW := hide1 (HOW.out.but hk7 (by omega) (by omega)); obtain ⟨u, ⟨m0, m1, m2, m3, m4, m5⟩, hu⟩ := HOW.out.one_facts; have HU := hide1 hu; obtain ⟨ua, uc, rfl⟩ := hu.form; clear hu; obtain ⟨⟨p0, p1, p2, p3, p4, p5⟩, x0, x1, x2, x3, x4, x5⟩ := HBZ.out.facts; clear hk7 hw7))
            (try simp only [Exit.inBlock, Exit.then])
            refine bodyPost_ret (box_returns rfl _ _ w.heap.size _ _ _ _ _ _ rfl (BoxAt.set HBZ.out)) rfl ?_
            rw [HE.out]
            exact ⟨endU_one (kd := 3) HU.out, ⟨by show 0 ≤ k2 + 1; omega, by show k2 + 1 ≤ _; omega⟩, fin_but (HKW.out.trans HK.out) (by omega), HW.out.fin (by omega)⟩
          · have HN1 : Hid ((rangesP l).length ≠ 1) := by show _ ≠ _; rw [HNL.out]; exact hn1
            have hl1a : ¬ (n : Int) = 1 := by omega
            have hl1b : ¬ (n : Int) = 0 := by have := HNJ.out; omega
            rw [show clR false l = l from rfl, clE_more T k _ (by have := HLJ.out; omega)] at HE
            clear hn1
            go_wp2_with (first
              | (go_at_call 133; refine (take_is T k2 _ f2 93 b _ (by exact HW.out) hk0 hk2 hT).mono ?_; rintro r w7 ⟨rfl, hk7, hw7⟩; rw [HTB.out]; rw [HTK.out] at hw7; have HK := hide1 (HK.out.trans hk7); have HW := hide1 hw7; have HBZ := hide1 (HBZ.out.but hk7 (by omega)); have HOW := hide1 (HOW.out.but hk7 (by omega) (by omega)); obtain ⟨⟨p0, p1, p2, p3, p4, p5⟩, x0, x1, x2, x3, x4, x5⟩ := HBZ.out.facts; clear hk7 hw7))
            (try simp only [Exit.inBlock, Exit.then])
            refine bodyPost_ret (box_returns rfl _ _ w.heap.size _ _ _ _ _ _ rfl (BoxAt.set HBZ.out)) rfl ?_
            rw [HE.out]
            exact ⟨endU_list (kd := 3) (PatsOwn.ranges HOW.out) HN1.out (by rw [HNL.out]; omega), ⟨by show 0 ≤ k2 + 1; omega, by show k2 + 1 ≤ _; omega⟩, fin_but (HKW.out.trans HK.out) (by omega), HW.out.fin (by omega)⟩
        · obtain ⟨n9, hn9⟩ : ∃ n9, (rangesP (othersL l)).length = n9 := ⟨_, rfl⟩
          have HN9 := hide1 hn9
          have hn256 : n9 ≤ 256 := by rw [← hn9, rangesP_len]; exact restTo_len _ 256
          have HOL : Hid ((othersL l).length = n9) := by show _ = _; rw [← hn9, rangesP_len]
          clear hn9
          rw [show clR true l = othersL l from rfl] at HE
          by_cases hz : n9 = 0
          · rw [clE_none T k _ (by rw [HOL.out]; exact hz)] at HE
            subst hz
            go_wp2_with (first
              | (go_at_call 133; refine (take_is T k2 _ f2 93 b _ (by exact HW.out) hk0 hk2 hT).mono ?_; rintro r w7 ⟨rfl, hk7, hw7⟩; rw [HTB.out]; rw [HTK.out] at hw7; have HK := hide1 (HK.out.trans hk7); have HW := hide1 hw7; have HBZ := hide1 (HBZ.out.but hk7 (by omega)); have HOW := hide1 (HOW.out.but hk7 (by omega) (by omega)); clear hk7 hw7)
              | (go_at_call 149; refine (others_is (fun d => w.heap.size < d) l _ (w.heap.size + 1) _ (by exact HOW.out) (by have := HLJ.out; omega) HBY.out).mono ?_; rintro r w9 ⟨⟨v9, rfl, ho9⟩, hk9⟩; obtain ⟨a9, c9, e9⟩ := ho9.form; rw [HN9.out] at e9; subst e9; have HOW := hide1 (ho9.wide (base' := w.heap.size + 1) (S' := fun d => w.heap.size < d) (by have := HBZ.out.lt; omega) (fun d hd => by have := HBZ.out.lt; omega)); have HK := hide1 (HK.out.trans (hk9.but b)); have HW := hide1 (HW.out.keep hk9); have HBZ := hide1 (HBZ.out.keep hk9); clear ho9 hk9)
              | (go_at_call 134; refine (fail_is T _ _ f2 _ _ b _ (by exact HW.out)).mono ?_; rintro r w5 ⟨rfl, hk5, hw5⟩; have HBZ := hide1 (HBZ.out.but hk5 (by omega)); have HK := hide1 (HK.out.trans hk5); have HW := hide1 hw5; obtain ⟨⟨p0, p1, p2, p3, p4, p5⟩, x0, x1, x2, x3, x4, x5⟩ := HBZ.out.facts; clear hk5 hw5))
            (try simp only [Exit.inBlock, Exit.then])
            refine bodyPost_ret (box_returns rfl _ _ w.heap.size _ _ _ _ _ _ rfl (BoxAt.set HBZ.out)) rfl ?_
            rw [HE.out]
            exact ⟨⟨_, rfl, .slice none 0 0, rfl, kidsO_nil _ _ _ _ _ _ rfl⟩, fail_ok _ _ _ _, fin_but (HKW.out.trans HK.out) (by omega), HW.out.fin (by omega)⟩
          · by_cases hn1 : n9 = 1
            · obtain ⟨q, hq⟩ : ∃ q, othersL l = [q] := List.length_eq_one_iff.1 (by rw [HOL.out]; exact hn1)
              rw [clE_one T k _ hq] at HE
              have HQ := hide1 hq
              clear hq hz
              subst hn1
              go_wp2_with (first
                | (go_at_call 133; refine (take_is T k2 _ f2 93 b _ (by exact HW.out) hk0 hk2 hT).mono ?_; rintro r w7 ⟨rfl, hk7, hw7⟩; rw [HTB.out]; rw [HTK.out] at hw7; have HK := hide1 (HK.out.trans hk7); have HW := hide1 hw7; have HBZ := hide1 (HBZ.out.but hk7 (by omega)); have HOW := hide1 (HOW.out.but hk7 (by omega) (by omega)); clear hk7 hw7)
                | (go_at_call 149; refine (others_is (fun d => w.heap.size < d) l _ (w.heap.size + 1) _ (by exact HOW.out) (by have := HLJ.out; omega) HBY.out).mono ?_; rintro r w9 ⟨⟨v9, rfl, ho9⟩, hk9⟩; obtain ⟨a9, c9, e9⟩ := ho9.form; rw [HN9.out] at e9; subst e9; have HOW := hide1 (ho9.wide (base' := w.heap.size + 1) (S' := fun d => w.heap.size < d) (by have := HBZ.out.lt; omega) (fun d hd => by have := HBZ.out.lt; omega)); have HK := hide1 (HK.out.trans (hk9.but b)); have HW := hide1 (HW.out.keep hk9); have HBZ := hide1 (HBZ.out.keep hk9); have HOW := hide1 (show PatsOwn _ _ _ _ [rangeP q.1 q.2] from (by have h := HOW.out; rw [HQ.out] at h; exact h)); obtain ⟨g, hgv, hcv⟩ := HOW.out.nonnil; subst hgv; have hcv2 : (1 : Int) ≤ (c9 : Int) := (by omega); obtain ⟨u, ⟨m0, m1, m2, m3, m4, m5⟩, hu⟩ := HOW.out.one_facts; have HU := hide1 hu; obtain ⟨ua, uc, rfl⟩ := hu.form; clear hu; obtain ⟨⟨p0, p1, p2, p3, p4, p5⟩, x0, x1, x2, x3, x4, x5⟩ := HBZ.out.facts; clear ho9 hk9))
              (try simp only [Exit.inBlock, Exit.then])
              refine bodyPost_ret (box_returns rfl _ _ w.heap.size _ _ _ _ _ _ rfl (BoxAt.set HBZ.out)) rfl ?_
              rw [HE.out]
              exact ⟨endU_one (kd := 3) HU.out, ⟨by show 0 ≤ k2 + 1; omega, by show k2 + 1 ≤ _; omega⟩, fin_but (HKW.out.trans HK.out) (by omega), HW.out.fin (by omega)⟩
            · have HN1 : Hid ((rangesP (othersL l)).length ≠ 1) := by show _ ≠ _; rw [HN9.out]; exact hn1
              have hl1a : ¬ (n9 : Int) = 1 := by omega
              have hl1b : ¬ (n9 : Int) = 0 := by omega
              rw [clE_more T k _ (by rw [HOL.out]; exact hz)] at HE
              clear hn1 hz
              go_wp2_with (first
                | (go_at_call 133; refine (take_is T k2 _ f2 93 b _ (by exact HW.out) hk0 hk2 hT).mono ?_; rintro r w7 ⟨rfl, hk7, hw7⟩; rw [HTB.out]; rw [HTK.out] at hw7; have HK := hide1 (HK.out.trans hk7); have HW := hide1 hw7; have HBZ := hide1 (HBZ.out.but hk7 (by omega)); have HOW := hide1 (HOW.out.but hk7 (by omega) (by omega)); clear hk7 hw7)
                | (go_at_call 149; refine (others_is (fun d => w.heap.size < d) l _ (w.heap.size + 1) _ (by exact HOW.out) (by have := HLJ.out; omega) HBY.out).mono ?_; rintro r w9 ⟨⟨v9, rfl, ho9⟩, hk9⟩; obtain ⟨a9, c9, e9⟩ := ho9.form; rw [HN9.out] at e9; subst e9; have HOW := hide1 (ho9.wide (base' := w.heap.size + 1) (S' := fun d => w.heap.size < d) (by have := HBZ.out.lt; omega) (fun d hd => by have := HBZ.out.lt; omega)); have HK := hide1 (HK.out.trans (hk9.but b)); have HW := hide1 (HW.out.keep hk9); have HBZ := hide1 (HBZ.out.keep hk9); obtain ⟨⟨p0, p1, p2, p3, p4, p5⟩, x0, x1, x2, x3, x4, x5⟩ := HBZ.out.facts; clear ho9 hk9))
              (try simp only [Exit.inBlock, Exit.then])
              refine bodyPost_ret (box_returns rfl _ _ w.heap.size _ _ _ _ _ _ rfl (BoxAt.set HBZ.out)) rfl ?_
              rw [HE.out]
              exact ⟨endU_list (kd := 3) (PatsOwn.ranges HOW.out) HN1.out (by rw [HN9.out]; omega), ⟨by show 0 ≤ k2 + 1; omega, by show k2 + 1 ≤ _; omega⟩, fin_but (HKW.out.trans HK.out) (by omega), HW.out.fin (by omega)⟩
      · have HTK : Hid (takeK T k2 93 = k2) := by show _ = _; rw [takeK, if_neg hd]
        have HTB : Hid ((peekP T k2 == 93) = false) := by show _ = _; simpa using hd
        have okm := memberA_ok (T := T) (s := (k2, e2, f2)) (y := k) ⟨hk0, hk2⟩
        have HST : Hid (∀ N, clG T k (N + 1) l (k2, e2, f2) = clG T k N (l ++ [(memR T (k2, e2, f2) k).1]) (memR T (k2, e2, f2) k).2) := fun N => by simp [clG, he, hd]
        have HBN := hide1 (memR_bytes T (k2, e2, f2) k HBY.out)
        obtain ⟨⟨⟨x, y⟩, k3, e3, f3⟩, hm⟩ : ∃ x, memR T (k2, e2, f2) k = x := ⟨_, rfl⟩
        rw [hm] at HST HBN
        have HM1 : Hid ((memberA T (k2, e2, f2) k).2 = (k3, e3, f3)) := congrArg Prod.snd hm
        have HM2 : Hid (rangeV (oneA T (k2, e2, f2)).1 (memberF T (k2, e2, f2)).1 = .agg #[.int .i64 1, .int .i64 x, .int .i64 y, .int .i64 0, .int .i64 0, .slice none 0 0]) := by
          have h2 : ((oneA T (k2, e2, f2)).1, (memberF T (k2, e2, f2)).1) = (x, y) := congrArg Prod.fst hm
          show rangeV _ _ = rangeV x y
          rw [(Prod.mk.inj h2).1, (Prod.mk.inj h2).2]
        rw [HM1.out] at okm
        obtain ⟨ok3, hge3, hgo3⟩ := okm
        unfold OkS at ok3
        dsimp only at ok3 hge3 hgo3 HST HBN
        subst he
        clear hm hd
        go_wp2_with (first
          | (go_at_call 133; refine (take_is T k2 _ f2 93 b _ (by exact HW.out) hk0 hk2 hT).mono ?_; rintro r w7 ⟨rfl, hk7, hw7⟩; rw [HTB.out]; rw [HTK.out] at hw7; have HK := hide1 (HK.out.trans hk7); have HW := hide1 hw7; have HBZ := hide1 (HBZ.out.but hk7 (by omega)); have HOW := hide1 (HOW.out.but hk7 (by omega) (by omega));  clear hk7 hw7)
          | (go_at_call 148; refine (memberA_is T k2 _ f2 k b _ (by exact HW.out) hk0 hk2 hT).mono ?_; rintro r w8 ⟨rfl, hg⟩; rw [HM1.out] at hg; rw [HM2.out]; obtain ⟨_, hk8, hw8⟩ := hg; have HK := hide1 (HK.out.trans hk8); have HW := hide1 hw8; have HBZ := hide1 (HBZ.out.but hk8 (by omega)); have HOW := hide1 (HOW.out.but hk8 (by omega) (by omega)); clear hk8 hw8)
          | (at_builtin; go_must (refine wpl_append_pat rfl _ _ rfl _ (w.heap.size + 1) (fun d => w.heap.size < d) _ (rangesP l) n HNL.out (by rfl) (HOW.out.keep ((Kept.refl _).alloc _ _)) _ (rangeP x y) (.slice none 0 0) (by rfl) (BoxAt.new _ _ _ _ _ _ _) (kids_nil _ _ _ _ _ _ rfl) (by rw [HNL.out]; omega) (by have := HBZ.out.lt; simp; omega) ?_; intro g9 c9 w9 ho9 hg9; have HK := hide1 (KeptBut.grown (HKW.out.trans (HK.out.trans (((Kept.refl _).alloc _ _).but b))) (HOW.out.keep ((Kept.refl _).alloc _ _)) (by omega) hg9); have HW := hide1 (show RAt w9 b T _ _ _ from (heap_grown (HOW.out.keep ((Kept.refl _).alloc _ _)) hg9 (by omega) (by have := HW.out.lt; simp; omega)).trans (HW.out.keep ((Kept.refl _).alloc _ _))); have HBZ := hide1 (show BoxAt w9 _ _ _ _ _ _ _ from (heap_grown (HOW.out.keep ((Kept.refl _).alloc _ _)) hg9 (by omega) (by have := HBZ.out.lt; simp; omega)).trans (HBZ.out.keep ((Kept.refl _).alloc _ _))); have HOW := hide1 ho9; clear ho9 hg9)))
        go_roundw
        case rel =>
          refine ⟨j + 1, l ++ [(x, y)], k3, e3, f3, ok3.1, ok3.2, by have := HLJ.out; simp; omega, ?_, HK.out, HW.out, HBZ.out, ?_, HBN.out, fun N => ?_⟩
          · have h := HB.out
            unfold classB at h ⊢
            simp at h
            split <;> omega
          · rw [rangesP_snoc]
            exact HOW.out
          · rw [show j + 1 + N = j + (N + 1) by omega, HM.out, HST.out]
        case measure =>
          rw [HW.out.place, HRr.out.place, HW.out.err, HRr.out.err]
          simp
          split <;> omega
    · have HE : Hid (classA T (k, e, f) = clE T k (clR nt l) (k2, e2, f2)) := by
        show _ = _
        have e1 : ∀ N, clG T k N l (k2, e2, f2) = (l, k2, e2, f2) := fun N => by cases N <;> simp [clG, he]
        have h4 : clL T (k, e, f) = (l, k2, e2, f2) := by rw [HS.out, show 4098 = j + (4098 - j) by omega, HM.out, e1]
        rw [HE0.out, h4]
      cases nt
      · by_cases hn1 : n = 1
        · obtain ⟨q, hq⟩ : ∃ q, l = [q] := List.length_eq_one_iff.1 (by have := HNJ.out; have := HLJ.out; omega)
          rw [show clR false l = l from rfl, clE_one T k _ hq] at HE
          subst hq
          have HOW := hide1 (show PatsOwn _ _ _ _ [rangeP q.1 q.2] from HOW.out)
          obtain ⟨g, hgv, hcv⟩ := HOW.out.nonnil
          subst hgv
          subst hn1
          have hcv2 : (1 : Int) ≤ (cv : Int) := by omega
          clear hcv HNJ HNL HLJ hn3
          obtain ⟨u, ⟨m0, m1, m2, m3, m4, m5⟩, hu⟩ := HOW.out.one_facts; have HU := hide1 hu; obtain ⟨ua, uc, rfl⟩ := hu.form; clear hu; 
          obtain ⟨⟨p0, p1, p2, p3, p4, p5⟩, x0, x1, x2, x3, x4, x5⟩ := HBZ.out.facts; 
          go_wp2_with fail
          (try simp only [Exit.inBlock, Exit.then])
          refine bodyPost_ret (box_returns rfl _ _ w.heap.size _ _ _ _ _ _ rfl (BoxAt.set HBZ.out)) rfl ?_
          rw [HE.out]
          exact ⟨endU_one (kd := 3) HU.out, ⟨by show 0 ≤ k2; omega, by show k2 ≤ _; omega⟩, fin_but (HKW.out.trans HK.out) (by omega), HW.out.fin (by omega)⟩
        · have HN1 : Hid ((rangesP l).length ≠ 1) := by show _ ≠ _; rw [HNL.out]; exact hn1
          have hl1a : ¬ (n : Int) = 1 := by omega
          have hl1b : ¬ (n : Int) = 0 := by have := HNJ.out; omega
          rw [show clR false l = l from rfl, clE_more T k _ (by have := HLJ.out; omega)] at HE
          clear hn1
          obtain ⟨⟨p0, p1, p2, p3, p4, p5⟩, x0, x1, x2, x3, x4, x5⟩ := HBZ.out.facts; 
          go_wp2_with fail
          (try simp only [Exit.inBlock, Exit.then])
          refine bodyPost_ret (box_returns rfl _ _ w.heap.size _ _ _ _ _ _ rfl (BoxAt.set HBZ.out)) rfl ?_
          rw [HE.out]
          exact ⟨endU_list (kd := 3) (PatsOwn.ranges HOW.out) HN1.out (by rw [HNL.out]; omega), ⟨by show 0 ≤ k2; omega, by show k2 ≤ _; omega⟩, fin_but (HKW.out.trans HK.out) (by omega), HW.out.fin (by omega)⟩
      · obtain ⟨n9, hn9⟩ : ∃ n9, (rangesP (othersL l)).length = n9 := ⟨_, rfl⟩
        have HN9 := hide1 hn9
        have hn256 : n9 ≤ 256 := by rw [← hn9, rangesP_len]; exact restTo_len _ 256
        have HOL : Hid ((othersL l).length = n9) := by show _ = _; rw [← hn9, rangesP_len]
        clear hn9
        rw [show clR true l = othersL l from rfl] at HE
        by_cases hz : n9 = 0
        · rw [clE_none T k _ (by rw [HOL.out]; exact hz)] at HE
          subst hz
          go_wp2_with (first
            | (go_at_call 149; refine (others_is (fun d => w.heap.size < d) l _ (w.heap.size + 1) _ (by exact HOW.out) (by have := HLJ.out; omega) HBY.out).mono ?_; rintro r w9 ⟨⟨v9, rfl, ho9⟩, hk9⟩; obtain ⟨a9, c9, e9⟩ := ho9.form; rw [HN9.out] at e9; subst e9; have HOW := hide1 (ho9.wide (base' := w.heap.size + 1) (S' := fun d => w.heap.size < d) (by have := HBZ.out.lt; omega) (fun d hd => by have := HBZ.out.lt; omega)); have HK := hide1 (HK.out.trans (hk9.but b)); have HW := hide1 (HW.out.keep hk9); have HBZ := hide1 (HBZ.out.keep hk9); clear ho9 hk9)
            | (go_at_call 134; refine (fail_is T _ e2 f2 _ _ b _ (by exact HW.out)).mono ?_; rintro r w5 ⟨rfl, hk5, hw5⟩; have HBZ := hide1 (HBZ.out.but hk5 (by omega)); have HK := hide1 (HK.out.trans hk5); have HW := hide1 hw5; obtain ⟨⟨p0, p1, p2, p3, p4, p5⟩, x0, x1, x2, x3, x4, x5⟩ := HBZ.out.facts; clear hk5 hw5))
          (try simp only [Exit.inBlock, Exit.then])
          refine bodyPost_ret (box_returns rfl _ _ w.heap.size _ _ _ _ _ _ rfl (BoxAt.set HBZ.out)) rfl ?_
          rw [HE.out]
          exact ⟨⟨_, rfl, .slice none 0 0, rfl, kidsO_nil _ _ _ _ _ _ rfl⟩, fail_ok _ _ _ _, fin_but (HKW.out.trans HK.out) (by omega), HW.out.fin (by omega)⟩
        · by_cases hn1 : n9 = 1
          · obtain ⟨q, hq⟩ : ∃ q, othersL l = [q] := List.length_eq_one_iff.1 (by rw [HOL.out]; exact hn1)
            rw [clE_one T k _ hq] at HE
            have HQ := hide1 hq
            clear hq hz
            subst hn1
            go_wp2_with (first
              | (go_at_call 149; refine (others_is (fun d => w.heap.size < d) l _ (w.heap.size + 1) _ (by exact HOW.out) (by have := HLJ.out; omega) HBY.out).mono ?_; rintro r w9 ⟨⟨v9, rfl, ho9⟩, hk9⟩; obtain ⟨a9, c9, e9⟩ := ho9.form; rw [HN9.out] at e9; subst e9; have HOW := hide1 (ho9.wide (base' := w.heap.size + 1) (S' := fun d => w.heap.size < d) (by have := HBZ.out.lt; omega) (fun d hd => by have := HBZ.out.lt; omega)); have HK := hide1 (HK.out.trans (hk9.but b)); have HW := hide1 (HW.out.keep hk9); have HBZ := hide1 (HBZ.out.keep hk9); have HOW := hide1 (show PatsOwn _ _ _ _ [rangeP q.1 q.2] from (by have h := HOW.out; rw [HQ.out] at h; exact h)); obtain ⟨g, hgv, hcv⟩ := HOW.out.nonnil; subst hgv; have hcv2 : (1 : Int) ≤ (c9 : Int) := (by omega); obtain ⟨u, ⟨m0, m1, m2, m3, m4, m5⟩, hu⟩ := HOW.out.one_facts; have HU := hide1 hu; obtain ⟨ua, uc, rfl⟩ := hu.form; clear hu; obtain ⟨⟨p0, p1, p2, p3, p4, p5⟩, x0, x1, x2, x3, x4, x5⟩ := HBZ.out.facts; clear ho9 hk9))
            (try simp only [Exit.inBlock, Exit.then])
            refine bodyPost_ret (box_returns rfl _ _ w.heap.size _ _ _ _ _ _ rfl (BoxAt.set HBZ.out)) rfl ?_
            rw [HE.out]
            exact ⟨endU_one (kd := 3) HU.out, ⟨by show 0 ≤ k2; omega, by show k2 ≤ _; omega⟩, fin_but (HKW.out.trans HK.out) (by omega), HW.out.fin (by omega)⟩
          · have HN1 : Hid ((rangesP (othersL l)).length ≠ 1) := by show _ ≠ _; rw [HN9.out]; exact hn1
            have hl1a : ¬ (n9 : Int) = 1 := by omega
            have hl1b : ¬ (n9 : Int) = 0 := by omega
            rw [clE_more T k _ (by rw [HOL.out]; exact hz)] at HE
            clear hn1 hz
            go_wp2_with (first
              | (go_at_call 149; refine (others_is (fun d => w.heap.size < d) l _ (w.heap.size + 1) _ (by exact HOW.out) (by have := HLJ.out; omega) HBY.out).mono ?_; rintro r w9 ⟨⟨v9, rfl, ho9⟩, hk9⟩; obtain ⟨a9, c9, e9⟩ := ho9.form; rw [HN9.out] at e9; subst e9; have HOW := hide1 (ho9.wide (base' := w.heap.size + 1) (S' := fun d => w.heap.size < d) (by have := HBZ.out.lt; omega) (fun d hd => by have := HBZ.out.lt; omega)); have HK := hide1 (HK.out.trans (hk9.but b)); have HW := hide1 (HW.out.keep hk9); have HBZ := hide1 (HBZ.out.keep hk9); obtain ⟨⟨p0, p1, p2, p3, p4, p5⟩, x0, x1, x2, x3, x4, x5⟩ := HBZ.out.facts; clear ho9 hk9))
            (try simp only [Exit.inBlock, Exit.then])
            refine bodyPost_ret (box_returns rfl _ _ w.heap.size _ _ _ _ _ _ rfl (BoxAt.set HBZ.out)) rfl ?_
            rw [HE.out]
            exact ⟨endU_list (kd := 3) (PatsOwn.ranges HOW.out) HN1.out (by rw [HN9.out]; omega), ⟨by show 0 ≤ k2; omega, by show k2 ≤ _; omega⟩, fin_but (HKW.out.trans HK.out) (by omega), HW.out.fin (by omega)⟩
end Ex
end Go.Proofs.YtbnchnlogikecaaGreatDoor
