import Derived.Test.YtnchmhginmaliaaGreatDoorMExDrD
import Derived.Test.YtnchmhginmaliaaGreatDoorMExCl6
import Derived.Test.YtnchmhginmaliaaGreatDoorMExGd0
namespace Go.Proofs.YtnchmhginmaliaaGreatDoor
open Go.RowKit
attribute [local go_sem] Oper.semAt_some
namespace Ex

def lenV : Value → Nat
  | .slice _ n _ => n
  | _ => 0
/-- Where the rows of a pattern stand. -/
def PtInv (R : Int × Int × Int → Pat × Int × Int × Int) (T : ByteArray) (k f : Int) (l : List Pat) (k2 : Int) : Prop :=
  ∃ j : Nat, l.length = j + 1 ∧ (j : Int) ≤ k2 ∧ ∀ N, patG R T (j + N) [(R (k, 0, f)).1] (R (k, 0, f)).2 = patG R T N l (k2, 0, f)
theorem patO_eq (R : Int × Int × Int → Pat × Int × Int × Int) (T : ByteArray) (k f : Int) : patO R T (k, 0, f) = (oneOf 3 (patG R T 4097 [(R (k, 0, f)).1] (R (k, 0, f)).2).1, (patG R T 4097 [(R (k, 0, f)).1] (R (k, 0, f)).2).2) := rfl
theorem PtInv.good {R : Int × Int × Int → Pat × Int × Int × Int} {T : ByteArray} {k f : Int} {l : List Pat} {k2 k4 : Int} {q : Pat} (h : PtInv R T k f l k2) (hc : peekP T k2 = 124) (hm : R (k2 + 1, 0, f) = (q, k4, 0, f)) (h4 : k2 < k4) : PtInv R T k f (l ++ [q]) k4 := by
  obtain ⟨j, h1, h2, h3⟩ := h
  exact ⟨j + 1, by simp [h1], by omega, fun N => by rw [show j + 1 + N = j + (N + 1) by omega, h3, patG, if_pos hc, hm]⟩
theorem PtInv.bad {R : Int × Int × Int → Pat × Int × Int × Int} {T : ByteArray} {k f : Int} {l : List Pat} {k2 e4 f4 : Int} (h : PtInv R T k f l k2) (hT : T.size ≤ 4096) (h2 : k2 ≤ T.size) (hc : peekP T k2 = 124) (hm : (R (k2 + 1, 0, f)).2 = ((T.size : Int), e4, f4)) : (patO R T (k, 0, f)).2 = ((T.size : Int), e4, f4) := by
  obtain ⟨j, h1, hj, h3⟩ := h
  rw [patO_eq, show 4097 = j + (4096 - j + 1) by omega, h3, patG, if_pos hc, hm, patG_bad]
theorem PtInv.stop {R : Int × Int × Int → Pat × Int × Int × Int} {T : ByteArray} {k f : Int} {l : List Pat} {k2 : Int} (h : PtInv R T k f l k2) (hT : T.size ≤ 4096) (h2 : k2 ≤ T.size) (hc : peekP T k2 ≠ 124) : patO R T (k, 0, f) = (oneOf 3 l, k2, 0, f) := by
  obtain ⟨j, h1, hj, h3⟩ := h
  have e1 : ∀ M, patG R T M l (k2, 0, f) = (l, k2, 0, f) := fun M => by
    cases M with
    | zero => rfl
    | succ M => rw [patG, if_neg hc]
  rw [patO_eq, show 4097 = j + (4097 - j) by omega, h3, e1]
/-- The loop of the rows. -/
def DPtR (b : Nat) (w : World) (T : ByteArray) (R : Int × Int × Int → Pat × Int × Int × Int) (k f : Int) (v : Value) (wr : World) : Prop :=
  ∃ (l : List Pat) (k2 e2 f2 : Int), 0 ≤ k2 ∧ k2 ≤ (T.size : Int) ∧ l.length ≤ 4098 ∧ KeptBut b w wr ∧ DAt wr b T k2 e2 f2 ∧
    BoxAt wr w.heap.size (.int .i64 0) (.int .i64 0) (.int .i64 0) (.int .i64 0) (.int .i64 0) (.slice none 0 0) ∧ PatsOwn wr (w.heap.size + 1) (fun d => w.heap.size < d) v l ∧
    ((e2 = 0 ∧ f2 = f ∧ k ≤ k2 ∧ PtInv R T k f l k2) ∨ (∃ e' f', e' ≠ 0 ∧ (patO R T (k, 0, f)).2 = ((T.size : Int), e', f') ∧ BadRel T e' f' k2 e2 f2))
/-- What the document's row does. -/
def DRowC (T : ByteArray) (N : Nat) (R : Int × Int × Int → Pat × Int × Int × Int) : Prop :=
  ∀ (k f : Int) (b : Nat) (w : World), DAt w b T k 0 f → 0 ≤ k → k ≤ T.size → (T.size : Int) < k + (N : Int) →
    Calls Tryz.prog 20 #[.pointer (some ⟨b, 0, none⟩)] w fun r w' => RowGave b w T (R (k, 0, f)) r w'

set_option linter.unusedSimpArgs false in
set_option maxRecDepth 100000 in
set_option maxHeartbeats 4000000 in
theorem dpatO_is (T : ByteArray) (N : Nat) (R : Int × Int × Int → Pat × Int × Int × Int) (hRC : DRowC T N R) (hRO : ∀ s, OkS T s → (T.size : Int) < s.1 + (N : Int) → OkS T (R s).2 ∧ s.1 ≤ (R s).2.1) (hRS : StopP T R) (hT : T.size ≤ 4096) : DPatC T N (patO R T) := by
  intro k f b w h h0 h1 hN
  have HR := hide1 h
  have HROW := hide1 hRC
  have HRO := hide1 hRO
  have HRS := hide1 hRS
  have hb := h.lt
  have gT : (T.size : Int) ≤ 4096 := by omega
  have oka := hRO (k, 0, f) ⟨h0, h1⟩ hN
  have oks := hRS (k, 0, f) rfl
  have hpe := patO_eq R T k f
  have hpi : ∀ M, patG R T (0 + M) [(R (k, 0, f)).1] (R (k, 0, f)).2 = patG R T M [(R (k, 0, f)).1] (R (k, 0, f)).2 := fun M => by rw [Nat.zero_add]
  obtain ⟨⟨q1, k1, e1, f1⟩, hq⟩ : ∃ x, R (k, 0, f) = x := ⟨_, rfl⟩
  have HG0 : Hid (e1 = 0 → f1 = f ∧ PtInv R T k f [q1] k1) := fun he => by
    rw [hq] at oks
    have hf : f1 = f := oks.2 he
    refine ⟨hf, 0, rfl, ?_, ?_⟩
    · rw [hq] at oka
      have := oka.1.1
      show ((0 : Nat) : Int) ≤ k1
      exact this
    · rw [hq]
      subst he
      subst hf
      exact fun N => by rw [Nat.zero_add]
  have HB0 : Hid (e1 ≠ 0 → (patO R T (k, 0, f)).2 = ((T.size : Int), e1, f1)) := fun he => by
    rw [hq] at oks
    have hk : k1 = T.size := oks.1 he
    rw [hpe, hq, hk, patG_bad]
  rw [hq] at oka
  have HQ := hide1 hq
  obtain ⟨ok1, hlt1⟩ := oka
  unfold OkS at ok1
  dsimp only at ok1 hlt1
  clear h hRC hRO hRS hq hpe hpi oks
  go_enter Tryz.func10, Tryz.ntmps10
  go_wp2_with (first
    | (go_at_call 20; refine (HROW.out k f b _ (HR.out.keep ((Kept.refl _).alloc _ _)) h0 h1 (by omega)).mono ?_; rintro r w7 ⟨⟨p7, ⟨v7, rfl, u7, rfl, hkk⟩, hp7⟩, kq, eq, fq, j0, j1, hrel, hk7, hw7⟩; rw [HQ.out] at hp7 hrel; dsimp only at hp7 hrel; rw [valOf_eq]; obtain ⟨a7, c7, e7⟩ := hkk.form; subst e7; have HREL := hide1 hrel; have HP7 := hide1 hp7; have HK := hide1 (but_allocd hk7); have HW := hide1 hw7; have HBZ := hide1 (BoxAt.but (BoxAt.new w _ _ _ _ _ _) hk7 (by omega)); have HKI := hide1 (KidsAt.mono (S' := fun d => w.heap.size < d) (fun _ _ _ _ h => h) (fun d h => by have h2 := h; simp at h2; omega) _ _ _ hkk); clear hkk hk7 hw7 hp7 hrel))
  go_loopw [3] (fun v wr => DPtR b w T R k f v wr) (fun v _ => 5000 - lenV v)
  case atStart =>
    refine ⟨[p7], kq, eq, fq, j0, j1, by simp, HK.out.trans (((Kept.refl _).alloc _ _).but b), HW.out.keep ((Kept.refl _).alloc _ _), HBZ.out.keep ((Kept.refl _).alloc _ _), PatsOwn.one (BoxAt.new _ _ _ _ _ _ _) (by have := HBZ.out.lt; omega) (KidsAt.mono (((Kept.refl _).alloc _ _).holds _) (fun d hd => ⟨hd.1, by omega⟩) _ _ _ HKI.out.tight), ?_⟩
    by_cases he : e1 = 0
    · obtain ⟨g1, g2, g3⟩ := HREL.out.1 he
      have hp := HP7.out he
      have hg := HG0.out he
      dsimp only at g1 g2 g3
      subst g1
      subst g2
      subst hp
      exact .inl ⟨rfl, g3.trans hg.1, hlt1, hg.2⟩
    · exact .inr ⟨e1, f1, he, HB0.out he, HREL.out.2 he⟩
  case round =>
    obtain ⟨l, k2, e2, f2, hk0, hk2, hl3, hKW, hW, hBZ, hOW, hcs⟩ := hrel
    obtain ⟨av, cv, rfl⟩ := hOW.form
    have HKW := hide1 hKW
    have HW := hide1 hW
    have HBZ := hide1 hBZ
    have HOW := hide1 hOW
    have HK := hide1 (but_refl b wr)
    have HOL := hide1 (fun d e => (hOW.lt d e).2)
    have hsw := hBZ.lt
    clear hKW hW hBZ hOW HG0 HB0 HQ
    rcases hcs with ⟨rfl, hff, hkk2, hPI⟩ | ⟨e', f', he', hpo, hbr⟩
    · have hff := hff.symm
      subst hff
      by_cases hd : peekP T k2 = 124
      · have HPI := hide1 hPI
        have HD := hide1 hd
        have hl4 : l.length ≤ 4097 := by obtain ⟨j, hj1, hj2, _⟩ := hPI; omega
        have hlt := (peek_lt (T := T) (k := k2) (by rw [hd]; decide)).2
        have HNX := hide1 (next_at (T := T) (k := k2) (by decide) hd)
        have oka := HRO.out (k2 + 1, 0, f) ⟨by show 0 ≤ k2 + 1; omega, by show k2 + 1 ≤ _; omega⟩ (by show (T.size : Int) < k2 + 1 + N; omega)
        have oks := HRS.out (k2 + 1, 0, f) rfl
        obtain ⟨⟨q2, k4, e4, f4⟩, hq2⟩ : ∃ x, R (k2 + 1, 0, f) = x := ⟨_, rfl⟩
        have HG : Hid (e4 = 0 → f4 = f ∧ PtInv R T k f (l ++ [q2]) k4) := fun he => by
          rw [hq2] at oks oka
          have hf : f4 = f := oks.2 he
          have := oka.2
          dsimp only at this
          refine ⟨hf, hPI.good hd ?_ (by omega)⟩
          rw [hq2, he, hf]
        have HB : Hid (e4 ≠ 0 → (patO R T (k, 0, f)).2 = ((T.size : Int), e4, f4)) := fun he => by
          rw [hq2] at oks
          have hk : k4 = T.size := oks.1 he
          exact hPI.bad hT hk2 hd (by rw [hq2, hk])
        rw [hq2] at oka
        have HQ2 := hide1 hq2
        obtain ⟨ok4, hlt4⟩ := oka
        unfold OkS at ok4
        dsimp only at ok4 hlt4
        clear hq2 hd hPI oks hl3
        go_wp2_with (first
          | (go_at_call 21; refine (took_yes T k2 0 f 124 b _ (by exact HW.out) (by omega) hT HNX.out).mono ?_; rintro r w7 ⟨rfl, hk7, hw7⟩; have HK := hide1 (HK.out.trans hk7); have HW := hide1 hw7; have HBZ := hide1 (HBZ.out.but hk7 (by omega)); have HOW := hide1 (HOW.out.but hk7 (by omega) (by omega)); have HSZ : Hid (wr.heap.size ≤ w7.heap.size) := hk7.2.2.2.1; clear hk7 hw7)
          | (go_at_call 20; refine (HROW.out (k2 + 1) f b _ (by exact HW.out) (by omega) (by omega) (by omega)).mono ?_; rintro r w8 ⟨⟨p8, ⟨v8, rfl, u8, rfl, hkk⟩, hp8⟩, kq, eq, fq, j0, j1, hrel, hk8, hw8⟩; rw [HQ2.out] at hp8 hrel; dsimp only at hp8 hrel; rw [valOf_eq]; obtain ⟨a8, c8, e8⟩ := hkk.form; subst e8; have HREL := hide1 hrel; have HP8 := hide1 hp8; have HK := hide1 (HK.out.trans hk8); have HW := hide1 hw8; have HBZ := hide1 (HBZ.out.but hk8 (by omega)); have HOW := hide1 (HOW.out.but hk8 (by omega) (by omega)); have HKI2 := hide1 (KidsAt.mono (S' := fun d => wr.heap.size ≤ d) (fun _ _ _ _ h => h) (fun d h => by have := HSZ.out; omega) _ _ _ hkk); clear hkk hk8 hw8 hp8 hrel)
          | (at_builtin; go_must (refine wpl_append_pat rfl _ _ rfl _ (w.heap.size + 1) (fun d => w.heap.size < d) _ l l.length rfl (by rfl) (HOW.out.keep ((Kept.refl _).alloc _ _)) _ p8 _ (by rfl) (BoxAt.new _ _ _ _ _ _ _) (KidsAt.mono (((Kept.refl _).alloc _ _).holds _) (fun d hd => ⟨by omega, fun e => by have := HOL.out d e; omega⟩) _ _ _ HKI2.out) (by omega) (by have := HBZ.out.lt; simp; omega) ?_; intro g9 c9 w9 ho9 hg9; have HK := hide1 (KeptBut.grown (HKW.out.trans (HK.out.trans (((Kept.refl _).alloc _ _).but b))) (HOW.out.keep ((Kept.refl _).alloc _ _)) (by omega) hg9); have HW := hide1 (show DAt w9 b T _ _ _ from (heap_grown (HOW.out.keep ((Kept.refl _).alloc _ _)) hg9 (by omega) (by have := HW.out.lt; simp; omega)).trans (HW.out.keep ((Kept.refl _).alloc _ _))); have HBZ := hide1 (show BoxAt w9 _ _ _ _ _ _ _ from (heap_grown (HOW.out.keep ((Kept.refl _).alloc _ _)) hg9 (by omega) (by have := HBZ.out.lt; simp; omega)).trans (HBZ.out.keep ((Kept.refl _).alloc _ _))); have HOW := hide1 ho9; clear ho9 hg9)))
        go_roundw
        case rel =>
          refine ⟨l ++ [p8], kq, eq, fq, j0, j1, by simp; omega, HK.out, HW.out, HBZ.out, by simpa using HOW.out, ?_⟩
          by_cases he : e4 = 0
          · obtain ⟨g1, g2, g3⟩ := HREL.out.1 he
            have hp := HP8.out he
            have hg := HG.out he
            dsimp only at g1 g2 g3
            subst g1
            subst g2
            subst hp
            exact .inl ⟨rfl, g3.trans hg.1, by omega, hg.2⟩
          · exact .inr ⟨e4, f4, he, HB.out he, HREL.out.2 he⟩
        case measure => simp [lenV]; omega
      · have HNX := hide1 (next_not (T := T) (k := k2) (e := 0) hd)
        have HE := hide1 (hPI.stop hT hk2 hd)
        clear hd hPI
        go_wp2_with (first
          | (go_at_call 21; refine (took_no T k2 0 f 124 b _ (by exact HW.out) (by omega) hT HNX.out).mono ?_; rintro r w7 ⟨rfl, hk7, hw7⟩; have HK := hide1 (HK.out.trans hk7); have HW := hide1 hw7; have HBZ := hide1 (HBZ.out.but hk7 (by omega)); have HOW := hide1 (HOW.out.but hk7 (by omega) (by omega)); have HSZ : Hid (wr.heap.size ≤ w7.heap.size) := hk7.2.2.2.1; clear hk7 hw7)
          | (go_at_call 22; refine (either_is (fun d => w.heap.size < d) l _ (w.heap.size + 1) _ (by exact HOW.out) (fun d h => by omega) (by omega)).mono ?_; rintro r w8 ⟨⟨v8, rfl, u8, rfl, hkk⟩, hk8⟩; rw [valOf_eq]; obtain ⟨a8, c8, e8⟩ := hkk.form; subst e8; have HK := hide1 (HK.out.trans (hk8.but b)); have HW := hide1 (HW.out.keep hk8); have HBZ := hide1 (HBZ.out.keep hk8); have HKI := hide1 hkk; obtain ⟨⟨p0, p1, p2, p3, p4, p5⟩, x0, x1, x2, x3, x4, x5⟩ := HBZ.out.facts; have hb8 := HW.out.lt; clear hkk hk8)
          | go_quiet (fail))
        (try simp only [Exit.inBlock, Exit.then])
        refine bodyPost_ret (box_returns rfl _ _ w.heap.size _ _ _ _ _ _ rfl (BoxAt.set (by exact HBZ.out))) rfl ?_
        exact ⟨⟨_, ⟨_, rfl, _, rfl, KidsAt.mono (set6_holds (S := fun d => w.heap.size < d) (fun h => absurd h (by omega))) (fun d h => by omega) _ _ _ HKI.out⟩, fun _ => by rw [HE.out]⟩, k2, 0, f, hk0, hk2, ⟨fun _ => by rw [HE.out]; exact ⟨rfl, rfl, rfl⟩, fun h => absurd (by rw [HE.out]) h⟩, fin_but (HKW.out.trans HK.out) (by omega), HW.out.fin (by omega)⟩
    · have HNX := hide1 (hbr.next he').1
      have HPO := hide1 hpo
      have HBR := hide1 hbr
      clear hpo hbr
      go_wp2_with (first
        | (go_at_call 21; refine (took_no T k2 e2 f2 124 b _ (by exact HW.out) (by omega) hT HNX.out).mono ?_; rintro r w7 ⟨rfl, hk7, hw7⟩; have HK := hide1 (HK.out.trans hk7); have HW := hide1 hw7; have HBZ := hide1 (HBZ.out.but hk7 (by omega)); have HOW := hide1 (HOW.out.but hk7 (by omega) (by omega)); have HSZ : Hid (wr.heap.size ≤ w7.heap.size) := hk7.2.2.2.1; clear hk7 hw7)
        | (go_at_call 22; refine (either_is (fun d => w.heap.size < d) l _ (w.heap.size + 1) _ (by exact HOW.out) (fun d h => by omega) (by omega)).mono ?_; rintro r w8 ⟨⟨v8, rfl, u8, rfl, hkk⟩, hk8⟩; rw [valOf_eq]; obtain ⟨a8, c8, e8⟩ := hkk.form; subst e8; have HK := hide1 (HK.out.trans (hk8.but b)); have HW := hide1 (HW.out.keep hk8); have HBZ := hide1 (HBZ.out.keep hk8); have HKI := hide1 hkk; obtain ⟨⟨p0, p1, p2, p3, p4, p5⟩, x0, x1, x2, x3, x4, x5⟩ := HBZ.out.facts; have hb8 := HW.out.lt; clear hkk hk8)
        | go_quiet (fail))
      (try simp only [Exit.inBlock, Exit.then])
      refine bodyPost_ret (box_returns rfl _ _ w.heap.size _ _ _ _ _ _ rfl (BoxAt.set (by exact HBZ.out))) rfl ?_
      exact ⟨⟨_, ⟨_, rfl, _, rfl, KidsAt.mono (set6_holds (S := fun d => w.heap.size < d) (fun h => absurd h (by omega))) (fun d h => by omega) _ _ _ HKI.out⟩, fun h => absurd h (by rw [HPO.out]; exact he')⟩, k2, e2, f2, hk0, hk2, ⟨fun h => absurd h (by rw [HPO.out]; exact he'), fun _ => by rw [HPO.out]; exact HBR.out⟩, fin_but (HKW.out.trans HK.out) (by omega), HW.out.fin (by omega)⟩

theorem dpatA_is (T : ByteArray) (hT : T.size ≤ 4096) : ∀ N, DPatC T N (patA T N)
  | 0 => fun k f b w h h0 h1 hN => absurd hN (by omega)
  | N + 1 => dpatO_is T (N + 1) (rowS (itemA (patA T N) T) T) (fun k f b w h h0 h1 hN => drow_is T N (patA T N) (dpatA_is T hT N) (patA_ok N) (patA_stop N) k f b w h h0 h1 hN hT) (fun s h hN => rowG_ok (N := N + 1) (fun s h hlt hN => itemA_ok (patA_ok N) h hlt hN) 4097 [] s h hN) (rowS_stop (itemA_stop (patA_stop N))) hT

end Ex
end Go.Proofs.YtnchmhginmaliaaGreatDoor
namespace Go.Proofs.YtnchmhginmaliaaGreatDoor
open Go.RowKit
attribute [local go_sem] Oper.semAt_some
namespace Ex

theorem whole_rel {T : ByteArray} {kq eq fq : Int} (h : RowRel T (patA T 4098 (0, 0, 0)).2 kq eq fq) :
    (hasD T kq eq = true → failE eq (wrongC T kq) = (wholeA T (0, 0, 0)).2.2.1 ∧ failF eq fq kq = (wholeA T (0, 0, 0)).2.2.2) ∧ (hasD T kq eq = false → eq = (wholeA T (0, 0, 0)).2.2.1 ∧ fq = (wholeA T (0, 0, 0)).2.2.2) := by
  have hs := patA_stop (T := T) 4098 (0, 0, 0) rfl
  have hw : wholeA T (0, 0, 0) = if (patA T 4098 (0, 0, 0)).2.1 < T.size then ((patA T 4098 (0, 0, 0)).1, wrongS T (patA T 4098 (0, 0, 0)).2) else patA T 4098 (0, 0, 0) := rfl
  obtain ⟨⟨q, k1, e1, f1⟩, hq⟩ : ∃ x, patA T 4098 (0, 0, 0) = x := ⟨_, rfl⟩
  rw [hq] at h hs hw
  dsimp only at h hw
  by_cases he : e1 = 0
  · obtain ⟨g1, g2, g3⟩ := h.1 he
    dsimp only at g1 g2 g3
    subst g1 g2 g3
    subst he
    by_cases hk : kq < T.size
    · rw [if_pos hk] at hw
      rw [hw]
      exact ⟨fun _ => ⟨rfl, rfl⟩, fun hh => absurd hh (by simp [hasD, hk])⟩
    · rw [if_neg hk] at hw
      rw [hw]
      exact ⟨fun hh => absurd hh (by simp [hasD, hk]), fun _ => ⟨rfl, rfl⟩⟩
  · have hk : k1 = T.size := hs.1 he
    rw [if_neg (by omega)] at hw
    rw [hw]
    have hb := h.2 he
    refine ⟨fun _ => hb.wrong he, fun hh => ?_⟩
    rcases hb with ⟨g1, g2⟩ | ⟨_, g2, _, g4, _⟩
    · exact ⟨g1, g2⟩
    · rw [g2] at hh
      exact absurd hh (by simp [hasD, g4])
theorem whole_pat {T : ByteArray} {p : Pat} (h : (patA T 4098 (0, 0, 0)).2.2.1 = 0 → p = (patA T 4098 (0, 0, 0)).1) (he : (wholeA T (0, 0, 0)).2.2.1 = 0) : p = (wholeA T (0, 0, 0)).1 ∧ (wholeA T (0, 0, 0)).2.2.2 = 0 := by
  have hs := patA_stop (T := T) 4098 (0, 0, 0) rfl
  unfold wholeA at he ⊢
  by_cases hk : (patA T 4098 (0, 0, 0)).2.1 < T.size
  · rw [if_pos hk] at he
    exact absurd he (wrongS_ne _ _)
  · rw [if_neg hk] at he ⊢
    exact ⟨h he, hs.2 he⟩
theorem parseM_good {T : ByteArray} {p : Pat} {k f : Int} (hT : T.size ≤ 4096) (hw : wholeA T (0, 0, 0) = (p, k, 0, f)) (hc : checkP p.2 = 0) : parseM T = (p, 0, 0) := by
  unfold parseM
  rw [if_neg (by omega), hw]
  dsimp only
  rw [if_neg (by simp), if_neg (by simpa using hc)]
theorem parseM_check {T : ByteArray} {p : Pat} {k f : Int} (hT : T.size ≤ 4096) (hw : wholeA T (0, 0, 0) = (p, k, 0, f)) (hc : checkP p.2 ≠ 0) : parseM T = (zeroP, checkP p.2, f) := by
  unfold parseM
  rw [if_neg (by omega), hw]
  dsimp only
  rw [if_neg (by simp), if_pos hc]
theorem dreader_new (w : World) (T : ByteArray) {b : Nat} (hb : w.heap.size = b) : DAt (w.alloc (.cells #[.string T, .int .i64 0, .int .i64 0, .int .i64 0] 40)) b T 0 0 0 := by
  subst hb
  exact heap_alloc_new w _
theorem FaultAt.but {b g : Nat} {w w' : World} {y0 y1 y2 : Value} (h : FaultAt w g y0 y1 y2) (hk : KeptBut b w w') (hg : g ≠ b) : FaultAt w' g y0 y1 y2 := (hk.2.2.2.2 g (Array.getElem?_eq_some_iff.1 h).1 hg).trans h
theorem FaultAt.keep {g : Nat} {w w' : World} {y0 y1 y2 : Value} (h : FaultAt w g y0 y1 y2) (hk : Kept w w') : FaultAt w' g y0 y1 y2 := (hk.2.2.2.2 g (Array.getElem?_eq_some_iff.1 h).1).trans h
theorem FaultAt.lt {g : Nat} {w : World} {y0 y1 y2 : Value} (h : FaultAt w g y0 y1 y2) : g < w.heap.size := (Array.getElem?_eq_some_iff.1 h).1

set_option linter.unusedSimpArgs false in
set_option maxRecDepth 100000 in
set_option maxHeartbeats 4000000 in
theorem dParse_short (T : ByteArray) (w : World) (hT : T.size ≤ 4096) :
    Calls Tryz.prog 5 #[.string T] w fun r w' => Hid (∃ v, r = .returned (.tuple #[v, .agg #[.int .i64 (parseM T).2.1, .int .i64 (parseM T).2.2, .string ByteArray.empty]]) ∧ PatV (fun d => w.heap.size ≤ d) w' (parseM T).1 v) ∧ Kept w w' := by
  have gT : (T.size : Int) ≤ 4096 := by omega
  obtain ⟨⟨pW, kW, eW, fW⟩, hWH⟩ : ∃ x, wholeA T (0, 0, 0) = x := ⟨_, rfl⟩
  have HWH := hide1 hWH
  clear hWH
  go_enter Tryz.func5, Tryz.ntmps5
  go_upto_region 4 with fail
  generalize hW3 : World.alloc _ _ = W3
  have HD : Hid (DAt W3 (w.heap.size + 1 + 1) T 0 0 0) := by rw [← hW3]; exact dreader_new _ _ (by simp)
  have HBA : Hid (BoxAt W3 w.heap.size (.int .i64 0) (.int .i64 0) (.int .i64 0) (.int .i64 0) (.int .i64 0) (.slice none 0 0)) := by
    rw [← hW3]
    unfold Hid BoxAt
    rw [heap_alloc_old _ _ (by simp; omega), heap_alloc_old _ _ (by simp)]
    exact heap_alloc_new w _
  have HFA : Hid (FaultAt W3 (w.heap.size + 1) (.int .i64 0) (.int .i64 0) (.string ⟨#[]⟩)) := by
    rw [← hW3]
    unfold Hid FaultAt
    rw [heap_alloc_old _ _ (by simp)]
    exact heap_alloc2_new w _ _
  have HK3 : Hid (Kept w W3) := by rw [← hW3]; exact Kept.of ((((Below.refl _ _).alloc (Nat.le_refl _) _).alloc (by simp) _).alloc (by simp; omega) _)
  have h3s : W3.heap.size = w.heap.size + 1 + 1 + 1 := by rw [← hW3]; simp
  clear hW3
  go_upto_region 5 with (first
    | (go_at_call 10; refine (dpatA_is T hT 4098 0 0 (w.heap.size + 1 + 1) _ (by exact HD.out) (by omega) (by omega) (by omega)).mono ?_; rintro r w7 ⟨⟨p7, ⟨v7, rfl, u7, rfl, hkk⟩, hp7⟩, kq, eq, fq, j0, j1, hrel, hk7, hw7⟩; rw [valOf_eq]; obtain ⟨a7, c7, e7⟩ := hkk.form; subst e7; have HREL := hide1 hrel; have HP7 := hide1 hp7; have HK7 := hide1 hk7; have HW7 := hide1 hw7; have HKI7 := hide1 hkk; have h37 := hk7.2.2.2.1; clear hkk hk7 hw7 hp7 hrel))
  generalize hW5 : w7.alloc _ = W5
  have HK5 : Hid (Kept w W5) := by rw [← hW5]; exact (KeptBut.up HK3.out (by omega) HK7.out).alloc _ _
  have HB0 : Hid (BoxAt W5 w.heap.size (.int .i64 0) (.int .i64 0) (.int .i64 0) (.int .i64 0) (.int .i64 0) (.slice none 0 0)) := by rw [← hW5]; exact (HBA.out.but HK7.out (by omega)).keep ((Kept.refl _).alloc _ _)
  have HF0 : Hid (FaultAt W5 (w.heap.size + 1) (.int .i64 0) (.int .i64 0) (.string ⟨#[]⟩)) := by rw [← hW5]; exact (HFA.out.but HK7.out (by omega)).keep ((Kept.refl _).alloc _ _)
  have HW5 : Hid (DAt W5 (w.heap.size + 1 + 1) T kq eq fq) := by rw [← hW5]; exact HW7.out.keep ((Kept.refl _).alloc _ _)
  have HBE : Hid (BoxAt W5 w7.heap.size (.int .i64 (kind p7.2)) (.int .i64 (from_ p7.2)) (.int .i64 (to_ p7.2)) (.int .i64 (min_ p7.2)) (.int .i64 (max_ p7.2)) (.slice a7 (kids p7.2).length c7)) := by rw [← hW5]; exact BoxAt.new w7 _ _ _ _ _ _
  have HKI : Hid (KidsAt (fun d => w.heap.size + 1 + 1 < d) W5 p7.1 (kids p7.2) (.slice a7 (kids p7.2).length c7)) := by rw [← hW5]; exact KidsAt.kept (KidsAt.mono (fun _ _ _ _ h => h) (fun d h => by have h2 : W3.heap.size ≤ d := h; omega) _ _ _ HKI7.out) ((Kept.refl _).alloc _ _)
  have HPW : Hid (eW = 0 → p7 = pW ∧ fW = 0) := fun he => by
    have hx := whole_pat HP7.out (by rw [HWH.out]; exact he)
    rw [HWH.out] at hx
    exact hx
  have hwr := whole_rel HREL.out
  rw [HWH.out] at hwr
  dsimp only at hwr
  have h57 : w7.heap.size < W5.heap.size := HBE.out.lt
  clear hW5 HK7 HW7 HKI7 HBA HFA HD HREL HP7
  by_cases hh : hasD T kq eq = true
  · have hwe := hwr.1 hh
    have HH := hide1 hh
    have HWE := hide1 hwe
    clear hwr hh hwe
    go_upto_region 7 with (first
      | (go_at_call 11; refine (has_v T kq eq fq (w.heap.size + 1 + 1) _ (by exact HW5.out) hT true HH.out).mono ?_; rintro r w8 ⟨rfl, hk8, hw8⟩; have HK8 := hide1 hk8; have HW8 := hide1 hw8; clear hk8 hw8)
      | (go_at_call 12; refine (dwrong_is T kq eq fq (w.heap.size + 1 + 1) _ (by exact HW8.out) j1 hT).mono ?_; rintro r w9 ⟨rfl, hk9, hw9⟩; rw [HWE.out.1, HWE.out.2] at hw9; have HKX := hide1 (HK8.out.trans hk9); have HWX := hide1 hw9; clear hk9 hw9))
    have HG0 := hide1 (HB0.out.but (b := w.heap.size + 1 + 1) HKX.out (by omega))
    have HG1 := hide1 (HF0.out.but (b := w.heap.size + 1 + 1) HKX.out (by omega))
    have HGE := hide1 (HBE.out.but (b := w.heap.size + 1 + 1) HKX.out (by omega))
    have HKI := hide1 (KidsAt.mono (HKX.out.holds (S := fun d => w.heap.size + 1 + 1 < d) (by omega)) (fun _ h => h) _ _ _ HKI.out)
    have HKW := hide1 (KeptBut.up HK5.out (by omega) HKX.out)
    obtain ⟨c0, c1, c2, c3⟩ := HWX.out.cells
    obtain ⟨⟨p0, p1, p2, p3, p4, p5⟩, x0, x1, x2, x3, x4, x5⟩ := HG0.out.facts
    obtain ⟨⟨r0, r1, r2⟩, s0, s1, s2⟩ := fault_facts HG1.out
    obtain ⟨⟨m0, m1, m2, m3, m4, m5⟩, _⟩ := HGE.out.facts
    have hbx := HWX.out.lt
    have hgx := HG0.out.lt
    have hfx := HG1.out.lt
    have hex := HGE.out.lt
    by_cases he : eW = 0
    · subst he
      obtain ⟨hpp, hf0⟩ := HPW.out rfl
      subst hpp
      subst hf0
      by_cases hc : checkP p7.2 = 0
      · have HC := hide1 hc
        have HM : Hid (parseM T = (p7, 0, 0)) := parseM_good hT HWH.out hc
        clear hc
        go_wp2_with (first
          | (go_at_call 13; refine (rCheck_is (fun d => w.heap.size + 1 + 1 < d) p7.1 p7.2 _ _ HKI.out).mono ?_; rintro r w8 ⟨rfl, hk8⟩; rw [HC.out]; have HK8 := hide1 hk8; have HG0 := hide1 (HG0.out.keep hk8); have HG1 := hide1 (HG1.out.keep hk8); have HGE := hide1 (HGE.out.keep hk8); have HKI := hide1 (KidsAt.kept HKI.out hk8); have HKW := hide1 (gtrans HKW.out hk8); obtain ⟨⟨p0, p1, p2, p3, p4, p5⟩, x0, x1, x2, x3, x4, x5⟩ := HG0.out.facts; obtain ⟨⟨r0, r1, r2⟩, s0, s1, s2⟩ := fault_facts HG1.out; obtain ⟨⟨m0, m1, m2, m3, m4, m5⟩, _⟩ := HGE.out.facts; have hgx := HG0.out.lt; have hfx := HG1.out.lt; have hex := HGE.out.lt; clear hk8)
          | go_quiet (fail))
        (try simp only [Exit.inBlock, Exit.then])
        refine bodyPost_ret (parse_results rfl _ _ w.heap.size (w.heap.size + 1) _ _ _ _ _ _ _ _ _ rfl (heap_set (heap_set (heap_set (BoxAt.set (y0 := .int .i64 0) (y1 := .int .i64 0) (y2 := .int .i64 0) (y3 := .int .i64 0) (y4 := .int .i64 0) (y5 := .slice none 0 0) HG0.out) (by omega)) (by omega)) (by omega)) rfl (FaultAt.set (y0 := .int .i64 0) (y1 := .int .i64 0) (y2 := .string ⟨#[]⟩) (heap_set (heap_set (heap_set (heap_set (heap_set (heap_set HG1.out (by omega)) (by omega)) (by omega)) (by omega)) (by omega)) (by omega)))) rfl ?_
        rw [HM.out]
        refine ⟨⟨_, rfl, _, rfl, ?_⟩, (((((((((HKW.out.set (by omega)).set (by omega)).set (by omega)).set (by omega)).set (by omega)).set (by omega)).set (by omega)).set (by omega)).set (by omega))⟩
        refine KidsAt.mono (S := fun d => w.heap.size + 1 + 1 < d) ?_ (fun d h => by omega) _ _ _ HKI.out
        exact (((((((((Holds.set (fun _ _ _ _ h => h) (by omega)).set (by omega)).set (by omega)).set (by omega)).set (by omega)).set (by omega)).set (by omega)).set (by omega)).set (by omega))
      · have HM : Hid (parseM T = (zeroP, checkP p7.2, 0)) := parseM_check hT HWH.out hc
        have HC := hide1 hc
        obtain ⟨ck, hck⟩ : ∃ ck, checkP p7.2 = ck := ⟨_, rfl⟩
        have HCK := hide1 hck
        rw [hck] at HM hc
        clear hck
        go_wp2_with (first
          | (go_at_call 13; refine (rCheck_is (fun d => w.heap.size + 1 + 1 < d) p7.1 p7.2 _ _ HKI.out).mono ?_; rintro r w8 ⟨rfl, hk8⟩; rw [HCK.out]; have HK8 := hide1 hk8; have HG0 := hide1 (HG0.out.keep hk8); have HG1 := hide1 (HG1.out.keep hk8); have HGE := hide1 (HGE.out.keep hk8); have HKI := hide1 (KidsAt.kept HKI.out hk8); have HKW := hide1 (gtrans HKW.out hk8); obtain ⟨⟨p0, p1, p2, p3, p4, p5⟩, x0, x1, x2, x3, x4, x5⟩ := HG0.out.facts; obtain ⟨⟨r0, r1, r2⟩, s0, s1, s2⟩ := fault_facts HG1.out; obtain ⟨⟨m0, m1, m2, m3, m4, m5⟩, _⟩ := HGE.out.facts; have hgx := HG0.out.lt; have hfx := HG1.out.lt; have hex := HGE.out.lt; clear hk8)
          | go_quiet (fail))
        (try simp only [Exit.inBlock, Exit.then])
        refine bodyPost_ret (parse_results rfl _ _ w.heap.size (w.heap.size + 1) _ _ _ _ _ _ _ _ _ rfl (heap_set (heap_set (heap_set (BoxAt.set (y0 := .int .i64 0) (y1 := .int .i64 0) (y2 := .int .i64 0) (y3 := .int .i64 0) (y4 := .int .i64 0) (y5 := .slice none 0 0) HG0.out) (by omega)) (by omega)) (by omega)) rfl (FaultAt.set (y0 := .int .i64 0) (y1 := .int .i64 0) (y2 := .string ⟨#[]⟩) (heap_set (heap_set (heap_set (heap_set (heap_set (heap_set HG1.out (by omega)) (by omega)) (by omega)) (by omega)) (by omega)) (by omega)))) rfl ?_
        rw [HM.out]
        exact ⟨⟨_, rfl, zeroV_pat _ _⟩, (((((((((HKW.out.set (by omega)).set (by omega)).set (by omega)).set (by omega)).set (by omega)).set (by omega)).set (by omega)).set (by omega)).set (by omega))⟩
    · have HM : Hid (parseM T = (zeroP, eW, fW)) := by
        show _ = _
        unfold parseM
        rw [if_neg (by omega), HWH.out, if_pos (by exact he)]
      go_wp2_with (first | go_region)
      (try simp only [Exit.inBlock, Exit.then])
      refine bodyPost_ret (parse_results rfl _ _ w.heap.size (w.heap.size + 1) _ _ _ _ _ _ _ _ _ rfl (heap_drew (heap_set (heap_set (heap_set (BoxAt.set (y0 := .int .i64 0) (y1 := .int .i64 0) (y2 := .int .i64 0) (y3 := .int .i64 0) (y4 := .int .i64 0) (y5 := .slice none 0 0) HG0.out) (by omega)) (by omega)) (by omega))) rfl (heap_drew (FaultAt.set (y0 := .int .i64 0) (y1 := .int .i64 0) (y2 := .string ⟨#[]⟩) (heap_set (heap_set (heap_set (heap_set (heap_set (heap_set HG1.out (by omega)) (by omega)) (by omega)) (by omega)) (by omega)) (by omega))))) rfl ?_
      rw [HM.out]
      exact ⟨⟨_, rfl, zeroV_pat _ _⟩, gtrans (((((((((HKW.out.set (by omega)).set (by omega)).set (by omega)).set (by omega)).set (by omega)).set (by omega)).set (by omega)).set (by omega)).set (by omega)) (drew_kept _)⟩
  · have hhf : hasD T kq eq = false := by simpa using hh
    obtain ⟨hq1, hq2⟩ := hwr.2 hhf
    have HH := hide1 hhf
    subst hq1
    subst hq2
    clear hwr hh hhf
    go_upto_region 7 with (first
      | (go_at_call 11; refine (has_v T kq _ _ (w.heap.size + 1 + 1) _ (by exact HW5.out) hT false HH.out).mono ?_; rintro r w8 ⟨rfl, hk8, hw8⟩; have HKX := hide1 hk8; have HWX := hide1 hw8; clear hk8 hw8))
    have HG0 := hide1 (HB0.out.but (b := w.heap.size + 1 + 1) HKX.out (by omega))
    have HG1 := hide1 (HF0.out.but (b := w.heap.size + 1 + 1) HKX.out (by omega))
    have HGE := hide1 (HBE.out.but (b := w.heap.size + 1 + 1) HKX.out (by omega))
    have HKI := hide1 (KidsAt.mono (HKX.out.holds (S := fun d => w.heap.size + 1 + 1 < d) (by omega)) (fun _ h => h) _ _ _ HKI.out)
    have HKW := hide1 (KeptBut.up HK5.out (by omega) HKX.out)
    obtain ⟨c0, c1, c2, c3⟩ := HWX.out.cells
    obtain ⟨⟨p0, p1, p2, p3, p4, p5⟩, x0, x1, x2, x3, x4, x5⟩ := HG0.out.facts
    obtain ⟨⟨r0, r1, r2⟩, s0, s1, s2⟩ := fault_facts HG1.out
    obtain ⟨⟨m0, m1, m2, m3, m4, m5⟩, _⟩ := HGE.out.facts
    have hbx := HWX.out.lt
    have hgx := HG0.out.lt
    have hfx := HG1.out.lt
    have hex := HGE.out.lt
    by_cases he : eq = 0
    · subst he
      obtain ⟨hpp, hf0⟩ := HPW.out rfl
      subst hpp
      subst hf0
      by_cases hc : checkP p7.2 = 0
      · have HC := hide1 hc
        have HM : Hid (parseM T = (p7, 0, 0)) := parseM_good hT HWH.out hc
        clear hc
        go_wp2_with (first
          | (go_at_call 13; refine (rCheck_is (fun d => w.heap.size + 1 + 1 < d) p7.1 p7.2 _ _ HKI.out).mono ?_; rintro r w8 ⟨rfl, hk8⟩; rw [HC.out]; have HK8 := hide1 hk8; have HG0 := hide1 (HG0.out.keep hk8); have HG1 := hide1 (HG1.out.keep hk8); have HGE := hide1 (HGE.out.keep hk8); have HKI := hide1 (KidsAt.kept HKI.out hk8); have HKW := hide1 (gtrans HKW.out hk8); obtain ⟨⟨p0, p1, p2, p3, p4, p5⟩, x0, x1, x2, x3, x4, x5⟩ := HG0.out.facts; obtain ⟨⟨r0, r1, r2⟩, s0, s1, s2⟩ := fault_facts HG1.out; obtain ⟨⟨m0, m1, m2, m3, m4, m5⟩, _⟩ := HGE.out.facts; have hgx := HG0.out.lt; have hfx := HG1.out.lt; have hex := HGE.out.lt; clear hk8)
          | go_quiet (fail))
        (try simp only [Exit.inBlock, Exit.then])
        refine bodyPost_ret (parse_results rfl _ _ w.heap.size (w.heap.size + 1) _ _ _ _ _ _ _ _ _ rfl (heap_set (heap_set (heap_set (BoxAt.set (y0 := .int .i64 0) (y1 := .int .i64 0) (y2 := .int .i64 0) (y3 := .int .i64 0) (y4 := .int .i64 0) (y5 := .slice none 0 0) HG0.out) (by omega)) (by omega)) (by omega)) rfl (FaultAt.set (y0 := .int .i64 0) (y1 := .int .i64 0) (y2 := .string ⟨#[]⟩) (heap_set (heap_set (heap_set (heap_set (heap_set (heap_set HG1.out (by omega)) (by omega)) (by omega)) (by omega)) (by omega)) (by omega)))) rfl ?_
        rw [HM.out]
        refine ⟨⟨_, rfl, _, rfl, ?_⟩, (((((((((HKW.out.set (by omega)).set (by omega)).set (by omega)).set (by omega)).set (by omega)).set (by omega)).set (by omega)).set (by omega)).set (by omega))⟩
        refine KidsAt.mono (S := fun d => w.heap.size + 1 + 1 < d) ?_ (fun d h => by omega) _ _ _ HKI.out
        exact (((((((((Holds.set (fun _ _ _ _ h => h) (by omega)).set (by omega)).set (by omega)).set (by omega)).set (by omega)).set (by omega)).set (by omega)).set (by omega)).set (by omega))
      · have HM : Hid (parseM T = (zeroP, checkP p7.2, 0)) := parseM_check hT HWH.out hc
        have HC := hide1 hc
        obtain ⟨ck, hck⟩ : ∃ ck, checkP p7.2 = ck := ⟨_, rfl⟩
        have HCK := hide1 hck
        rw [hck] at HM hc
        clear hck
        go_wp2_with (first
          | (go_at_call 13; refine (rCheck_is (fun d => w.heap.size + 1 + 1 < d) p7.1 p7.2 _ _ HKI.out).mono ?_; rintro r w8 ⟨rfl, hk8⟩; rw [HCK.out]; have HK8 := hide1 hk8; have HG0 := hide1 (HG0.out.keep hk8); have HG1 := hide1 (HG1.out.keep hk8); have HGE := hide1 (HGE.out.keep hk8); have HKI := hide1 (KidsAt.kept HKI.out hk8); have HKW := hide1 (gtrans HKW.out hk8); obtain ⟨⟨p0, p1, p2, p3, p4, p5⟩, x0, x1, x2, x3, x4, x5⟩ := HG0.out.facts; obtain ⟨⟨r0, r1, r2⟩, s0, s1, s2⟩ := fault_facts HG1.out; obtain ⟨⟨m0, m1, m2, m3, m4, m5⟩, _⟩ := HGE.out.facts; have hgx := HG0.out.lt; have hfx := HG1.out.lt; have hex := HGE.out.lt; clear hk8)
          | go_quiet (fail))
        (try simp only [Exit.inBlock, Exit.then])
        refine bodyPost_ret (parse_results rfl _ _ w.heap.size (w.heap.size + 1) _ _ _ _ _ _ _ _ _ rfl (heap_set (heap_set (heap_set (BoxAt.set (y0 := .int .i64 0) (y1 := .int .i64 0) (y2 := .int .i64 0) (y3 := .int .i64 0) (y4 := .int .i64 0) (y5 := .slice none 0 0) HG0.out) (by omega)) (by omega)) (by omega)) rfl (FaultAt.set (y0 := .int .i64 0) (y1 := .int .i64 0) (y2 := .string ⟨#[]⟩) (heap_set (heap_set (heap_set (heap_set (heap_set (heap_set HG1.out (by omega)) (by omega)) (by omega)) (by omega)) (by omega)) (by omega)))) rfl ?_
        rw [HM.out]
        exact ⟨⟨_, rfl, zeroV_pat _ _⟩, (((((((((HKW.out.set (by omega)).set (by omega)).set (by omega)).set (by omega)).set (by omega)).set (by omega)).set (by omega)).set (by omega)).set (by omega))⟩
    · have HM : Hid (parseM T = (zeroP, eq, fq)) := by
        show _ = _
        unfold parseM
        rw [if_neg (by omega), HWH.out, if_pos (by exact he)]
      go_wp2_with (first | go_region)
      (try simp only [Exit.inBlock, Exit.then])
      refine bodyPost_ret (parse_results rfl _ _ w.heap.size (w.heap.size + 1) _ _ _ _ _ _ _ _ _ rfl (heap_drew (heap_set (heap_set (heap_set (BoxAt.set (y0 := .int .i64 0) (y1 := .int .i64 0) (y2 := .int .i64 0) (y3 := .int .i64 0) (y4 := .int .i64 0) (y5 := .slice none 0 0) HG0.out) (by omega)) (by omega)) (by omega))) rfl (heap_drew (FaultAt.set (y0 := .int .i64 0) (y1 := .int .i64 0) (y2 := .string ⟨#[]⟩) (heap_set (heap_set (heap_set (heap_set (heap_set (heap_set HG1.out (by omega)) (by omega)) (by omega)) (by omega)) (by omega)) (by omega))))) rfl ?_
      rw [HM.out]
      exact ⟨⟨_, rfl, zeroV_pat _ _⟩, gtrans (((((((((HKW.out.set (by omega)).set (by omega)).set (by omega)).set (by omega)).set (by omega)).set (by omega)).set (by omega)).set (by omega)).set (by omega)) (drew_kept _)⟩

set_option linter.unusedSimpArgs false in
set_option maxRecDepth 100000 in
set_option maxHeartbeats 4000000 in
theorem dParse_long (T : ByteArray) (w : World) (hT : 4096 < T.size) (hT2 : T.size ≤ 200000000000000) :
    Calls Tryz.prog 5 #[.string T] w fun r w' => r = .returned (.tuple #[zeroV, .agg #[.int .i64 2, .int .i64 0, .string ⟨#[]⟩]]) ∧ Kept w w' := by
  have gT : (4096 : Int) < T.size := by omega
  have gT2 : (T.size : Int) ≤ 200000000000000 := by omega
  unfold zeroV
  clear hT hT2
  go_enter Tryz.func5, Tryz.ntmps5
  go_wp2
  (try simp only [Exit.inBlock, Exit.then])
  refine bodyPost_ret (parse_results rfl _ _ w.heap.size (w.heap.size + 1) _ _ _ _ _ _ _ _ _ rfl ((heap_alloc_old _ _ (by simp)).trans (heap_alloc_new w _)) rfl (heap_alloc2_new w _ _)) rfl ?_
  exact ⟨rfl, ((Kept.refl w).alloc _ _).alloc _ _⟩
theorem dParse_is (T : ByteArray) (w : World) (hT : T.size ≤ 200000000000000) :
    Calls Tryz.prog 5 #[.string T] w fun r w' => Hid (∃ v, r = .returned (.tuple #[v, .agg #[.int .i64 (parseM T).2.1, .int .i64 (parseM T).2.2, .string ByteArray.empty]]) ∧ PatV (fun d => w.heap.size ≤ d) w' (parseM T).1 v) ∧ Kept w w' := by
  by_cases hl : 4096 < T.size
  · refine (dParse_long T w hl hT).mono ?_
    rintro r w' ⟨rfl, hk⟩
    have e : parseM T = (zeroP, 2, 0) := by unfold parseM; rw [if_pos hl]
    rw [e]
    exact ⟨⟨zeroV, rfl, zeroV_pat _ _⟩, hk⟩
  · exact dParse_short T w (by omega)

end Ex
end Go.Proofs.YtnchmhginmaliaaGreatDoor
