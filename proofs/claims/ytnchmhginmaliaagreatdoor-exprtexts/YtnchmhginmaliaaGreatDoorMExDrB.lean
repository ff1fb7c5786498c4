import Derived.Test.YtnchmhginmaliaaGreatDoorMExDr9
import Derived.Test.YtnchmhginmaliaaGreatDoorMExCl3
namespace Go.Proofs.YtnchmhginmaliaaGreatDoor
open Go.RowKit
attribute [local go_sem] Oper.semAt_some
namespace Ex

/-- What a row or a pattern leaves, where ours leaves a fault: the same, or it stands at a byte that may not stand there. -/
def BadRel (T : ByteArray) (e f k2 e2 f2 : Int) : Prop := (e2 = e ∧ f2 = f) ∨ (e = 22 ∧ e2 = 0 ∧ k2 = f ∧ k2 < T.size ∧ peekP T k2 ≠ 124 ∧ peekP T k2 ≠ 41)
def RowRel (T : ByteArray) (s : Int × Int × Int) (k2 e2 f2 : Int) : Prop := (s.2.1 = 0 → k2 = s.1 ∧ e2 = 0 ∧ f2 = s.2.2) ∧ (s.2.1 ≠ 0 → BadRel T s.2.1 s.2.2 k2 e2 f2)
theorem BadRel.next {T : ByteArray} {e f k2 e2 f2 : Int} (h : BadRel T e f k2 e2 f2) (he : e ≠ 0) : nextD T k2 e2 124 = false ∧ nextD T k2 e2 41 = false := by
  rcases h with ⟨rfl, _⟩ | ⟨_, rfl, _, _, h1, h2⟩
  · exact ⟨next_bad he, next_bad he⟩
  · exact ⟨next_not h1, next_not h2⟩
theorem BadRel.wrong {T : ByteArray} {e f k2 e2 f2 : Int} (h : BadRel T e f k2 e2 f2) (he : e ≠ 0) : failE e2 (wrongC T k2) = e ∧ failF e2 f2 k2 = f := by
  unfold failE failF
  rcases h with ⟨rfl, rfl⟩ | ⟨rfl, rfl, rfl, h1, _⟩
  · rw [if_neg he, if_neg he]; exact ⟨rfl, rfl⟩
  · rw [if_pos rfl, if_pos rfl]
    unfold wrongC
    rw [if_neg (by omega)]
    exact ⟨rfl, rfl⟩
def RowGave (b : Nat) (w : World) (T : ByteArray) (m : Pat × Int × Int × Int) (r : Ending) (w' : World) : Prop := (∃ p, PGives (fun d => w.heap.size ≤ d) p r w' ∧ (m.2.2.1 = 0 → p = m.1)) ∧ ∃ k2 e2 f2, 0 ≤ k2 ∧ k2 ≤ (T.size : Int) ∧ RowRel T m.2 k2 e2 f2 ∧ KeptBut b w w' ∧ DAt w' b T k2 e2 f2
/-- What the document's pattern does, where less than N bytes are left. -/
def DPatC (T : ByteArray) (N : Nat) (pat : Int × Int × Int → Pat × Int × Int × Int) : Prop :=
  ∀ (k f : Int) (b : Nat) (w : World), DAt w b T k 0 f → 0 ≤ k → k ≤ T.size → (T.size : Int) < k + (N : Int) →
    Calls Tryz.prog 10 #[.pointer (some ⟨b, 0, none⟩)] w fun r w' => RowGave b w T (pat (k, 0, f)) r w'
def startS : ByteArray := ⟨#[40, 91, 46, 92]⟩
/-- Does an atom begin with this byte? -/
def startB (c : Int) : Bool := plainP c || amongP (strI startS) c
theorem start_is (c : Int) (h0 : 0 ≤ c) (h1 : c ≤ 255) (h : startB c = true) (h2 : c ≠ 40) (h3 : c ≠ 91) (h4 : c ≠ 46) (h5 : c ≠ 92) : plainP c = true := by
  have h6 : ∀ k : Fin 256, startB (k.val : Int) = true → k.val ≠ 40 → k.val ≠ 91 → k.val ≠ 46 → k.val ≠ 92 → plainP (k.val : Int) = true := by decide +kernel
  have := h6 ⟨c.toNat, by omega⟩
  simp only [] at this
  rw [show ((c.toNat : Nat) : Int) = c by omega] at this
  exact this h (by omega) (by omega) (by omega) (by omega)

set_option linter.unusedSimpArgs false in
set_option maxRecDepth 100000 in
set_option maxHeartbeats 4000000 in
theorem datom_is (T : ByteArray) (N : Nat) (pat : Int × Int × Int → Pat × Int × Int × Int) (hPC : DPatC T N pat) (hPO : PatOk T N pat) (hPS : StopP T pat) (k f : Int) (b : Nat) (w : World) (h : DAt w b T k 0 f) (h0 : 0 ≤ k) (h1 : k < T.size) (hN : (T.size : Int) < k + ((N + 1 : Nat) : Int)) (hT : T.size ≤ 4096) (hst : startB (peekP T k) = true) :
    Calls Tryz.prog 37 #[.pointer (some ⟨b, 0, none⟩)] w fun r w' => QGave b w T (atomA pat T (k, 0, f)) r w' := by
  have HPC := hide1 hPC
  have hb0 := h.lt
  have gT : (T.size : Int) ≤ 4096 := by omega
  have HA : Hid (atomA pat T (k, 0, f) = if peekP T k = 92 then (rangeP (escapeS T (k, 0, f)).1 (escapeS T (k, 0, f)).1, (escapeS T (k, 0, f)).2) else if peekP T k = 91 then classA T (k, 0, f) else if peekP T k = 46 then (rangeP 0 255, k + 1, 0, f) else if peekP T k = 40 then ((pat (k + 1, 0, f)).1, if peekP T (pat (k + 1, 0, f)).2.1 = 41 then ((pat (k + 1, 0, f)).2.1 + 1, (pat (k + 1, 0, f)).2.2) else wrongS T (pat (k + 1, 0, f)).2) else if plainP (peekP T k) then (rangeP (peekP T k) (peekP T k), k + 1, 0, f) else (zeroP, wrongS T (k, 0, f))) := rfl
  obtain ⟨c, hcc⟩ : ∃ c, peekP T k = c := ⟨_, rfl⟩
  have hby := peek_byte T k
  unfold IsB at hby
  have hr := idx_at T k h0 h1
  rw [hcc] at HA hby hst hr
  have hyes := fun (x : Int) (hx : x ≠ 0) (hc : c = x) => next_at (T := T) (k := k) hx (hcc.trans hc)
  have hno := fun (x : Int) (hc : c ≠ x) => next_not (T := T) (k := k) (e := 0) (c := x) (by rw [hcc]; exact hc)
  have HRW := hide1 h
  clear h hcc hPC
  go_enter Tryz.func37, Tryz.ntmps37
  refine wp_seq_k (fun K2 hK2 => ?_)
  have HK2 := hide1 hK2
  clear hK2
  go_wp2_with fail
  refine HK2.out _ _ ?_
  clear HK2
  generalize hW1 : w.alloc _ = W1
  have HK : Hid (KeptBut b w W1) := by rw [← hW1]; exact ((Kept.refl w).alloc _ _).but b
  have HW : Hid (DAt W1 b T k 0 f) := by rw [← hW1]; exact HRW.out.keep ((Kept.refl w).alloc _ _)
  have HBZ : Hid (BoxAt W1 w.heap.size (.int .i64 0) (.int .i64 0) (.int .i64 0) (.int .i64 0) (.int .i64 0) (.slice none 0 0)) := by rw [← hW1]; exact BoxAt.new w _ _ _ _ _ _
  clear hW1 HRW
  obtain ⟨⟨p0, p1, p2, p3, p4, p5⟩, x0, x1, x2, x3, x4, x5⟩ := HBZ.out.facts
  obtain ⟨c0, c1, c2, c3⟩ := HW.out.cells
  obtain ⟨z0, z1, z2, z3⟩ := HW.out.free
  have hb := HW.out.lt
  have hzl := HBZ.out.lt
  by_cases e40 : c = 40
  · have HN1 := hide1 (hyes 40 (by decide) e40)
    have hE : atomA pat T (k, 0, f) = ((pat (k + 1, 0, f)).1, if peekP T (pat (k + 1, 0, f)).2.1 = 41 then ((pat (k + 1, 0, f)).2.1 + 1, (pat (k + 1, 0, f)).2.2) else wrongS T (pat (k + 1, 0, f)).2) := by rw [HA.out, e40]; simp
    have hok := hPO (k + 1, 0, f) ⟨by show 0 ≤ k + 1; omega, by show k + 1 ≤ _; omega⟩ (by show (T.size : Int) < k + 1 + (N : Int); omega)
    have hps := hPS (k + 1, 0, f) rfl
    obtain ⟨⟨q, k1, e1, f1⟩, hq⟩ : ∃ x, pat (k + 1, 0, f) = x := ⟨_, rfl⟩
    rw [hq] at hE hok hps
    have HQ := hide1 hq
    obtain ⟨hok, _⟩ := hok
    unfold OkS at hok
    dsimp only at hE hok
    obtain ⟨ok0, ok1⟩ := hok
    clear hq HA hyes hno e40 hst hr
    by_cases he1 : e1 = 0
    · subst he1
      have hff : f = f1 := (hps.2 rfl).symm
      subst hff
      clear hps
      by_cases hc : peekP T k1 = 41
      · rw [if_pos hc] at hE
        have HE := hide1 hE
        have HNX := hide1 (next_at (T := T) (k := k1) (by decide) hc)
        have hlt1 := (peek_lt (T := T) (k := k1) (by rw [hc]; decide)).2
        clear hE hc
        go_wp2_with (first
          | (go_at_call 39; refine (next_v T k 0 f 40 b _ (by first | exact HW.out | exact HW.out.drew _ | exact HW.out.move _ | exact (HW.out.drew _).move _ | exact (HW.out.move _).drew _) h0 hT true HN1.out).mono ?_; rintro r w6 ⟨rfl, hk6, hw6⟩; have HBZ := hide1 (HBZ.out.but (KeptBut.trans (by first | exact but_refl _ _ | exact but_drew (but_refl _ _) _ | exact but_set (but_refl _ _) _ _ | exact but_set (but_drew (but_refl _ _) _) _ _ | exact but_drew (but_set (but_refl _ _) _ _) _) hk6) (by omega)); have HK := hide1 (HK.out.trans (KeptBut.trans (by first | exact but_refl _ _ | exact but_drew (but_refl _ _) _ | exact but_set (but_refl _ _) _ _ | exact but_set (but_drew (but_refl _ _) _) _ _ | exact but_drew (but_set (but_refl _ _) _ _) _) hk6)); have HW := hide1 hw6; obtain ⟨⟨p0, p1, p2, p3, p4, p5⟩, x0, x1, x2, x3, x4, x5⟩ := HBZ.out.facts; obtain ⟨c0, c1, c2, c3⟩ := hw6.cells; obtain ⟨z0, z1, z2, z3⟩ := hw6.free; have hb := hw6.lt; clear hk6 hw6; have S1 := hT)
          | (go_at_call 10; refine (HPC.out (k + 1) f b _ (by first | exact HW.out | exact HW.out.drew _ | exact HW.out.move _ | exact (HW.out.drew _).move _ | exact (HW.out.move _).drew _) (by omega) (by omega) (by omega)).mono ?_; rintro r w7 ⟨⟨p7, ⟨v7, rfl, u7, rfl, hkk⟩, hp7⟩, kq, eq, fq, j0, j1, hrel, hk7, hw7⟩; rw [HQ.out] at hp7 hrel; dsimp only at hp7 hrel; have hp7 := (hp7 rfl).symm; subst hp7; obtain ⟨hq1, hq2, hq3⟩ := hrel.1 rfl; have hq1 := hq1.symm; have hq3 := hq3.symm; subst hq1; subst hq2; subst hq3; rw [valOf_eq]; obtain ⟨a7, c7, e7⟩ := hkk.form; subst e7; have HKI := hide1 (KidsAt.mono (S' := fun d => w.heap.size < d) (fun _ _ _ _ h => h) (fun d h => by have h2 := h; have := HBZ.out.lt; simp [World.setCell] at h2; omega) _ _ _ hkk); have HBZ := hide1 (HBZ.out.but (KeptBut.trans (by first | exact but_refl _ _ | exact but_drew (but_refl _ _) _ | exact but_set (but_refl _ _) _ _ | exact but_set (but_drew (but_refl _ _) _) _ _ | exact but_drew (but_set (but_refl _ _) _ _) _) hk7) (by omega)); have HK := hide1 (HK.out.trans (KeptBut.trans (by first | exact but_refl _ _ | exact but_drew (but_refl _ _) _ | exact but_set (but_refl _ _) _ _ | exact but_set (but_drew (but_refl _ _) _) _ _ | exact but_drew (but_set (but_refl _ _) _ _) _) hk7)); have HW := hide1 hw7; obtain ⟨⟨p0, p1, p2, p3, p4, p5⟩, x0, x1, x2, x3, x4, x5⟩ := HBZ.out.facts; obtain ⟨c0, c1, c2, c3⟩ := hw7.cells; obtain ⟨z0, z1, z2, z3⟩ := hw7.free; have hb7 := hw7.lt; have hz7 := HBZ.out.lt; clear hkk hk7 hw7 hrel hp7)
          | (go_at_call 21; refine (took_yes T k1 0 f 41 b _ (by first | exact HW.out.keep ((Kept.refl _).alloc _ _) | exact HW.out) (by omega) hT HNX.out).mono ?_; rintro r w8 ⟨rfl, hk8, hw8⟩; have hkx := but_allocd hk8; have HBE := hide1 (BoxAt.but (BoxAt.new w7 _ _ _ _ _ _) hk8 (by omega)); have HKI := hide1 (KidsAt.mono (hkx.holds (S := fun d => w.heap.size < d) (by omega)) (fun _ h => h) _ _ _ HKI.out); have HK := hide1 (HK.out.trans hkx); have HW := hide1 hw8; have HBZ := hide1 (HBZ.out.but hkx (by omega)); obtain ⟨⟨q0, q1, q2, q3, q4, q5⟩, _⟩ := HBE.out.facts; obtain ⟨⟨p0, p1, p2, p3, p4, p5⟩, x0, x1, x2, x3, x4, x5⟩ := HBZ.out.facts; obtain ⟨c0, c1, c2, c3⟩ := hw8.cells; have hb8 := hw8.lt; clear hkx hk8 hw8)
          | go_quiet (fail))
        (try simp only [Exit.inBlock, Exit.then])
        refine bodyPost_ret (box_returns rfl _ _ w.heap.size _ _ _ _ _ _ rfl (BoxAt.set (by exact HBZ.out))) rfl ?_
        rw [HE.out]
        exact ⟨⟨_, ⟨_, rfl, _, rfl, KidsAt.mono (set6_holds (S := fun d => w.heap.size < d) (fun h => absurd h (by omega))) (fun d h => by omega) _ _ _ HKI.out⟩, fun _ => rfl⟩, k1 + 1, by omega, by omega, fun _ => rfl, fin_but HK.out (by omega), HW.out.fin (by omega)⟩
      · rw [if_neg hc] at hE
        have HE := hide1 hE
        have HNX := hide1 (next_not (T := T) (k := k1) (e := 0) hc)
        clear hE hc
        go_wp2_with (first
          | (go_at_call 39; refine (next_v T k 0 f 40 b _ (by first | exact HW.out | exact HW.out.drew _ | exact HW.out.move _ | exact (HW.out.drew _).move _ | exact (HW.out.move _).drew _) h0 hT true HN1.out).mono ?_; rintro r w6 ⟨rfl, hk6, hw6⟩; have HBZ := hide1 (HBZ.out.but (KeptBut.trans (by first | exact but_refl _ _ | exact but_drew (but_refl _ _) _ | exact but_set (but_refl _ _) _ _ | exact but_set (but_drew (but_refl _ _) _) _ _ | exact but_drew (but_set (but_refl _ _) _ _) _) hk6) (by omega)); have HK := hide1 (HK.out.trans (KeptBut.trans (by first | exact but_refl _ _ | exact but_drew (but_refl _ _) _ | exact but_set (but_refl _ _) _ _ | exact but_set (but_drew (but_refl _ _) _) _ _ | exact but_drew (but_set (but_refl _ _) _ _) _) hk6)); have HW := hide1 hw6; obtain ⟨⟨p0, p1, p2, p3, p4, p5⟩, x0, x1, x2, x3, x4, x5⟩ := HBZ.out.facts; obtain ⟨c0, c1, c2, c3⟩ := hw6.cells; obtain ⟨z0, z1, z2, z3⟩ := hw6.free; have hb := hw6.lt; clear hk6 hw6; have S1 := hT)
          | (go_at_call 10; refine (HPC.out (k + 1) f b _ (by first | exact HW.out | exact HW.out.drew _ | exact HW.out.move _ | exact (HW.out.drew _).move _ | exact (HW.out.move _).drew _) (by omega) (by omega) (by omega)).mono ?_; rintro r w7 ⟨⟨p7, ⟨v7, rfl, u7, rfl, hkk⟩, hp7⟩, kq, eq, fq, j0, j1, hrel, hk7, hw7⟩; rw [HQ.out] at hp7 hrel; dsimp only at hp7 hrel; have hp7 := (hp7 rfl).symm; subst hp7; obtain ⟨hq1, hq2, hq3⟩ := hrel.1 rfl; have hq1 := hq1.symm; have hq3 := hq3.symm; subst hq1; subst hq2; subst hq3; rw [valOf_eq]; obtain ⟨a7, c7, e7⟩ := hkk.form; subst e7; have HKI := hide1 (KidsAt.mono (S' := fun d => w.heap.size < d) (fun _ _ _ _ h => h) (fun d h => by have h2 := h; have := HBZ.out.lt; simp [World.setCell] at h2; omega) _ _ _ hkk); have HBZ := hide1 (HBZ.out.but (KeptBut.trans (by first | exact but_refl _ _ | exact but_drew (but_refl _ _) _ | exact but_set (but_refl _ _) _ _ | exact but_set (but_drew (but_refl _ _) _) _ _ | exact but_drew (but_set (but_refl _ _) _ _) _) hk7) (by omega)); have HK := hide1 (HK.out.trans (KeptBut.trans (by first | exact but_refl _ _ | exact but_drew (but_refl _ _) _ | exact but_set (but_refl _ _) _ _ | exact but_set (but_drew (but_refl _ _) _) _ _ | exact but_drew (but_set (but_refl _ _) _ _) _) hk7)); have HW := hide1 hw7; obtain ⟨⟨p0, p1, p2, p3, p4, p5⟩, x0, x1, x2, x3, x4, x5⟩ := HBZ.out.facts; obtain ⟨c0, c1, c2, c3⟩ := hw7.cells; obtain ⟨z0, z1, z2, z3⟩ := hw7.free; have hb7 := hw7.lt; have hz7 := HBZ.out.lt; clear hkk hk7 hw7 hrel hp7)
          | (go_at_call 21; refine (took_no T k1 0 f 41 b _ (by first | exact HW.out.keep ((Kept.refl _).alloc _ _) | exact HW.out) (by omega) hT HNX.out).mono ?_; rintro r w8 ⟨rfl, hk8, hw8⟩; have hkx := but_allocd hk8; have HBE := hide1 (BoxAt.but (BoxAt.new w7 _ _ _ _ _ _) hk8 (by omega)); have HKI := hide1 (KidsAt.mono (hkx.holds (S := fun d => w.heap.size < d) (by omega)) (fun _ h => h) _ _ _ HKI.out); have HK := hide1 (HK.out.trans hkx); have HW := hide1 hw8; have HBZ := hide1 (HBZ.out.but hkx (by omega)); obtain ⟨⟨q0, q1, q2, q3, q4, q5⟩, _⟩ := HBE.out.facts; obtain ⟨⟨p0, p1, p2, p3, p4, p5⟩, x0, x1, x2, x3, x4, x5⟩ := HBZ.out.facts; obtain ⟨c0, c1, c2, c3⟩ := hw8.cells; have hb8 := hw8.lt; clear hkx hk8 hw8)
          | (go_at_call 12; refine (dwrong_is T k1 0 f b _ HW.out (by omega) hT).mono ?_; rintro r w9 ⟨rfl, hk9, hw9⟩; have HBE := hide1 (HBE.out.but hk9 (by omega)); have HKI := hide1 (KidsAt.mono (hk9.holds (S := fun d => w.heap.size < d) (by omega)) (fun _ h => h) _ _ _ HKI.out); have HK := hide1 (HK.out.trans hk9); have HW := hide1 hw9; have HBZ := hide1 (HBZ.out.but hk9 (by omega)); obtain ⟨⟨q0, q1, q2, q3, q4, q5⟩, _⟩ := HBE.out.facts; obtain ⟨⟨p0, p1, p2, p3, p4, p5⟩, x0, x1, x2, x3, x4, x5⟩ := HBZ.out.facts; clear hk9 hw9)
          | go_quiet (fail))
        (try simp only [Exit.inBlock, Exit.then])
        refine bodyPost_ret (box_returns rfl _ _ w.heap.size _ _ _ _ _ _ rfl (BoxAt.set (by exact HBZ.out))) rfl ?_
        rw [HE.out]
        exact ⟨⟨_, ⟨_, rfl, _, rfl, KidsAt.mono (set6_holds (S := fun d => w.heap.size < d) (fun h => absurd h (by omega))) (fun d h => by omega) _ _ _ HKI.out⟩, fun h => absurd h (wrongS_ne _ _)⟩, k1, by omega, by omega, fun h => absurd h (wrongS_ne _ _), fin_but HK.out (by omega), HW.out.fin (by omega)⟩
    · have hk1 : k1 = T.size := hps.1 he1
      rw [if_neg (by rw [hk1, peek_end]; decide), hk1, wrong_stays he1] at hE
      have HE := hide1 hE
      clear hE hk1 hps
      go_wp2_with (first
        | (go_at_call 39; refine (next_v T k 0 f 40 b _ (by first | exact HW.out | exact HW.out.drew _ | exact HW.out.move _ | exact (HW.out.drew _).move _ | exact (HW.out.move _).drew _) h0 hT true HN1.out).mono ?_; rintro r w6 ⟨rfl, hk6, hw6⟩; have HBZ := hide1 (HBZ.out.but (KeptBut.trans (by first | exact but_refl _ _ | exact but_drew (but_refl _ _) _ | exact but_set (but_refl _ _) _ _ | exact but_set (but_drew (but_refl _ _) _) _ _ | exact but_drew (but_set (but_refl _ _) _ _) _) hk6) (by omega)); have HK := hide1 (HK.out.trans (KeptBut.trans (by first | exact but_refl _ _ | exact but_drew (but_refl _ _) _ | exact but_set (but_refl _ _) _ _ | exact but_set (but_drew (but_refl _ _) _) _ _ | exact but_drew (but_set (but_refl _ _) _ _) _) hk6)); have HW := hide1 hw6; obtain ⟨⟨p0, p1, p2, p3, p4, p5⟩, x0, x1, x2, x3, x4, x5⟩ := HBZ.out.facts; obtain ⟨c0, c1, c2, c3⟩ := hw6.cells; obtain ⟨z0, z1, z2, z3⟩ := hw6.free; have hb := hw6.lt; clear hk6 hw6; have S1 := hT)
        | (go_at_call 10; refine (HPC.out (k + 1) f b _ (by first | exact HW.out | exact HW.out.drew _ | exact HW.out.move _ | exact (HW.out.drew _).move _ | exact (HW.out.move _).drew _) (by omega) (by omega) (by omega)).mono ?_; rintro r w7 ⟨⟨p7, ⟨v7, rfl, u7, rfl, hkk⟩, hp7⟩, kq, eq, fq, j0, j1, hrel, hk7, hw7⟩; rw [HQ.out] at hp7 hrel; dsimp only at hp7 hrel; have HNX := hide1 ((hrel.2 he1).next he1).2; have HWR := hide1 ((hrel.2 he1).wrong he1); rw [valOf_eq]; obtain ⟨a7, c7, e7⟩ := hkk.form; subst e7; have HKI := hide1 (KidsAt.mono (S' := fun d => w.heap.size < d) (fun _ _ _ _ h => h) (fun d h => by have h2 := h; have := HBZ.out.lt; simp [World.setCell] at h2; omega) _ _ _ hkk); have HBZ := hide1 (HBZ.out.but (KeptBut.trans (by first | exact but_refl _ _ | exact but_drew (but_refl _ _) _ | exact but_set (but_refl _ _) _ _ | exact but_set (but_drew (but_refl _ _) _) _ _ | exact but_drew (but_set (but_refl _ _) _ _) _) hk7) (by omega)); have HK := hide1 (HK.out.trans (KeptBut.trans (by first | exact but_refl _ _ | exact but_drew (but_refl _ _) _ | exact but_set (but_refl _ _) _ _ | exact but_set (but_drew (but_refl _ _) _) _ _ | exact but_drew (but_set (but_refl _ _) _ _) _) hk7)); have HW := hide1 hw7; obtain ⟨⟨p0, p1, p2, p3, p4, p5⟩, x0, x1, x2, x3, x4, x5⟩ := HBZ.out.facts; obtain ⟨c0, c1, c2, c3⟩ := hw7.cells; obtain ⟨z0, z1, z2, z3⟩ := hw7.free; have hb7 := hw7.lt; have hz7 := HBZ.out.lt; clear hkk hk7 hw7 hrel hp7)
        | (go_at_call 21; refine (took_no T kq eq fq 41 b _ (by first | exact HW.out.keep ((Kept.refl _).alloc _ _) | exact HW.out) (by omega) hT HNX.out).mono ?_; rintro r w8 ⟨rfl, hk8, hw8⟩; have hkx := but_allocd hk8; have HBE := hide1 (BoxAt.but (BoxAt.new w7 _ _ _ _ _ _) hk8 (by omega)); have HKI := hide1 (KidsAt.mono (hkx.holds (S := fun d => w.heap.size < d) (by omega)) (fun _ h => h) _ _ _ HKI.out); have HK := hide1 (HK.out.trans hkx); have HW := hide1 hw8; have HBZ := hide1 (HBZ.out.but hkx (by omega)); obtain ⟨⟨q0, q1, q2, q3, q4, q5⟩, _⟩ := HBE.out.facts; obtain ⟨⟨p0, p1, p2, p3, p4, p5⟩, x0, x1, x2, x3, x4, x5⟩ := HBZ.out.facts; obtain ⟨c0, c1, c2, c3⟩ := hw8.cells; have hb8 := hw8.lt; clear hkx hk8 hw8)
        | (go_at_call 12; refine (dwrong_is T kq eq fq b _ HW.out (by omega) hT).mono ?_; rintro r w9 ⟨rfl, hk9, hw9⟩; have HBE := hide1 (HBE.out.but hk9 (by omega)); have HKI := hide1 (KidsAt.mono (hk9.holds (S := fun d => w.heap.size < d) (by omega)) (fun _ h => h) _ _ _ HKI.out); have HK := hide1 (HK.out.trans hk9); have HW := hide1 hw9; have HBZ := hide1 (HBZ.out.but hk9 (by omega)); obtain ⟨⟨q0, q1, q2, q3, q4, q5⟩, _⟩ := HBE.out.facts; obtain ⟨⟨p0, p1, p2, p3, p4, p5⟩, x0, x1, x2, x3, x4, x5⟩ := HBZ.out.facts; clear hk9 hw9)
        | go_quiet (fail))
      (try simp only [Exit.inBlock, Exit.then])
      refine bodyPost_ret (box_returns rfl _ _ w.heap.size _ _ _ _ _ _ rfl (BoxAt.set (by exact HBZ.out))) rfl ?_
      rw [HE.out]
      exact ⟨⟨_, ⟨_, rfl, _, rfl, KidsAt.mono (set6_holds (S := fun d => w.heap.size < d) (fun h => absurd h (by omega))) (fun d h => by omega) _ _ _ HKI.out⟩, fun h => absurd h he1⟩, kq, by omega, by omega, fun h => absurd h he1, fin_but HK.out (by omega), by have hx := HW.out; rw [HWR.out.1, HWR.out.2] at hx; exact hx.fin (by omega)⟩
  by_cases e91 : c = 91
  · have HN1 := hide1 (hno 40 e40)
    have HN2 := hide1 (hyes 91 (by decide) e91)
    have HE : Hid (atomA pat T (k, 0, f) = classA T (k, 0, f)) := by show _ = _; rw [HA.out, e91]; simp
    clear HA hyes hno e91 hst hr
    go_wp2_with (first
      | (go_at_call 39; have _g := S1; clear _g; refine (next_v T k 0 f 91 b _ (by first | exact HW.out | exact HW.out.drew _ | exact HW.out.move _ | exact (HW.out.drew _).move _ | exact (HW.out.move _).drew _) h0 hT true HN2.out).mono ?_; rintro r w6 ⟨rfl, hk6, hw6⟩; have HBZ := hide1 (HBZ.out.but (KeptBut.trans (by first | exact but_refl _ _ | exact but_drew (but_refl _ _) _ | exact but_set (but_refl _ _) _ _ | exact but_set (but_drew (but_refl _ _) _) _ _ | exact but_drew (but_set (but_refl _ _) _ _) _) hk6) (by omega)); have HK := hide1 (HK.out.trans (KeptBut.trans (by first | exact but_refl _ _ | exact but_drew (but_refl _ _) _ | exact but_set (but_refl _ _) _ _ | exact but_set (but_drew (but_refl _ _) _) _ _ | exact but_drew (but_set (but_refl _ _) _ _) _) hk6)); have HW := hide1 hw6; obtain ⟨⟨p0, p1, p2, p3, p4, p5⟩, x0, x1, x2, x3, x4, x5⟩ := HBZ.out.facts; obtain ⟨c0, c1, c2, c3⟩ := hw6.cells; obtain ⟨z0, z1, z2, z3⟩ := hw6.free; have hb := hw6.lt; clear hk6 hw6; have S2 := hT)
      | (go_at_call 39; refine (next_v T k 0 f 40 b _ (by first | exact HW.out | exact HW.out.drew _ | exact HW.out.move _ | exact (HW.out.drew _).move _ | exact (HW.out.move _).drew _) h0 hT false HN1.out).mono ?_; rintro r w6 ⟨rfl, hk6, hw6⟩; have HBZ := hide1 (HBZ.out.but (KeptBut.trans (by first | exact but_refl _ _ | exact but_drew (but_refl _ _) _ | exact but_set (but_refl _ _) _ _ | exact but_set (but_drew (but_refl _ _) _) _ _ | exact but_drew (but_set (but_refl _ _) _ _) _) hk6) (by omega)); have HK := hide1 (HK.out.trans (KeptBut.trans (by first | exact but_refl _ _ | exact but_drew (but_refl _ _) _ | exact but_set (but_refl _ _) _ _ | exact but_set (but_drew (but_refl _ _) _) _ _ | exact but_drew (but_set (but_refl _ _) _ _) _) hk6)); have HW := hide1 hw6; obtain ⟨⟨p0, p1, p2, p3, p4, p5⟩, x0, x1, x2, x3, x4, x5⟩ := HBZ.out.facts; obtain ⟨c0, c1, c2, c3⟩ := hw6.cells; obtain ⟨z0, z1, z2, z3⟩ := hw6.free; have hb := hw6.lt; clear hk6 hw6; have S1 := hT)
      | (go_at_call 54; refine (dclass_is T k f b _ (by first | exact HW.out | exact HW.out.drew _ | exact HW.out.move _ | exact (HW.out.drew _).move _ | exact (HW.out.move _).drew _) h0 h1 hT).mono ?_; rintro r w7 ⟨⟨p7, ⟨v7, rfl, u7, rfl, hkk⟩, hp7⟩, q2, j0, j1, j2, hk7, hw7⟩; rw [valOf_eq]; obtain ⟨a7, c7, e7⟩ := hkk.form; subst e7; have HKI := hide1 (KidsAt.mono (S' := fun d => w.heap.size < d) (fun _ _ _ _ h => h) (fun d h => by have h2 := h; have := HBZ.out.lt; (try simp at h2); omega) _ _ _ hkk); have HBZ := hide1 (HBZ.out.but (KeptBut.trans (by first | exact but_refl _ _ | exact but_drew (but_refl _ _) _ | exact but_set (but_refl _ _) _ _ | exact but_set (but_drew (but_refl _ _) _) _ _ | exact but_drew (but_set (but_refl _ _) _ _) _) hk7) (by omega)); have HK := hide1 (HK.out.trans (KeptBut.trans (by first | exact but_refl _ _ | exact but_drew (but_refl _ _) _ | exact but_set (but_refl _ _) _ _ | exact but_set (but_drew (but_refl _ _) _) _ _ | exact but_drew (but_set (but_refl _ _) _ _) _) hk7)); have HW := hide1 hw7; have HP7 := hide1 hp7; have HJ := hide1 j2; obtain ⟨⟨p0, p1, p2, p3, p4, p5⟩, x0, x1, x2, x3, x4, x5⟩ := HBZ.out.facts; have hb7 := hw7.lt; clear hkk hk7 hw7 hp7 j2)
      | go_quiet (fail))
    (try simp only [Exit.inBlock, Exit.then])
    refine bodyPost_ret (box_returns rfl _ _ w.heap.size _ _ _ _ _ _ rfl (BoxAt.set (by exact HBZ.out))) rfl ?_
    rw [HE.out]
    exact ⟨⟨_, ⟨_, rfl, _, rfl, KidsAt.mono (set6_holds (S := fun d => w.heap.size < d) (fun h => absurd h (by omega))) (fun d h => by omega) _ _ _ HKI.out⟩, HP7.out⟩, q2, by omega, by omega, HJ.out, fin_but HK.out (by omega), HW.out.fin (by omega)⟩
  by_cases e46 : c = 46
  · have HN1 := hide1 (hno 40 e40)
    have HN2 := hide1 (hno 91 e91)
    have HN3 := hide1 (hyes 46 (by decide) e46)
    have HE : Hid (atomA pat T (k, 0, f) = (rangeP 0 255, k + 1, 0, f)) := by show _ = _; rw [HA.out, e46]; simp
    clear HA hyes hno e46 hst hr
    go_wp2_with (first
      | (go_at_call 39; have _g := S2; clear _g; refine (next_v T k 0 f 46 b _ (by first | exact HW.out | exact HW.out.drew _ | exact HW.out.move _ | exact (HW.out.drew _).move _ | exact (HW.out.move _).drew _) h0 hT true HN3.out).mono ?_; rintro r w6 ⟨rfl, hk6, hw6⟩; have HBZ := hide1 (HBZ.out.but (KeptBut.trans (by first | exact but_refl _ _ | exact but_drew (but_refl _ _) _ | exact but_set (but_refl _ _) _ _ | exact but_set (but_drew (but_refl _ _) _) _ _ | exact but_drew (but_set (but_refl _ _) _ _) _) hk6) (by omega)); have HK := hide1 (HK.out.trans (KeptBut.trans (by first | exact but_refl _ _ | exact but_drew (but_refl _ _) _ | exact but_set (but_refl _ _) _ _ | exact but_set (but_drew (but_refl _ _) _) _ _ | exact but_drew (but_set (but_refl _ _) _ _) _) hk6)); have HW := hide1 hw6; obtain ⟨⟨p0, p1, p2, p3, p4, p5⟩, x0, x1, x2, x3, x4, x5⟩ := HBZ.out.facts; obtain ⟨c0, c1, c2, c3⟩ := hw6.cells; obtain ⟨z0, z1, z2, z3⟩ := hw6.free; have hb := hw6.lt; clear hk6 hw6; have S3 := hT)
      | (go_at_call 39; have _g := S1; clear _g; refine (next_v T k 0 f 91 b _ (by first | exact HW.out | exact HW.out.drew _ | exact HW.out.move _ | exact (HW.out.drew _).move _ | exact (HW.out.move _).drew _) h0 hT false HN2.out).mono ?_; rintro r w6 ⟨rfl, hk6, hw6⟩; have HBZ := hide1 (HBZ.out.but (KeptBut.trans (by first | exact but_refl _ _ | exact but_drew (but_refl _ _) _ | exact but_set (but_refl _ _) _ _ | exact but_set (but_drew (but_refl _ _) _) _ _ | exact but_drew (but_set (but_refl _ _) _ _) _) hk6) (by omega)); have HK := hide1 (HK.out.trans (KeptBut.trans (by first | exact but_refl _ _ | exact but_drew (but_refl _ _) _ | exact but_set (but_refl _ _) _ _ | exact but_set (but_drew (but_refl _ _) _) _ _ | exact but_drew (but_set (but_refl _ _) _ _) _) hk6)); have HW := hide1 hw6; obtain ⟨⟨p0, p1, p2, p3, p4, p5⟩, x0, x1, x2, x3, x4, x5⟩ := HBZ.out.facts; obtain ⟨c0, c1, c2, c3⟩ := hw6.cells; obtain ⟨z0, z1, z2, z3⟩ := hw6.free; have hb := hw6.lt; clear hk6 hw6; have S2 := hT)
      | (go_at_call 39; refine (next_v T k 0 f 40 b _ (by first | exact HW.out | exact HW.out.drew _ | exact HW.out.move _ | exact (HW.out.drew _).move _ | exact (HW.out.move _).drew _) h0 hT false HN1.out).mono ?_; rintro r w6 ⟨rfl, hk6, hw6⟩; have HBZ := hide1 (HBZ.out.but (KeptBut.trans (by first | exact but_refl _ _ | exact but_drew (but_refl _ _) _ | exact but_set (but_refl _ _) _ _ | exact but_set (but_drew (but_refl _ _) _) _ _ | exact but_drew (but_set (but_refl _ _) _ _) _) hk6) (by omega)); have HK := hide1 (HK.out.trans (KeptBut.trans (by first | exact but_refl _ _ | exact but_drew (but_refl _ _) _ | exact but_set (but_refl _ _) _ _ | exact but_set (but_drew (but_refl _ _) _) _ _ | exact but_drew (but_set (but_refl _ _) _ _) _) hk6)); have HW := hide1 hw6; obtain ⟨⟨p0, p1, p2, p3, p4, p5⟩, x0, x1, x2, x3, x4, x5⟩ := HBZ.out.facts; obtain ⟨c0, c1, c2, c3⟩ := hw6.cells; obtain ⟨z0, z1, z2, z3⟩ := hw6.free; have hb := hw6.lt; clear hk6 hw6; have S1 := hT)
      | go_quiet (fail))
    (try simp only [Exit.inBlock, Exit.then])
    refine bodyPost_ret (box_returns rfl _ _ w.heap.size _ _ _ _ _ _ rfl (BoxAt.set (by first | exact HBZ.out | exact HBZ.out.but (but_set (but_refl _ _) _ _) (by omega) | exact HBZ.out.but (but_set (but_drew (but_refl _ _) _) _ _) (by omega) | exact HBZ.out.keep ((Kept.refl _).alloc _ _)))) rfl ?_
    rw [HE.out]
    exact ⟨⟨rangeP (0) (255), ⟨_, rfl, .slice none 0 0, rfl, kids_nil _ _ _ _ _ _ rfl⟩, fun _ => rfl⟩, k + 1, by omega, by omega, fun _ => rfl, fin_but (HK.out.trans (by first | exact but_refl _ _ | exact but_drew (but_refl _ _) _ | exact but_set (but_refl _ _) _ _ | exact but_set (but_drew (but_refl _ _) _) _ _ | exact but_drew (but_set (but_refl _ _) _ _) _)) (by omega), DAt.fin (by first | exact HW.out | exact HW.out.drew _ | exact HW.out.move _ | exact (HW.out.drew _).move _ | exact (HW.out.move _).drew _) (by omega)⟩
  by_cases e92 : c = 92
  · have HN1 := hide1 (hno 40 e40)
    have HN2 := hide1 (hno 91 e91)
    have HN3 := hide1 (hno 46 e46)
    have HN4 := hide1 (hyes 92 (by decide) e92)
    have HE : Hid (atomA pat T (k, 0, f) = (rangeP (escapeS T (k, 0, f)).1 (escapeS T (k, 0, f)).1, (escapeS T (k, 0, f)).2)) := by show _ = _; rw [HA.out, if_pos e92]
    clear HA hyes hno e92 hst hr
    go_wp2_with (first
      | (go_at_call 39; have _g := S3; clear _g; refine (next_v T k 0 f 92 b _ (by first | exact HW.out | exact HW.out.drew _ | exact HW.out.move _ | exact (HW.out.drew _).move _ | exact (HW.out.move _).drew _) h0 hT true HN4.out).mono ?_; rintro r w6 ⟨rfl, hk6, hw6⟩; have HBZ := hide1 (HBZ.out.but (KeptBut.trans (by first | exact but_refl _ _ | exact but_drew (but_refl _ _) _ | exact but_set (but_refl _ _) _ _ | exact but_set (but_drew (but_refl _ _) _) _ _ | exact but_drew (but_set (but_refl _ _) _ _) _) hk6) (by omega)); have HK := hide1 (HK.out.trans (KeptBut.trans (by first | exact but_refl _ _ | exact but_drew (but_refl _ _) _ | exact but_set (but_refl _ _) _ _ | exact but_set (but_drew (but_refl _ _) _) _ _ | exact but_drew (but_set (but_refl _ _) _ _) _) hk6)); have HW := hide1 hw6; obtain ⟨⟨p0, p1, p2, p3, p4, p5⟩, x0, x1, x2, x3, x4, x5⟩ := HBZ.out.facts; obtain ⟨c0, c1, c2, c3⟩ := hw6.cells; obtain ⟨z0, z1, z2, z3⟩ := hw6.free; have hb := hw6.lt; clear hk6 hw6; have S4 := hT)
      | (go_at_call 39; have _g := S2; clear _g; refine (next_v T k 0 f 46 b _ (by first | exact HW.out | exact HW.out.drew _ | exact HW.out.move _ | exact (HW.out.drew _).move _ | exact (HW.out.move _).drew _) h0 hT false HN3.out).mono ?_; rintro r w6 ⟨rfl, hk6, hw6⟩; have HBZ := hide1 (HBZ.out.but (KeptBut.trans (by first | exact but_refl _ _ | exact but_drew (but_refl _ _) _ | exact but_set (but_refl _ _) _ _ | exact but_set (but_drew (but_refl _ _) _) _ _ | exact but_drew (but_set (but_refl _ _) _ _) _) hk6) (by omega)); have HK := hide1 (HK.out.trans (KeptBut.trans (by first | exact but_refl _ _ | exact but_drew (but_refl _ _) _ | exact but_set (but_refl _ _) _ _ | exact but_set (but_drew (but_refl _ _) _) _ _ | exact but_drew (but_set (but_refl _ _) _ _) _) hk6)); have HW := hide1 hw6; obtain ⟨⟨p0, p1, p2, p3, p4, p5⟩, x0, x1, x2, x3, x4, x5⟩ := HBZ.out.facts; obtain ⟨c0, c1, c2, c3⟩ := hw6.cells; obtain ⟨z0, z1, z2, z3⟩ := hw6.free; have hb := hw6.lt; clear hk6 hw6; have S3 := hT)
      | (go_at_call 39; have _g := S1; clear _g; refine (next_v T k 0 f 91 b _ (by first | exact HW.out | exact HW.out.drew _ | exact HW.out.move _ | exact (HW.out.drew _).move _ | exact (HW.out.move _).drew _) h0 hT false HN2.out).mono ?_; rintro r w6 ⟨rfl, hk6, hw6⟩; have HBZ := hide1 (HBZ.out.but (KeptBut.trans (by first | exact but_refl _ _ | exact but_drew (but_refl _ _) _ | exact but_set (but_refl _ _) _ _ | exact but_set (but_drew (but_refl _ _) _) _ _ | exact but_drew (but_set (but_refl _ _) _ _) _) hk6) (by omega)); have HK := hide1 (HK.out.trans (KeptBut.trans (by first | exact but_refl _ _ | exact but_drew (but_refl _ _) _ | exact but_set (but_refl _ _) _ _ | exact but_set (but_drew (but_refl _ _) _) _ _ | exact but_drew (but_set (but_refl _ _) _ _) _) hk6)); have HW := hide1 hw6; obtain ⟨⟨p0, p1, p2, p3, p4, p5⟩, x0, x1, x2, x3, x4, x5⟩ := HBZ.out.facts; obtain ⟨c0, c1, c2, c3⟩ := hw6.cells; obtain ⟨z0, z1, z2, z3⟩ := hw6.free; have hb := hw6.lt; clear hk6 hw6; have S2 := hT)
      | (go_at_call 39; refine (next_v T k 0 f 40 b _ (by first | exact HW.out | exact HW.out.drew _ | exact HW.out.move _ | exact (HW.out.drew _).move _ | exact (HW.out.move _).drew _) h0 hT false HN1.out).mono ?_; rintro r w6 ⟨rfl, hk6, hw6⟩; have HBZ := hide1 (HBZ.out.but (KeptBut.trans (by first | exact but_refl _ _ | exact but_drew (but_refl _ _) _ | exact but_set (but_refl _ _) _ _ | exact but_set (but_drew (but_refl _ _) _) _ _ | exact but_drew (but_set (but_refl _ _) _ _) _) hk6) (by omega)); have HK := hide1 (HK.out.trans (KeptBut.trans (by first | exact but_refl _ _ | exact but_drew (but_refl _ _) _ | exact but_set (but_refl _ _) _ _ | exact but_set (but_drew (but_refl _ _) _) _ _ | exact but_drew (but_set (but_refl _ _) _ _) _) hk6)); have HW := hide1 hw6; obtain ⟨⟨p0, p1, p2, p3, p4, p5⟩, x0, x1, x2, x3, x4, x5⟩ := HBZ.out.facts; obtain ⟨c0, c1, c2, c3⟩ := hw6.cells; obtain ⟨z0, z1, z2, z3⟩ := hw6.free; have hb := hw6.lt; clear hk6 hw6; have S1 := hT)
      | (go_at_call 55; refine (descape_is T k f b _ (by first | exact HW.out | exact HW.out.drew _ | exact HW.out.move _ | exact (HW.out.drew _).move _ | exact (HW.out.move _).drew _) h0 h1 hT).mono ?_; rintro r w6 ⟨⟨ch, rfl, i0, i1, i2⟩, q2, j0, j1, j2, hk6, hw6⟩; have HI := hide1 i2; have HJ := hide1 j2; have HBZ := hide1 (HBZ.out.but (KeptBut.trans (by first | exact but_refl _ _ | exact but_drew (but_refl _ _) _ | exact but_set (but_refl _ _) _ _ | exact but_set (but_drew (but_refl _ _) _) _ _ | exact but_drew (but_set (but_refl _ _) _ _) _) hk6) (by omega)); have HK := hide1 (HK.out.trans (KeptBut.trans (by first | exact but_refl _ _ | exact but_drew (but_refl _ _) _ | exact but_set (but_refl _ _) _ _ | exact but_set (but_drew (but_refl _ _) _) _ _ | exact but_drew (but_set (but_refl _ _) _ _) _) hk6)); have HW := hide1 hw6; obtain ⟨⟨p0, p1, p2, p3, p4, p5⟩, x0, x1, x2, x3, x4, x5⟩ := HBZ.out.facts; obtain ⟨c0, c1, c2, c3⟩ := hw6.cells; obtain ⟨z0, z1, z2, z3⟩ := hw6.free; have hb := hw6.lt; clear hk6 hw6; clear i2 j2)
      | go_quiet (fail))
    (try simp only [Exit.inBlock, Exit.then])
    refine bodyPost_ret (box_returns rfl _ _ w.heap.size _ _ _ _ _ _ rfl (BoxAt.set (by first | exact HBZ.out | exact HBZ.out.but (but_set (but_refl _ _) _ _) (by omega) | exact HBZ.out.but (but_set (but_drew (but_refl _ _) _) _ _) (by omega) | exact HBZ.out.keep ((Kept.refl _).alloc _ _)))) rfl ?_
    rw [HE.out]
    exact ⟨⟨rangeP ch ch, ⟨_, rfl, .slice none 0 0, rfl, kids_nil _ _ _ _ _ _ rfl⟩, fun h => by rw [HI.out h]⟩, q2, j0, j1, HJ.out, fin_but (HK.out.trans (by first | exact but_refl _ _ | exact but_drew (but_refl _ _) _ | exact but_set (but_refl _ _) _ _ | exact but_set (but_drew (but_refl _ _) _) _ _ | exact but_drew (but_set (but_refl _ _) _ _) _)) (by omega), DAt.fin (by first | exact HW.out | exact HW.out.drew _ | exact HW.out.move _ | exact (HW.out.drew _).move _ | exact (HW.out.move _).drew _) (by omega)⟩
  · have HN1 := hide1 (hno 40 e40)
    have HN2 := hide1 (hno 91 e91)
    have HN3 := hide1 (hno 46 e46)
    have HN4 := hide1 (hno 92 e92)
    have HPL := start_is c hby.1 hby.2 hst e40 e91 e46 e92
    have HE : Hid (atomA pat T (k, 0, f) = (rangeP c c, k + 1, 0, f)) := by show _ = _; rw [HA.out, if_neg e92, if_neg e91, if_neg e46, if_neg e40, HPL]; rfl
    clear HA hyes hno hst HPL
    go_wp2_with (first
      | (go_at_call 39; have _g := S3; clear _g; refine (next_v T k 0 f 92 b _ (by first | exact HW.out | exact HW.out.drew _ | exact HW.out.move _ | exact (HW.out.drew _).move _ | exact (HW.out.move _).drew _) h0 hT false HN4.out).mono ?_; rintro r w6 ⟨rfl, hk6, hw6⟩; have HBZ := hide1 (HBZ.out.but (KeptBut.trans (by first | exact but_refl _ _ | exact but_drew (but_refl _ _) _ | exact but_set (but_refl _ _) _ _ | exact but_set (but_drew (but_refl _ _) _) _ _ | exact but_drew (but_set (but_refl _ _) _ _) _) hk6) (by omega)); have HK := hide1 (HK.out.trans (KeptBut.trans (by first | exact but_refl _ _ | exact but_drew (but_refl _ _) _ | exact but_set (but_refl _ _) _ _ | exact but_set (but_drew (but_refl _ _) _) _ _ | exact but_drew (but_set (but_refl _ _) _ _) _) hk6)); have HW := hide1 hw6; obtain ⟨⟨p0, p1, p2, p3, p4, p5⟩, x0, x1, x2, x3, x4, x5⟩ := HBZ.out.facts; obtain ⟨c0, c1, c2, c3⟩ := hw6.cells; obtain ⟨z0, z1, z2, z3⟩ := hw6.free; have hb := hw6.lt; clear hk6 hw6; have S4 := hT)
      | (go_at_call 39; have _g := S2; clear _g; refine (next_v T k 0 f 46 b _ (by first | exact HW.out | exact HW.out.drew _ | exact HW.out.move _ | exact (HW.out.drew _).move _ | exact (HW.out.move _).drew _) h0 hT false HN3.out).mono ?_; rintro r w6 ⟨rfl, hk6, hw6⟩; have HBZ := hide1 (HBZ.out.but (KeptBut.trans (by first | exact but_refl _ _ | exact but_drew (but_refl _ _) _ | exact but_set (but_refl _ _) _ _ | exact but_set (but_drew (but_refl _ _) _) _ _ | exact but_drew (but_set (but_refl _ _) _ _) _) hk6) (by omega)); have HK := hide1 (HK.out.trans (KeptBut.trans (by first | exact but_refl _ _ | exact but_drew (but_refl _ _) _ | exact but_set (but_refl _ _) _ _ | exact but_set (but_drew (but_refl _ _) _) _ _ | exact but_drew (but_set (but_refl _ _) _ _) _) hk6)); have HW := hide1 hw6; obtain ⟨⟨p0, p1, p2, p3, p4, p5⟩, x0, x1, x2, x3, x4, x5⟩ := HBZ.out.facts; obtain ⟨c0, c1, c2, c3⟩ := hw6.cells; obtain ⟨z0, z1, z2, z3⟩ := hw6.free; have hb := hw6.lt; clear hk6 hw6; have S3 := hT)
      | (go_at_call 39; have _g := S1; clear _g; refine (next_v T k 0 f 91 b _ (by first | exact HW.out | exact HW.out.drew _ | exact HW.out.move _ | exact (HW.out.drew _).move _ | exact (HW.out.move _).drew _) h0 hT false HN2.out).mono ?_; rintro r w6 ⟨rfl, hk6, hw6⟩; have HBZ := hide1 (HBZ.out.but (KeptBut.trans (by first | exact but_refl _ _ | exact but_drew (but_refl _ _) _ | exact but_set (but_refl _ _) _ _ | exact but_set (but_drew (but_refl _ _) _) _ _ | exact but_drew (but_set (but_refl _ _) _ _) _) hk6) (by omega)); have HK := hide1 (HK.out.trans (KeptBut.trans (by first | exact but_refl _ _ | exact but_drew (but_refl _ _) _ | exact but_set (but_refl _ _) _ _ | exact but_set (but_drew (but_refl _ _) _) _ _ | exact but_drew (but_set (but_refl _ _) _ _) _) hk6)); have HW := hide1 hw6; obtain ⟨⟨p0, p1, p2, p3, p4, p5⟩, x0, x1, x2, x3, x4, x5⟩ := HBZ.out.facts; obtain ⟨c0, c1, c2, c3⟩ := hw6.cells; obtain ⟨z0, z1, z2, z3⟩ := hw6.free; have hb := hw6.lt; clear hk6 hw6; have S2 := hT)
      | (go_at_call 39; refine (next_v T k 0 f 40 b _ (by first | exact HW.out | exact HW.out.drew _ | exact HW.out.move _ | exact (HW.out.drew _).move _ | exact (HW.out.move _).drew _) h0 hT false HN1.out).mono ?_; rintro r w6 ⟨rfl, hk6, hw6⟩; have HBZ := hide1 (HBZ.out.but (KeptBut.trans (by first | exact but_refl _ _ | exact but_drew (but_refl _ _) _ | exact but_set (but_refl _ _) _ _ | exact but_set (but_drew (but_refl _ _) _) _ _ | exact but_drew (but_set (but_refl _ _) _ _) _) hk6) (by omega)); have HK := hide1 (HK.out.trans (KeptBut.trans (by first | exact but_refl _ _ | exact but_drew (but_refl _ _) _ | exact but_set (but_refl _ _) _ _ | exact but_set (but_drew (but_refl _ _) _) _ _ | exact but_drew (but_set (but_refl _ _) _ _) _) hk6)); have HW := hide1 hw6; obtain ⟨⟨p0, p1, p2, p3, p4, p5⟩, x0, x1, x2, x3, x4, x5⟩ := HBZ.out.facts; obtain ⟨c0, c1, c2, c3⟩ := hw6.cells; obtain ⟨z0, z1, z2, z3⟩ := hw6.free; have hb := hw6.lt; clear hk6 hw6; have S1 := hT)
      | go_quiet (fail))
    (try simp only [Exit.inBlock, Exit.then])
    refine bodyPost_ret (box_returns rfl _ _ w.heap.size _ _ _ _ _ _ rfl (BoxAt.set (by first | exact HBZ.out | exact HBZ.out.but (but_set (but_refl _ _) _ _) (by omega) | exact HBZ.out.but (but_set (but_drew (but_refl _ _) _) _ _) (by omega) | exact HBZ.out.keep ((Kept.refl _).alloc _ _)))) rfl ?_
    rw [HE.out]
    exact ⟨⟨rangeP (c) (c), ⟨_, rfl, .slice none 0 0, rfl, kids_nil _ _ _ _ _ _ rfl⟩, fun _ => rfl⟩, k + 1, by omega, by omega, fun _ => rfl, fin_but (HK.out.trans (by first | exact but_refl _ _ | exact but_drew (but_refl _ _) _ | exact but_set (but_refl _ _) _ _ | exact but_set (but_drew (but_refl _ _) _) _ _ | exact but_drew (but_set (but_refl _ _) _ _) _)) (by omega), DAt.fin (by first | exact HW.out | exact HW.out.drew _ | exact HW.out.move _ | exact (HW.out.drew _).move _ | exact (HW.out.move _).drew _) (by omega)⟩

end Ex
end Go.Proofs.YtnchmhginmaliaaGreatDoor
namespace Go.Proofs.YtnchmhginmaliaaGreatDoor
open Go.RowKit
attribute [local go_sem] Oper.semAt_some
namespace Ex

set_option linter.unusedSimpArgs false in
set_option maxRecDepth 100000 in
set_option maxHeartbeats 4000000 in
theorem rplain_q (c : Int) (w : World) (h0 : 0 ≤ c) (h1 : c ≤ 255) (v : Bool) (hv : plainP c = v) : Calls Tryz.prog 35 #[.int .u8 c] w fun e w' => e = .returned (.bool v) ∧ ∃ m, w' = w.drewN m := by
  subst hv
  have HA := hide1 (amongS c h0 h1).1
  have HPL : Hid (plainP c = (printedP c && !inS signsS c)) := rfl
  obtain ⟨pr, hpr⟩ : ∃ b, printedP c = b := ⟨_, rfl⟩
  obtain ⟨si, hsi⟩ : ∃ b, inS signsS c = b := ⟨_, rfl⟩
  have HPR := hide1 hpr
  rw [hsi] at HA HPL
  rw [hpr] at HPL
  rw [HPL.out]
  clear hpr hsi
  have hsz : signsS.size ≤ 1000 := by decide
  go_enter Tryz.func35, Tryz.ntmps35
  cases pr with
  | true =>
    go_wp2_with (first
      | (go_at_call 53; refine (printable_is _ _).mono ?_; rintro e w6 ⟨rfl, rfl⟩; rw [HPR.out])
      | (go_at_call 36; refine (among_q c signsS _ hsz si HA.out).mono ?_; rintro e w7 ⟨rfl, m, rfl⟩))
    go_ret
    exact ⟨rfl, _, rfl⟩
  | false =>
    go_wp2_with (first
      | (go_at_call 53; refine (printable_is _ _).mono ?_; rintro e w6 ⟨rfl, rfl⟩; rw [HPR.out]))
    go_ret
    exact ⟨rfl, 0, rfl⟩
def timS : ByteArray := ⟨#[42, 43, 63, 123]⟩
theorem tim_is (c : Int) (h0 : 0 ≤ c) (h1 : c ≤ 255) : amongP (strI timS) c = true ↔ c = 42 ∨ c = 43 ∨ c = 63 ∨ c = 123 := by
  have h : ∀ k : Fin 256, amongP (strI timS) (k.val : Int) = true ↔ k.val = 42 ∨ k.val = 43 ∨ k.val = 63 ∨ k.val = 123 := by decide +kernel
  have := h ⟨c.toNat, by omega⟩
  simp only [] at this
  rw [show ((c.toNat : Nat) : Int) = c by omega] at this
  rw [this]
  omega
theorem start_no {c : Int} (h : startB c = false) : c ≠ 92 ∧ c ≠ 91 ∧ c ≠ 46 ∧ c ≠ 40 ∧ plainP c = false := by
  refine ⟨?_, ?_, ?_, ?_, ?_⟩
  · rintro rfl; exact absurd h (by decide)
  · rintro rfl; exact absurd h (by decide)
  · rintro rfl; exact absurd h (by decide)
  · rintro rfl; exact absurd h (by decide)
  · unfold startB at h
    cases hp : plainP c with
    | true => rw [hp] at h; simp at h
    | false => rfl
theorem start_row {c : Int} (h : startB c = true) : c ≠ 124 ∧ c ≠ 41 := by
  refine ⟨?_, ?_⟩
  · rintro rfl; exact absurd h (by decide)
  · rintro rfl; exact absurd h (by decide)
/-- Where the atoms of a row stand. -/
def RwInv (pat : Int × Int × Int → Pat × Int × Int × Int) (T : ByteArray) (k f : Int) (l : List Pat) (k2 : Int) : Prop :=
  k + (l.length : Int) ≤ k2 ∧ ∀ N, rowG (itemA pat T) T (l.length + N) [] (k, 0, f) = rowG (itemA pat T) T N l (k2, 0, f)
theorem rowS_eq (pat : Int × Int × Int → Pat × Int × Int × Int) (T : ByteArray) (k f : Int) : rowS (itemA pat T) T (k, 0, f) = (oneOf 2 (rowG (itemA pat T) T 4097 [] (k, 0, f)).1, (rowG (itemA pat T) T 4097 [] (k, 0, f)).2) := rfl
theorem RwInv.good {pat : Int × Int × Int → Pat × Int × Int × Int} {T : ByteArray} {k f : Int} {l : List Pat} {k2 k4 : Int} {q : Pat} (h : RwInv pat T k f l k2) (hlt : k2 < T.size) (hst : startB (peekP T k2) = true) (hm : itemA pat T (k2, 0, f) = (q, k4, 0, f)) (h4 : k2 < k4) : RwInv pat T k f (l ++ [q]) k4 := by
  refine ⟨by have := h.1; simp; omega, fun N => ?_⟩
  rw [List.length_append, List.length_singleton, show l.length + 1 + N = l.length + (N + 1) by omega, h.2, rowG, if_pos ⟨hlt, (start_row hst).1, (start_row hst).2⟩, hm]
theorem RwInv.bad {pat : Int × Int × Int → Pat × Int × Int × Int} {T : ByteArray} {k f : Int} {l : List Pat} {k2 e4 f4 : Int} (h : RwInv pat T k f l k2) (h0 : 0 ≤ k) (hT : T.size ≤ 4096) (hlt : k2 < T.size) (hst : peekP T k2 ≠ 124 ∧ peekP T k2 ≠ 41) (hm : (itemA pat T (k2, 0, f)).2 = ((T.size : Int), e4, f4)) : (rowS (itemA pat T) T (k, 0, f)).2 = ((T.size : Int), e4, f4) := by
  have hl := h.1
  rw [rowS_eq, show 4097 = l.length + (4096 - l.length + 1) by omega, h.2, rowG, if_pos ⟨hlt, hst.1, hst.2⟩, hm, rowG_bad]
theorem RwInv.stop {pat : Int × Int × Int → Pat × Int × Int × Int} {T : ByteArray} {k f : Int} {l : List Pat} {k2 : Int} (h : RwInv pat T k f l k2) (h0 : 0 ≤ k) (hT : T.size ≤ 4096) (h2 : k2 ≤ T.size) (hg : ¬ rowGo T k2) : rowS (itemA pat T) T (k, 0, f) = (oneOf 2 l, k2, 0, f) := by
  have hl := h.1
  have e1 : ∀ M, rowG (itemA pat T) T M l (k2, 0, f) = (l, k2, 0, f) := fun M => by
    cases M with
    | zero => rfl
    | succ M => rw [rowG, if_neg hg]
  rw [rowS_eq, show 4097 = l.length + (4097 - l.length) by omega, h.2, e1]
/-- An atom that is none. -/
theorem item_odd {pat : Int × Int × Int → Pat × Int × Int × Int} {T : ByteArray} {k2 f : Int} (hlt : k2 < T.size) (hs : startB (peekP T k2) = false) : (itemA pat T (k2, 0, f)).2 = ((T.size : Int), 22, k2) := by
  obtain ⟨h1, h2, h3, h4, h5⟩ := start_no hs
  have e : atomA pat T (k2, 0, f) = (zeroP, (T.size : Int), 22, k2) := by
    unfold atomA
    dsimp only
    rw [if_neg h1, if_neg h2, if_neg h3, if_neg h4, h5]
    have e2 : wrongS T (k2, 0, f) = ((T.size : Int), 22, k2) := by
      unfold wrongS failS failE failF wrongC
      dsimp only
      rw [if_pos rfl, if_pos rfl, if_neg (by omega)]
    rw [e2]
    rfl
  unfold itemA timesS
  rw [e]
  dsimp only
  rw [timesG_bad]
/-- What stands at the end of a row. -/
theorem row_end {pat : Int × Int × Int → Pat × Int × Int × Int} {T : ByteArray} {k f : Int} {l : List Pat} {k2 : Int} (h : RwInv pat T k f l k2) (h0 : 0 ≤ k) (hT : T.size ≤ 4096) (h2 : k2 ≤ T.size) (hx : ¬ k2 < T.size ∨ startB (peekP T k2) = false) : RowRel T (rowS (itemA pat T) T (k, 0, f)).2 k2 0 f ∧ ((rowS (itemA pat T) T (k, 0, f)).2.2.1 = 0 → oneOf 2 l = (rowS (itemA pat T) T (k, 0, f)).1) := by
  by_cases hg : rowGo T k2
  · have hs : startB (peekP T k2) = false := by
      rcases hx with hx | hx
      · exact absurd hg.1 hx
      · exact hx
    have e := h.bad h0 hT hg.1 ⟨hg.2.1, hg.2.2⟩ (item_odd hg.1 hs)
    rw [e]
    exact ⟨⟨fun h => absurd h (show ¬ (22 : Int) = 0 by decide), fun _ => .inr ⟨rfl, rfl, rfl, hg.1, hg.2.1, hg.2.2⟩⟩, fun h => absurd h (show ¬ (22 : Int) = 0 by decide)⟩
  · rw [h.stop h0 hT h2 hg]
    exact ⟨⟨fun _ => ⟨rfl, rfl, rfl⟩, fun h => absurd rfl h⟩, fun _ => rfl⟩
/-- Where the times of an atom stand. -/
def TmInv (T : ByteArray) (q0 : Pat) (k3 f : Int) (q : Pat) (k1 : Int) : Prop := ∃ j : Nat, k3 + (j : Int) ≤ k1 ∧ ∀ N, timesG T (j + N) q0 (k3, 0, f) = timesG T N q (k1, 0, f)
theorem TmInv.start (T : ByteArray) (q0 : Pat) (k3 f : Int) : TmInv T q0 k3 f q0 k3 := ⟨0, by omega, fun N => by rw [Nat.zero_add]⟩
theorem TmInv.step {T : ByteArray} {q0 q q' : Pat} {k3 f k1 k' : Int} (h : TmInv T q0 k3 f q k1) (hlt : k1 < k') (hs : ∀ N, timesG T (N + 1) q (k1, 0, f) = timesG T N q' (k', 0, f)) : TmInv T q0 k3 f q' k' := by
  obtain ⟨j, h1, h2⟩ := h
  exact ⟨j + 1, by omega, fun N => by rw [show j + 1 + N = j + (N + 1) by omega, h2, hs]⟩
theorem TmInv.stop {T : ByteArray} {q0 q : Pat} {k3 f k1 : Int} (h : TmInv T q0 k3 f q k1) (h0 : 0 ≤ k3) (hT : T.size ≤ 4096) (h1 : k1 ≤ T.size) (hc : peekP T k1 ≠ 42 ∧ peekP T k1 ≠ 43 ∧ peekP T k1 ≠ 63 ∧ peekP T k1 ≠ 123) : timesS T q0 (k3, 0, f) = (q, k1, 0, f) := by
  obtain ⟨j, h2, h3⟩ := h
  have e : ∀ N, timesG T N q (k1, 0, f) = (q, k1, 0, f) := fun N => by
    cases N with
    | zero => rfl
    | succ N => rw [timesG, if_neg hc.1, if_neg hc.2.1, if_neg hc.2.2.1, if_neg hc.2.2.2]
  unfold timesS
  rw [show 4097 = j + (4097 - j) by omega, h3, e]
theorem TmInv.bad {T : ByteArray} {q0 q q' : Pat} {k3 f k1 e' f' : Int} (h : TmInv T q0 k3 f q k1) (h0 : 0 ≤ k3) (hT : T.size ≤ 4096) (h1 : k1 ≤ T.size) (hs : ∀ N, timesG T (N + 1) q (k1, 0, f) = timesG T N q' ((T.size : Int), e', f')) : (timesS T q0 (k3, 0, f)).2 = ((T.size : Int), e', f') := by
  obtain ⟨j, h2, h3⟩ := h
  unfold timesS
  rw [show 4097 = j + (4096 - j + 1) by omega, h3, hs, timesG_bad]

end Ex
end Go.Proofs.YtnchmhginmaliaaGreatDoor
