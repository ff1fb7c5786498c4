import Derived.Test.YtbnchnlogikecaaGreatDoorMExPat
namespace Go.Proofs.YtbnchnlogikecaaGreatDoor
open Go.RowKit
attribute [local go_sem] Oper.semAt_some
namespace Ex

/-- Behind the first number: the second one, and the state. -/
def bracesM (T : ByteArray) (a : Int × Int × Int × Int) : Int × Int × Int × Int :=
  if peekP T a.2.1 = 44 then (if peekP T (a.2.1 + 1) = 125 then (-1, a.2.1 + 1, a.2.2) else numberS T (a.2.1 + 1, a.2.2)) else a
def bracesZ (T : ByteArray) (n y : Int) (m : Int × Int × Int × Int) : Int × Int × Int × Int × Int :=
  if peekP T m.2.1 = 125 then (n, m.1, if timesP n m.1 then (m.2.1 + 1, m.2.2) else failS T (m.2.1 + 1, m.2.2) 24 y) else (0, 0, wrongS T m.2)
def bracesS (T : ByteArray) (s : Int × Int × Int) : Int × Int × Int × Int × Int := bracesZ T (numberS T (s.1 + 1, s.2)).1 s.1 (bracesM T (numberS T (s.1 + 1, s.2)))
theorem bracesM_ok {T : ByteArray} {a : Int × Int × Int × Int} (h : OkS T a.2) : OkS T (bracesM T a).2 ∧ a.2.1 ≤ (bracesM T a).2.1 := by
  unfold bracesM
  split
  · rename_i h1
    have h2 := take_ok (T := T) (s := a.2) (c := 44) (by decide) h1
    split
    · exact ⟨h2, by show a.2.1 ≤ a.2.1 + 1; omega⟩
    · have := number_ok h2
      exact ⟨this.1, by have := this.2; show a.2.1 ≤ _; dsimp only at this; omega⟩
  · exact ⟨h, Int.le_refl _⟩
theorem bracesZ_ok {T : ByteArray} {n y : Int} {m : Int × Int × Int × Int} (h : OkS T m.2) : OkS T (bracesZ T n y m).2.2 ∧ m.2.1 ≤ (bracesZ T n y m).2.2.1 := by
  unfold bracesZ
  split
  · rename_i h1
    have h2 := take_ok (T := T) (s := m.2) (c := 125) (by decide) h1
    split
    · exact ⟨h2, by show m.2.1 ≤ m.2.1 + 1; omega⟩
    · exact ⟨fail_ok _ _ _ _, h.2⟩
  · exact ⟨wrong_ok _ _, h.2⟩
theorem braces_ok {T : ByteArray} {s : Int × Int × Int} (h : OkS T (s.1 + 1, s.2)) : OkS T (bracesS T s).2.2 ∧ s.1 < (bracesS T s).2.2.1 := by
  have h1 := number_ok h
  have h2 := bracesM_ok h1.1
  have h3 := bracesZ_ok (n := (numberS T (s.1 + 1, s.2)).1) (y := s.1) h2.1
  refine ⟨h3.1, ?_⟩
  have := h1.2
  have := h2.2
  have := h3.2
  unfold bracesS
  dsimp only at *
  omega

set_option linter.unusedSimpArgs false in
set_option maxRecDepth 100000 in
set_option maxHeartbeats 4000000 in
theorem braces_is (T : ByteArray) (k e f : Int) (b : Nat) (w : World) (h : RAt w b T k e f) (h0 : 0 ≤ k) (h1 : k < T.size) (hT : T.size ≤ 4096) :
    Calls Tryz.prog 139 #[.pointer (some ⟨b, 0, none⟩)] w fun r w' => r = .returned (.tuple #[.int .i64 (bracesS T (k, e, f)).1, .int .i64 (bracesS T (k, e, f)).2.1]) ∧ RGave b w T (bracesS T (k, e, f)).2.2 w' := by
  have HR := hide1 h
  obtain ⟨c0, c1, c2, c3, c4⟩ := h.cells
  obtain ⟨z0, z1, z2, z3, z4⟩ := h.free
  have hb := h.lt
  have gT : (T.size : Int) ≤ 4096 := by omega
  have ok0 : OkS T (k + 1, e, f) := ⟨by show 0 ≤ k + 1; omega, by show k + 1 ≤ _; omega⟩
  have hok := number_ok ok0
  have HZ : Hid (bracesS T (k, e, f) = bracesZ T (numberS T (k + 1, e, f)).1 k (bracesM T (numberS T (k + 1, e, f)))) := rfl
  rw [HZ.out]
  obtain ⟨⟨a, k1, e1, f1⟩, hA⟩ : ∃ x, numberS T (k + 1, e, f) = x := ⟨_, rfl⟩
  have okm := bracesM_ok (a := (a, k1, e1, f1)) (by rw [← hA]; exact hok.1)
  have HM : Hid (bracesM T (a, k1, e1, f1) = if peekP T k1 = 44 then (if peekP T (k1 + 1) = 125 then (-1, k1 + 1, e1, f1) else numberS T (k1 + 1, e1, f1)) else (a, k1, e1, f1)) := rfl
  rw [hA] at hok ⊢
  have HA := hide1 hA
  obtain ⟨ok1, _⟩ := hok
  obtain ⟨⟨m, k2, e2, f2⟩, hB⟩ : ∃ x, bracesM T (a, k1, e1, f1) = x := ⟨_, rfl⟩
  rw [hB] at okm HM ⊢
  obtain ⟨ok2, _⟩ := okm
  have HZ2 : Hid (bracesZ T a k (m, k2, e2, f2) = if peekP T k2 = 125 then (a, m, if timesP a m then (k2 + 1, e2, f2) else failS T (k2 + 1, e2, f2) 24 k) else (0, 0, wrongS T (k2, e2, f2))) := rfl
  have okz := bracesZ_ok (n := a) (y := k) (m := (m, k2, e2, f2)) ok2
  dsimp only at HZ ⊢
  obtain ⟨⟨r1, r2, k3, e3, f3⟩, hC⟩ : ∃ x, bracesZ T a k (m, k2, e2, f2) = x := ⟨_, rfl⟩
  rw [hC] at HZ2 okz ⊢
  obtain ⟨ok3, _⟩ := okz
  have HOK3 := hide1 ok3
  unfold OkS at ok0 ok1 ok2
  dsimp only at ok0 ok1 ok2 ⊢
  clear hA hB hC h ok3 HZ
  -- the walk up to the last take: its state is (k2, e2, f2) in either case
  have HT2 : Hid (takeK T k2 125 = if peekP T k2 = 125 then k2 + 1 else k2) := rfl
  go_enter Tryz.func139, Tryz.ntmps139
  by_cases hc1 : peekP T k1 = 44
  · have okc := take_ok (T := T) (s := (k1, e1, f1)) (c := 44) (by decide) hc1
    have HTK1 : Hid (takeK T k1 44 = k1 + 1) := by show _ = _; rw [takeK, if_pos hc1]
    have HTB1 : Hid ((peekP T k1 == 44) = true) := by show _ = _; rw [hc1]; rfl
    unfold OkS at okc
    dsimp only at okc
    by_cases hc2 : peekP T (k1 + 1) = 125
    · have HM2 := HM.out
      rw [if_pos hc1, if_pos hc2] at HM2
      simp only [Prod.mk.injEq] at HM2
      obtain ⟨g1, g2, g3, g4⟩ := HM2
      have g3' := g3.symm
      have g4' := g4.symm
      clear g3 g4
      subst g1 g2 g3' g4'
      have HPK := hide1 hc2
      clear hc1 hc2 HM
      by_cases hd : peekP T (k1 + 1) = 125
      · have HTK2 : Hid (takeK T (k1 + 1) 125 = k1 + 1 + 1) := by show _ = _; rw [takeK, if_pos hd]
        have HTB2 : Hid ((peekP T (k1 + 1) == 125) = true) := by show _ = _; rw [hd]; rfl
        have HZ3 := HZ2.out
        rw [if_pos hd] at HZ3
        have okd := take_ok (T := T) (s := (k1 + 1, e1, f1)) (c := 125) (by decide) hd
        by_cases ht : timesP a (-1) = true
        · have HTI := hide1 ht
          rw [if_pos ht] at HZ3
          have HZ4 := hide1 HZ3
          clear ht hd HZ3 HZ2
          go_wp2_with (first
            | (have _g := HW2; clear _g; go_at_call 133; refine (take_is T (k1 + 1) e1 f1 125 b _ (by exact HW2.out) ok2.1 ok2.2 hT).mono ?_; rintro r w9 ⟨rfl, hk9, hw9⟩; rw [HTK2.out] at hw9; rw [HTB2.out]; have HK4 := hide1 (HK2.out.trans (by first | exact hk9 | exact but_undrew hk9)); have HW4 := hide1 hw9; clear hk9 hw9)
            | (go_at_call 144; refine (number_is T (k + 1) e f b _ (HR.out.move _) ok0.1 ok0.2 hT).mono ?_; rintro r w6 ⟨rfl, hg⟩; rw [HA.out] at hg ⊢; obtain ⟨_, hk6, hw6⟩ := hg; have HK1 := hide1 ((setCell_but _ _ _ _).trans hk6); have HW1 := hide1 hw6; clear hk6 hw6)
            | (go_at_call 133; refine (take_is T k1 e1 f1 44 b _ (by exact HW1.out) ok1.1 ok1.2 hT).mono ?_; rintro r w7 ⟨rfl, hk7, hw7⟩; rw [HTK1.out] at hw7; rw [HTB1.out]; have HK2 := hide1 (HK1.out.trans hk7); have HW2 := hide1 hw7; clear hk7 hw7)
            | (go_at_call 135; refine (peek_is T (k1 + 1) e1 f1 b _ (by exact HW2.out) okc.1 okc.2 hT).mono ?_; rintro r w8 ⟨rfl, nd, rfl⟩; rw [HPK.out])
            | (go_at_call 111; refine (times_is _ _ _).mono ?_; rintro r w10 ⟨rfl, hk10⟩; rw [HTI.out]; have HK5 := hide1 (HK4.out.trans (hk10.but b)); have HW5 := hide1 (HW4.out.keep hk10); clear hk10))
          go_ret2
          have HZ5 := HZ4.out
          simp only [Prod.mk.injEq] at HZ5
          obtain ⟨g1, g2, g3, g4, g5⟩ := HZ5
          subst g1 g2 g3 g4 g5
          exact ⟨rfl, HOK3.out, HK5.out, HW5.out⟩
        · have ht' : timesP a (-1) = false := by simpa using ht
          have HTI := hide1 ht'
          rw [if_neg ht] at HZ3
          have HZ4 := hide1 HZ3
          clear ht ht' hd HZ3 HZ2
          go_wp2_with (first
            | (have _g := HW2; clear _g; go_at_call 133; refine (take_is T (k1 + 1) e1 f1 125 b _ (by exact HW2.out) ok2.1 ok2.2 hT).mono ?_; rintro r w9 ⟨rfl, hk9, hw9⟩; rw [HTK2.out] at hw9; rw [HTB2.out]; have HK4 := hide1 (HK2.out.trans (by first | exact hk9 | exact but_undrew hk9)); have HW4 := hide1 hw9; clear hk9 hw9)
            | (go_at_call 144; refine (number_is T (k + 1) e f b _ (HR.out.move _) ok0.1 ok0.2 hT).mono ?_; rintro r w6 ⟨rfl, hg⟩; rw [HA.out] at hg ⊢; obtain ⟨_, hk6, hw6⟩ := hg; have HK1 := hide1 ((setCell_but _ _ _ _).trans hk6); have HW1 := hide1 hw6; clear hk6 hw6)
            | (go_at_call 133; refine (take_is T k1 e1 f1 44 b _ (by exact HW1.out) ok1.1 ok1.2 hT).mono ?_; rintro r w7 ⟨rfl, hk7, hw7⟩; rw [HTK1.out] at hw7; rw [HTB1.out]; have HK2 := hide1 (HK1.out.trans hk7); have HW2 := hide1 hw7; clear hk7 hw7)
            | (go_at_call 135; refine (peek_is T (k1 + 1) e1 f1 b _ (by exact HW2.out) okc.1 okc.2 hT).mono ?_; rintro r w8 ⟨rfl, nd, rfl⟩; rw [HPK.out])
            | (go_at_call 111; refine (times_is _ _ _).mono ?_; rintro r w10 ⟨rfl, hk10⟩; rw [HTI.out]; have HK5 := hide1 (HK4.out.trans (hk10.but b)); have HW5 := hide1 (HW4.out.keep hk10); clear hk10)
            | (go_at_call 134; refine (fail_is T _ e1 f1 _ _ b _ (by exact HW5.out)).mono ?_; rintro r w11 ⟨rfl, hk11, hw11⟩; have HK6 := hide1 (HK5.out.trans hk11); have HW6 := hide1 hw11; clear hk11 hw11))
          go_ret2
          unfold failS at HZ4
          have HZ5 := HZ4.out
          simp only [Prod.mk.injEq] at HZ5
          obtain ⟨g1, g2, g3, g4, g5⟩ := HZ5
          subst g1 g2 g3 g4 g5
          exact ⟨rfl, HOK3.out, HK6.out, HW6.out⟩
      · have HTK2 : Hid (takeK T (k1 + 1) 125 = k1 + 1) := by show _ = _; rw [takeK, if_neg hd]
        have HTB2 : Hid ((peekP T (k1 + 1) == 125) = false) := by show _ = _; simpa using hd
        have HZ3 := HZ2.out
        rw [if_neg hd] at HZ3
        have HZ4 := hide1 HZ3
        clear hd HZ3 HZ2
        go_wp2_with (first
          | (have _g := HW2; clear _g; go_at_call 133; refine (take_is T (k1 + 1) e1 f1 125 b _ (by exact HW2.out) ok2.1 ok2.2 hT).mono ?_; rintro r w9 ⟨rfl, hk9, hw9⟩; rw [HTK2.out] at hw9; rw [HTB2.out]; have HK4 := hide1 (HK2.out.trans (by first | exact hk9 | exact but_undrew hk9)); have HW4 := hide1 hw9; clear hk9 hw9)
          | (go_at_call 144; refine (number_is T (k + 1) e f b _ (HR.out.move _) ok0.1 ok0.2 hT).mono ?_; rintro r w6 ⟨rfl, hg⟩; rw [HA.out] at hg ⊢; obtain ⟨_, hk6, hw6⟩ := hg; have HK1 := hide1 ((setCell_but _ _ _ _).trans hk6); have HW1 := hide1 hw6; clear hk6 hw6)
          | (go_at_call 133; refine (take_is T k1 e1 f1 44 b _ (by exact HW1.out) ok1.1 ok1.2 hT).mono ?_; rintro r w7 ⟨rfl, hk7, hw7⟩; rw [HTK1.out] at hw7; rw [HTB1.out]; have HK2 := hide1 (HK1.out.trans hk7); have HW2 := hide1 hw7; clear hk7 hw7)
          | (go_at_call 135; refine (peek_is T (k1 + 1) e1 f1 b _ (by exact HW2.out) okc.1 okc.2 hT).mono ?_; rintro r w8 ⟨rfl, nd, rfl⟩; rw [HPK.out])
          | (go_at_call 131; refine (wrong_is T _ e1 f1 b _ (by exact HW4.out) hT).mono ?_; rintro r w11 ⟨rfl, hk11, hw11⟩; have HK6 := hide1 (HK4.out.trans hk11); have HW6 := hide1 hw11; clear hk11 hw11))
        go_ret2
        unfold wrongS failS at HZ4
        have HZ5 := HZ4.out
        simp only [Prod.mk.injEq] at HZ5
        obtain ⟨g1, g2, g3, g4, g5⟩ := HZ5
        subst g1 g2 g3 g4 g5
        exact ⟨rfl, HOK3.out, HK6.out, HW6.out⟩
    · have HM2 := HM.out
      rw [if_pos hc1, if_neg hc2] at HM2
      have HB2 := hide1 HM2.symm
      obtain ⟨c, hcc⟩ : ∃ c, peekP T (k1 + 1) = c := ⟨_, rfl⟩
      rw [hcc] at hc2
      have HPK := hide1 hcc
      clear hc1 hcc HM HM2
      by_cases hd : peekP T (k2) = 125
      · have HTK2 : Hid (takeK T (k2) 125 = k2 + 1) := by show _ = _; rw [takeK, if_pos hd]
        have HTB2 : Hid ((peekP T (k2) == 125) = true) := by show _ = _; rw [hd]; rfl
        have HZ3 := HZ2.out
        rw [if_pos hd] at HZ3
        have okd := take_ok (T := T) (s := (k2, e2, f2)) (c := 125) (by decide) hd
        by_cases ht : timesP a m = true
        · have HTI := hide1 ht
          rw [if_pos ht] at HZ3
          have HZ4 := hide1 HZ3
          clear ht hd HZ3 HZ2
          go_wp2_with (first
            | (have _g := HW3; clear _g; go_at_call 133; refine (take_is T (k2) e2 f2 125 b _ (by exact HW3.out) ok2.1 ok2.2 hT).mono ?_; rintro r w9 ⟨rfl, hk9, hw9⟩; rw [HTK2.out] at hw9; rw [HTB2.out]; have HK4 := hide1 (HK3.out.trans (by first | exact hk9 | exact but_undrew hk9)); have HW4 := hide1 hw9; clear hk9 hw9)
            | (go_at_call 144; have _g := HW2; clear _g; refine (number_is T (k1 + 1) e1 f1 b _ (by exact HW2.out) okc.1 okc.2 hT).mono ?_; rintro r w6 ⟨rfl, hg⟩; rw [HB2.out] at hg ⊢; obtain ⟨_, hk6, hw6⟩ := hg; have HK3 := hide1 (HK2.out.trans (but_undrew hk6)); have HW3 := hide1 hw6; clear hk6 hw6)
            | (go_at_call 144; refine (number_is T (k + 1) e f b _ (HR.out.move _) ok0.1 ok0.2 hT).mono ?_; rintro r w6 ⟨rfl, hg⟩; rw [HA.out] at hg ⊢; obtain ⟨_, hk6, hw6⟩ := hg; have HK1 := hide1 ((setCell_but _ _ _ _).trans hk6); have HW1 := hide1 hw6; clear hk6 hw6)
            | (go_at_call 133; refine (take_is T k1 e1 f1 44 b _ (by exact HW1.out) ok1.1 ok1.2 hT).mono ?_; rintro r w7 ⟨rfl, hk7, hw7⟩; rw [HTK1.out] at hw7; rw [HTB1.out]; have HK2 := hide1 (HK1.out.trans hk7); have HW2 := hide1 hw7; clear hk7 hw7)
            | (go_at_call 135; refine (peek_is T (k1 + 1) e1 f1 b _ (by exact HW2.out) okc.1 okc.2 hT).mono ?_; rintro r w8 ⟨rfl, nd, rfl⟩; rw [HPK.out])
            | (go_at_call 111; refine (times_is _ _ _).mono ?_; rintro r w10 ⟨rfl, hk10⟩; rw [HTI.out]; have HK5 := hide1 (HK4.out.trans (hk10.but b)); have HW5 := hide1 (HW4.out.keep hk10); clear hk10))
          go_ret2
          have HZ5 := HZ4.out
          simp only [Prod.mk.injEq] at HZ5
          obtain ⟨g1, g2, g3, g4, g5⟩ := HZ5
          subst g1 g2 g3 g4 g5
          exact ⟨rfl, HOK3.out, HK5.out, HW5.out⟩
        · have ht' : timesP a m = false := by simpa using ht
          have HTI := hide1 ht'
          rw [if_neg ht] at HZ3
          have HZ4 := hide1 HZ3
          clear ht ht' hd HZ3 HZ2
          go_wp2_with (first
            | (have _g := HW3; clear _g; go_at_call 133; refine (take_is T (k2) e2 f2 125 b _ (by exact HW3.out) ok2.1 ok2.2 hT).mono ?_; rintro r w9 ⟨rfl, hk9, hw9⟩; rw [HTK2.out] at hw9; rw [HTB2.out]; have HK4 := hide1 (HK3.out.trans (by first | exact hk9 | exact but_undrew hk9)); have HW4 := hide1 hw9; clear hk9 hw9)
            | (go_at_call 144; have _g := HW2; clear _g; refine (number_is T (k1 + 1) e1 f1 b _ (by exact HW2.out) okc.1 okc.2 hT).mono ?_; rintro r w6 ⟨rfl, hg⟩; rw [HB2.out] at hg ⊢; obtain ⟨_, hk6, hw6⟩ := hg; have HK3 := hide1 (HK2.out.trans (but_undrew hk6)); have HW3 := hide1 hw6; clear hk6 hw6)
            | (go_at_call 144; refine (number_is T (k + 1) e f b _ (HR.out.move _) ok0.1 ok0.2 hT).mono ?_; rintro r w6 ⟨rfl, hg⟩; rw [HA.out] at hg ⊢; obtain ⟨_, hk6, hw6⟩ := hg; have HK1 := hide1 ((setCell_but _ _ _ _).trans hk6); have HW1 := hide1 hw6; clear hk6 hw6)
            | (go_at_call 133; refine (take_is T k1 e1 f1 44 b _ (by exact HW1.out) ok1.1 ok1.2 hT).mono ?_; rintro r w7 ⟨rfl, hk7, hw7⟩; rw [HTK1.out] at hw7; rw [HTB1.out]; have HK2 := hide1 (HK1.out.trans hk7); have HW2 := hide1 hw7; clear hk7 hw7)
            | (go_at_call 135; refine (peek_is T (k1 + 1) e1 f1 b _ (by exact HW2.out) okc.1 okc.2 hT).mono ?_; rintro r w8 ⟨rfl, nd, rfl⟩; rw [HPK.out])
            | (go_at_call 111; refine (times_is _ _ _).mono ?_; rintro r w10 ⟨rfl, hk10⟩; rw [HTI.out]; have HK5 := hide1 (HK4.out.trans (hk10.but b)); have HW5 := hide1 (HW4.out.keep hk10); clear hk10)
            | (go_at_call 134; refine (fail_is T _ e2 f2 _ _ b _ (by exact HW5.out)).mono ?_; rintro r w11 ⟨rfl, hk11, hw11⟩; have HK6 := hide1 (HK5.out.trans hk11); have HW6 := hide1 hw11; clear hk11 hw11))
          go_ret2
          unfold failS at HZ4
          have HZ5 := HZ4.out
          simp only [Prod.mk.injEq] at HZ5
          obtain ⟨g1, g2, g3, g4, g5⟩ := HZ5
          subst g1 g2 g3 g4 g5
          exact ⟨rfl, HOK3.out, HK6.out, HW6.out⟩
      · have HTK2 : Hid (takeK T (k2) 125 = k2) := by show _ = _; rw [takeK, if_neg hd]
        have HTB2 : Hid ((peekP T (k2) == 125) = false) := by show _ = _; simpa using hd
        have HZ3 := HZ2.out
        rw [if_neg hd] at HZ3
        have HZ4 := hide1 HZ3
        clear hd HZ3 HZ2
        go_wp2_with (first
          | (have _g := HW3; clear _g; go_at_call 133; refine (take_is T (k2) e2 f2 125 b _ (by exact HW3.out) ok2.1 ok2.2 hT).mono ?_; rintro r w9 ⟨rfl, hk9, hw9⟩; rw [HTK2.out] at hw9; rw [HTB2.out]; have HK4 := hide1 (HK3.out.trans (by first | exact hk9 | exact but_undrew hk9)); have HW4 := hide1 hw9; clear hk9 hw9)
          | (go_at_call 144; have _g := HW2; clear _g; refine (number_is T (k1 + 1) e1 f1 b _ (by exact HW2.out) okc.1 okc.2 hT).mono ?_; rintro r w6 ⟨rfl, hg⟩; rw [HB2.out] at hg ⊢; obtain ⟨_, hk6, hw6⟩ := hg; have HK3 := hide1 (HK2.out.trans (but_undrew hk6)); have HW3 := hide1 hw6; clear hk6 hw6)
          | (go_at_call 144; refine (number_is T (k + 1) e f b _ (HR.out.move _) ok0.1 ok0.2 hT).mono ?_; rintro r w6 ⟨rfl, hg⟩; rw [HA.out] at hg ⊢; obtain ⟨_, hk6, hw6⟩ := hg; have HK1 := hide1 ((setCell_but _ _ _ _).trans hk6); have HW1 := hide1 hw6; clear hk6 hw6)
          | (go_at_call 133; refine (take_is T k1 e1 f1 44 b _ (by exact HW1.out) ok1.1 ok1.2 hT).mono ?_; rintro r w7 ⟨rfl, hk7, hw7⟩; rw [HTK1.out] at hw7; rw [HTB1.out]; have HK2 := hide1 (HK1.out.trans hk7); have HW2 := hide1 hw7; clear hk7 hw7)
          | (go_at_call 135; refine (peek_is T (k1 + 1) e1 f1 b _ (by exact HW2.out) okc.1 okc.2 hT).mono ?_; rintro r w8 ⟨rfl, nd, rfl⟩; rw [HPK.out])
          | (go_at_call 131; refine (wrong_is T _ e2 f2 b _ (by exact HW4.out) hT).mono ?_; rintro r w11 ⟨rfl, hk11, hw11⟩; have HK6 := hide1 (HK4.out.trans hk11); have HW6 := hide1 hw11; clear hk11 hw11))
        go_ret2
        unfold wrongS failS at HZ4
        have HZ5 := HZ4.out
        simp only [Prod.mk.injEq] at HZ5
        obtain ⟨g1, g2, g3, g4, g5⟩ := HZ5
        subst g1 g2 g3 g4 g5
        exact ⟨rfl, HOK3.out, HK6.out, HW6.out⟩
  · have HTK1 : Hid (takeK T k1 44 = k1) := by show _ = _; rw [takeK, if_neg hc1]
    have HTB1 : Hid ((peekP T k1 == 44) = false) := by show _ = _; simpa using hc1
    have HM2 := HM.out
    rw [if_neg hc1] at HM2
    simp only [Prod.mk.injEq] at HM2
    obtain ⟨g1, g2, g3, g4⟩ := HM2
    have g1' := g1.symm
    have g2' := g2.symm
    have g3' := g3.symm
    have g4' := g4.symm
    clear g1 g2 g3 g4
    subst g1' g2' g3' g4'
    clear hc1 HM
    by_cases hd : peekP T (k1) = 125
    · have HTK2 : Hid (takeK T (k1) 125 = k1 + 1) := by show _ = _; rw [takeK, if_pos hd]
      have HTB2 : Hid ((peekP T (k1) == 125) = true) := by show _ = _; rw [hd]; rfl
      have HZ3 := HZ2.out
      rw [if_pos hd] at HZ3
      have okd := take_ok (T := T) (s := (k1, e1, f1)) (c := 125) (by decide) hd
      by_cases ht : timesP a a = true
      · have HTI := hide1 ht
        rw [if_pos ht] at HZ3
        have HZ4 := hide1 HZ3
        clear ht hd HZ3 HZ2
        go_wp2_with (first
          | (have _g := HW2; clear _g; go_at_call 133; refine (take_is T (k1) e1 f1 125 b _ (by exact HW2.out) ok2.1 ok2.2 hT).mono ?_; rintro r w9 ⟨rfl, hk9, hw9⟩; rw [HTK2.out] at hw9; rw [HTB2.out]; have HK4 := hide1 (HK2.out.trans (by first | exact hk9 | exact but_undrew hk9)); have HW4 := hide1 hw9; clear hk9 hw9)
          | (go_at_call 144; refine (number_is T (k + 1) e f b _ (HR.out.move _) ok0.1 ok0.2 hT).mono ?_; rintro r w6 ⟨rfl, hg⟩; rw [HA.out] at hg ⊢; obtain ⟨_, hk6, hw6⟩ := hg; have HK1 := hide1 ((setCell_but _ _ _ _).trans hk6); have HW1 := hide1 hw6; clear hk6 hw6)
          | (go_at_call 133; refine (take_is T k1 e1 f1 44 b _ (by exact HW1.out) ok1.1 ok1.2 hT).mono ?_; rintro r w7 ⟨rfl, hk7, hw7⟩; rw [HTK1.out] at hw7; rw [HTB1.out]; have HK2 := hide1 (HK1.out.trans hk7); have HW2 := hide1 hw7; clear hk7 hw7)
          | (go_at_call 111; refine (times_is _ _ _).mono ?_; rintro r w10 ⟨rfl, hk10⟩; rw [HTI.out]; have HK5 := hide1 (HK4.out.trans (hk10.but b)); have HW5 := hide1 (HW4.out.keep hk10); clear hk10))
        go_ret2
        have HZ5 := HZ4.out
        simp only [Prod.mk.injEq] at HZ5
        obtain ⟨g1, g2, g3, g4, g5⟩ := HZ5
        subst g1 g2 g3 g4 g5
        exact ⟨rfl, HOK3.out, HK5.out, HW5.out⟩
      · have ht' : timesP a a = false := by simpa using ht
        have HTI := hide1 ht'
        rw [if_neg ht] at HZ3
        have HZ4 := hide1 HZ3
        clear ht ht' hd HZ3 HZ2
        go_wp2_with (first
          | (have _g := HW2; clear _g; go_at_call 133; refine (take_is T (k1) e1 f1 125 b _ (by exact HW2.out) ok2.1 ok2.2 hT).mono ?_; rintro r w9 ⟨rfl, hk9, hw9⟩; rw [HTK2.out] at hw9; rw [HTB2.out]; have HK4 := hide1 (HK2.out.trans (by first | exact hk9 | exact but_undrew hk9)); have HW4 := hide1 hw9; clear hk9 hw9)
          | (go_at_call 144; refine (number_is T (k + 1) e f b _ (HR.out.move _) ok0.1 ok0.2 hT).mono ?_; rintro r w6 ⟨rfl, hg⟩; rw [HA.out] at hg ⊢; obtain ⟨_, hk6, hw6⟩ := hg; have HK1 := hide1 ((setCell_but _ _ _ _).trans hk6); have HW1 := hide1 hw6; clear hk6 hw6)
          | (go_at_call 133; refine (take_is T k1 e1 f1 44 b _ (by exact HW1.out) ok1.1 ok1.2 hT).mono ?_; rintro r w7 ⟨rfl, hk7, hw7⟩; rw [HTK1.out] at hw7; rw [HTB1.out]; have HK2 := hide1 (HK1.out.trans hk7); have HW2 := hide1 hw7; clear hk7 hw7)
          | (go_at_call 111; refine (times_is _ _ _).mono ?_; rintro r w10 ⟨rfl, hk10⟩; rw [HTI.out]; have HK5 := hide1 (HK4.out.trans (hk10.but b)); have HW5 := hide1 (HW4.out.keep hk10); clear hk10)
          | (go_at_call 134; refine (fail_is T _ e1 f1 _ _ b _ (by exact HW5.out)).mono ?_; rintro r w11 ⟨rfl, hk11, hw11⟩; have HK6 := hide1 (HK5.out.trans hk11); have HW6 := hide1 hw11; clear hk11 hw11))
        go_ret2
        unfold failS at HZ4
        have HZ5 := HZ4.out
        simp only [Prod.mk.injEq] at HZ5
        obtain ⟨g1, g2, g3, g4, g5⟩ := HZ5
        subst g1 g2 g3 g4 g5
        exact ⟨rfl, HOK3.out, HK6.out, HW6.out⟩
    · have HTK2 : Hid (takeK T (k1) 125 = k1) := by show _ = _; rw [takeK, if_neg hd]
      have HTB2 : Hid ((peekP T (k1) == 125) = false) := by show _ = _; simpa using hd
      have HZ3 := HZ2.out
      rw [if_neg hd] at HZ3
      have HZ4 := hide1 HZ3
      clear hd HZ3 HZ2
      go_wp2_with (first
        | (have _g := HW2; clear _g; go_at_call 133; refine (take_is T (k1) e1 f1 125 b _ (by exact HW2.out) ok2.1 ok2.2 hT).mono ?_; rintro r w9 ⟨rfl, hk9, hw9⟩; rw [HTK2.out] at hw9; rw [HTB2.out]; have HK4 := hide1 (HK2.out.trans (by first | exact hk9 | exact but_undrew hk9)); have HW4 := hide1 hw9; clear hk9 hw9)
        | (go_at_call 144; refine (number_is T (k + 1) e f b _ (HR.out.move _) ok0.1 ok0.2 hT).mono ?_; rintro r w6 ⟨rfl, hg⟩; rw [HA.out] at hg ⊢; obtain ⟨_, hk6, hw6⟩ := hg; have HK1 := hide1 ((setCell_but _ _ _ _).trans hk6); have HW1 := hide1 hw6; clear hk6 hw6)
        | (go_at_call 133; refine (take_is T k1 e1 f1 44 b _ (by exact HW1.out) ok1.1 ok1.2 hT).mono ?_; rintro r w7 ⟨rfl, hk7, hw7⟩; rw [HTK1.out] at hw7; rw [HTB1.out]; have HK2 := hide1 (HK1.out.trans hk7); have HW2 := hide1 hw7; clear hk7 hw7)
        | (go_at_call 131; refine (wrong_is T _ e1 f1 b _ (by exact HW4.out) hT).mono ?_; rintro r w11 ⟨rfl, hk11, hw11⟩; have HK6 := hide1 (HK4.out.trans hk11); have HW6 := hide1 hw11; clear hk11 hw11))
      go_ret2
      unfold wrongS failS at HZ4
      have HZ5 := HZ4.out
      simp only [Prod.mk.injEq] at HZ5
      obtain ⟨g1, g2, g3, g4, g5⟩ := HZ5
      subst g1 g2 g3 g4 g5
      exact ⟨rfl, HOK3.out, HK6.out, HW6.out⟩

end Ex
end Go.Proofs.YtbnchnlogikecaaGreatDoor
