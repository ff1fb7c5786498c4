import Derived.Test.YtbnchnlogikecaaGreatDoorPExRd3
namespace Go.Proofs.YtbnchnlogikecaaGreatDoor
open Go.RowKit
attribute [local go_sem] Oper.semAt_some
set_option linter.unusedSimpArgs false
set_option maxRecDepth 100000
set_option maxHeartbeats 4000000
namespace Ex
def bracesM (T : ByteArray) (a : Int × Int × Int × Int) : Int × Int × Int × Int :=
  if peekP T a.2.1 = 44 then (if peekP T (a.2.1 + 1) = 125 then (-1, a.2.1 + 1, a.2.2) else numberS T (a.2.1 + 1, a.2.2)) else a
def bracesZ (T : ByteArray) (n y : Int) (m : Int × Int × Int × Int) : Int × Int × Int × Int × Int :=
  if peekP T m.2.1 = 125 then (n, m.1, if timesP n m.1 then (m.2.1 + 1, m.2.2) else failS T (m.2.1 + 1, m.2.2) 24 y) else (0, 0, wrongS T m.2)
def bracesS (T : ByteArray) (s : Int × Int × Int) : Int × Int × Int × Int × Int := bracesZ T (numberS T (s.1 + 1, s.2)).1 s.1 (bracesM T (numberS T (s.1 + 1, s.2)))
theorem bracesM_ok {T : ByteArray} {a : Int × Int × Int × Int} (h : OkS T a.2) : OkS T (bracesM T a).2 ∧ a.2.1 ≤ (bracesM T a).2.1 := by
  unfold bracesM
  split
  · rename_i h1
    have h2 := take_ok (T := T) (s := a.2) (c := 44) (by decide) h1
    split
    · exact ⟨h2, by show a.2.1 ≤ a.2.1 + 1; omega⟩
    · have := number_ok h2
      exact ⟨this.1, by have := this.2; show a.2.1 ≤ _; dsimp only at this; omega⟩
  · exact ⟨h, Int.le_refl _⟩
theorem bracesZ_ok {T : ByteArray} {n y : Int} {m : Int × Int × Int × Int} (h : OkS T m.2) : OkS T (bracesZ T n y m).2.2 ∧ m.2.1 ≤ (bracesZ T n y m).2.2.1 := by
  unfold bracesZ
  split
  · rename_i h1
    have h2 := take_ok (T := T) (s := m.2) (c := 125) (by decide) h1
    split
    · exact ⟨h2, by show m.2.1 ≤ m.2.1 + 1; omega⟩
    · exact ⟨fail_ok _ _ _ _, h.2⟩
  · exact ⟨wrong_ok _ _, h.2⟩
theorem braces_ok {T : ByteArray} {s : Int × Int × Int} (h : OkS T (s.1 + 1, s.2)) : OkS T (bracesS T s).2.2 ∧ s.1 < (bracesS T s).2.2.1 := by
  have h1 := number_ok h
  have h2 := bracesM_ok h1.1
  have h3 := bracesZ_ok (n := (numberS T (s.1 + 1, s.2)).1) (y := s.1) h2.1
  refine ⟨h3.1, ?_⟩
  have := h1.2
  have := h2.2
  have := h3.2
  unfold bracesS
  dsimp only at *
  omega
theorem braces_is (T : ByteArray) (k e f : Int) (b : Nat) (w : World) (h : RAt w b T k e f) (h0 : 0 ≤ k) (h1 : k < T.size) (hT : T.size ≤ 4096) :
    Calls Tryz.prog 139 #[.pointer (some ⟨b, 0, none⟩)] w fun r w' => r = .returned (.tuple #[.int .i64 (bracesS T (k, e, f)).1, .int .i64 (bracesS T (k, e, f)).2.1]) ∧ RGave b w T (bracesS T (k, e, f)).2.2 w' := by
  have HR := hide1 h
  obtain ⟨c0, c1, c2, c3, c4⟩ := h.cells
  obtain ⟨z0, z1, z2, z3, z4⟩ := h.free
  have hb := h.lt
  have gT : (T.size : Int) ≤ 4096 := by omega
  have ok0 : OkS T (k + 1, e, f) := ⟨by show 0 ≤ k + 1; omega, by show k + 1 ≤ _; omega⟩
  have hok := number_ok ok0
  have HZ : Hid (bracesS T (k, e, f) = bracesZ T (numberS T (k + 1, e, f)).1 k (bracesM T (numberS T (k + 1, e, f)))) := rfl
  rw [HZ.out]
  obtain ⟨⟨a, k1, e1, f1⟩, hA⟩ : ∃ x, numberS T (k + 1, e, f) = x := ⟨_, rfl⟩
  have okm := bracesM_ok (a := (a, k1, e1, f1)) (by rw [← hA]; exact hok.1)
  have HM : Hid (bracesM T (a, k1, e1, f1) = if peekP T k1 = 44 then (if peekP T (k1 + 1) = 125 then (-1, k1 + 1, e1, f1) else numberS T (k1 + 1, e1, f1)) else (a, k1, e1, f1)) := rfl
  rw [hA] at hok ⊢
  have HA := hide1 hA
  obtain ⟨ok1, _⟩ := hok
  obtain ⟨⟨m, k2, e2, f2⟩, hB⟩ : ∃ x, bracesM T (a, k1, e1, f1) = x := ⟨_, rfl⟩
  rw [hB] at okm HM ⊢
  obtain ⟨ok2, _⟩ := okm
  have HZ2 : Hid (bracesZ T a k (m, k2, e2, f2) = if peekP T k2 = 125 then (a, m, if timesP a m then (k2 + 1, e2, f2) else failS T (k2 + 1, e2, f2) 24 k) else (0, 0, wrongS T (k2, e2, f2))) := rfl
  have okz := bracesZ_ok (n := a) (y := k) (m := (m, k2, e2, f2)) ok2
  dsimp only at HZ ⊢
  obtain ⟨⟨r1, r2, k3, e3, f3⟩, hC⟩ : ∃ x, bracesZ T a k (m, k2, e2, f2) = x := ⟨_, rfl⟩
  rw [hC] at HZ2 okz ⊢
  obtain ⟨ok3, _⟩ := okz
  have HOK3 := hide1 ok3
  unfold OkS at ok0 ok1 ok2
  dsimp only at ok0 ok1 ok2 ⊢
  clear hA hB hC h ok3 HZ
  -- the walk up to the last take: its state is (k2, e2, f2) in either case
  have HT2 : Hid (takeK T k2 125 = if peekP T k2 = 125 then k2 + 1 else k2) := rfl
  go_enter Tryz.func139, Tryz.ntmps139
  by_cases hc1 : peekP T k1 = 44
  · have okc := take_ok (T := T) (s := (k1, e1, f1)) (c := 44) (by decide) hc1
    have HTK1 : Hid (takeK T k1 44 = k1 + 1) := by show _ = _; rw [takeK, if_pos hc1]
    have HTB1 : Hid ((peekP T k1 == 44) = true) := by show _ = _; rw [hc1]; rfl
    unfold OkS at okc
    dsimp only at okc
    by_cases hc2 : peekP T (k1 + 1) = 125
    · have HM2 := HM.out
      rw [if_pos hc1, if_pos hc2] at HM2
      simp only [Prod.mk.injEq] at HM2
      obtain ⟨g1, g2, g3, g4⟩ := HM2
      have g3' := g3.symm
      have g4' := g4.symm
      clear g3 g4
      subst g1 g2 g3' g4'
      have HPK := hide1 hc2
      clear hc1 hc2 HM
      by_cases hd : peekP T (k1 + 1) = 125
      · have HTK2 : Hid (takeK T (k1 + 1) 125 = k1 + 1 + 1) := by show _ = _; rw [takeK, if_pos hd]
        have HTB2 : Hid ((peekP T (k1 + 1) == 125) = true) := by show _ = _; rw [hd]; rfl
        have HZ3 := HZ2.out
        rw [if_pos hd] at HZ3
        have okd := take_ok (T := T) (s := (k1 + 1, e1, f1)) (c := 125) (by decide) hd
        by_cases ht : timesP a (-1) = true
        · have HTI := hide1 ht
          rw [if_pos ht] at HZ3
          have HZ4 := hide1 HZ3
          clear ht hd HZ3 HZ2
          go_wp2_with (first
            | (have _g := HW2; clear _g; go_at_call 133; refine (take_is T (k1 + 1) e1 f1 125 b _ (by exact HW2.out) ok2.1 ok2.2 hT).mono ?_; rintro r w9 ⟨rfl, hk9, hw9⟩; rw [HTK2.out] at hw9; rw [HTB2.out]; have HK4 := hide1 (HK2.out.trans (by first | exact hk9 | exact but_undrew hk9)); have HW4 := hide1 hw9; clear hk9 hw9)
            | (go_at_call 144; refine (number_is T (k + 1) e f b _ (HR.out.move _) ok0.1 ok0.2 hT).mono ?_; rintro r w6 ⟨rfl, hg⟩; rw [HA.out] at hg ⊢; obtain ⟨_, hk6, hw6⟩ := hg; have HK1 := hide1 ((setCell_but _ _ _ _).trans hk6); have HW1 := hide1 hw6; clear hk6 hw6)
            | (go_at_call 133; refine (take_is T k1 e1 f1 44 b _ (by exact HW1.out) ok1.1 ok1.2 hT).mono ?_; rintro r w7 ⟨rfl, hk7, hw7⟩; rw [HTK1.out] at hw7; rw [HTB1.out]; have HK2 := hide1 (HK1.out.trans hk7); have HW2 := hide1 hw7; clear hk7 hw7)
            | (go_at_call 135; refine (peek_is T (k1 + 1) e1 f1 b _ (by exact HW2.out) okc.1 okc.2 hT).mono ?_; rintro r w8 ⟨rfl, nd, rfl⟩; rw [HPK.out])
            | (go_at_call 111; refine (times_is _ _ _).mono ?_; rintro r w10 ⟨rfl, hk10⟩; rw [HTI.out]; have HK5 := hide1 (HK4.out.trans (hk10.but b)); have HW5 := hide1 (HW4.out.keep hk10); clear hk10))
          go_ret2
          have HZ5 := HZ4.out
          simp only [Prod.mk.injEq] at HZ5
          obtain ⟨g1, g2, g3, g4, g5⟩ := HZ5
          subst g1 g2 g3 g4 g5
          exact ⟨rfl, HOK3.out, HK5.out, HW5.out⟩
        · have ht' : timesP a (-1) = false := by simpa using ht
          have HTI := hide1 ht'
          rw [if_neg ht] at HZ3
          have HZ4 := hide1 HZ3
          clear ht ht' hd HZ3 HZ2
          go_wp2_with (first
            | (have _g := HW2; clear _g; go_at_call 133; refine (take_is T (k1 + 1) e1 f1 125 b _ (by exact HW2.out) ok2.1 ok2.2 hT).mono ?_; rintro r w9 ⟨rfl, hk9, hw9⟩; rw [HTK2.out] at hw9; rw [HTB2.out]; have HK4 := hide1 (HK2.out.trans (by first | exact hk9 | exact but_undrew hk9)); have HW4 := hide1 hw9; clear hk9 hw9)
            | (go_at_call 144; refine (number_is T (k + 1) e f b _ (HR.out.move _) ok0.1 ok0.2 hT).mono ?_; rintro r w6 ⟨rfl, hg⟩; rw [HA.out] at hg ⊢; obtain ⟨_, hk6, hw6⟩ := hg; have HK1 := hide1 ((setCell_but _ _ _ _).trans hk6); have HW1 := hide1 hw6; clear hk6 hw6)
            | (go_at_call 133; refine (take_is T k1 e1 f1 44 b _ (by exact HW1.out) ok1.1 ok1.2 hT).mono ?_; rintro r w7 ⟨rfl, hk7, hw7⟩; rw [HTK1.out] at hw7; rw [HTB1.out]; have HK2 := hide1 (HK1.out.trans hk7); have HW2 := hide1 hw7; clear hk7 hw7)
            | (go_at_call 135; refine (peek_is T (k1 + 1) e1 f1 b _ (by exact HW2.out) okc.1 okc.2 hT).mono ?_; rintro r w8 ⟨rfl, nd, rfl⟩; rw [HPK.out])
            | (go_at_call 111; refine (times_is _ _ _).mono ?_; rintro r w10 ⟨rfl, hk10⟩; rw [HTI.out]; have HK5 := hide1 (HK4.out.trans (hk10.but b)); have HW5 := hide1 (HW4.out.keep hk10); clear hk10)
            | (go_at_call 134; refine (fail_is T _ e1 f1 _ _ b _ (by exact HW5.out)).mono ?_; rintro r w11 ⟨rfl, hk11, hw11⟩; have HK6 := hide1 (HK5.out.trans hk11); have HW6 := hide1 hw11; clear hk11 hw11))
          go_ret2
          unfold failS at HZ4
          have HZ5 := HZ4.out
          simp only [Prod.mk.injEq] at HZ5
          obtain ⟨g1, g2, g3, g4, g5⟩ := HZ5
          subst g1 g2 g3 g4 g5
          exact ⟨rfl, HOK3.out, HK6.out, HW6.out⟩
      · have HTK2 : Hid (takeK T (k1 + 1) 125 = k1 + 1) := by show _ = _; rw [takeK, if_neg hd]
        have HTB2 : Hid ((peekP T (k1 + 1) == 125) = false) := by show _ = _; simpa using hd
        have HZ3 := HZ2.out
        rw [if_neg hd] at HZ3
        have HZ4 := hide1 HZ3
        clear hd HZ3 HZ2
        go_wp2_with (first
          | (have _g := HW2; clear _g; go_at_call 133; refine (take_is T (k1 + 1) e1 f1 125 b _ (by exact HW2.out) ok2.1 ok2.2 hT).mono ?_; rintro r w9 ⟨rfl, hk9, hw9⟩; rw [HTK2.out] at hw9; rw [HTB2.out]; have HK4 := hide1 (HK2.out.trans (by first | exact hk9 | exact but_undrew hk9)); have HW4 := hide1 hw9; clear hk9 hw9)
          | (go_at_call 144; refine (number_is T (k + 1) e f b _ (HR.out.move _) ok0.1 ok0.2 hT).mono ?_; rintro r w6 ⟨rfl, hg⟩; rw [HA.out] at hg ⊢; obtain ⟨_, hk6, hw6⟩ := hg; have HK1 := hide1 ((setCell_but _ _ _ _).trans hk6); have HW1 := hide1 hw6; clear hk6 hw6)
          | (go_at_call 133; refine (take_is T k1 e1 f1 44 b _ (by exact HW1.out) ok1.1 ok1.2 hT).mono ?_; rintro r w7 ⟨rfl, hk7, hw7⟩; rw [HTK1.out] at hw7; rw [HTB1.out]; have HK2 := hide1 (HK1.out.trans hk7); have HW2 := hide1 hw7; clear hk7 hw7)
          | (go_at_call 135; refine (peek_is T (k1 + 1) e1 f1 b _ (by exact HW2.out) okc.1 okc.2 hT).mono ?_; rintro r w8 ⟨rfl, nd, rfl⟩; rw [HPK.out])
          | (go_at_call 131; refine (wrong_is T _ e1 f1 b _ (by exact HW4.out) hT).mono ?_; rintro r w11 ⟨rfl, hk11, hw11⟩; have HK6 := hide1 (HK4.out.trans hk11); have HW6 := hide1 hw11; clear hk11 hw11))
        go_ret2
        unfold wrongS failS at HZ4
        have HZ5 := HZ4.out
        simp only [Prod.mk.injEq] at HZ5
        obtain ⟨g1, g2, g3, g4, g5⟩ := HZ5
        subst g1 g2 g3 g4 g5
        exact ⟨rfl, HOK3.out, HK6.out, HW6.out⟩
    · have HM2 := HM.out
      rw [if_pos hc1, if_neg hc2] at HM2
      have HB2 := hide1 HM2.symm
      obtain ⟨c, hcc⟩ : ∃ c, peekP T (k1 + 1) = c := ⟨_, rfl⟩
      rw [hcc] at hc2
      have HPK := hide1 hcc
      clear hc1 hcc HM HM2
      by_cases hd : peekP T (k2) = 125
      · have HTK2 : Hid (takeK T (k2) 125 = k2 + 1) := by show _ = _; rw [takeK, if_pos hd]
        have HTB2 : Hid ((peekP T (k2) == 125) = true) := by show _ = _; rw [hd]; rfl
        have HZ3 := HZ2.out
        rw [if_pos hd] at HZ3
        have okd := take_ok (T := T) (s := (k2, e2, f2)) (c := 125) (by decide) hd
        by_cases ht : timesP a m = true
        · have HTI := hide1 ht
          rw [if_pos ht] at HZ3
          have HZ4 := hide1 HZ3
          clear ht hd HZ3 HZ2
          go_wp2_with (first
            | (have _g := HW3; clear _g; go_at_call 133; refine (take_is T (k2) e2 f2 125 b _ (by exact HW3.out) ok2.1 ok2.2 hT).mono ?_; rintro r w9 ⟨rfl, hk9, hw9⟩; rw [HTK2.out] at hw9; rw [HTB2.out]; have HK4 := hide1 (HK3.out.trans (by first | exact hk9 | exact but_undrew hk9)); have HW4 := hide1 hw9; clear hk9 hw9)
            | (go_at_call 144; have _g := HW2; clear _g; refine (number_is T (k1 + 1) e1 f1 b _ (by exact HW2.out) okc.1 okc.2 hT).mono ?_; rintro r w6 ⟨rfl, hg⟩; rw [HB2.out] at hg ⊢; obtain ⟨_, hk6, hw6⟩ := hg; have HK3 := hide1 (HK2.out.trans (but_undrew hk6)); have HW3 := hide1 hw6; clear hk6 hw6)
            | (go_at_call 144; refine (number_is T (k + 1) e f b _ (HR.out.move _) ok0.1 ok0.2 hT).mono ?_; rintro r w6 ⟨rfl, hg⟩; rw [HA.out] at hg ⊢; obtain ⟨_, hk6, hw6⟩ := hg; have HK1 := hide1 ((setCell_but _ _ _ _).trans hk6); have HW1 := hide1 hw6; clear hk6 hw6)
            | (go_at_call 133; refine (take_is T k1 e1 f1 44 b _ (by exact HW1.out) ok1.1 ok1.2 hT).mono ?_; rintro r w7 ⟨rfl, hk7, hw7⟩; rw [HTK1.out] at hw7; rw [HTB1.out]; have HK2 := hide1 (HK1.out.trans hk7); have HW2 := hide1 hw7; clear hk7 hw7)
            | (go_at_call 135; refine (peek_is T (k1 + 1) e1 f1 b _ (by exact HW2.out) okc.1 okc.2 hT).mono ?_; rintro r w8 ⟨rfl, nd, rfl⟩; rw [HPK.out])
            | (go_at_call 111; refine (times_is _ _ _).mono ?_; rintro r w10 ⟨rfl, hk10⟩; rw [HTI.out]; have HK5 := hide1 (HK4.out.trans (hk10.but b)); have HW5 := hide1 (HW4.out.keep hk10); clear hk10))
          go_ret2
          have HZ5 := HZ4.out
          simp only [Prod.mk.injEq] at HZ5
          obtain ⟨g1, g2, g3, g4, g5⟩ := HZ5
          subst g1 g2 g3 g4 g5
          exact ⟨rfl, HOK3.out, HK5.out, HW5.out⟩
        · have ht' : timesP a m = false := by simpa using ht
          have HTI := hide1 ht'
          rw [if_neg ht] at HZ3
          have HZ4 := hide1 HZ3
          clear ht ht' hd HZ3 HZ2
          go_wp2_with (first
            | (have _g := HW3; clear _g; go_at_call 133; refine (take_is T (k2) e2 f2 125 b _ (by exact HW3.out) ok2.1 ok2.2 hT).mono ?_; rintro r w9 ⟨rfl, hk9, hw9⟩; rw [HTK2.out] at hw9; rw [HTB2.out]; have HK4 := hide1 (HK3.out.trans (by first | exact hk9 | exact but_undrew hk9)); have HW4 := hide1 hw9; clear hk9 hw9)
            | (go_at_call 144; have _g := HW2; clear _g; refine (number_is T (k1 + 1) e1 f1 b _ (by exact HW2.out) okc.1 okc.2 hT).mono ?_; rintro r w6 ⟨rfl, hg⟩; rw [HB2.out] at hg ⊢; obtain ⟨_, hk6, hw6⟩ := hg; have HK3 := hide1 (HK2.out.trans (but_undrew hk6)); have HW3 := hide1 hw6; clear hk6 hw6)
            | (go_at_call 144; refine (number_is T (k + 1) e f b _ (HR.out.move _) ok0.1 ok0.2 hT).mono ?_; rintro r w6 ⟨rfl, hg⟩; rw [HA.out] at hg ⊢; obtain ⟨_, hk6, hw6⟩ := hg; have HK1 := hide1 ((setCell_but _ _ _ _).trans hk6); have HW1 := hide1 hw6; clear hk6 hw6)
            | (go_at_call 133; refine (take_is T k1 e1 f1 44 b _ (by exact HW1.out) ok1.1 ok1.2 hT).mono ?_; rintro r w7 ⟨rfl, hk7, hw7⟩; rw [HTK1.out] at hw7; rw [HTB1.out]; have HK2 := hide1 (HK1.out.trans hk7); have HW2 := hide1 hw7; clear hk7 hw7)
            | (go_at_call 135; refine (peek_is T (k1 + 1) e1 f1 b _ (by exact HW2.out) okc.1 okc.2 hT).mono ?_; rintro r w8 ⟨rfl, nd, rfl⟩; rw [HPK.out])
            | (go_at_call 111; refine (times_is _ _ _).mono ?_; rintro r w10 ⟨rfl, hk10⟩; rw [HTI.out]; have HK5 := hide1 (HK4.out.trans (hk10.but b)); have HW5 := hide1 (HW4.out.keep hk10); clear hk10)
            | (go_at_call 134; refine (fail_is T _ e2 f2 _ _ b _ (by exact HW5.out)).mono ?_; rintro r w11 ⟨rfl, hk11, hw11⟩; have HK6 := hide1 (HK5.out.trans hk11); have HW6 := hide1 hw11; clear hk11 hw11))
          go_ret2
          unfold failS at HZ4
          have HZ5 := HZ4.out
          simp only [Prod.mk.injEq] at HZ5
          obtain ⟨g1, g2, g3, g4, g5⟩ := HZ5
          subst g1 g2 g3 g4 g5
          exact ⟨rfl, HOK3.out, HK6.out, HW6.out⟩
      · have HTK2 : Hid (takeK T (k2) 125 = k2) := by show _ = _; rw [takeK, if_neg hd]
        have HTB2 : Hid ((peekP T (k2) == 125) = false) := by show _ = _; simpa using hd
        have HZ3 := HZ2.out
        rw [if_neg hd] at HZ3
        have HZ4 := hide1 HZ3
        clear hd HZ3 HZ2
        go_wp2_with (first
          | (have _g := HW3; clear _g; go_at_call 133; refine (take_is T (k2) e2 f2 125 b _ (by exact HW3.out) ok2.1 ok2.2 hT).mono ?_; rintro r w9 ⟨rfl, hk9, hw9⟩; rw [HTK2.out] at hw9; rw [HTB2.out]; have HK4 := hide1 (HK3.out.trans (by first | exact hk9 | exact but_undrew hk9)); have HW4 := hide1 hw9; clear hk9 hw9)
          | (go_at_call 144; have _g := HW2; clear _g; refine (number_is T (k1 + 1) e1 f1 b _ (by exact HW2.out) okc.1 okc.2 hT).mono ?_; rintro r w6 ⟨rfl, hg⟩; rw [HB2.out] at hg ⊢; obtain ⟨_, hk6, hw6⟩ := hg; have HK3 := hide1 (HK2.out.trans (but_undrew hk6)); have HW3 := hide1 hw6; clear hk6 hw6)
          | (go_at_call 144; refine (number_is T (k + 1) e f b _ (HR.out.move _) ok0.1 ok0.2 hT).mono ?_; rintro r w6 ⟨rfl, hg⟩; rw [HA.out] at hg ⊢; obtain ⟨_, hk6, hw6⟩ := hg; have HK1 := hide1 ((setCell_but _ _ _ _).trans hk6); have HW1 := hide1 hw6; clear hk6 hw6)
          | (go_at_call 133; refine (take_is T k1 e1 f1 44 b _ (by exact HW1.out) ok1.1 ok1.2 hT).mono ?_; rintro r w7 ⟨rfl, hk7, hw7⟩; rw [HTK1.out] at hw7; rw [HTB1.out]; have HK2 := hide1 (HK1.out.trans hk7); have HW2 := hide1 hw7; clear hk7 hw7)
          | (go_at_call 135; refine (peek_is T (k1 + 1) e1 f1 b _ (by exact HW2.out) okc.1 okc.2 hT).mono ?_; rintro r w8 ⟨rfl, nd, rfl⟩; rw [HPK.out])
          | (go_at_call 131; refine (wrong_is T _ e2 f2 b _ (by exact HW4.out) hT).mono ?_; rintro r w11 ⟨rfl, hk11, hw11⟩; have HK6 := hide1 (HK4.out.trans hk11); have HW6 := hide1 hw11; clear hk11 hw11))
        go_ret2
        unfold wrongS failS at HZ4
        have HZ5 := HZ4.out
        simp only [Prod.mk.injEq] at HZ5
        obtain ⟨g1, g2, g3, g4, g5⟩ := HZ5
        subst g1 g2 g3 g4 g5
        exact ⟨rfl, HOK3.out, HK6.out, HW6.out⟩
  · have HTK1 : Hid (takeK T k1 44 = k1) := by show _ = _; rw [takeK, if_neg hc1]
    have HTB1 : Hid ((peekP T k1 == 44) = false) := by show _ = _; simpa using hc1
    have HM2 := HM.out
    rw [if_neg hc1] at HM2
    simp only [Prod.mk.injEq] at HM2
    obtain ⟨g1, g2, g3, g4⟩ := HM2
    have g1' := g1.symm
    have g2' := g2.symm
    have g3' := g3.symm
    have g4' := g4.symm
    clear g1 g2 g3 g4
    subst g1' g2' g3' g4'
    clear hc1 HM
    by_cases hd : peekP T (k1) = 125
    · have HTK2 : Hid (takeK T (k1) 125 = k1 + 1) := by show _ = _; rw [takeK, if_pos hd]
      have HTB2 : Hid ((peekP T (k1) == 125) = true) := by show _ = _; rw [hd]; rfl
      have HZ3 := HZ2.out
      rw [if_pos hd] at HZ3
      have okd := take_ok (T := T) (s := (k1, e1, f1)) (c := 125) (by decide) hd
      by_cases ht : timesP a a = true
      · have HTI := hide1 ht
        rw [if_pos ht] at HZ3
        have HZ4 := hide1 HZ3
        clear ht hd HZ3 HZ2
        go_wp2_with (first
          | (have _g := HW2; clear _g; go_at_call 133; refine (take_is T (k1) e1 f1 125 b _ (by exact HW2.out) ok2.1 ok2.2 hT).mono ?_; rintro r w9 ⟨rfl, hk9, hw9⟩; rw [HTK2.out] at hw9; rw [HTB2.out]; have HK4 := hide1 (HK2.out.trans (by first | exact hk9 | exact but_undrew hk9)); have HW4 := hide1 hw9; clear hk9 hw9)
          | (go_at_call 144; refine (number_is T (k + 1) e f b _ (HR.out.move _) ok0.1 ok0.2 hT).mono ?_; rintro r w6 ⟨rfl, hg⟩; rw [HA.out] at hg ⊢; obtain ⟨_, hk6, hw6⟩ := hg; have HK1 := hide1 ((setCell_but _ _ _ _).trans hk6); have HW1 := hide1 hw6; clear hk6 hw6)
          | (go_at_call 133; refine (take_is T k1 e1 f1 44 b _ (by exact HW1.out) ok1.1 ok1.2 hT).mono ?_; rintro r w7 ⟨rfl, hk7, hw7⟩; rw [HTK1.out] at hw7; rw [HTB1.out]; have HK2 := hide1 (HK1.out.trans hk7); have HW2 := hide1 hw7; clear hk7 hw7)
          | (go_at_call 111; refine (times_is _ _ _).mono ?_; rintro r w10 ⟨rfl, hk10⟩; rw [HTI.out]; have HK5 := hide1 (HK4.out.trans (hk10.but b)); have HW5 := hide1 (HW4.out.keep hk10); clear hk10))
        go_ret2
        have HZ5 := HZ4.out
        simp only [Prod.mk.injEq] at HZ5
        obtain ⟨g1, g2, g3, g4, g5⟩ := HZ5
        subst g1 g2 g3 g4 g5
        exact ⟨rfl, HOK3.out, HK5.out, HW5.out⟩
      · have ht' : timesP a a = false := by simpa using ht
        have HTI := hide1 ht'
        rw [if_neg ht] at HZ3
        have HZ4 := hide1 HZ3
        clear ht ht' hd HZ3 HZ2
        go_wp2_with (first
          | (have _g := HW2; clear _g; go_at_call 133; refine (take_is T (k1) e1 f1 125 b _ (by exact HW2.out) ok2.1 ok2.2 hT).mono ?_; rintro r w9 ⟨rfl, hk9, hw9⟩; rw [HTK2.out] at hw9; rw [HTB2.out]; have HK4 := hide1 (HK2.out.trans (by first | exact hk9 | exact but_undrew hk9)); have HW4 := hide1 hw9; clear hk9 hw9)
          | (go_at_call 144; refine (number_is T (k + 1) e f b _ (HR.out.move _) ok0.1 ok0.2 hT).mono ?_; rintro r w6 ⟨rfl, hg⟩; rw [HA.out] at hg ⊢; obtain ⟨_, hk6, hw6⟩ := hg; have HK1 := hide1 ((setCell_but _ _ _ _).trans hk6); have HW1 := hide1 hw6; clear hk6 hw6)
          | (go_at_call 133; refine (take_is T k1 e1 f1 44 b _ (by exact HW1.out) ok1.1 ok1.2 hT).mono ?_; rintro r w7 ⟨rfl, hk7, hw7⟩; rw [HTK1.out] at hw7; rw [HTB1.out]; have HK2 := hide1 (HK1.out.trans hk7); have HW2 := hide1 hw7; clear hk7 hw7)
          | (go_at_call 111; refine (times_is _ _ _).mono ?_; rintro r w10 ⟨rfl, hk10⟩; rw [HTI.out]; have HK5 := hide1 (HK4.out.trans (hk10.but b)); have HW5 := hide1 (HW4.out.keep hk10); clear hk10)
          | (go_at_call 134; refine (fail_is T _ e1 f1 _ _ b _ (by exact HW5.out)).mono ?_; rintro r w11 ⟨rfl, hk11, hw11⟩; have HK6 := hide1 (HK5.out.trans hk11); have HW6 := hide1 hw11; clear hk11 hw11))
        go_ret2
        unfold failS at HZ4
        have HZ5 := HZ4.out
        simp only [Prod.mk.injEq] at HZ5
        obtain ⟨g1, g2, g3, g4, g5⟩ := HZ5
        subst g1 g2 g3 g4 g5
        exact ⟨rfl, HOK3.out, HK6.out, HW6.out⟩
    · have HTK2 : Hid (takeK T (k1) 125 = k1) := by show _ = _; rw [takeK, if_neg hd]
      have HTB2 : Hid ((peekP T (k1) == 125) = false) := by show _ = _; simpa using hd
      have HZ3 := HZ2.out
      rw [if_neg hd] at HZ3
      have HZ4 := hide1 HZ3
      clear hd HZ3 HZ2
      go_wp2_with (first
        | (have _g := HW2; clear _g; go_at_call 133; refine (take_is T (k1) e1 f1 125 b _ (by exact HW2.out) ok2.1 ok2.2 hT).mono ?_; rintro r w9 ⟨rfl, hk9, hw9⟩; rw [HTK2.out] at hw9; rw [HTB2.out]; have HK4 := hide1 (HK2.out.trans (by first | exact hk9 | exact but_undrew hk9)); have HW4 := hide1 hw9; clear hk9 hw9)
        | (go_at_call 144; refine (number_is T (k + 1) e f b _ (HR.out.move _) ok0.1 ok0.2 hT).mono ?_; rintro r w6 ⟨rfl, hg⟩; rw [HA.out] at hg ⊢; obtain ⟨_, hk6, hw6⟩ := hg; have HK1 := hide1 ((setCell_but _ _ _ _).trans hk6); have HW1 := hide1 hw6; clear hk6 hw6)
        | (go_at_call 133; refine (take_is T k1 e1 f1 44 b _ (by exact HW1.out) ok1.1 ok1.2 hT).mono ?_; rintro r w7 ⟨rfl, hk7, hw7⟩; rw [HTK1.out] at hw7; rw [HTB1.out]; have HK2 := hide1 (HK1.out.trans hk7); have HW2 := hide1 hw7; clear hk7 hw7)
        | (go_at_call 131; refine (wrong_is T _ e1 f1 b _ (by exact HW4.out) hT).mono ?_; rintro r w11 ⟨rfl, hk11, hw11⟩; have HK6 := hide1 (HK4.out.trans hk11); have HW6 := hide1 hw11; clear hk11 hw11))
      go_ret2
      unfold wrongS failS at HZ4
      have HZ5 := HZ4.out
      simp only [Prod.mk.injEq] at HZ5
      obtain ⟨g1, g2, g3, g4, g5⟩ := HZ5
      subst g1 g2 g3 g4 g5
      exact ⟨rfl, HOK3.out, HK6.out, HW6.out⟩
end Ex
end Go.Proofs.YtbnchnlogikecaaGreatDoor
namespace Go.Proofs.YtbnchnlogikecaaGreatDoor
open Go.RowKit
attribute [local go_sem] Oper.semAt_some
namespace Ex
def timesG (T : ByteArray) : Nat → Pat → Int × Int × Int → Pat × Int × Int × Int
  | 0, p, s => (p, s)
  | m + 1, p, s =>
    if peekP T s.1 = 42 then timesG T m (mkP 4 0 0 0 (-1) [p]) (s.1 + 1, s.2)
    else if peekP T s.1 = 43 then timesG T m (mkP 4 0 0 1 (-1) [p]) (s.1 + 1, s.2)
    else if peekP T s.1 = 63 then timesG T m (mkP 4 0 0 0 1 [p]) (s.1 + 1, s.2)
    else if peekP T s.1 = 123 then timesG T m (mkP 4 0 0 (bracesS T s).1 (bracesS T s).2.1 [p]) (bracesS T s).2.2
    else (p, s)
def timesS (T : ByteArray) (p : Pat) (s : Int × Int × Int) : Pat × Int × Int × Int := timesG T 4097 p s
def BoxAt (w : World) (g : Nat) (x0 x1 x2 x3 x4 x5 : Value) : Prop := w.heap[g]? = some (.cells #[x0, x1, x2, x3, x4, x5] 70 (0, 0))
theorem BoxAt.facts {w : World} {g : Nat} {x0 x1 x2 x3 x4 x5 : Value} (h : BoxAt w g x0 x1 x2 x3 x4 x5) :
    (w.cell? ⟨g, 0, none⟩ = some x0 ∧ w.cell? ⟨g, 1, none⟩ = some x1 ∧ w.cell? ⟨g, 2, none⟩ = some x2 ∧ w.cell? ⟨g, 3, none⟩ = some x3 ∧ w.cell? ⟨g, 4, none⟩ = some x4 ∧ w.cell? ⟨g, 5, none⟩ = some x5) ∧
    w.frozen? ⟨g, 0, none⟩ = false ∧ w.frozen? ⟨g, 1, none⟩ = false ∧ w.frozen? ⟨g, 2, none⟩ = false ∧ w.frozen? ⟨g, 3, none⟩ = false ∧ w.frozen? ⟨g, 4, none⟩ = false ∧ w.frozen? ⟨g, 5, none⟩ = false := by
  unfold BoxAt at h
  refine ⟨⟨?_, ?_, ?_, ?_, ?_, ?_⟩, ?_, ?_, ?_, ?_, ?_, ?_⟩ <;> simp [World.cell?, World.frozen?, h]
theorem BoxAt.lt {w : World} {g : Nat} {x0 x1 x2 x3 x4 x5 : Value} (h : BoxAt w g x0 x1 x2 x3 x4 x5) : g < w.heap.size := (Array.getElem?_eq_some_iff.1 h).1
theorem BoxAt.but {b : Nat} {w w' : World} {g : Nat} {x0 x1 x2 x3 x4 x5 : Value} (h : BoxAt w g x0 x1 x2 x3 x4 x5) (hk : KeptBut b w w') (hg : g ≠ b) : BoxAt w' g x0 x1 x2 x3 x4 x5 := (hk.2.2.2.2 g h.lt hg).trans h
theorem BoxAt.keep {w w' : World} {g : Nat} {x0 x1 x2 x3 x4 x5 : Value} (h : BoxAt w g x0 x1 x2 x3 x4 x5) (hk : Kept w w') : BoxAt w' g x0 x1 x2 x3 x4 x5 := (hk.2.2.2.2 g h.lt).trans h
theorem BoxAt.new (w : World) (x0 x1 x2 x3 x4 x5 : Value) : BoxAt (w.alloc (.cells #[x0, x1, x2, x3, x4, x5] 70)) w.heap.size x0 x1 x2 x3 x4 x5 := heap_alloc_new w _
theorem BoxAt.set {W : World} {g : Nat} {y0 y1 y2 y3 y4 y5 x0 x1 x2 x3 x4 x5 : Value} (h : BoxAt W g y0 y1 y2 y3 y4 y5) : BoxAt ((((((W.setCell ⟨g, 0, none⟩ x0).setCell ⟨g, 1, none⟩ x1).setCell ⟨g, 2, none⟩ x2).setCell ⟨g, 3, none⟩ x3).setCell ⟨g, 4, none⟩ x4).setCell ⟨g, 5, none⟩ x5) g x0 x1 x2 x3 x4 x5 := box_full h
theorem set6_other {W : World} {g d : Nat} {x0 x1 x2 x3 x4 x5 : Value} (hd : d ≠ g) : ((((((W.setCell ⟨g, 0, none⟩ x0).setCell ⟨g, 1, none⟩ x1).setCell ⟨g, 2, none⟩ x2).setCell ⟨g, 3, none⟩ x3).setCell ⟨g, 4, none⟩ x4).setCell ⟨g, 5, none⟩ x5).heap[d]? = W.heap[d]? := by
  rw [Below.heap_setCell _ _ _ _ hd, Below.heap_setCell _ _ _ _ hd, Below.heap_setCell _ _ _ _ hd, Below.heap_setCell _ _ _ _ hd, Below.heap_setCell _ _ _ _ hd, Below.heap_setCell _ _ _ _ hd]
theorem BoxAt.other {W : World} {g d : Nat} {y0 y1 y2 y3 y4 y5 x0 x1 x2 x3 x4 x5 : Value} (h : BoxAt W d y0 y1 y2 y3 y4 y5) (hd : d ≠ g) : BoxAt ((((((W.setCell ⟨g, 0, none⟩ x0).setCell ⟨g, 1, none⟩ x1).setCell ⟨g, 2, none⟩ x2).setCell ⟨g, 3, none⟩ x3).setCell ⟨g, 4, none⟩ x4).setCell ⟨g, 5, none⟩ x5) d y0 y1 y2 y3 y4 y5 := (set6_other hd).trans h
theorem set6_holds {S : Nat → Prop} {W : World} {g : Nat} {x0 x1 x2 x3 x4 x5 : Value} (hS : ¬ S g) : Holds S W ((((((W.setCell ⟨g, 0, none⟩ x0).setCell ⟨g, 1, none⟩ x1).setCell ⟨g, 2, none⟩ x2).setCell ⟨g, 3, none⟩ x3).setCell ⟨g, 4, none⟩ x4).setCell ⟨g, 5, none⟩ x5) := by
  intro d o v hd hc
  rw [← hc]
  exact World.cell?_of_block (a := ⟨d, o, none⟩) (set6_other (fun e => hS (e ▸ hd)))
theorem valOf_mkP (k f t mn mx : Int) (l : List Pat) (u : Value) : valOf (mkP k f t mn mx l).2 u = .agg #[.int .i64 k, .int .i64 f, .int .i64 t, .int .i64 mn, .int .i64 mx, u] := rfl
theorem expr_info : (Tryz.prog.info? 70).map (fun i => (i.zero, i.size, i.bytes)) = some (some (.agg #[.int .i64 0, .int .i64 0, .int .i64 0, .int .i64 0, .int .i64 0, .slice none 0 0]), 6, 64) := by kernel_rfl
theorem info_parts {P : Program} {e : TypeId} {z : Value} {s b : Nat} (h : (P.info? e).map (fun i => (i.zero, i.size, i.bytes)) = some (some z, s, b)) : ∃ i, P.info? e = some i ∧ i.zero = some z ∧ i.size = s ∧ i.bytes = b := by
  obtain ⟨i, hi, h2⟩ := Option.map_eq_some_iff.1 h
  simp only [Prod.mk.injEq] at h2
  exact ⟨i, hi, h2.1, h2.2.1, h2.2.2⟩
def PatsOwn (w : World) (base : Nat) (S : Nat → Prop) (v : Value) (l : List Pat) : Prop := ∃ xs, w.ownsRow base 70 6 v l.length xs ∧ FlatAt (fun d => S d ∧ v.ownBlock ≠ some d) w l xs
theorem PatsOwn.nil (w : World) (base : Nat) (S : Nat → Prop) : PatsOwn w base S (.slice none 0 0) [] := ⟨[], World.ownsRow_nil _ _ _ _, rfl⟩
theorem owns_same {w w' : World} {base size n : Nat} {e : TypeId} {v : Value} {xs : List Value} (h : w.ownsRow base e size v n xs) (hh : ∀ g, v.ownBlock = some g → w'.heap[g]? = w.heap[g]?) : w'.ownsRow base e size v n xs := by
  refine ⟨h.1, ?_⟩
  rcases h.2 with h0 | ⟨g, cap, cur, rfl, h1, h2, h3⟩
  · exact .inl h0
  · exact .inr ⟨g, cap, cur, rfl, h1, by rw [hh g rfl]; exact h2, h3⟩
theorem PatsOwn.form {w : World} {base : Nat} {S : Nat → Prop} {v : Value} {l : List Pat} (h : PatsOwn w base S v l) : ∃ a c, v = .slice a l.length c := by
  obtain ⟨xs, h, _⟩ := h
  rcases h.2 with ⟨rfl, h0⟩ | ⟨g, cap, cur, rfl, _⟩
  · exact ⟨none, 0, by rw [h0]⟩
  · exact ⟨_, _, rfl⟩
theorem PatsOwn.but {b base : Nat} {w w' : World} {S : Nat → Prop} {v : Value} {l : List Pat} (h : PatsOwn w base S v l) (hk : KeptBut b w w') (hb : b < base) (hS : ¬ S b) : PatsOwn w' base S v l := by
  obtain ⟨xs, h1, h2⟩ := h
  exact ⟨xs, owns_same h1 (fun g hg => hk.2.2.2.2 g (h1.lt g hg).2 (by have := (h1.lt g hg).1; omega)), h2.mono (hk.holds (fun h => hS h.1)) (fun _ h => h)⟩
theorem PatsOwn.keep {base : Nat} {w w' : World} {S : Nat → Prop} {v : Value} {l : List Pat} (h : PatsOwn w base S v l) (hk : Kept w w') : PatsOwn w' base S v l := by
  obtain ⟨xs, h1, h2⟩ := h
  exact ⟨xs, owns_same h1 (fun g hg => hk.2.2.2.2 g (h1.lt g hg).2), h2.mono (hk.holds _) (fun _ h => h)⟩
theorem PatsOwn.lt {base : Nat} {w : World} {S : Nat → Prop} {v : Value} {l : List Pat} (h : PatsOwn w base S v l) : ∀ g, v.ownBlock = some g → base ≤ g ∧ g < w.heap.size := by
  obtain ⟨xs, h1, _⟩ := h
  exact h1.lt
theorem PatsOwn.one {w : World} {base g : Nat} {S : Nat → Prop} {p : Pat} {u : Value} (h : BoxAt w g (.int .i64 (kind p.2)) (.int .i64 (from_ p.2)) (.int .i64 (to_ p.2)) (.int .i64 (min_ p.2)) (.int .i64 (max_ p.2)) u) (hg : base ≤ g) (hk : KidsAt (fun d => S d ∧ d ≠ g) w p.1 (kids p.2) u) :
    PatsOwn w base S (.slice (some ⟨g, 0, none⟩) 1 1) [p] := by
  refine ⟨cellsP p u, ⟨rfl, .inr ⟨g, 1, _, rfl, hg, h, Nat.le_refl _, by unfold maxLen; omega, rfl, rfl⟩⟩, ?_⟩
  exact one_flat (KidsAt.mono (fun _ _ _ _ h => h) (fun d hd => ⟨hd.1, fun e => hd.2 (by simp only [Value.ownBlock, Option.some.injEq] at e; exact e.symm)⟩) _ _ _ hk)
theorem row_cells {w : World} {g n : Nat} {cur : Array Value} {xs : List Value} {t : TypeId} (h : w.heap[g]? = some (.cells cur t (0, 0))) (hx : cur.toList.take n = xs) : ∀ j u, xs[j]? = some u → w.cell? ⟨g, 0 + j, none⟩ = some u := by
  intro j u hj
  rw [← hx, List.getElem?_take] at hj
  split at hj
  · unfold World.cell?
    rw [Nat.zero_add]
    simp only [h]
    simpa using hj
  · cases hj
theorem PatsOwn.first {base : Nat} {w : World} {S : Nat → Prop} {v : Value} {p : Pat} {l : List Pat} (h : PatsOwn w base S v (p :: l)) : ∃ g cap u, v = .slice (some ⟨g, 0, none⟩) (l.length + 1) cap ∧ l.length + 1 ≤ cap ∧ (w.cell? ⟨g, 0, none⟩ = some (.int .i64 (kind p.2)) ∧ w.cell? ⟨g, 1, none⟩ = some (.int .i64 (from_ p.2)) ∧ w.cell? ⟨g, 2, none⟩ = some (.int .i64 (to_ p.2)) ∧ w.cell? ⟨g, 3, none⟩ = some (.int .i64 (min_ p.2)) ∧ w.cell? ⟨g, 4, none⟩ = some (.int .i64 (max_ p.2)) ∧ w.cell? ⟨g, 5, none⟩ = some u) ∧ KidsAt S w p.1 (Ex.kids p.2) u := by
  obtain ⟨xs, h1, h2⟩ := h
  rcases h1.2 with ⟨rfl, h0⟩ | ⟨g, cap, cur, rfl, hb, hg, hc, _, _, hx⟩
  · simp at h0
  · obtain ⟨u, a0, a1, a2, a3, a4, a5, hk⟩ := h2.at (i := 0) (p := p) rfl
    have hh := row_cells hg hx
    refine ⟨g, cap, u, rfl, hc, ⟨?_, ?_, ?_, ?_, ?_, ?_⟩, KidsAt.mono (fun _ _ _ _ h => h) (fun d h => h.1) _ _ _ hk⟩
    · exact hh _ _ a0
    · exact hh _ _ a1
    · exact hh _ _ a2
    · exact hh _ _ a3
    · exact hh _ _ a4
    · exact hh _ _ a5
theorem KeptBut.grown {b base : Nat} {w0 w w' : World} {S : Nat → Prop} {v : Value} {l : List Pat} (h : KeptBut b w0 w) (ho : PatsOwn w base S v l) (hb : w0.heap.size ≤ base) (hg : w.grownBy w' v.ownBlock) : KeptBut b w0 w' :=
  ⟨hg.os.trans h.1, hg.tape.trans h.2.1, hg.output.trans h.2.2.1, Nat.le_trans h.2.2.2.1 hg.size, fun k hk hn => (hg.block k (Nat.lt_of_lt_of_le hk h.2.2.2.1) (fun e => by have := (ho.lt k e.symm).1; omega)).trans (h.2.2.2.2 k hk hn)⟩
theorem heap_grown {base k : Nat} {w w' : World} {S : Nat → Prop} {v : Value} {l : List Pat} (ho : PatsOwn w base S v l) (hg : w.grownBy w' v.ownBlock) (hk : k < base) (hl : k < w.heap.size) : w'.heap[k]? = w.heap[k]? :=
  hg.block k hl (fun e => by have := (ho.lt k e.symm).1; omega)
theorem wpl_append_pat {ops : Array Oper} {rest : List Oper} {o : Oper} {a : Act} {Q : Exit → Act → World → Prop} (hgd : o.guard = none) (s x : Operand)
    (ho : o.op = .call { callee := .builtin .append, args := #[s, x], argTypes := #[68, 68] }) (W : World) (base : Nat) (S : Nat → Prop) (v : Value) (l : List Pat) (n : Nat) (hn : l.length = n) (hs : a.eval s = v) (hown : PatsOwn W base S v l)
    (lb : Nat) (p : Pat) (u : Value) (hx : a.eval x = .slice (some ⟨lb, 0, none⟩) 1 1) (hbx : BoxAt W lb (.int .i64 (kind p.2)) (.int .i64 (from_ p.2)) (.int .i64 (to_ p.2)) (.int .i64 (min_ p.2)) (.int .i64 (max_ p.2)) u)
    (hk : KidsAt (fun d => S d ∧ v.ownBlock ≠ some d) W p.1 (kids p.2) u) (hl : l.length ≤ 100000) (hbase : base ≤ W.heap.size)
    (h : ∀ g cap w', PatsOwn w' base S (.slice (some ⟨g, 0, none⟩) (n + 1) cap) (l ++ [p]) → W.grownBy w' v.ownBlock → wpList Tryz.prog ops Q rest (a.put o.dst (.slice (some ⟨g, 0, none⟩) (n + 1) cap)) w') : wpList Tryz.prog ops Q (o :: rest) a W := by
  obtain ⟨i0, hi, hz0, hz1, hz2⟩ := info_parts expr_info
  obtain ⟨xs, h1, h2⟩ := hown
  subst hn
  obtain ⟨⟨c0, c1, c2, c3, c4, c5⟩, _⟩ := hbx.facts
  obtain ⟨au, lu, cu, hu⟩ : ∃ a l c, u = .slice a l c := by obtain ⟨a, c, h⟩ := hk.form; exact ⟨_, _, _, h⟩
  refine wpList_append_lies W hgd s x 68 ho base 70 i0 _ 6 64 Tryz.underlying68 hi hz0 hz1 hz2 rfl (by decide) v l.length xs hs h1 ⟨lb, 0, none⟩ 1 1 (cellsP p u) hx rfl ?_ ?_ (by decide) (by unfold maxLen; omega) (by omega) hbase W.heap.size rfl ?_
  · intro j y hj
    have hj6 : j < 6 := (List.getElem?_eq_some_iff.1 hj).1
    match j, hj6 with
    | 0, _ => exact c0.trans hj
    | 1, _ => exact c1.trans hj
    | 2, _ => exact c2.trans hj
    | 3, _ => exact c3.trans hj
    | 4, _ => exact c4.trans hj
    | 5, _ => exact c5.trans hj
  · intro y hy
    subst hu
    simp only [cellsP, List.mem_cons, List.not_mem_nil, or_false] at hy
    rcases hy with rfl | rfl | rfl | rfl | rfl | rfl <;> rfl
  · intro g cap w' h3 h4 h5 h6
    refine h g cap w' ⟨xs ++ cellsP p u, by rw [List.length_append, List.length_singleton]; exact h3, ?_⟩ h4
    have hflat := (h2.snoc hk).tight
    refine hflat.mono ?_ ?_
    · intro d o' v' hd hc
      exact h4.cell hc (fun e => hd.1.2 e.symm)
    · intro d hd
      refine ⟨hd.1.1, fun e => ?_⟩
      simp only [Value.ownBlock, Option.some.injEq] at e
      rcases h5 with h5 | h5
      · exact hd.1.2 (by rw [h5, e])
      · have := hd.2; omega
end Ex
end Go.Proofs.YtbnchnlogikecaaGreatDoor
