import Derived.Test.YtbnchnlogikecaaGreatDoorMExRh2
import Derived.Test.YtbnchnlogikecaaGreatDoorMExPat
namespace Go.Proofs.YtbnchnlogikecaaGreatDoor
open Go.RowKit
attribute [local go_sem] Oper.semAt_some
namespace Ex

set_option linter.unusedSimpArgs false in
set_option maxRecDepth 100000 in
set_option maxHeartbeats 2000000 in
theorem one_at (T : ByteArray) (k e f : Int) (b : Nat) (w : World) (h : RAt w b T k e f) (h0 : 0 ≤ k) (h1 : k ≤ T.size) (hT : T.size ≤ 4096) (hne : peekP T k ≠ 92) :
    Calls Tryz.prog 150 #[.pointer (some ⟨b, 0, none⟩)] w fun r w' => r = .returned (.int .i64 (oneS T (k, e, f)).1) ∧ RGave b w T (oneS T (k, e, f)).2 w' := by
  have HR := hide1 h
  obtain ⟨c0, c1, c2, c3, c4⟩ := h.cells
  obtain ⟨z0, z1, z2, z3, z4⟩ := h.free
  have hb := h.lt
  have gT : (T.size : Int) ≤ 4096 := by omega
  clear h
  have hc := peek_byte T k
  unfold IsB at hc
  have HE : Hid (oneS T (k, e, f) = if printedP (peekP T k) && !inS classSignsS (peekP T k) then (peekP T k, k + 1, e, f) else (0, wrongS T (k, e, f))) := rfl
  have HLT : Hid (peekP T k ≠ 0 → 0 ≤ k ∧ k < T.size) := fun h => peek_lt h
  obtain ⟨c, hcc⟩ : ∃ c, peekP T k = c := ⟨_, rfl⟩
  rw [hcc] at hc hne HE HLT
  have HC := hide1 hcc
  clear hcc
  go_enter Tryz.func150, Tryz.ntmps150
  by_cases hpr : printedP c = true
  · have hlt : 0 ≤ k ∧ k < T.size := HLT.out (by unfold printedP at hpr; simp at hpr; omega)
    obtain ⟨x, hx⟩ : ∃ x, firstIdx { data := #[93, 92, 45, 47] } c.toNat.toUInt8 = x := ⟨_, rfl⟩
    have HX := hide1 hx
    by_cases hin : x < 0
    · have hin2 : inS classSignsS c = false := by unfold inS classSignsS; rw [hx]; simpa using hin
      clear hx
      go_wp2_with (first
        | (go_at_call 135; refine (peek_is T k e f b _ (by exact HR.out) h0 h1 hT).mono ?_; rintro e w6 ⟨rfl, m, rfl⟩; rw [HC.out])
        | (go_at_call 98; refine (printed_is _ _).mono ?_; rintro e w6 ⟨rfl, rfl⟩; rw [hpr])
        | (go_at_call 99; refine (index_is _ _ _).mono ?_; rintro e w6 ⟨rfl, rfl⟩; rw [HX.out]))
      all_goals
        go_ret
        rw [HE.out, hpr, hin2]
        exact ⟨rfl, ⟨by show 0 ≤ k + 1; omega, by show k + 1 ≤ _; omega⟩, but_set (but_drew (but_refl _ _) _) _ _, (HR.out.drew _).move _⟩
    · have hin2 : inS classSignsS c = true := by unfold inS classSignsS; rw [hx]; simpa using hin
      clear hx
      go_wp2_with (first
        | (go_at_call 135; refine (peek_is T k e f b _ (by exact HR.out) h0 h1 hT).mono ?_; rintro e w6 ⟨rfl, m, rfl⟩; rw [HC.out])
        | (go_at_call 98; refine (printed_is _ _).mono ?_; rintro e w6 ⟨rfl, rfl⟩; rw [hpr])
        | (go_at_call 99; refine (index_is _ _ _).mono ?_; rintro e w6 ⟨rfl, rfl⟩; rw [HX.out])
        | (go_at_call 131; refine (wrong_is T k e f b _ (by exact HR.out) hT).mono ?_; rintro e w6 ⟨rfl, hk6, hw6⟩; have HK6 := hide1 (but_undrew hk6); have HW6 := hide1 hw6; clear hk6 hw6))
      all_goals
        go_ret
        rw [HE.out, hpr, hin2]
        exact ⟨rfl, ⟨Int.natCast_nonneg _, Int.le_refl _⟩, HK6.out, HW6.out⟩
  · have hpr2 : printedP c = false := by simpa using hpr
    go_wp2_with (first
      | (go_at_call 135; refine (peek_is T k e f b _ (by exact HR.out) h0 h1 hT).mono ?_; rintro e w6 ⟨rfl, m, rfl⟩; rw [HC.out])
      | (go_at_call 98; refine (printed_is _ _).mono ?_; rintro e w6 ⟨rfl, rfl⟩; rw [hpr2])
      | (go_at_call 131; refine (wrong_is T k e f b _ (by exact HR.out) hT).mono ?_; rintro e w6 ⟨rfl, hk6, hw6⟩; have HK6 := hide1 (but_undrew hk6); have HW6 := hide1 hw6; clear hk6 hw6))
    all_goals
      go_ret
      rw [HE.out, hpr2]
      exact ⟨rfl, ⟨Int.natCast_nonneg _, Int.le_refl _⟩, HK6.out, HW6.out⟩


def oneA (T : ByteArray) (s : Int × Int × Int) : Int × Int × Int × Int := if peekP T s.1 = 92 then escapeS T s else oneS T s
theorem hex_ok {T : ByteArray} {s : Int × Int × Int} {o : Int} (h : OkS T s) : OkS T (hexR T s o).2 ∧ s.1 ≤ (hexR T s o).2.1 := by
  unfold hexR
  split
  · exact ⟨wrong_ok T s, h.2⟩
  · rename_i h1
    split
    · exact ⟨fail_ok _ _ _ _, h.2⟩
    · have := h.1; have := h.2
      exact ⟨⟨by show 0 ≤ s.1 + 1; omega, by show s.1 + 1 ≤ _; omega⟩, by show s.1 ≤ s.1 + 1; omega⟩
theorem esc_ok {T : ByteArray} {s : Int × Int × Int} (h0 : 0 ≤ s.1) (h1 : s.1 < T.size) : OkS T (escapeS T s).2 ∧ s.1 ≤ (escapeS T s).2.1 := by
  unfold escapeS
  split
  · exact ⟨wrong_ok T _, by show s.1 ≤ (T.size : Int); omega⟩
  · rename_i h2
    have g : OkS T (s.1 + 1 + 1, s.2) ∧ s.1 ≤ s.1 + 1 + 1 := ⟨⟨by show 0 ≤ s.1 + 1 + 1; omega, by show s.1 + 1 + 1 ≤ _; omega⟩, by omega⟩
    split
    · exact g
    · split
      · exact g
      · split
        · exact g
        · split
          · have a := hex_ok (o := s.1) g.1
            have c := hex_ok (o := s.1) a.1
            have a2 : s.1 + 1 + 1 ≤ (hexR T (s.1 + 1 + 1, s.2) s.1).2.1 := a.2
            have c2 := c.2
            exact ⟨c.1, by show s.1 ≤ (hexR T (hexR T (s.1 + 1 + 1, s.2) s.1).2 s.1).2.1; omega⟩
          · split
            · exact ⟨fail_ok _ _ _ _, by show s.1 ≤ (T.size : Int); omega⟩
            · exact g
theorem oneA_ok {T : ByteArray} {s : Int × Int × Int} (h : OkS T s) : OkS T (oneA T s).2 ∧ s.1 ≤ (oneA T s).2.1 := by
  unfold oneA
  split
  · rename_i hc
    have := peek_lt (T := T) (k := s.1) (by rw [hc]; decide)
    exact esc_ok this.1 this.2
  · exact one_ok h

set_option linter.unusedSimpArgs false in
set_option maxRecDepth 100000 in
set_option maxHeartbeats 2000000 in
theorem oneA_is (T : ByteArray) (k e f : Int) (b : Nat) (w : World) (h : RAt w b T k e f) (h0 : 0 ≤ k) (h1 : k ≤ T.size) (hT : T.size ≤ 4096) :
    Calls Tryz.prog 150 #[.pointer (some ⟨b, 0, none⟩)] w fun r w' => r = .returned (.int .i64 (oneA T (k, e, f)).1) ∧ RGave b w T (oneA T (k, e, f)).2 w' := by
  by_cases hc : peekP T k = 92
  · have hlt := peek_lt (T := T) (k := k) (by rw [hc]; decide)
    have HE : Hid (oneA T (k, e, f) = escapeS T (k, e, f)) := by show oneA T (k, e, f) = _; unfold oneA; rw [if_pos hc]
    rw [HE.out]
    have HR := hide1 h
    obtain ⟨c0, c1, c2, c3, c4⟩ := h.cells
    have hb := h.lt
    have HC := hide1 hc
    clear h hc
    go_enter Tryz.func150, Tryz.ntmps150
    go_wp2_with (first
      | (go_at_call 135; refine (peek_is T k e f b _ (by exact HR.out) h0 h1 hT).mono ?_; rintro e w6 ⟨rfl, m, rfl⟩; rw [HC.out])
      | (go_at_call 141; refine (escape_is T k e f b _ (by first | exact HR.out | exact HR.out.drew _) h0 hlt.2 hT).mono ?_; rintro e w6 ⟨rfl, hg6⟩; have HG := hide1 hg6; clear hg6))
    all_goals
      go_ret
      exact ⟨rfl, HG.out.1, but_undrew HG.out.2.1, HG.out.2.2⟩
  · have e1 : oneA T (k, e, f) = oneS T (k, e, f) := by unfold oneA; rw [if_neg hc]
    rw [e1]
    exact one_at T k e f b w h h0 h1 hT hc

/-- A member's first byte, its last, the state behind. -/
def memberF (T : ByteArray) (s : Int × Int × Int) : Int × Int × Int × Int := if peekP T (oneA T s).2.1 = 45 then oneA T ((oneA T s).2.1 + 1, (oneA T s).2.2) else oneA T s
def memberA (T : ByteArray) (s : Int × Int × Int) (y : Int) : Pat × Int × Int × Int := (rangeP (oneA T s).1 (memberF T s).1, if (memberF T s).1 < (oneA T s).1 then failS T (memberF T s).2 22 y else (memberF T s).2)

set_option linter.unusedSimpArgs false in
set_option maxRecDepth 100000 in
set_option maxHeartbeats 2000000 in
theorem memberA_is (T : ByteArray) (k e f y : Int) (b : Nat) (w : World) (h : RAt w b T k e f) (h0 : 0 ≤ k) (h1 : k ≤ T.size) (hT : T.size ≤ 4096) :
    Calls Tryz.prog 148 #[.pointer (some ⟨b, 0, none⟩), .int .i64 y] w fun r w' => r = .returned (rangeV (oneA T (k, e, f)).1 (memberF T (k, e, f)).1) ∧ RGave b w T (memberA T (k, e, f) y).2 w' := by
  have HR := hide1 h
  have hb := h.lt
  have gT : (T.size : Int) ≤ 4096 := by omega
  have hok := oneA_ok (T := T) (s := (k, e, f)) ⟨h0, h1⟩
  have HF : Hid ((memberA T (k, e, f) y).2 = if (memberF T (k, e, f)).1 < (oneA T (k, e, f)).1 then failS T (memberF T (k, e, f)).2 22 y else (memberF T (k, e, f)).2) := rfl
  have HE : Hid (memberF T (k, e, f) = if peekP T (oneA T (k, e, f)).2.1 = 45 then oneA T ((oneA T (k, e, f)).2.1 + 1, (oneA T (k, e, f)).2.2) else oneA T (k, e, f)) := rfl
  unfold rangeV
  obtain ⟨⟨a, k1, e1, f1⟩, hA⟩ : ∃ x, oneA T (k, e, f) = x := ⟨_, rfl⟩
  rw [hA] at hok HE HF ⊢
  have HA := hide1 hA
  obtain ⟨ok1, hk1⟩ := hok
  unfold OkS at ok1
  dsimp only at ok1 hk1
  clear hA h
  by_cases hc : peekP T k1 = 45
  · have ok2 := take_ok (T := T) (s := (k1, e1, f1)) (c := 45) (by decide) hc
    have ok3 := oneA_ok ok2
    have HE2 : Hid (memberF T (k, e, f) = oneA T (k1 + 1, e1, f1)) := by have := HE.out; rw [if_pos hc] at this; exact this
    have HTK : Hid (takeK T k1 45 = k1 + 1) := by show _ = _; rw [takeK, if_pos hc]
    have HTB : Hid ((peekP T k1 == 45) = true) := by show _ = _; rw [hc]; rfl
    obtain ⟨⟨z, k2, e2, f2⟩, hB⟩ : ∃ x, oneA T (k1 + 1, e1, f1) = x := ⟨_, rfl⟩
    have HE3 := HE2.out
    rw [hB] at ok3 HE3
    rw [HE3] at HF ⊢
    have HB := hide1 hB
    obtain ⟨ok3, _⟩ := ok3
    unfold OkS at ok2 ok3
    dsimp only at ok2 ok3 HF ⊢
    clear hB HE HE2 HE3 hc
    go_enter Tryz.func148, Tryz.ntmps148
    by_cases hz : z < a
    · rw [HF.out, if_pos hz]
      go_wp2_with (first
        | (go_at_call 150; have _g := HW2; clear _g; refine (oneA_is T (k1 + 1) e1 f1 b _ (by exact HW2.out) ok2.1 ok2.2 hT).mono ?_; rintro r w8 ⟨rfl, hg⟩; rw [HB.out] at hg ⊢; obtain ⟨_, hk8, hw8⟩ := hg; have HK3 := hide1 (HK2.out.trans hk8); have HW3 := hide1 hw8; clear hk8 hw8)
        | (go_at_call 150; refine (oneA_is T k e f b _ (HR.out.keep ((Kept.refl _).alloc _ _)) h0 h1 hT).mono ?_; rintro r w6 ⟨rfl, hg⟩; rw [HA.out] at hg ⊢; obtain ⟨_, hk6, hw6⟩ := hg; have HK1 := hide1 hk6; have HW1 := hide1 hw6; clear hk6 hw6)
        | (go_at_call 133; refine (take_is T k1 e1 f1 45 b _ (by exact HW1.out) ok1.1 ok1.2 hT).mono ?_; rintro r w7 ⟨rfl, hk7, hw7⟩; rw [HTK.out] at hw7; rw [HTB.out]; have HK2 := hide1 (HK1.out.trans hk7); have HW2 := hide1 hw7; clear hk7 hw7)
        | (go_at_call 134; refine (fail_is T k2 e2 f2 _ _ b _ (by exact HW3.out)).mono ?_; rintro r w9 ⟨rfl, hk9, hw9⟩; have HK4 := hide1 (HK3.out.trans hk9); have HW4 := hide1 hw9; obtain ⟨⟨q0, q1, q2, q3, q4, q5⟩, y0, y1, y2, y3, y4, y5⟩ := box_end HK4.out hb; clear hk9 hw9))
      (try simp only [Exit.inBlock, Exit.then])
      refine bodyPost_ret (box_returns rfl _ _ w.heap.size _ _ _ _ _ _ rfl (box_full (box_kept HK4.out hb))) rfl ?_
      exact ⟨rfl, fail_ok _ _ _ _, fin_but (but_allocd HK4.out) (Nat.le_refl _), HW4.out.fin (by omega)⟩
    · rw [HF.out, if_neg hz]
      go_wp2_with (first
        | (go_at_call 150; have _g := HW2; clear _g; refine (oneA_is T (k1 + 1) e1 f1 b _ (by exact HW2.out) ok2.1 ok2.2 hT).mono ?_; rintro r w8 ⟨rfl, hg⟩; rw [HB.out] at hg ⊢; obtain ⟨_, hk8, hw8⟩ := hg; have HK3 := hide1 (HK2.out.trans hk8); have HW3 := hide1 hw8; obtain ⟨⟨q0, q1, q2, q3, q4, q5⟩, y0, y1, y2, y3, y4, y5⟩ := box_end HK3.out hb; clear hk8 hw8)
        | (go_at_call 150; refine (oneA_is T k e f b _ (HR.out.keep ((Kept.refl _).alloc _ _)) h0 h1 hT).mono ?_; rintro r w6 ⟨rfl, hg⟩; rw [HA.out] at hg ⊢; obtain ⟨_, hk6, hw6⟩ := hg; have HK1 := hide1 hk6; have HW1 := hide1 hw6; clear hk6 hw6)
        | (go_at_call 133; refine (take_is T k1 e1 f1 45 b _ (by exact HW1.out) ok1.1 ok1.2 hT).mono ?_; rintro r w7 ⟨rfl, hk7, hw7⟩; rw [HTK.out] at hw7; rw [HTB.out]; have HK2 := hide1 (HK1.out.trans hk7); have HW2 := hide1 hw7; clear hk7 hw7))
      (try simp only [Exit.inBlock, Exit.then])
      refine bodyPost_ret (box_returns rfl _ _ w.heap.size _ _ _ _ _ _ rfl (box_full (box_kept HK3.out hb))) rfl ?_
      exact ⟨rfl, ok3, fin_but (but_allocd HK3.out) (Nat.le_refl _), HW3.out.fin (by omega)⟩
  · have HTK : Hid (takeK T k1 45 = k1) := by show _ = _; rw [takeK, if_neg hc]
    have HTB : Hid ((peekP T k1 == 45) = false) := by show _ = _; simpa using hc
    have HE3 := HE.out
    rw [if_neg hc] at HE3
    rw [HE3] at HF ⊢
    have hz : ¬ a < a := by omega
    dsimp only at HF ⊢
    clear HE HE3 hc
    go_enter Tryz.func148, Tryz.ntmps148
    rw [HF.out, if_neg hz]
    go_wp2_with (first
      | (go_at_call 150; refine (oneA_is T k e f b _ (HR.out.keep ((Kept.refl _).alloc _ _)) h0 h1 hT).mono ?_; rintro r w6 ⟨rfl, hg⟩; rw [HA.out] at hg ⊢; obtain ⟨_, hk6, hw6⟩ := hg; have HK1 := hide1 hk6; have HW1 := hide1 hw6; clear hk6 hw6)
      | (go_at_call 133; refine (take_is T k1 e1 f1 45 b _ (by exact HW1.out) ok1.1 ok1.2 hT).mono ?_; rintro r w7 ⟨rfl, hk7, hw7⟩; rw [HTK.out] at hw7; rw [HTB.out]; have HK2 := hide1 (HK1.out.trans hk7); have HW2 := hide1 hw7; obtain ⟨⟨q0, q1, q2, q3, q4, q5⟩, y0, y1, y2, y3, y4, y5⟩ := box_end HK2.out hb; clear hk7 hw7))
    (try simp only [Exit.inBlock, Exit.then])
    refine bodyPost_ret (box_returns rfl _ _ w.heap.size _ _ _ _ _ _ rfl (box_full (box_kept HK2.out hb))) rfl ?_
    exact ⟨rfl, ok1, fin_but (but_allocd HK2.out) (Nat.le_refl _), HW2.out.fin (by omega)⟩

end Ex
end Go.Proofs.YtbnchnlogikecaaGreatDoor
