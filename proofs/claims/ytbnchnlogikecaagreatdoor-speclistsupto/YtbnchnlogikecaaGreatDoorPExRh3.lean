import Derived.Test.YtbnchnlogikecaaGreatDoorPExRh2
import Derived.Test.YtbnchnlogikecaaGreatDoorPExRd3
import Derived.Test.YtbnchnlogikecaaGreatDoorPShO
namespace Go.Proofs.YtbnchnlogikecaaGreatDoor
open Go.RowKit
attribute [local go_sem] Oper.semAt_some
set_option linter.unusedSimpArgs false
set_option maxRecDepth 100000
set_option maxHeartbeats 2000000
namespace Ex
theorem one_at (T : ByteArray) (k e f : Int) (b : Nat) (w : World) (h : RAt w b T k e f) (h0 : 0 ≤ k) (h1 : k ≤ T.size) (hT : T.size ≤ 4096) (hne : peekP T k ≠ 92) :
    Calls Tryz.prog 150 #[.pointer (some ⟨b, 0, none⟩)] w fun r w' => r = .returned (.int .i64 (oneS T (k, e, f)).1) ∧ RGave b w T (oneS T (k, e, f)).2 w' := by
  have HR := hide1 h
  obtain ⟨c0, c1, c2, c3, c4⟩ := h.cells
  obtain ⟨z0, z1, z2, z3, z4⟩ := h.free
  have hb := h.lt
  have gT : (T.size : Int) ≤ 4096 := by omega
  clear h
  have hc := peek_byte T k
  unfold IsB at hc
  have HE : Hid (oneS T (k, e, f) = if printedP (peekP T k) && !inS classSignsS (peekP T k) then (peekP T k, k + 1, e, f) else (0, wrongS T (k, e, f))) := rfl
  have HLT : Hid (peekP T k ≠ 0 → 0 ≤ k ∧ k < T.size) := fun h => peek_lt h
  obtain ⟨c, hcc⟩ : ∃ c, peekP T k = c := ⟨_, rfl⟩
  rw [hcc] at hc hne HE HLT
  have HC := hide1 hcc
  clear hcc
  go_enter Tryz.func150, Tryz.ntmps150
  by_cases hpr : printedP c = true
  · have hlt : 0 ≤ k ∧ k < T.size := HLT.out (by unfold printedP at hpr; simp at hpr; omega)
    obtain ⟨x, hx⟩ : ∃ x, firstIdx { data := #[93, 92, 45, 47] } c.toNat.toUInt8 = x := ⟨_, rfl⟩
    have HX := hide1 hx
    by_cases hin : x < 0
    · have hin2 : inS classSignsS c = false := by unfold inS classSignsS; rw [hx]; simpa using hin
      clear hx
      go_wp2_with (first
        | (go_at_call 135; refine (peek_is T k e f b _ (by exact HR.out) h0 h1 hT).mono ?_; rintro e w6 ⟨rfl, m, rfl⟩; rw [HC.out])
        | (go_at_call 98; refine (printed_is _ _).mono ?_; rintro e w6 ⟨rfl, rfl⟩; rw [hpr])
        | (go_at_call 99; refine (index_is _ _ _).mono ?_; rintro e w6 ⟨rfl, rfl⟩; rw [HX.out]))
      all_goals
        go_ret
        rw [HE.out, hpr, hin2]
        exact ⟨rfl, ⟨by show 0 ≤ k + 1; omega, by show k + 1 ≤ _; omega⟩, but_set (but_drew (but_refl _ _) _) _ _, (HR.out.drew _).move _⟩
    · have hin2 : inS classSignsS c = true := by unfold inS classSignsS; rw [hx]; simpa using hin
      clear hx
      go_wp2_with (first
        | (go_at_call 135; refine (peek_is T k e f b _ (by exact HR.out) h0 h1 hT).mono ?_; rintro e w6 ⟨rfl, m, rfl⟩; rw [HC.out])
        | (go_at_call 98; refine (printed_is _ _).mono ?_; rintro e w6 ⟨rfl, rfl⟩; rw [hpr])
        | (go_at_call 99; refine (index_is _ _ _).mono ?_; rintro e w6 ⟨rfl, rfl⟩; rw [HX.out])
        | (go_at_call 131; refine (wrong_is T k e f b _ (by exact HR.out) hT).mono ?_; rintro e w6 ⟨rfl, hk6, hw6⟩; have HK6 := hide1 (but_undrew hk6); have HW6 := hide1 hw6; clear hk6 hw6))
      all_goals
        go_ret
        rw [HE.out, hpr, hin2]
        exact ⟨rfl, ⟨Int.natCast_nonneg _, Int.le_refl _⟩, HK6.out, HW6.out⟩
  · have hpr2 : printedP c = false := by simpa using hpr
    go_wp2_with (first
      | (go_at_call 135; refine (peek_is T k e f b _ (by exact HR.out) h0 h1 hT).mono ?_; rintro e w6 ⟨rfl, m, rfl⟩; rw [HC.out])
      | (go_at_call 98; refine (printed_is _ _).mono ?_; rintro e w6 ⟨rfl, rfl⟩; rw [hpr2])
      | (go_at_call 131; refine (wrong_is T k e f b _ (by exact HR.out) hT).mono ?_; rintro e w6 ⟨rfl, hk6, hw6⟩; have HK6 := hide1 (but_undrew hk6); have HW6 := hide1 hw6; clear hk6 hw6))
    all_goals
      go_ret
      rw [HE.out, hpr2]
      exact ⟨rfl, ⟨Int.natCast_nonneg _, Int.le_refl _⟩, HK6.out, HW6.out⟩
def oneA (T : ByteArray) (s : Int × Int × Int) : Int × Int × Int × Int := if peekP T s.1 = 92 then escapeS T s else oneS T s
theorem hex_ok {T : ByteArray} {s : Int × Int × Int} {o : Int} (h : OkS T s) : OkS T (hexR T s o).2 ∧ s.1 ≤ (hexR T s o).2.1 := by
  unfold hexR
  split
  · exact ⟨wrong_ok T s, h.2⟩
  · rename_i h1
    split
    · exact ⟨fail_ok _ _ _ _, h.2⟩
    · have := h.1; have := h.2
      exact ⟨⟨by show 0 ≤ s.1 + 1; omega, by show s.1 + 1 ≤ _; omega⟩, by show s.1 ≤ s.1 + 1; omega⟩
theorem esc_ok {T : ByteArray} {s : Int × Int × Int} (h0 : 0 ≤ s.1) (h1 : s.1 < T.size) : OkS T (escapeS T s).2 ∧ s.1 ≤ (escapeS T s).2.1 := by
  unfold escapeS
  split
  · exact ⟨wrong_ok T _, by show s.1 ≤ (T.size : Int); omega⟩
  · rename_i h2
    have g : OkS T (s.1 + 1 + 1, s.2) ∧ s.1 ≤ s.1 + 1 + 1 := ⟨⟨by show 0 ≤ s.1 + 1 + 1; omega, by show s.1 + 1 + 1 ≤ _; omega⟩, by omega⟩
    split
    · exact g
    · split
      · exact g
      · split
        · exact g
        · split
          · have a := hex_ok (o := s.1) g.1
            have c := hex_ok (o := s.1) a.1
            have a2 : s.1 + 1 + 1 ≤ (hexR T (s.1 + 1 + 1, s.2) s.1).2.1 := a.2
            have c2 := c.2
            exact ⟨c.1, by show s.1 ≤ (hexR T (hexR T (s.1 + 1 + 1, s.2) s.1).2 s.1).2.1; omega⟩
          · split
            · exact ⟨fail_ok _ _ _ _, by show s.1 ≤ (T.size : Int); omega⟩
            · exact g
theorem oneA_ok {T : ByteArray} {s : Int × Int × Int} (h : OkS T s) : OkS T (oneA T s).2 ∧ s.1 ≤ (oneA T s).2.1 := by
  unfold oneA
  split
  · rename_i hc
    have := peek_lt (T := T) (k := s.1) (by rw [hc]; decide)
    exact esc_ok this.1 this.2
  · exact one_ok h
theorem oneA_is (T : ByteArray) (k e f : Int) (b : Nat) (w : World) (h : RAt w b T k e f) (h0 : 0 ≤ k) (h1 : k ≤ T.size) (hT : T.size ≤ 4096) :
    Calls Tryz.prog 150 #[.pointer (some ⟨b, 0, none⟩)] w fun r w' => r = .returned (.int .i64 (oneA T (k, e, f)).1) ∧ RGave b w T (oneA T (k, e, f)).2 w' := by
  by_cases hc : peekP T k = 92
  · have hlt := peek_lt (T := T) (k := k) (by rw [hc]; decide)
    have HE : Hid (oneA T (k, e, f) = escapeS T (k, e, f)) := by show oneA T (k, e, f) = _; unfold oneA; rw [if_pos hc]
    rw [HE.out]
    have HR := hide1 h
    obtain ⟨c0, c1, c2, c3, c4⟩ := h.cells
    have hb := h.lt
    have HC := hide1 hc
    clear h hc
    go_enter Tryz.func150, Tryz.ntmps150
    go_wp2_with (first
      | (go_at_call 135; refine (peek_is T k e f b _ (by exact HR.out) h0 h1 hT).mono ?_; rintro e w6 ⟨rfl, m, rfl⟩; rw [HC.out])
      | (go_at_call 141; refine (escape_is T k e f b _ (by first | exact HR.out | exact HR.out.drew _) h0 hlt.2 hT).mono ?_; rintro e w6 ⟨rfl, hg6⟩; have HG := hide1 hg6; clear hg6))
    all_goals
      go_ret
      exact ⟨rfl, HG.out.1, but_undrew HG.out.2.1, HG.out.2.2⟩
  · have e1 : oneA T (k, e, f) = oneS T (k, e, f) := by unfold oneA; rw [if_neg hc]
    rw [e1]
    exact one_at T k e f b w h h0 h1 hT hc
def memberF (T : ByteArray) (s : Int × Int × Int) : Int × Int × Int × Int := if peekP T (oneA T s).2.1 = 45 then oneA T ((oneA T s).2.1 + 1, (oneA T s).2.2) else oneA T s
def memberA (T : ByteArray) (s : Int × Int × Int) (y : Int) : Pat × Int × Int × Int := (rangeP (oneA T s).1 (memberF T s).1, if (memberF T s).1 < (oneA T s).1 then failS T (memberF T s).2 22 y else (memberF T s).2)
theorem memberA_is (T : ByteArray) (k e f y : Int) (b : Nat) (w : World) (h : RAt w b T k e f) (h0 : 0 ≤ k) (h1 : k ≤ T.size) (hT : T.size ≤ 4096) :
    Calls Tryz.prog 148 #[.pointer (some ⟨b, 0, none⟩), .int .i64 y] w fun r w' => r = .returned (rangeV (oneA T (k, e, f)).1 (memberF T (k, e, f)).1) ∧ RGave b w T (memberA T (k, e, f) y).2 w' := by
  have HR := hide1 h
  have hb := h.lt
  have gT : (T.size : Int) ≤ 4096 := by omega
  have hok := oneA_ok (T := T) (s := (k, e, f)) ⟨h0, h1⟩
  have HF : Hid ((memberA T (k, e, f) y).2 = if (memberF T (k, e, f)).1 < (oneA T (k, e, f)).1 then failS T (memberF T (k, e, f)).2 22 y else (memberF T (k, e, f)).2) := rfl
  have HE : Hid (memberF T (k, e, f) = if peekP T (oneA T (k, e, f)).2.1 = 45 then oneA T ((oneA T (k, e, f)).2.1 + 1, (oneA T (k, e, f)).2.2) else oneA T (k, e, f)) := rfl
  unfold rangeV
  obtain ⟨⟨a, k1, e1, f1⟩, hA⟩ : ∃ x, oneA T (k, e, f) = x := ⟨_, rfl⟩
  rw [hA] at hok HE HF ⊢
  have HA := hide1 hA
  obtain ⟨ok1, hk1⟩ := hok
  unfold OkS at ok1
  dsimp only at ok1 hk1
  clear hA h
  by_cases hc : peekP T k1 = 45
  · have ok2 := take_ok (T := T) (s := (k1, e1, f1)) (c := 45) (by decide) hc
    have ok3 := oneA_ok ok2
    have HE2 : Hid (memberF T (k, e, f) = oneA T (k1 + 1, e1, f1)) := by have := HE.out; rw [if_pos hc] at this; exact this
    have HTK : Hid (takeK T k1 45 = k1 + 1) := by show _ = _; rw [takeK, if_pos hc]
    have HTB : Hid ((peekP T k1 == 45) = true) := by show _ = _; rw [hc]; rfl
    obtain ⟨⟨z, k2, e2, f2⟩, hB⟩ : ∃ x, oneA T (k1 + 1, e1, f1) = x := ⟨_, rfl⟩
    have HE3 := HE2.out
    rw [hB] at ok3 HE3
    rw [HE3] at HF ⊢
    have HB := hide1 hB
    obtain ⟨ok3, _⟩ := ok3
    unfold OkS at ok2 ok3
    dsimp only at ok2 ok3 HF ⊢
    clear hB HE HE2 HE3 hc
    go_enter Tryz.func148, Tryz.ntmps148
    by_cases hz : z < a
    · rw [HF.out, if_pos hz]
      go_wp2_with (first
        | (go_at_call 150; have _g := HW2; clear _g; refine (oneA_is T (k1 + 1) e1 f1 b _ (by exact HW2.out) ok2.1 ok2.2 hT).mono ?_; rintro r w8 ⟨rfl, hg⟩; rw [HB.out] at hg ⊢; obtain ⟨_, hk8, hw8⟩ := hg; have HK3 := hide1 (HK2.out.trans hk8); have HW3 := hide1 hw8; clear hk8 hw8)
        | (go_at_call 150; refine (oneA_is T k e f b _ (HR.out.keep ((Kept.refl _).alloc _ _)) h0 h1 hT).mono ?_; rintro r w6 ⟨rfl, hg⟩; rw [HA.out] at hg ⊢; obtain ⟨_, hk6, hw6⟩ := hg; have HK1 := hide1 hk6; have HW1 := hide1 hw6; clear hk6 hw6)
        | (go_at_call 133; refine (take_is T k1 e1 f1 45 b _ (by exact HW1.out) ok1.1 ok1.2 hT).mono ?_; rintro r w7 ⟨rfl, hk7, hw7⟩; rw [HTK.out] at hw7; rw [HTB.out]; have HK2 := hide1 (HK1.out.trans hk7); have HW2 := hide1 hw7; clear hk7 hw7)
        | (go_at_call 134; refine (fail_is T k2 e2 f2 _ _ b _ (by exact HW3.out)).mono ?_; rintro r w9 ⟨rfl, hk9, hw9⟩; have HK4 := hide1 (HK3.out.trans hk9); have HW4 := hide1 hw9; obtain ⟨⟨q0, q1, q2, q3, q4, q5⟩, y0, y1, y2, y3, y4, y5⟩ := box_end HK4.out hb; clear hk9 hw9))
      (try simp only [Exit.inBlock, Exit.then])
      refine bodyPost_ret (box_returns rfl _ _ w.heap.size _ _ _ _ _ _ rfl (box_full (box_kept HK4.out hb))) rfl ?_
      exact ⟨rfl, fail_ok _ _ _ _, fin_but (but_allocd HK4.out) (Nat.le_refl _), HW4.out.fin (by omega)⟩
    · rw [HF.out, if_neg hz]
      go_wp2_with (first
        | (go_at_call 150; have _g := HW2; clear _g; refine (oneA_is T (k1 + 1) e1 f1 b _ (by exact HW2.out) ok2.1 ok2.2 hT).mono ?_; rintro r w8 ⟨rfl, hg⟩; rw [HB.out] at hg ⊢; obtain ⟨_, hk8, hw8⟩ := hg; have HK3 := hide1 (HK2.out.trans hk8); have HW3 := hide1 hw8; obtain ⟨⟨q0, q1, q2, q3, q4, q5⟩, y0, y1, y2, y3, y4, y5⟩ := box_end HK3.out hb; clear hk8 hw8)
        | (go_at_call 150; refine (oneA_is T k e f b _ (HR.out.keep ((Kept.refl _).alloc _ _)) h0 h1 hT).mono ?_; rintro r w6 ⟨rfl, hg⟩; rw [HA.out] at hg ⊢; obtain ⟨_, hk6, hw6⟩ := hg; have HK1 := hide1 hk6; have HW1 := hide1 hw6; clear hk6 hw6)
        | (go_at_call 133; refine (take_is T k1 e1 f1 45 b _ (by exact HW1.out) ok1.1 ok1.2 hT).mono ?_; rintro r w7 ⟨rfl, hk7, hw7⟩; rw [HTK.out] at hw7; rw [HTB.out]; have HK2 := hide1 (HK1.out.trans hk7); have HW2 := hide1 hw7; clear hk7 hw7))
      (try simp only [Exit.inBlock, Exit.then])
      refine bodyPost_ret (box_returns rfl _ _ w.heap.size _ _ _ _ _ _ rfl (box_full (box_kept HK3.out hb))) rfl ?_
      exact ⟨rfl, ok3, fin_but (but_allocd HK3.out) (Nat.le_refl _), HW3.out.fin (by omega)⟩
  · have HTK : Hid (takeK T k1 45 = k1) := by show _ = _; rw [takeK, if_neg hc]
    have HTB : Hid ((peekP T k1 == 45) = false) := by show _ = _; simpa using hc
    have HE3 := HE.out
    rw [if_neg hc] at HE3
    rw [HE3] at HF ⊢
    have hz : ¬ a < a := by omega
    dsimp only at HF ⊢
    clear HE HE3 hc
    go_enter Tryz.func148, Tryz.ntmps148
    rw [HF.out, if_neg hz]
    go_wp2_with (first
      | (go_at_call 150; refine (oneA_is T k e f b _ (HR.out.keep ((Kept.refl _).alloc _ _)) h0 h1 hT).mono ?_; rintro r w6 ⟨rfl, hg⟩; rw [HA.out] at hg ⊢; obtain ⟨_, hk6, hw6⟩ := hg; have HK1 := hide1 hk6; have HW1 := hide1 hw6; clear hk6 hw6)
      | (go_at_call 133; refine (take_is T k1 e1 f1 45 b _ (by exact HW1.out) ok1.1 ok1.2 hT).mono ?_; rintro r w7 ⟨rfl, hk7, hw7⟩; rw [HTK.out] at hw7; rw [HTB.out]; have HK2 := hide1 (HK1.out.trans hk7); have HW2 := hide1 hw7; obtain ⟨⟨q0, q1, q2, q3, q4, q5⟩, y0, y1, y2, y3, y4, y5⟩ := box_end HK2.out hb; clear hk7 hw7))
    (try simp only [Exit.inBlock, Exit.then])
    refine bodyPost_ret (box_returns rfl _ _ w.heap.size _ _ _ _ _ _ rfl (box_full (box_kept HK2.out hb))) rfl ?_
    exact ⟨rfl, ok1, fin_but (but_allocd HK2.out) (Nat.le_refl _), HW2.out.fin (by omega)⟩
end Ex
end Go.Proofs.YtbnchnlogikecaaGreatDoor
namespace Go.Proofs.YtbnchnlogikecaaGreatDoor
open Go.RowKit
attribute [local go_sem] Oper.semAt_some
set_option linter.unusedSimpArgs false
set_option maxRecDepth 100000
set_option maxHeartbeats 4000000
namespace Ex
def namL (N : Nat → Bool) : List Value := (List.range 256).map fun i => Value.bool (N i)
def namV (N : Nat → Bool) : Array Value := (namL N).toArray
theorem namV_size (N : Nat → Bool) : (namV N).size = 256 := by simp [namV, namL]
theorem namV_at (N : Nat → Bool) {i : Nat} (h : i < 256) : (namV N)[i]? = some (.bool (N i)) := by simp [namV, namL, h]
def NamAt (w : World) (b : Nat) (N : Nat → Bool) : Prop := w.heap[b]? = some (.cells (namV N) 196 (0, 0))
theorem NamAt.cell {w : World} {b i : Nat} {N : Nat → Bool} (h : NamAt w b N) (hi : i < 256) : w.cell? ⟨b, i, none⟩ = some (.bool (N i)) := by
  unfold NamAt at h
  simp only [World.cell?, h]
  exact namV_at N hi
theorem NamAt.free {w : World} {b : Nat} {N : Nat → Bool} (i : Nat) (h : NamAt w b N) : w.frozen? ⟨b, i, none⟩ = false := by
  unfold NamAt at h
  simp [World.frozen?, h]
theorem NamAt.lt {w : World} {b : Nat} {N : Nat → Bool} (h : NamAt w b N) : b < w.heap.size := (Array.getElem?_eq_some_iff.1 h).1
theorem NamAt.keep {w w' : World} {b : Nat} {N : Nat → Bool} (h : NamAt w b N) (hk : Kept w w') : NamAt w' b N := (hk.2.2.2.2 b h.lt).trans h
theorem NamAt.but {w w' : World} {b c : Nat} {N : Nat → Bool} (h : NamAt w b N) (hk : KeptBut c w w') (hc : b ≠ c) : NamAt w' b N := (hk.2.2.2.2 b h.lt hc).trans h
def setN (N : Nat → Bool) (k : Nat) : Nat → Bool := fun i => N i || decide (i = k)
theorem namV_set (N : Nat → Bool) {k : Nat} (hk : k < 256) : (namV N).setIfInBounds k (.bool true) = namV (setN N k) := by
  apply Array.ext_getElem?
  intro i
  rw [Array.getElem?_setIfInBounds, namV_size]
  by_cases hi : i < 256
  · rw [namV_at _ hi, namV_at _ hi]
    unfold setN
    by_cases h : k = i
    · subst h; simp [hi]
    · simp [h, show ¬ i = k from fun e => h e.symm]
  · have h1 : ∀ B, (namV B)[i]? = none := fun B => by rw [Array.getElem?_eq_none_iff, namV_size]; omega
    rw [h1, h1, if_neg (by omega)]
theorem NamAt.set {w : World} {b k : Nat} {N : Nat → Bool} (h : NamAt w b N) (hk : k < 256) : NamAt (w.setCell ⟨b, k, none⟩ (.bool true)) b (setN N k) := by
  unfold NamAt at h ⊢
  have hl : b < w.heap.size := (Array.getElem?_eq_some_iff.1 h).1
  have he : w.heap[b] = Obj.cells (namV N) 196 (0, 0) := by rw [Array.getElem?_eq_getElem hl] at h; exact Option.some.inj h
  rw [← namV_set N hk]
  simp [World.setCell, Array.getElem_modify, hl, he]
def markN (N : Nat → Bool) (f : Nat) : Nat → Nat → Bool
  | 0 => N
  | m + 1 => setN (markN N f m) (f + m)
def markP (N : Nat → Bool) (p : Int × Int) : Nat → Bool := markN N p.1.toNat (p.2 + 1 - p.1).toNat
def markL (N : Nat → Bool) (l : List (Int × Int)) : Nat → Bool := l.foldl markP N
theorem markL_snoc (N : Nat → Bool) (l : List (Int × Int)) (p : Int × Int) : markL N (l ++ [p]) = markP (markL N l) p := by
  unfold markL
  rw [List.foldl_append]
  rfl
def rangesP (l : List (Int × Int)) : List Pat := l.map fun p => rangeP p.1 p.2
theorem kept_new {w W : World} {g o : Nat} {v : Value} (h : Kept w W) (hg : w.heap.size ≤ g) : Kept w (W.setCell ⟨g, o, none⟩ v) :=
  ⟨h.1, h.2.1, h.2.2.1, by simpa [World.setCell] using h.2.2.2.1, fun k hk => (Below.heap_setCell _ _ _ _ (show k ≠ g by omega)).trans (h.2.2.2.2 k hk)⟩
theorem nam_zero (w : World) : NamAt (w.alloc (.cells Tryz.zeroCells196 196)) w.heap.size (fun _ => false) := by
  have e : Tryz.zeroCells196 = namV (fun _ => false) := by kernel_rfl
  rw [e]
  exact heap_alloc_new w _
theorem PatsOwn.cells_at {base n cap i : Nat} {w : World} {S : Nat → Prop} {a : Option Addr} {l : List Pat} {q : Pat} (h : PatsOwn w base S (.slice a n cap) l) (hq : l[i]? = some q) : ∃ g u, a = some ⟨g, 0, none⟩ ∧ g < w.heap.size ∧ n ≤ cap ∧ w.cell? ⟨g, i * 6, none⟩ = some (.int .i64 (kind q.2)) ∧ w.cell? ⟨g, i * 6 + 1, none⟩ = some (.int .i64 (from_ q.2)) ∧ w.cell? ⟨g, i * 6 + 2, none⟩ = some (.int .i64 (to_ q.2)) ∧ w.cell? ⟨g, i * 6 + 3, none⟩ = some (.int .i64 (min_ q.2)) ∧ w.cell? ⟨g, i * 6 + 4, none⟩ = some (.int .i64 (max_ q.2)) ∧ w.cell? ⟨g, i * 6 + 5, none⟩ = some u ∧ KidsAt (fun d => S d ∧ (Value.slice a n cap).ownBlock ≠ some d) w q.1 (Ex.kids q.2) u := by
  obtain ⟨xs, h1, h2⟩ := h
  obtain ⟨u, a0, a1, a2, a3, a4, a5, hk⟩ := h2.at hq
  rcases h1.2 with ⟨e, h0⟩ | ⟨g, cap', cur, e, hb, hg, hc, _, _, hx⟩
  · have : l = [] := List.length_eq_zero_iff.1 h0
    subst this
    simp at hq
  · simp only [Value.slice.injEq] at e
    obtain ⟨rfl, rfl, rfl⟩ := e
    have hh := row_cells hg hx
    simp only [Nat.zero_add] at hh
    exact ⟨g, u, rfl, (Array.getElem?_eq_some_iff.1 hg).1, hc, hh _ _ a0, hh _ _ a1, hh _ _ a2, hh _ _ a3, hh _ _ a4, hh _ _ a5, hk⟩
theorem rangesP_at {l : List (Int × Int)} {j : Nat} {p : Int × Int} (h : l[j]? = some p) : (rangesP l)[j]? = some (rangeP p.1 p.2) := by
  unfold rangesP
  rw [List.getElem?_map, h]
  rfl
theorem cell_set_other {w : World} {b d o o' : Nat} {v u : Value} (hc : w.cell? ⟨d, o, none⟩ = some u) (hd : d ≠ b) : (w.setCell ⟨b, o', none⟩ v).cell? ⟨d, o, none⟩ = some u := (World.cell?_of_block (w := w) (a := ⟨d, o, none⟩) (Below.heap_setCell _ _ _ _ hd)).trans hc
def MarkR (l : List (Int × Int)) (w : World) (j : Nat) (wr : World) : Prop :=
  NamAt wr w.heap.size (markL (fun _ => false) (l.take j)) ∧ Kept w wr
def setLast (l : List (Int × Int)) (c : Int) : List (Int × Int) := l.modify (l.length - 1) fun p => (p.1, c)
def restTo (N : Nat → Bool) : Nat → List (Int × Int)
  | 0 => []
  | j + 1 => if N j then restTo N j else if 0 < j ∧ N (j - 1) = false then setLast (restTo N j) j else restTo N j ++ [((j : Int), (j : Int))]
def othersL (l : List (Int × Int)) : List (Int × Int) := restTo (markL (fun _ => false) l) 256
theorem restTo_len (N : Nat → Bool) : ∀ j, (restTo N j).length ≤ j
  | 0 => Nat.le_refl _
  | j + 1 => by
    have := restTo_len N j
    rw [restTo]
    split
    · omega
    · split
      · unfold setLast; rw [List.length_modify]; omega
      · rw [List.length_append]; simp; omega
theorem restTo_pos (N : Nat → Bool) : ∀ j, N j = false → 0 < (restTo N (j + 1)).length
  | 0, h => by simp [restTo, h]
  | j + 1, h => by
    rw [restTo, h]
    split
    · rename_i h'; simp at h'
    · split
      · rename_i h2
        unfold setLast
        rw [List.length_modify]
        exact restTo_pos N j (by simpa using h2.2)
      · simp
theorem FlatAt.setTo {S : Nat → Prop} {w : World} {c : Int} : ∀ {l : List (Int × Int)} {xs : List Value} {k : Nat}, FlatAt S w (rangesP l) xs → k < l.length → FlatAt S w (rangesP (l.modify k fun p => (p.1, c))) (xs.set (k * 6 + 2) (.int .i64 c))
  | [], _, k, _, hk => by simp at hk
  | q :: l, _, 0, ⟨v', ys, h1, h2, h3⟩, _ => by
    subst h1
    exact ⟨v', ys, rfl, h2, h3⟩
  | q :: l, _, k + 1, ⟨v', ys, h1, h2, h3⟩, hk => by
    subst h1
    refine ⟨v', ys.set (k * 6 + 2) (.int .i64 c), ?_, h2, FlatAt.setTo h3 (by simpa using hk)⟩
    rw [show (k + 1) * 6 + 2 = k * 6 + 2 + 6 by omega]
    rfl
theorem kept_on {a b c : World} (h : Kept a b) (k : Kept b c) : Kept a c := ⟨k.1.trans h.1, k.2.1.trans h.2.1, k.2.2.1.trans h.2.2.1, Nat.le_trans h.2.2.2.1 k.2.2.2.1, fun d hd => (k.2.2.2.2 d (Nat.lt_of_lt_of_le hd h.2.2.2.1)).trans (h.2.2.2.2 d hd)⟩
theorem keptP_grown {base : Nat} {w0 w w' : World} {S : Nat → Prop} {v : Value} {l : List Pat} (h : Kept w0 w) (ho : PatsOwn w base S v l) (hb : w0.heap.size ≤ base) (hg : w.grownBy w' v.ownBlock) : Kept w0 w' :=
  ⟨hg.os.trans h.1, hg.tape.trans h.2.1, hg.output.trans h.2.2.1, Nat.le_trans h.2.2.2.1 hg.size, fun k hk => (hg.block k (Nat.lt_of_lt_of_le hk h.2.2.2.1) (fun e => by have := (ho.lt k e.symm).1; omega)).trans (h.2.2.2.2 k hk)⟩
theorem rangesP_snoc (l : List (Int × Int)) (p : Int × Int) : rangesP (l ++ [p]) = rangesP l ++ [rangeP p.1 p.2] := by simp [rangesP]
theorem PatsOwn.free_at {base n cap g : Nat} {w : World} {S : Nat → Prop} {l : List Pat} (h : PatsOwn w base S (.slice (some ⟨g, 0, none⟩) n cap) l) (o : Nat) : w.frozen? ⟨g, o, none⟩ = false := by
  obtain ⟨xs, h1, _⟩ := h
  rcases h1.2 with ⟨e, _⟩ | ⟨g', cap', cur, e, hb, hg, _⟩
  · simp at e
  · simp only [Value.slice.injEq, Option.some.injEq, Addr.mk.injEq] at e
    obtain ⟨⟨rfl, _⟩, _⟩ := e
    simp [World.frozen?, hg]
theorem PatsOwn.setTo {base n cap g k : Nat} {w : World} {S : Nat → Prop} {l : List (Int × Int)} {c : Int} (h : PatsOwn w base S (.slice (some ⟨g, 0, none⟩) n cap) (rangesP l)) (hk : k < l.length) :
    PatsOwn (w.setCell ⟨g, k * 6 + 2, none⟩ (.int .i64 c)) base S (.slice (some ⟨g, 0, none⟩) n cap) (rangesP (l.modify k fun p => (p.1, c))) := by
  obtain ⟨xs, h1, h2⟩ := h
  have hlen := h2.len
  refine ⟨xs.set (k * 6 + 2) (.int .i64 c), ?_, (h2.setTo hk).mono (fun d o v hd hc => cell_set_other hc (fun e => hd.2 (by rw [e]; rfl))) (fun _ h => h)⟩
  have el : (rangesP (l.modify k fun p => (p.1, c))).length = (rangesP l).length := by simp [rangesP]
  rw [el]
  refine ⟨by rw [List.length_set]; exact h1.1, ?_⟩
  · rcases h1.2 with ⟨e, _⟩ | ⟨g', cap', cur, e, hb, hg, hc, hm, hs, hx⟩
    · simp at e
    · simp only [Value.slice.injEq, Option.some.injEq, Addr.mk.injEq] at e
      obtain ⟨⟨rfl, _⟩, rfl, rfl⟩ := e
      refine .inr ⟨g, cap, cur.setIfInBounds (k * 6 + 2) (.int .i64 c), rfl, hb, ?_, hc, hm, ?_, ?_⟩
      · have hl : g < w.heap.size := (Array.getElem?_eq_some_iff.1 hg).1
        have he : w.heap[g] = Obj.cells cur 70 (0, 0) := by rw [Array.getElem?_eq_getElem hl] at hg; exact Option.some.inj hg
        simp [World.setCell, Array.getElem_modify, hl, he]
      · rw [Array.size_setIfInBounds]; exact hs
      · rw [Array.toList_setIfInBounds, List.take_set, hx]
theorem others_is (S : Nat → Prop) (l : List (Int × Int)) (v : Value) (base : Nat) (w : World) (h : PatsOwn w base S v (rangesP l)) (hl : l.length ≤ 5000) (hB : ∀ p ∈ l, 0 ≤ p.1 ∧ p.1 ≤ 255 ∧ 0 ≤ p.2 ∧ p.2 ≤ 255) :
    Calls Tryz.prog 149 #[v] w fun r w' => (∃ v', r = .returned v' ∧ PatsOwn w' (w.heap.size + 1) (fun d => w.heap.size < d) v' (rangesP (othersL l))) ∧ Kept w w' := by
  have HO := hide1 h
  have HB := hide1 hB
  obtain ⟨av, cv, rfl⟩ := h.form
  obtain ⟨n, hn⟩ : ∃ n, (rangesP l).length = n := ⟨_, rfl⟩
  have hnl : n = l.length := by rw [← hn]; simp [rangesP]
  rw [hn] at HO ⊢
  have gn : (n : Int) ≤ 5000 := by omega
  have HNL := hide1 hnl
  obtain ⟨N, hN⟩ : ∃ N, markL (fun _ => false) l = N := ⟨_, rfl⟩
  rw [show othersL l = restTo N 256 by rw [← hN]; rfl]
  have HNN := hide1 hN
  clear h hB hn hnl hl hN
  go_enter Tryz.func149, Tryz.ntmps149
  go_wp2_with (go_quiet (fail))
  go_loopw [11] (fun vi wr => ∃ j : Nat, vi = .int .i64 (j : Int) ∧ j ≤ n ∧ Hid (MarkR l w j wr)) (fun vi _ => n - (intOf vi).toNat)
  case atStart => exact ⟨0, rfl, Nat.zero_le _, nam_zero w, (Kept.refl w).alloc _ _⟩
  case round =>
    obtain ⟨j, rfl, hj, HM⟩ := hrel
    by_cases hlt : (j : Int) < (n : Int)
    · obtain ⟨q, hq⟩ : ∃ q, l[j]? = some q := ⟨_, List.getElem?_eq_getElem (by have := HNL.out; omega)⟩
      obtain ⟨g, u, e1, hg, hnc, g0, g1, g2, g3, g4, g5, gu⟩ := (HO.out.keep HM.out.2).cells_at (rangesP_at hq)
      obtain ⟨ua, uc, rfl⟩ := gu.form
      subst e1
      have HQ := hide1 hq
      have hbq := HB.out q (List.mem_of_getElem? hq)
      change wr.cell? _ = some (.int .i64 1) at g0
      change wr.cell? _ = some (.int .i64 q.1) at g1
      change wr.cell? _ = some (.int .i64 q.2) at g2
      change wr.cell? _ = some (.int .i64 0) at g3
      change wr.cell? _ = some (.int .i64 0) at g4
      obtain ⟨x, y⟩ := q
      dsimp only at g1 g2 hbq
      obtain ⟨hx0, hx1, hy0, hy1⟩ := hbq
      have hcap : (n : Int) ≤ (cv : Int) := by omega
      clear gu hq
      have HK1 : Hid (Kept w (wr.alloc (.cells #[.int .i64 1, .int .i64 x, .int .i64 y, .int .i64 0, .int .i64 0, .slice ua (kids (rangeP x y).2).length uc] 70))) := HM.out.2.alloc _ _
      have HN1 : Hid (NamAt (wr.alloc (.cells #[.int .i64 1, .int .i64 x, .int .i64 y, .int .i64 0, .int .i64 0, .slice ua (kids (rangeP x y).2).length uc] 70)) w.heap.size (markL (fun _ => false) (l.take j))) := HM.out.1.keep ((Kept.refl _).alloc _ _)
      have HY1 := hide1 (box_at wr (.int .i64 1) (.int .i64 x) (.int .i64 y) (.int .i64 0) (.int .i64 0) (.slice ua (kids (rangeP x y).2).length uc) 70).2.2.1
      obtain ⟨N0, hN0⟩ : ∃ N0, markL (fun _ => false) (l.take j) = N0 := ⟨_, rfl⟩
      rw [hN0] at HN1
      have HN0 := hide1 hN0
      have hmn := HM.out.1.lt
      have HNE : Hid (wr.heap.size ≠ w.heap.size) := by show _ ≠ _; omega
      clear hN0
      go_wp2_with (go_quiet (fail))
      go_loopw [6] (fun vc wi => ∃ m : Nat, vc = .int .i64 (x + (m : Int)) ∧ m ≤ (y + 1 - x).toNat ∧ Hid (NamAt wi w.heap.size (markN N0 x.toNat m)) ∧ Hid (wi.cell? ⟨wr.heap.size, 2, none⟩ = some (.int .i64 y)) ∧ Hid (Kept w wi)) (fun vc _ => (256 - intOf vc).toNat)
      case atStart => exact ⟨0, by simp, Nat.zero_le _, HN1.out, HY1.out, HK1.out⟩
      case round =>
        obtain ⟨m, rfl, hm, HN, HY, HK⟩ := hrel
        have gy := HY.out
        obtain ⟨c, hc⟩ : ∃ c, x + (m : Int) = c := ⟨_, rfl⟩
        rw [hc]
        have HC := hide1 hc
        by_cases hcy : c ≤ y
        · have hc0 : 0 ≤ c := by omega
          have hc1 : c < 256 := by omega
          have gn := HN.out.cell (i := c.toNat) (by omega)
          have gf := HN.out.free c.toNat
          clear hc
          go_wp2_with (go_quiet (fail))
          go_roundw
          case rel =>
            have hc := HC.out
            refine ⟨m + 1, by rw [show c + 1 = x + ((m + 1 : Nat) : Int) by omega], by omega, ?_, cell_set_other HY.out HNE.out, kept_new HK.out (Nat.le_refl _)⟩
            have e : c.toNat = x.toNat + m := by omega
            show NamAt _ _ (setN (markN N0 x.toNat m) (x.toNat + m))
            rw [← e]
            exact HN.out.set (by omega)
          case measure => simp [intOf]; omega
        · clear hc
          go_wp2_with (go_quiet (fail))
          go_roundw
          case rel =>
            have hc := HC.out
            refine ⟨j + 1, by go_num, by omega, ?_, HK.out⟩
            obtain ⟨hjl, hq⟩ := List.getElem?_eq_some_iff.1 HQ.out
            rw [List.take_succ_eq_append_getElem hjl, markL_snoc, hq, HN0.out]
            have e : m = (y + 1 - x).toNat := by omega
            subst e
            exact HN.out
          case measure => simp [intOf]; omega
    · have HN2 : Hid (NamAt wr w.heap.size (markL (fun _ => false) l)) := by
        have h := HM.out.1
        rw [List.take_of_length_le (by have := HNL.out; omega)] at h
        exact h
      have HK2 := hide1 HM.out.2
      clear HM
      rw [HNN.out] at HN2
      go_wp2_with (go_quiet (fail))
      go_loopw [7, 26] (fun v vi wi => ∃ j : Nat, vi = .int .i64 (j : Int) ∧ j ≤ 256 ∧ Hid (PatsOwn wi (w.heap.size + 1) (fun d => w.heap.size < d) v (rangesP (restTo N j))) ∧ Hid (NamAt wi w.heap.size N) ∧ Hid (Kept w wi)) (fun _ vi _ => 256 - (intOf vi).toNat)
      case atStart => exact ⟨0, rfl, by omega, PatsOwn.nil _ _ _, HN2.out, HK2.out⟩
      case round =>
        obtain ⟨j, rfl, hj, HP, HN, HK⟩ := hrel
        obtain ⟨ar, cr, rfl⟩ := HP.out.form
        have hmn := HN.out.lt
        obtain ⟨k, hk⟩ : ∃ k, (rangesP (restTo N j)).length = k := ⟨_, rfl⟩
        have hkj : k ≤ j := by rw [← hk]; simpa [rangesP] using restTo_len N j
        rw [hk] at HP ⊢
        have HKL := hide1 hk
        clear hk
        by_cases hjl : j < 256
        · have hjl2 : (j : Int) < 256 := by omega
          have gn := HN.out.cell hjl
          obtain ⟨nb, hnb⟩ : ∃ nb, N j = nb := ⟨_, rfl⟩
          rw [hnb] at gn
          have HNB := hide1 hnb
          clear hnb
          cases nb
          · by_cases hj0 : (0 : Int) < (j : Int)
            · have gi := HN.out.cell (i := j - 1) (by omega)
              obtain ⟨nb, hnb⟩ : ∃ nb, N (j - 1) = nb := ⟨_, rfl⟩
              rw [hnb] at gi
              have HNI := hide1 hnb
              clear hnb
              cases nb
              · have HRT : Hid (restTo N (j + 1) = setLast (restTo N j) j) := by show _ = _; rw [restTo, HNB.out, HNI.out]; simp; omega
                have hkp : 0 < k := by
                  have := restTo_pos N (j - 1) HNI.out
                  rw [show j - 1 + 1 = j by omega] at this
                  have h2 := HKL.out
                  simp [rangesP] at h2
                  omega
                obtain ⟨k1, rfl⟩ : ∃ k1, k = k1 + 1 := ⟨k - 1, by omega⟩
                have hlr : (restTo N j).length = k1 + 1 := by have h2 := HKL.out; simpa [rangesP] using h2
                obtain ⟨q, hq⟩ : ∃ q, (restTo N j)[k1]? = some q := ⟨_, List.getElem?_eq_getElem (by omega)⟩
                obtain ⟨g, u, e1, hg, hnc, g0, g1, g2, g3, g4, g5, gu⟩ := HP.out.cells_at (rangesP_at hq)
                subst e1
                have gf := HP.out.free_at (k1 * 6 + 2)
                have hgb := (HP.out.lt g rfl).1
                have HLR := hide1 hlr
                have hcr : ((k1 : Int) + 1) ≤ (cr : Int) := by omega
                clear g0 g1 g3 g4 g5 gu hq hlr hkp
                go_wp2_with (go_quiet (fail))
                go_roundw
                case rel =>
                  refine ⟨j + 1, by go_num, by omega, ?_, ?_, ?_⟩
                  · rw [HRT.out]
                    unfold setLast
                    rw [HLR.out]
                    exact HP.out.setTo (by have := HLR.out; omega)
                  · exact HN.out.but (setCell_but _ _ _ _) (by omega)
                  · exact kept_new HK.out (by omega)
                case measure => simp [intOf]; omega
              · have HRT : Hid (restTo N (j + 1) = restTo N j ++ [((j : Int), (j : Int))]) := by show _ = _; rw [restTo, HNB.out, HNI.out]; simp
                go_wp2_with (first
                  | (go_at_call 140; refine (single_is _ _).mono ?_; rintro r w6 ⟨rfl, hk6⟩; unfold rangeV; have HP := hide1 (HP.out.keep hk6); have HN := hide1 (HN.out.keep hk6); have HK := hide1 (kept_on HK.out hk6); clear hk6)
                  | (at_builtin; go_must (refine wpl_append_pat rfl _ _ rfl _ (w.heap.size + 1) (fun d => w.heap.size < d) _ (rangesP (restTo N j)) k HKL.out (by rfl) (HP.out.keep ((Kept.refl _).alloc _ _)) _ (rangeP j j) (.slice none 0 0) (by rfl) (BoxAt.new _ _ _ _ _ _ _) (kids_nil _ _ _ _ _ _ rfl) (by rw [HKL.out]; omega) (by have := HN.out.lt; simp; omega) ?_; intro g9 c9 w9 ho9 hg9; have HK := hide1 (keptP_grown (HK.out.alloc _ _) (HP.out.keep ((Kept.refl _).alloc _ _)) (by omega) hg9); have HN := hide1 (show NamAt w9 w.heap.size N from (heap_grown (HP.out.keep ((Kept.refl _).alloc _ _)) hg9 (by omega) (by have := HN.out.lt; simp; omega)).trans (HN.out.keep ((Kept.refl _).alloc _ _))); have HP := hide1 ho9; clear ho9 hg9))
                  | go_quiet (fail))
                go_roundw
                case rel =>
                  refine ⟨j + 1, by go_num, by omega, ?_, HN.out, HK.out⟩
                  rw [HRT.out, rangesP_snoc]
                  exact HP.out
                case measure => simp [intOf]; omega
            · have HRT : Hid (restTo N (j + 1) = restTo N j ++ [((j : Int), (j : Int))]) := by show _ = _; rw [restTo, HNB.out, if_neg (by simp), if_neg (by omega)]
              go_wp2_with (first
                | (go_at_call 140; refine (single_is _ _).mono ?_; rintro r w6 ⟨rfl, hk6⟩; unfold rangeV; have HP := hide1 (HP.out.keep hk6); have HN := hide1 (HN.out.keep hk6); have HK := hide1 (kept_on HK.out hk6); clear hk6)
                | (at_builtin; go_must (refine wpl_append_pat rfl _ _ rfl _ (w.heap.size + 1) (fun d => w.heap.size < d) _ (rangesP (restTo N j)) k HKL.out (by rfl) (HP.out.keep ((Kept.refl _).alloc _ _)) _ (rangeP j j) (.slice none 0 0) (by rfl) (BoxAt.new _ _ _ _ _ _ _) (kids_nil _ _ _ _ _ _ rfl) (by rw [HKL.out]; omega) (by have := HN.out.lt; simp; omega) ?_; intro g9 c9 w9 ho9 hg9; have HK := hide1 (keptP_grown (HK.out.alloc _ _) (HP.out.keep ((Kept.refl _).alloc _ _)) (by omega) hg9); have HN := hide1 (show NamAt w9 w.heap.size N from (heap_grown (HP.out.keep ((Kept.refl _).alloc _ _)) hg9 (by omega) (by have := HN.out.lt; simp; omega)).trans (HN.out.keep ((Kept.refl _).alloc _ _))); have HP := hide1 ho9; clear ho9 hg9))
                | go_quiet (fail))
              go_roundw
              case rel =>
                refine ⟨j + 1, by go_num, by omega, ?_, HN.out, HK.out⟩
                rw [HRT.out, rangesP_snoc]
                exact HP.out
              case measure => simp [intOf]; omega
          · go_wp2_with (go_quiet (fail))
            go_roundw
            case rel =>
              refine ⟨j + 1, by go_num, by omega, ?_, HN.out, HK.out⟩
              have e : restTo N (j + 1) = restTo N j := by rw [restTo, HNB.out]; rfl
              rw [e]
              exact HP.out
            case measure => simp [intOf]; omega
        · have hj6 : j = 256 := by omega
          subst hj6
          go_wp2_with (go_quiet (fail))
          go_ret
          exact ⟨⟨_, rfl, HP.out⟩, HK.out⟩
end Ex
end Go.Proofs.YtbnchnlogikecaaGreatDoor
namespace Go.Proofs.YtbnchnlogikecaaGreatDoor
open Go.RowKit
attribute [local go_sem] Oper.semAt_some
namespace Ex
theorem escape_val {T : ByteArray} {s : Int × Int × Int} : 0 ≤ (escapeS T s).1 ∧ (escapeS T s).1 ≤ 255 := by
  unfold escapeS
  (repeat' split)
  · simp
  · simp
  · simp
  · simp
  · have h1 := hexR_range T (s.1 + 1 + 1, s.2) s.1
    have h2 := hexR_range T (hexR T (s.1 + 1 + 1, s.2) s.1).2 s.1
    dsimp only
    omega
  · simp
  · exact peek_byte _ _
theorem oneA_val {T : ByteArray} {s : Int × Int × Int} : 0 ≤ (oneA T s).1 ∧ (oneA T s).1 ≤ 255 := by
  unfold oneA
  split
  · exact escape_val
  · unfold oneS
    split
    · exact peek_byte _ _
    · simp
theorem escape_go {T : ByteArray} {s : Int × Int × Int} (h0 : 0 ≤ s.1) (h1 : s.1 < T.size) : s.1 < (escapeS T s).2.1 ∨ (escapeS T s).2.2.1 ≠ 0 := by
  unfold escapeS
  split
  · exact .inr (failE_ne (wrongC_ne _ _))
  · rename_i h2
    have g : OkS T (s.1 + 1 + 1, s.2) := ⟨by show 0 ≤ s.1 + 1 + 1; omega, by show s.1 + 1 + 1 ≤ _; omega⟩
    split
    · left; show s.1 < s.1 + 1 + 1; omega
    · split
      · left; show s.1 < s.1 + 1 + 1; omega
      · split
        · left; show s.1 < s.1 + 1 + 1; omega
        · split
          · have a := hex_ok (o := s.1) g
            have c := hex_ok (o := s.1) a.1
            have a2 : s.1 + 1 + 1 ≤ (hexR T (s.1 + 1 + 1, s.2) s.1).2.1 := a.2
            have c2 := c.2
            left; show s.1 < (hexR T (hexR T (s.1 + 1 + 1, s.2) s.1).2 s.1).2.1; omega
          · split
            · exact .inr (failE_ne (by decide))
            · left; show s.1 < s.1 + 1 + 1; omega
theorem oneA_go {T : ByteArray} {s : Int × Int × Int} : s.1 < (oneA T s).2.1 ∨ (oneA T s).2.2.1 ≠ 0 := by
  unfold oneA
  split
  · rename_i hc
    have := peek_lt (T := T) (k := s.1) (by rw [hc]; decide)
    exact escape_go this.1 this.2
  · exact one_go
theorem memberF_ok {T : ByteArray} {s : Int × Int × Int} (h : OkS T s) : OkS T (memberF T s).2 ∧ s.1 ≤ (memberF T s).2.1 ∧ (s.1 < (memberF T s).2.1 ∨ (memberF T s).2.2.1 ≠ 0) := by
  have h1 := oneA_ok h
  have h2 := oneA_go (T := T) (s := s)
  unfold memberF
  split
  · rename_i hc
    have h3 := oneA_ok (take_ok (T := T) (s := (oneA T s).2) (c := 45) (by decide) hc)
    have h4 := h1.2
    have h5 := h3.2
    dsimp only at h5
    exact ⟨h3.1, by omega, Or.inl (by omega)⟩
  · exact ⟨h1.1, h1.2, h2⟩
theorem memberA_ok {T : ByteArray} {s : Int × Int × Int} {y : Int} (h : OkS T s) : OkS T (memberA T s y).2 ∧ s.1 ≤ (memberA T s y).2.1 ∧ (s.1 < (memberA T s y).2.1 ∨ (memberA T s y).2.2.1 ≠ 0) := by
  have h1 := memberF_ok h
  have e : (memberA T s y).2 = if (memberF T s).1 < (oneA T s).1 then failS T (memberF T s).2 22 y else (memberF T s).2 := rfl
  rw [e]
  split
  · exact ⟨fail_ok _ _ _ _, h.2, Or.inr (failE_ne (by decide))⟩
  · exact h1
theorem memberF_val {T : ByteArray} {s : Int × Int × Int} : 0 ≤ (memberF T s).1 ∧ (memberF T s).1 ≤ 255 := by
  unfold memberF
  split <;> exact oneA_val
def memR (T : ByteArray) (s : Int × Int × Int) (y : Int) : (Int × Int) × Int × Int × Int := (((oneA T s).1, (memberF T s).1), (memberA T s y).2)
def Bytes (l : List (Int × Int)) : Prop := ∀ p ∈ l, 0 ≤ p.1 ∧ p.1 ≤ 255 ∧ 0 ≤ p.2 ∧ p.2 ≤ 255
theorem memR_bytes (T : ByteArray) (s : Int × Int × Int) (y : Int) {l : List (Int × Int)} (h : Bytes l) : Bytes (l ++ [(memR T s y).1]) := by
  intro p hp
  rw [List.mem_append] at hp
  rcases hp with hp | hp
  · exact h p hp
  · rw [List.mem_singleton] at hp
    subst hp
    exact ⟨oneA_val.1, oneA_val.2, memberF_val.1, memberF_val.2⟩
def clG (T : ByteArray) (y : Int) : Nat → List (Int × Int) → Int × Int × Int → List (Int × Int) × Int × Int × Int
  | 0, l, s => (l, s)
  | m + 1, l, s => if s.2.1 = 0 then (if peekP T s.1 = 93 then (l, s.1 + 1, s.2) else clG T y m (l ++ [(memR T s y).1]) (memR T s y).2) else (l, s)
def clL (T : ByteArray) (s : Int × Int × Int) : List (Int × Int) × Int × Int × Int := clG T s.1 4098 [(memR T (takeK T (s.1 + 1) 94, s.2) s.1).1] (memR T (takeK T (s.1 + 1) 94, s.2) s.1).2
def clR (n : Bool) (l : List (Int × Int)) : List (Int × Int) := if n then othersL l else l
def clE (T : ByteArray) (y : Int) (l : List (Int × Int)) (s : Int × Int × Int) : Pat × Int × Int × Int := if l.length = 0 then (mkP 0 0 0 0 0 [], failS T s 22 y) else (oneOf 3 (rangesP l), s)
def classA (T : ByteArray) (s : Int × Int × Int) : Pat × Int × Int × Int := clE T s.1 (clR (peekP T (s.1 + 1) == 94) (clL T s).1) (clL T s).2
theorem PatsOwn.wide {base base' : Nat} {w : World} {S S' : Nat → Prop} {v : Value} {l : List Pat} (h : PatsOwn w base S v l) (hb : base' ≤ base) (hS : ∀ d, S d → S' d) : PatsOwn w base' S' v l := by
  obtain ⟨xs, h1, h2⟩ := h
  refine ⟨xs, ⟨h1.1, ?_⟩, h2.mono (fun _ _ _ _ h => h) (fun d hd => ⟨hS d hd.1, hd.2⟩)⟩
  rcases h1.2 with h0 | ⟨g, cap, cur, e, h3, h4⟩
  · exact .inl h0
  · exact .inr ⟨g, cap, cur, e, Nat.le_trans hb h3, h4⟩
end Ex
end Go.Proofs.YtbnchnlogikecaaGreatDoor
