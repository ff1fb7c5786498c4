import Derived.Test.YtnchmhginmaliaaGreatDoorMExCl3
namespace Go.Proofs.YtnchmhginmaliaaGreatDoor
open Go.RowKit
namespace Ex

/-- Behind a fault the reader stands at the text's end; without one the fault's place is as it was. -/
def StopS (T : ByteArray) (f : Int) (s : Int × Int × Int) : Prop := (s.2.1 ≠ 0 → s.1 = T.size) ∧ (s.2.1 = 0 → s.2.2 = f)
theorem stop_at {T : ByteArray} {s : Int × Int} (h : s.1 = 0) (k : Int) : StopS T s.2 (k, s) := ⟨fun h2 => absurd h h2, fun _ => rfl⟩
theorem stop_zero {T : ByteArray} {k f : Int} : StopS T f (k, 0, f) := ⟨fun h => absurd rfl h, fun _ => rfl⟩
theorem fail_stop (T : ByteArray) (f : Int) (s : Int × Int × Int) {x : Int} (y : Int) (hx : x ≠ 0) : StopS T f (failS T s x y) := ⟨fun _ => rfl, fun h => absurd h (failE_ne hx)⟩
theorem wrong_stop (T : ByteArray) (f : Int) (s : Int × Int × Int) : StopS T f (wrongS T s) := fail_stop _ _ _ _ (wrongC_ne _ _)
theorem peek_end (T : ByteArray) : peekP T (T.size : Int) = 0 := by unfold peekP; rw [dif_neg (by omega)]
theorem fail_stays {T : ByteArray} {e f x y : Int} (he : e ≠ 0) : failS T ((T.size : Int), e, f) x y = ((T.size : Int), e, f) := by
  unfold failS failE failF
  rw [if_neg he, if_neg he]
theorem wrong_stays {T : ByteArray} {e f : Int} (he : e ≠ 0) : wrongS T ((T.size : Int), e, f) = ((T.size : Int), e, f) := fail_stays he
theorem hexR_stays {T : ByteArray} {e f o : Int} (he : e ≠ 0) : hexR T ((T.size : Int), e, f) o = (0, (T.size : Int), e, f) := by
  unfold hexR
  rw [if_pos rfl, wrong_stays he]
theorem hexR_stop {T : ByteArray} {f : Int} {s : Int × Int × Int} {o : Int} (h : StopS T f s) : StopS T f (hexR T s o).2 := by
  unfold hexR
  split
  · exact wrong_stop _ _ _
  · split
    · exact fail_stop _ _ _ _ (by decide)
    · rename_i h1 _
      exact ⟨fun h2 => absurd (h.1 h2) h1, h.2⟩
theorem escape_stop {T : ByteArray} {s : Int × Int × Int} (h : s.2.1 = 0) : StopS T s.2.2 (escapeS T s).2 := by
  unfold escapeS
  split
  · exact wrong_stop _ _ _
  split
  · exact stop_at h _
  split
  · exact stop_at h _
  split
  · exact stop_at h _
  split
  · exact hexR_stop (hexR_stop (stop_at h _))
  split
  · exact fail_stop _ _ _ _ (by decide)
  · exact stop_at h _
theorem oneA_stop {T : ByteArray} {s : Int × Int × Int} (h : s.2.1 = 0) : StopS T s.2.2 (oneA T s).2 := by
  unfold oneA
  split
  · exact escape_stop h
  · unfold oneS
    split
    · exact stop_at h _
    · exact wrong_stop _ _ _
/-- A member whose first byte is wrong. -/
theorem memR_bad {T : ByteArray} {s : Int × Int × Int} {y : Int} (h : s.2.1 = 0) (he : (oneA T s).2.2.1 ≠ 0) : (memR T s y).2 = (oneA T s).2 := by
  have h1 := (oneA_stop (T := T) h).1 he
  have e1 : memberF T s = oneA T s := by
    unfold memberF
    rw [if_neg (by rw [h1, peek_end]; decide)]
  show (if (memberF T s).1 < (oneA T s).1 then failS T (memberF T s).2 22 y else (memberF T s).2) = _
  rw [e1, if_neg (by omega)]
theorem memR_stop {T : ByteArray} {s : Int × Int × Int} {y : Int} (h : s.2.1 = 0) : StopS T s.2.2 (memR T s y).2 := by
  by_cases he : (oneA T s).2.2.1 = 0
  · show StopS T s.2.2 (if (memberF T s).1 < (oneA T s).1 then failS T (memberF T s).2 22 y else (memberF T s).2)
    split
    · exact fail_stop _ _ _ _ (by decide)
    · unfold memberF
      split
      · have h2 := oneA_stop (T := T) (s := ((oneA T s).2.1 + 1, (oneA T s).2.2)) he
        rw [show ((oneA T s).2.1 + 1, (oneA T s).2.2).2.2 = s.2.2 from (oneA_stop (T := T) h).2 he] at h2
        exact h2
      · exact oneA_stop h
  · rw [memR_bad h he]
    exact oneA_stop h
theorem clG_bad {T : ByteArray} {y : Int} {m : Nat} {l : List (Int × Int)} {s : Int × Int × Int} (h : s.2.1 ≠ 0) : clG T y m l s = (l, s) := by
  cases m with
  | zero => rfl
  | succ m => rw [clG, if_neg h]
theorem clG_stop {T : ByteArray} {y f : Int} : ∀ (m : Nat) (l : List (Int × Int)) (s : Int × Int × Int), StopS T f s → StopS T f (clG T y m l s).2
  | 0, _, _, h => h
  | m + 1, l, s, h => by
    rw [clG]
    split
    · rename_i h0
      have hf := h.2 h0
      subst hf
      split
      · exact stop_at h0 _
      · exact clG_stop m _ _ (memR_stop h0)
    · exact h
theorem classA_stop {T : ByteArray} {s : Int × Int × Int} (h : s.2.1 = 0) : StopS T s.2.2 (classA T s).2 := by
  unfold classA clE
  split
  · exact fail_stop _ _ _ _ (by decide)
  · exact clG_stop _ _ _ (memR_stop (s := (takeK T (s.1 + 1) 94, s.2)) h)
theorem number_stop {T : ByteArray} {s : Int × Int × Int} (h : s.2.1 = 0) : StopS T s.2.2 (numberS T s).2 := by
  unfold numberS
  split
  · exact wrong_stop _ _ _
  · exact stop_at h _
theorem bracesM_stop {T : ByteArray} {f : Int} {a : Int × Int × Int × Int} (h : StopS T f a.2) : StopS T f (bracesM T a).2 := by
  unfold bracesM
  split
  · rename_i hc
    have he : a.2.2.1 = 0 := by
      rcases Decidable.em (a.2.2.1 = 0) with h1 | h1
      · exact h1
      · rw [h.1 h1, peek_end] at hc
        exact absurd hc (by decide)
    have hf := h.2 he
    subst hf
    split
    · exact stop_at he _
    · exact number_stop he
  · exact h
theorem braces_stop {T : ByteArray} {s : Int × Int × Int} (h : s.2.1 = 0) : StopS T s.2.2 (bracesS T s).2.2 := by
  have h1 := bracesM_stop (number_stop (T := T) (s := (s.1 + 1, s.2)) h)
  unfold bracesS bracesZ
  split
  · rename_i hc
    dsimp only
    split
    · refine ⟨fun h2 => ?_, h1.2⟩
      rw [h1.1 h2, peek_end] at hc
      exact absurd hc (by decide)
    · exact fail_stop _ _ _ _ (by decide)
  · exact wrong_stop _ _ _
theorem timesG_bad {T : ByteArray} {m : Nat} {p : Pat} {e f : Int} : timesG T m p ((T.size : Int), e, f) = (p, (T.size : Int), e, f) := by
  cases m with
  | zero => rfl
  | succ m =>
    rw [timesG]
    dsimp only
    rw [peek_end]
    simp
theorem timesG_stop {T : ByteArray} {f : Int} : ∀ (m : Nat) (p : Pat) (s : Int × Int × Int), StopS T f s → StopS T f (timesG T m p s).2
  | 0, _, _, h => h
  | m + 1, p, s, h => by
    by_cases he : s.2.1 = 0
    · have hf := h.2 he
      subst hf
      rw [timesG]
      split
      · exact timesG_stop m _ _ (stop_at he _)
      split
      · exact timesG_stop m _ _ (stop_at he _)
      split
      · exact timesG_stop m _ _ (stop_at he _)
      split
      · exact timesG_stop m _ _ (braces_stop he)
      · exact h
    · obtain ⟨k, e, f1⟩ := s
      have : k = T.size := h.1 he
      subst this
      rw [timesG_bad]
      exact h
def StopP (T : ByteArray) (pat : Int × Int × Int → Pat × Int × Int × Int) : Prop := ∀ s, s.2.1 = 0 → StopS T s.2.2 (pat s).2
theorem atomA_stop {T : ByteArray} {pat : Int × Int × Int → Pat × Int × Int × Int} (hp : StopP T pat) {s : Int × Int × Int} (h : s.2.1 = 0) : StopS T s.2.2 (atomA pat T s).2 := by
  unfold atomA
  split
  · exact escape_stop h
  split
  · exact classA_stop h
  split
  · exact stop_at h _
  split
  · have h1 := hp (s.1 + 1, s.2) h
    dsimp only
    split
    · rename_i hc
      refine ⟨fun h2 => ?_, h1.2⟩
      rw [h1.1 h2, peek_end] at hc
      exact absurd hc (by decide)
    · exact wrong_stop _ _ _
  split
  · exact stop_at h _
  · exact wrong_stop _ _ _
theorem itemA_stop {T : ByteArray} {pat : Int × Int × Int → Pat × Int × Int × Int} (hp : StopP T pat) : StopP T (itemA pat T) := fun _ h => timesG_stop _ _ _ (atomA_stop hp h)
theorem rowG_bad {A : Int × Int × Int → Pat × Int × Int × Int} {T : ByteArray} {m : Nat} {l : List Pat} {e f : Int} : rowG A T m l ((T.size : Int), e, f) = (l, (T.size : Int), e, f) := by
  cases m with
  | zero => rfl
  | succ m => rw [rowG, if_neg (fun h => absurd h.1 (by show ¬ (T.size : Int) < T.size; omega))]
theorem rowG_stop {A : Int × Int × Int → Pat × Int × Int × Int} {T : ByteArray} {f : Int} (hA : StopP T A) : ∀ (m : Nat) (l : List Pat) (s : Int × Int × Int), StopS T f s → StopS T f (rowG A T m l s).2
  | 0, _, _, h => h
  | m + 1, l, s, h => by
    rw [rowG]
    split
    · rename_i hg
      by_cases he : s.2.1 = 0
      · have hf := h.2 he
        subst hf
        exact rowG_stop hA m _ _ (hA s he)
      · exact absurd hg.1 (by rw [h.1 he]; omega)
    · exact h
theorem patG_bad {R : Int × Int × Int → Pat × Int × Int × Int} {T : ByteArray} {m : Nat} {l : List Pat} {e f : Int} : patG R T m l ((T.size : Int), e, f) = (l, (T.size : Int), e, f) := by
  cases m with
  | zero => rfl
  | succ m => rw [patG, if_neg (by show ¬ peekP T (T.size : Int) = 124; rw [peek_end]; decide)]
theorem patG_stop {R : Int × Int × Int → Pat × Int × Int × Int} {T : ByteArray} {f : Int} (hR : StopP T R) : ∀ (m : Nat) (l : List Pat) (s : Int × Int × Int), StopS T f s → StopS T f (patG R T m l s).2
  | 0, _, _, h => h
  | m + 1, l, s, h => by
    rw [patG]
    split
    · rename_i hc
      by_cases he : s.2.1 = 0
      · have hf := h.2 he
        subst hf
        exact patG_stop hR m _ _ (hR (s.1 + 1, s.2) he)
      · rw [h.1 he, peek_end] at hc
        exact absurd hc (by decide)
    · exact h
theorem rowS_stop {A : Int × Int × Int → Pat × Int × Int × Int} {T : ByteArray} (hA : StopP T A) : StopP T (rowS A T) := fun s h => rowG_stop hA 4097 [] s (stop_at h s.1)
theorem patO_stop {R : Int × Int × Int → Pat × Int × Int × Int} {T : ByteArray} (hR : StopP T R) : StopP T (patO R T) := fun s h => patG_stop hR 4097 [(R s).1] (R s).2 (hR s h)
theorem patA_stop {T : ByteArray} : ∀ (N : Nat), StopP T (patA T N)
  | 0 => fun s h => stop_at h s.1
  | N + 1 => fun s h => patO_stop (rowS_stop (itemA_stop (patA_stop N))) s h

end Ex
end Go.Proofs.YtnchmhginmaliaaGreatDoor
