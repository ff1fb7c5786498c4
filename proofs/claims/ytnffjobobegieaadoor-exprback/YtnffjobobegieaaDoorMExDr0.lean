import Derived.Test.YtnffjobobegieaaDoorMExCl3
import Derived.Test.YtnffjobobegieaaDoorMExWr1
namespace Go.Proofs.YtnffjobobegieaaDoor
open Go.RowKit
namespace Ex

/-- Behind a fault the reader stands at the text's end; without one the fault's place is as it was. -/
def StopS (T : ByteArray) (f : Int) (s : Int × Int × Int) : Prop := (s.2.1 ≠ 0 → s.1 = T.size) ∧ (s.2.1 = 0 → s.2.2 = f)
theorem stop_at {T : ByteArray} {s : Int × Int} (h : s.1 = 0) (k : Int) : StopS T s.2 (k, s) := ⟨fun h2 => absurd h h2, fun _ => rfl⟩
theorem stop_zero {T : ByteArray} {k f : Int} : StopS T f (k, 0, f) := ⟨fun h => absurd rfl h, fun _ => rfl⟩
theorem fail_stop (T : ByteArray) (f : Int) (s : Int × Int × Int) {x : Int} (y : Int) (hx : x ≠ 0) : StopS T f (failS T s x y) := ⟨fun _ => rfl, fun h => absurd h (failE_ne hx)⟩
theorem wrong_stop (T : ByteArray) (f : Int) (s : Int × Int × Int) : StopS T f (wrongS T s) := fail_stop _ _ _ _ (wrongC_ne _ _)
theorem peek_end (T : ByteArray) : peekP T (T.size : Int) = 0 := by unfold peekP; rw [dif_neg (by omega)]
theorem fail_stays {T : ByteArray} {e f x y : Int} (he : e ≠ 0) : failS T ((T.size : Int), e, f) x y = ((T.size : Int), e, f) := by
  unfold failS failE failF
  rw [if_neg he, if_neg he]
theorem wrong_stays {T : ByteArray} {e f : Int} (he : e ≠ 0) : wrongS T ((T.size : Int), e, f) = ((T.size : Int), e, f) := fail_stays he
theorem hexR_stays {T : ByteArray} {e f o : Int} (he : e ≠ 0) : hexR T ((T.size : Int), e, f) o = (0, (T.size : Int), e, f) := by
  unfold hexR
  rw [if_pos rfl, wrong_stays he]
theorem hexR_stop {T : ByteArray} {f : Int} {s : Int × Int × Int} {o : Int} (h : StopS T f s) : StopS T f (hexR T s o).2 := by
  unfold hexR
  split
  · exact wrong_stop _ _ _
  · split
    · exact fail_stop _ _ _ _ (by decide)
    · rename_i h1 _
      exact ⟨fun h2 => absurd (h.1 h2) h1, h.2⟩
theorem escape_stop {T : ByteArray} {s : Int × Int × Int} (h : s.2.1 = 0) : StopS T s.2.2 (escapeS T s).2 := by
  unfold escapeS
  split
  · exact wrong_stop _ _ _
  split
  · exact stop_at h _
  split
  · exact stop_at h _
  split
  · exact stop_at h _
  split
  · exact hexR_stop (hexR_stop (stop_at h _))
  split
  · exact fail_stop _ _ _ _ (by decide)
  · exact stop_at h _
theorem oneA_stop {T : ByteArray} {s : Int × Int × Int} (h : s.2.1 = 0) : StopS T s.2.2 (oneA T s).2 := by
  unfold oneA
  split
  · exact escape_stop h
  · unfold oneS
    split
    · exact stop_at h _
    · exact wrong_stop _ _ _
/-- A member whose first byte is wrong. -/
theorem memR_bad {T : ByteArray} {s : Int × Int × Int} {y : Int} (h : s.2.1 = 0) (he : (oneA T s).2.2.1 ≠ 0) : (memR T s y).2 = (oneA T s).2 := by
  have h1 := (oneA_stop (T := T) h).1 he
  have e1 : memberF T s = oneA T s := by
    unfold memberF
    rw [if_neg (by rw [h1, peek_end]; decide)]
  show (if (memberF T s).1 < (oneA T s).1 then failS T (memberF T s).2 22 y else (memberF T s).2) = _
  rw [e1, if_neg (by omega)]
theorem memR_stop {T : ByteArray} {s : Int × Int × Int} {y : Int} (h : s.2.1 = 0) : StopS T s.2.2 (memR T s y).2 := by
  by_cases he : (oneA T s).2.2.1 = 0
  · show StopS T s.2.2 (if (memberF T s).1 < (oneA T s).1 then failS T (memberF T s).2 22 y else (memberF T s).2)
    split
    · exact fail_stop _ _ _ _ (by decide)
    · unfold memberF
      split
      · have h2 := oneA_stop (T := T) (s := ((oneA T s).2.1 + 1, (oneA T s).2.2)) he
        rw [show ((oneA T s).2.1 + 1, (oneA T s).2.2).2.2 = s.2.2 from (oneA_stop (T := T) h).2 he] at h2
        exact h2
      · exact oneA_stop h
  · rw [memR_bad h he]
    exact oneA_stop h
theorem clG_bad {T : ByteArray} {y : Int} {m : Nat} {l : List (Int × Int)} {s : Int × Int × Int} (h : s.2.1 ≠ 0) : clG T y m l s = (l, s) := by
  cases m with
  | zero => rfl
  | succ m => rw [clG, if_neg h]
theorem clG_stop {T : ByteArray} {y f : Int} : ∀ (m : Nat) (l : List (Int × Int)) (s : Int × Int × Int), StopS T f s → StopS T f (clG T y m l s).2
  | 0, _, _, h => h
  | m + 1, l, s, h => by
    rw [clG]
    split
    · rename_i h0
      have hf := h.2 h0
      subst hf
      split
      · exact stop_at h0 _
      · exact clG_stop m _ _ (memR_stop h0)
    · exact h
theorem classA_stop {T : ByteArray} {s : Int × Int × Int} (h : s.2.1 = 0) : StopS T s.2.2 (classA T s).2 := by
  unfold classA clE
  split
  · exact fail_stop _ _ _ _ (by decide)
  · exact clG_stop _ _ _ (memR_stop (s := (takeK T (s.1 + 1) 94, s.2)) h)
theorem number_stop {T : ByteArray} {s : Int × Int × Int} (h : s.2.1 = 0) : StopS T s.2.2 (numberS T s).2 := by
  unfold numberS
  split
  · exact wrong_stop _ _ _
  · exact stop_at h _
theorem bracesM_stop {T : ByteArray} {f : Int} {a : Int × Int × Int × Int} (h : StopS T f a.2) : StopS T f (bracesM T a).2 := by
  unfold bracesM
  split
  · rename_i hc
    have he : a.2.2.1 = 0 := by
      rcases Decidable.em (a.2.2.1 = 0) with h1 | h1
      · exact h1
      · rw [h.1 h1, peek_end] at hc
        exact absurd hc (by decide)
    have hf := h.2 he
    subst hf
    split
    · exact stop_at he _
    · exact number_stop he
  · exact h
theorem braces_stop {T : ByteArray} {s : Int × Int × Int} (h : s.2.1 = 0) : StopS T s.2.2 (bracesS T s).2.2 := by
  have h1 := bracesM_stop (number_stop (T := T) (s := (s.1 + 1, s.2)) h)
  unfold bracesS bracesZ
  split
  · rename_i hc
    dsimp only
    split
    · refine ⟨fun h2 => ?_, h1.2⟩
      rw [h1.1 h2, peek_end] at hc
      exact absurd hc (by decide)
    · exact fail_stop _ _ _ _ (by decide)
  · exact wrong_stop _ _ _
theorem timesG_bad {T : ByteArray} {m : Nat} {p : Pat} {e f : Int} : timesG T m p ((T.size : Int), e, f) = (p, (T.size : Int), e, f) := by
  cases m with
  | zero => rfl
  | succ m =>
    rw [timesG]
    dsimp only
    rw [peek_end]
    simp
theorem timesG_stop {T : ByteArray} {f : Int} : ∀ (m : Nat) (p : Pat) (s : Int × Int × Int), StopS T f s → StopS T f (timesG T m p s).2
  | 0, _, _, h => h
  | m + 1, p, s, h => by
    by_cases he : s.2.1 = 0
    · have hf := h.2 he
      subst hf
      rw [timesG]
      split
      · exact timesG_stop m _ _ (stop_at he _)
      split
      · exact timesG_stop m _ _ (stop_at he _)
      split
      · exact timesG_stop m _ _ (stop_at he _)
      split
      · exact timesG_stop m _ _ (braces_stop he)
      · exact h
    · obtain ⟨k, e, f1⟩ := s
      have : k = T.size := h.1 he
      subst this
      rw [timesG_bad]
      exact h
def StopP (T : ByteArray) (pat : Int × Int × Int → Pat × Int × Int × Int) : Prop := ∀ s, s.2.1 = 0 → StopS T s.2.2 (pat s).2
theorem atomA_stop {T : ByteArray} {pat : Int × Int × Int → Pat × Int × Int × Int} (hp : StopP T pat) {s : Int × Int × Int} (h : s.2.1 = 0) : StopS T s.2.2 (atomA pat T s).2 := by
  unfold atomA
  split
  · exact escape_stop h
  split
  · exact classA_stop h
  split
  · exact stop_at h _
  split
  · have h1 := hp (s.1 + 1, s.2) h
    dsimp only
    split
    · rename_i hc
      refine ⟨fun h2 => ?_, h1.2⟩
      rw [h1.1 h2, peek_end] at hc
      exact absurd hc (by decide)
    · exact wrong_stop _ _ _
  split
  · exact stop_at h _
  · exact wrong_stop _ _ _
theorem itemA_stop {T : ByteArray} {pat : Int × Int × Int → Pat × Int × Int × Int} (hp : StopP T pat) : StopP T (itemA pat T) := fun _ h => timesG_stop _ _ _ (atomA_stop hp h)
theorem rowG_bad {A : Int × Int × Int → Pat × Int × Int × Int} {T : ByteArray} {m : Nat} {l : List Pat} {e f : Int} : rowG A T m l ((T.size : Int), e, f) = (l, (T.size : Int), e, f) := by
  cases m with
  | zero => rfl
  | succ m => rw [rowG, if_neg (fun h => absurd h.1 (by show ¬ (T.size : Int) < T.size; omega))]
theorem rowG_stop {A : Int × Int × Int → Pat × Int × Int × Int} {T : ByteArray} {f : Int} (hA : StopP T A) : ∀ (m : Nat) (l : List Pat) (s : Int × Int × Int), StopS T f s → StopS T f (rowG A T m l s).2
  | 0, _, _, h => h
  | m + 1, l, s, h => by
    rw [rowG]
    split
    · rename_i hg
      by_cases he : s.2.1 = 0
      · have hf := h.2 he
        subst hf
        exact rowG_stop hA m _ _ (hA s he)
      · exact absurd hg.1 (by rw [h.1 he]; omega)
    · exact h
theorem patG_bad {R : Int × Int × Int → Pat × Int × Int × Int} {T : ByteArray} {m : Nat} {l : List Pat} {e f : Int} : patG R T m l ((T.size : Int), e, f) = (l, (T.size : Int), e, f) := by
  cases m with
  | zero => rfl
  | succ m => rw [patG, if_neg (by show ¬ peekP T (T.size : Int) = 124; rw [peek_end]; decide)]
theorem patG_stop {R : Int × Int × Int → Pat × Int × Int × Int} {T : ByteArray} {f : Int} (hR : StopP T R) : ∀ (m : Nat) (l : List Pat) (s : Int × Int × Int), StopS T f s → StopS T f (patG R T m l s).2
  | 0, _, _, h => h
  | m + 1, l, s, h => by
    rw [patG]
    split
    · rename_i hc
      by_cases he : s.2.1 = 0
      · have hf := h.2 he
        subst hf
        exact patG_stop hR m _ _ (hR (s.1 + 1, s.2) he)
      · rw [h.1 he, peek_end] at hc
        exact absurd hc (by decide)
    · exact h
theorem rowS_stop {A : Int × Int × Int → Pat × Int × Int × Int} {T : ByteArray} (hA : StopP T A) : StopP T (rowS A T) := fun s h => rowG_stop hA 4097 [] s (stop_at h s.1)
theorem patO_stop {R : Int × Int × Int → Pat × Int × Int × Int} {T : ByteArray} (hR : StopP T R) : StopP T (patO R T) := fun s h => patG_stop hR 4097 [(R s).1] (R s).2 (hR s h)
theorem patA_stop {T : ByteArray} : ∀ (N : Nat), StopP T (patA T N)
  | 0 => fun s h => stop_at h s.1
  | N + 1 => fun s h => patO_stop (rowS_stop (itemA_stop (patA_stop N))) s h

end Ex
end Go.Proofs.YtnffjobobegieaaDoor
namespace Go.Proofs.YtnffjobobegieaaDoor
open Go.RowKit
namespace Ex

/-- The text has these bytes at k. -/
def HasAt (T : ByteArray) (k : Int) (zs : List Int) : Prop := 0 ≤ k ∧ k + (zs.length : Int) ≤ T.size ∧ ∀ (i : Nat) (c : Int), zs[i]? = some c → peekP T (k + (i : Int)) = c
theorem HasAt.cons {T : ByteArray} {k c : Int} {zs : List Int} (h : HasAt T k (c :: zs)) : peekP T k = c ∧ k < T.size ∧ HasAt T (k + 1) zs := by
  obtain ⟨h1, h2, h3⟩ := h
  simp only [List.length_cons] at h2
  refine ⟨?_, by omega, by omega, by omega, fun i x hx => ?_⟩
  · have := h3 0 c rfl
    simpa using this
  · have := h3 (i + 1) x (by simpa using hx)
    rw [← this]
    congr 1
    omega
theorem HasAt.app {T : ByteArray} {k : Int} {xs ys : List Int} (h : HasAt T k (xs ++ ys)) : HasAt T k xs ∧ HasAt T (k + (xs.length : Int)) ys := by
  obtain ⟨h1, h2, h3⟩ := h
  simp only [List.length_append] at h2
  refine ⟨⟨h1, by omega, fun i x hx => h3 i x ?_⟩, by omega, by omega, fun i x hx => ?_⟩
  · rw [List.getElem?_append_left (List.getElem?_eq_some_iff.1 hx).1]; exact hx
  · have := h3 (xs.length + i) x (by rw [List.getElem?_append_right (by omega)]; simpa using hx)
    rw [← this]
    congr 1
    omega
theorem HasAt.le {T : ByteArray} {k : Int} {xs : List Int} (h : HasAt T k xs) : 0 ≤ k ∧ k + (xs.length : Int) ≤ T.size := ⟨h.1, h.2.1⟩
theorem hexd_back {d : Int} (h0 : 0 ≤ d) (h1 : d < 16) : hexV (hexd d) = d := by
  have h : ∀ k : Fin 16, hexV (hexd (k.val : Int)) = (k.val : Int) := by decide +kernel
  have := h ⟨d.toNat, by omega⟩
  simp only [] at this
  rwa [show ((d.toNat : Nat) : Int) = d by omega] at this
theorem hexR_back {T : ByteArray} {k f o d : Int} {zs : List Int} (h : HasAt T k (hexd d :: zs)) (h0 : 0 ≤ d) (h1 : d < 16) : hexR T (k, 0, f) o = (d, k + 1, 0, f) := by
  obtain ⟨hp, hlt, _⟩ := h.cons
  unfold hexR
  dsimp only
  rw [if_neg (by omega), hp, hexd_back h0 h1, if_neg (by omega)]
/-- Is the byte, behind a backslash, itself? -/
theorem esc_self {T : ByteArray} {k f c : Int} (h : HasAt T k [92, c]) (h2 : c ≠ 110) (h3 : c ≠ 114) (h4 : c ≠ 116) (h5 : c ≠ 120) (hb : escBad c = false) : escapeS T (k, 0, f) = (c, k + 2, 0, f) := by
  obtain ⟨_, _, h⟩ := h.cons
  obtain ⟨hp, hlt, _⟩ := h.cons
  unfold escapeS
  dsimp only
  rw [if_neg (by omega), hp, if_neg h2, if_neg h3, if_neg h4, if_neg h5, hb]
  simp
  omega
theorem byte_cases (s : ByteArray) (hs : s = signsS ∨ s = escS) (c : Int) (h0 : 0 ≤ c) (h1 : c ≤ 255) :
    (c = 10 ∧ byteW s c = [92, 110]) ∨ (c = 13 ∧ byteW s c = [92, 114]) ∨ (c = 9 ∧ byteW s c = [92, 116]) ∨
    (byteW s c = [92, 120, hexd (c / 16), hexd (c % 16)]) ∨
    (byteW s c = [92, c] ∧ c ≠ 110 ∧ c ≠ 114 ∧ c ≠ 116 ∧ c ≠ 120 ∧ escBad c = false) ∨ (byteW s c = [c] ∧ printedP c = true ∧ inS s c = false) := by
  have h : ∀ k : Fin 256, ∀ s ∈ [signsS, escS], (k.val = 10 ∧ byteW s (k.val : Int) = [92, 110]) ∨ (k.val = 13 ∧ byteW s (k.val : Int) = [92, 114]) ∨ (k.val = 9 ∧ byteW s (k.val : Int) = [92, 116]) ∨
    (byteW s (k.val : Int) = [92, 120, hexd ((k.val : Int) / 16), hexd ((k.val : Int) % 16)]) ∨
    (byteW s (k.val : Int) = [92, (k.val : Int)] ∧ k.val ≠ 110 ∧ k.val ≠ 114 ∧ k.val ≠ 116 ∧ k.val ≠ 120 ∧ escBad (k.val : Int) = false) ∨ (byteW s (k.val : Int) = [(k.val : Int)] ∧ printedP (k.val : Int) = true ∧ inS s (k.val : Int) = false) := by decide +kernel
  have := h ⟨c.toNat, by omega⟩ s (by simpa using hs)
  simp only [] at this
  rw [show ((c.toNat : Nat) : Int) = c by omega] at this
  rcases this with ⟨h2, h3⟩ | ⟨h2, h3⟩ | ⟨h2, h3⟩ | h3 | ⟨h3, g1, g2, g3, g4, g5⟩ | h3
  · exact .inl ⟨by omega, h3⟩
  · exact .inr (.inl ⟨by omega, h3⟩)
  · exact .inr (.inr (.inl ⟨by omega, h3⟩))
  · exact .inr (.inr (.inr (.inl h3)))
  · exact .inr (.inr (.inr (.inr (.inl ⟨h3, by omega, by omega, by omega, by omega, g5⟩))))
  · exact .inr (.inr (.inr (.inr (.inr h3))))
/-- An escape is read back. -/
theorem esc_back {T : ByteArray} {s : ByteArray} (hs : s = signsS ∨ s = escS) {k f c : Int} (h0 : 0 ≤ c) (h1 : c ≤ 255) (h : HasAt T k (byteW s c)) (hn : byteW s c ≠ [c]) : peekP T k = 92 ∧ escapeS T (k, 0, f) = (c, k + ((byteW s c).length : Int), 0, f) := by
  rcases byte_cases s hs c h0 h1 with ⟨rfl, e⟩ | ⟨rfl, e⟩ | ⟨rfl, e⟩ | e | ⟨e, g1, g2, g3, g4, g5⟩ | ⟨e, _⟩
  · rw [e] at h ⊢
    obtain ⟨hp, _, h⟩ := h.cons
    obtain ⟨hp2, hlt, _⟩ := h.cons
    refine ⟨hp, ?_⟩
    unfold escapeS
    dsimp only
    rw [if_neg (by omega), hp2]
    simp
    omega
  · rw [e] at h ⊢
    obtain ⟨hp, _, h⟩ := h.cons
    obtain ⟨hp2, hlt, _⟩ := h.cons
    refine ⟨hp, ?_⟩
    unfold escapeS
    dsimp only
    rw [if_neg (by omega), hp2]
    simp
    omega
  · rw [e] at h ⊢
    obtain ⟨hp, _, h⟩ := h.cons
    obtain ⟨hp2, hlt, _⟩ := h.cons
    refine ⟨hp, ?_⟩
    unfold escapeS
    dsimp only
    rw [if_neg (by omega), hp2]
    simp
    omega
  · rw [e] at h ⊢
    obtain ⟨hp, _, h⟩ := h.cons
    obtain ⟨hp2, hlt, h⟩ := h.cons
    refine ⟨hp, ?_⟩
    have hx := hexR_back (f := f) (o := k) h (by omega) (by omega)
    obtain ⟨_, _, h⟩ := h.cons
    have hy := hexR_back (f := f) (o := k) h (by omega) (by omega)
    unfold escapeS
    dsimp only
    rw [if_neg (by omega), hp2, hx]
    dsimp only
    rw [hy]
    simp
    omega
  · rw [e] at h ⊢
    exact ⟨h.cons.1, by rw [esc_self h g1 g2 g3 g4 g5]; rfl⟩
  · exact absurd e hn
/-- A byte of a class is read back. -/
theorem one_back {T : ByteArray} {k f c : Int} (h0 : 0 ≤ c) (h1 : c ≤ 255) (h : HasAt T k (byteW escS c)) : oneA T (k, 0, f) = (c, k + ((byteW escS c).length : Int), 0, f) := by
  by_cases hn : byteW escS c = [c]
  · rw [hn] at h ⊢
    have hp := h.cons.1
    have hpi : printedP c = true ∧ inS escS c = false := by
      rcases byte_cases escS (.inr rfl) c h0 h1 with ⟨rfl, e⟩ | ⟨rfl, e⟩ | ⟨rfl, e⟩ | e | ⟨e, _⟩ | ⟨_, e⟩
      · rw [e] at hn; simp at hn
      · rw [e] at hn; simp at hn
      · rw [e] at hn; simp at hn
      · rw [e] at hn; simp at hn
      · rw [e] at hn; simp at hn
      · exact e
    have hcl : inS classSignsS c = false ∧ c ≠ 92 := by
      have hh : ∀ k : Fin 256, inS escS (k.val : Int) = false → inS classSignsS (k.val : Int) = false ∧ k.val ≠ 92 := by decide +kernel
      have := hh ⟨c.toNat, by omega⟩
      simp only [] at this
      rw [show ((c.toNat : Nat) : Int) = c by omega] at this
      exact ⟨(this hpi.2).1, by have := (this hpi.2).2; omega⟩
    unfold oneA oneS
    dsimp only
    rw [hp, if_neg hcl.2, hpi.1, hcl.1]
    rfl
  · obtain ⟨hp, he⟩ := esc_back (.inr rfl) (f := f) h0 h1 h hn
    unfold oneA
    dsimp only
    rw [if_pos hp, he]

end Ex
end Go.Proofs.YtnffjobobegieaaDoor
namespace Go.Proofs.YtnffjobobegieaaDoor
open Go.RowKit
namespace Ex

/-- A member of a class as it is written. -/
def memP (p : Int × Int) : List Int := byteW escS p.1 ++ if p.1 < p.2 then 45 :: byteW escS p.2 else []
def GoodR (p : Int × Int) : Prop := 0 ≤ p.1 ∧ p.1 ≤ p.2 ∧ p.2 ≤ 255
theorem byte_first (c : Int) (h0 : 0 ≤ c) (h1 : c ≤ 255) : ∃ x zs, byteW escS c = x :: zs ∧ x ≠ 45 ∧ x ≠ 93 ∧ x ≠ 94 := by
  have h : ∀ k : Fin 256, byteW escS (k.val : Int) ≠ [] ∧ (byteW escS (k.val : Int)).head? ≠ some 45 ∧ (byteW escS (k.val : Int)).head? ≠ some 93 ∧ (byteW escS (k.val : Int)).head? ≠ some 94 := by decide +kernel
  have := h ⟨c.toNat, by omega⟩
  simp only [] at this
  rw [show ((c.toNat : Nat) : Int) = c by omega] at this
  obtain ⟨g1, g2, g3, g4⟩ := this
  cases e : byteW escS c with
  | nil => exact absurd e g1
  | cons x zs =>
    rw [e] at g2 g3 g4
    exact ⟨x, zs, rfl, by simpa using g2, by simpa using g3, by simpa using g4⟩
theorem memP_first {p : Int × Int} (h : GoodR p) : ∃ x zs, memP p = x :: zs ∧ x ≠ 45 ∧ x ≠ 93 ∧ x ≠ 94 := by
  obtain ⟨x, zs, e, g⟩ := byte_first p.1 h.1 (by have := h.2.1; have := h.2.2; omega)
  exact ⟨x, zs ++ if p.1 < p.2 then 45 :: byteW escS p.2 else [], by unfold memP; rw [e]; rfl, g⟩
theorem mem_back {T : ByteArray} {k f y : Int} {p : Int × Int} (hg : GoodR p) (h : HasAt T k (memP p)) (hx : peekP T (k + ((memP p).length : Int)) ≠ 45) : memR T (k, 0, f) y = (p, k + ((memP p).length : Int), 0, f) := by
  obtain ⟨g0, g1, g2⟩ := hg
  obtain ⟨a, z⟩ := p
  dsimp only at g0 g1 g2
  have h1 := one_back (f := f) g0 (by omega) h.app.1
  by_cases hlt : a < z
  · have em : memP (a, z) = byteW escS a ++ 45 :: byteW escS z := by unfold memP; rw [if_pos hlt]
    rw [em] at h ⊢
    obtain ⟨_, h2⟩ := h.app
    obtain ⟨hp, _, h3⟩ := h2.cons
    have h4 := one_back (f := f) (by omega) g2 h3
    have e1 : memberF T (k, 0, f) = (z, k + ((byteW escS a).length : Int) + 1 + ((byteW escS z).length : Int), 0, f) := by
      unfold memberF
      rw [h1]
      dsimp only
      rw [if_pos hp, h4]
    show (((oneA T (k, 0, f)).1, (memberF T (k, 0, f)).1), if (memberF T (k, 0, f)).1 < (oneA T (k, 0, f)).1 then failS T (memberF T (k, 0, f)).2 22 y else (memberF T (k, 0, f)).2) = _
    rw [e1, h1]
    dsimp only
    rw [if_neg (by omega)]
    simp only [List.length_append, List.length_cons, Prod.mk.injEq, and_true, true_and]
    omega
  · have hz : z = a := by omega
    subst hz
    have em : memP (z, z) = byteW escS z := by unfold memP; rw [if_neg hlt]; simp
    rw [em] at hx ⊢
    have e1 : memberF T (k, 0, f) = oneA T (k, 0, f) := by
      unfold memberF
      rw [h1]
      dsimp only
      rw [if_neg hx]
    show (((oneA T (k, 0, f)).1, (memberF T (k, 0, f)).1), if (memberF T (k, 0, f)).1 < (oneA T (k, 0, f)).1 then failS T (memberF T (k, 0, f)).2 22 y else (memberF T (k, 0, f)).2) = _
    rw [e1, h1]
    dsimp only
    rw [if_neg (by omega)]
/-- The next byte behind a member is no sign of a range. -/
theorem mems_first {T : ByteArray} {k : Int} {M : List (Int × Int)} (hM : ∀ p ∈ M, GoodR p) (h : HasAt T k (M.flatMap memP ++ [93])) : peekP T k ≠ 45 ∧ (M ≠ [] → peekP T k ≠ 93 ∧ peekP T k ≠ 94) := by
  cases M with
  | nil => exact ⟨by rw [h.cons.1]; decide, fun h => absurd rfl h⟩
  | cons p M =>
    obtain ⟨x, zs, e, g1, g2, g3⟩ := memP_first (hM p (List.mem_cons_self ..))
    rw [List.flatMap_cons, e] at h
    have := h.cons.1
    exact ⟨by rw [this]; exact g1, fun _ => ⟨by rw [this]; exact g2, by rw [this]; exact g3⟩⟩
theorem cl_back {T : ByteArray} {f y : Int} : ∀ (M : List (Int × Int)) (l : List (Int × Int)) (k : Int) (m : Nat), (∀ p ∈ M, GoodR p) → HasAt T k (M.flatMap memP ++ [93]) → M.length < m → clG T y m l (k, 0, f) = (l ++ M, k + ((M.flatMap memP).length : Int) + 1, 0, f)
  | [], l, k, m, _, h, hm => by
    obtain ⟨m, rfl⟩ : ∃ j, m = j + 1 := ⟨m - 1, by simp at hm; omega⟩
    rw [clG, if_pos rfl, if_pos h.cons.1]
    simp
  | p :: M, l, k, m, hM, h, hm => by
    obtain ⟨m, rfl⟩ : ∃ j, m = j + 1 := ⟨m - 1, by simp at hm; omega⟩
    have hf := (mems_first hM h).2 (by simp)
    have h2 := h
    rw [List.flatMap_cons, List.append_assoc] at h2
    obtain ⟨ha, hb⟩ := h2.app
    have hn := (mems_first (fun q hq => hM q (List.mem_cons_of_mem _ hq)) hb).1
    have hm1 := mem_back (f := f) (y := y) (hM p (List.mem_cons_self ..)) ha hn
    rw [clG, if_pos rfl, if_neg hf.1, hm1]
    rw [cl_back M (l ++ [p]) _ m (fun q hq => hM q (List.mem_cons_of_mem _ hq)) hb (by simp at hm; omega)]
    simp only [List.append_assoc, List.singleton_append, List.flatMap_cons, List.length_append, Prod.mk.injEq, and_true, true_and]
    omega
/-- A class is read back. -/
theorem class_back {T : ByteArray} {k f : Int} {M : List (Int × Int)} (hM : ∀ p ∈ M, GoodR p) (hne : M ≠ []) (hl : M.length ≤ 4096) (h : HasAt T k (91 :: (M.flatMap memP ++ [93]))) : classA T (k, 0, f) = (oneOf 3 (rangesP M), k + ((M.flatMap memP).length : Int) + 2, 0, f) := by
  obtain ⟨_, _, h1⟩ := h.cons
  have hf := (mems_first hM h1).2 hne
  have ht : takeK T (k + 1) 94 = k + 1 := by unfold takeK; rw [if_neg hf.2]
  obtain ⟨p, M', rfl⟩ := List.exists_cons_of_ne_nil hne
  have h2 := h1
  rw [List.flatMap_cons, List.append_assoc] at h2
  obtain ⟨ha, hb⟩ := h2.app
  have hn := (mems_first (fun q hq => hM q (List.mem_cons_of_mem _ hq)) hb).1
  have hm1 := mem_back (f := f) (y := k) (hM p (List.mem_cons_self ..)) ha hn
  have hL : clL T (k, 0, f) = (p :: M', k + (((p :: M').flatMap memP).length : Int) + 2, 0, f) := by
    unfold clL
    dsimp only
    rw [ht, hm1]
    dsimp only
    rw [cl_back M' [p] _ 4098 (fun q hq => hM q (List.mem_cons_of_mem _ hq)) hb (by simp at hl; omega)]
    simp only [List.singleton_append, List.flatMap_cons, List.length_append, Prod.mk.injEq, and_true, true_and]
    omega
  unfold classA
  dsimp only
  rw [hL, show (peekP T (k + 1) == 94) = false by simpa using hf.2]
  unfold clR clE
  simp

end Ex
end Go.Proofs.YtnffjobobegieaaDoor
