import Derived.Test.YtbnchnlogikecaaGreatDoorPExRd8
import Derived.Test.YtbnchnlogikecaaGreatDoorPExCl3
import Derived.Deep.DeepMust
import Derived.OwnWalk
namespace Go.Proofs.YtbnchnlogikecaaGreatDoor
open Go.RowKit
attribute [local go_sem] Oper.semAt_some
namespace Ex
theorem timesG_ok {T : ByteArray} : ∀ (m : Nat) (p : Pat) (s : Int × Int × Int), OkS T s → OkS T (timesG T m p s).2 ∧ s.1 ≤ (timesG T m p s).2.1
  | 0, p, s, h => ⟨h, Int.le_refl _⟩
  | m + 1, p, s, h => by
    have go : ∀ (p' : Pat) (c : Int), c ≠ 0 → peekP T s.1 = c → OkS T (timesG T m p' (s.1 + 1, s.2)).2 ∧ s.1 ≤ (timesG T m p' (s.1 + 1, s.2)).2.1 := by
      intro p' c hc hp
      have h1 := timesG_ok m p' (s.1 + 1, s.2) (take_ok hc hp)
      have h2 := h1.2
      dsimp only at h2
      exact ⟨h1.1, by omega⟩
    rw [timesG]
    split
    · rename_i hc; exact go _ 42 (by decide) hc
    · split
      · rename_i hc; exact go _ 43 (by decide) hc
      · split
        · rename_i hc; exact go _ 63 (by decide) hc
        · split
          · rename_i hc
            have h1 := braces_ok (take_ok (T := T) (s := s) (c := 123) (by decide) hc)
            have h2 := timesG_ok m (mkP 4 0 0 (bracesS T s).1 (bracesS T s).2.1 [p]) (bracesS T s).2.2 h1.1
            exact ⟨h2.1, by have := h1.2; have := h2.2; omega⟩
          · exact ⟨h, Int.le_refl _⟩
abbrev rowGo (T : ByteArray) (k : Int) : Prop := k < T.size ∧ peekP T k ≠ 124 ∧ peekP T k ≠ 41
def rowG (A : Int × Int × Int → Pat × Int × Int × Int) (T : ByteArray) : Nat → List Pat → Int × Int × Int → List Pat × Int × Int × Int
  | 0, l, s => (l, s)
  | m + 1, l, s => if rowGo T s.1 then rowG A T m (l ++ [(A s).1]) (A s).2 else (l, s)
def rowS (A : Int × Int × Int → Pat × Int × Int × Int) (T : ByteArray) (s : Int × Int × Int) : Pat × Int × Int × Int := (oneOf 2 (rowG A T 4097 [] s).1, (rowG A T 4097 [] s).2)
theorem rowG_ok {T : ByteArray} {N : Nat} {A : Int × Int × Int → Pat × Int × Int × Int} (hA : ∀ s, OkS T s → s.1 < T.size → (T.size : Int) < s.1 + (N : Int) → OkS T (A s).2 ∧ s.1 < (A s).2.1) : ∀ (m : Nat) (l : List Pat) (s : Int × Int × Int), OkS T s → (T.size : Int) < s.1 + (N : Int) → OkS T (rowG A T m l s).2 ∧ s.1 ≤ (rowG A T m l s).2.1
  | 0, l, s, h, _ => ⟨h, Int.le_refl _⟩
  | m + 1, l, s, h, hN => by
    rw [rowG]
    split
    · rename_i hg
      have h1 := hA s h hg.1 hN
      have h2 := h1.2
      have h3 := rowG_ok hA m (l ++ [(A s).1]) (A s).2 h1.1 (by omega)
      exact ⟨h3.1, by have := h3.2; omega⟩
    · exact ⟨h, Int.le_refl _⟩
def patG (R : Int × Int × Int → Pat × Int × Int × Int) (T : ByteArray) : Nat → List Pat → Int × Int × Int → List Pat × Int × Int × Int
  | 0, l, s => (l, s)
  | m + 1, l, s => if peekP T s.1 = 124 then patG R T m (l ++ [(R (s.1 + 1, s.2)).1]) (R (s.1 + 1, s.2)).2 else (l, s)
def patL (R : Int × Int × Int → Pat × Int × Int × Int) (T : ByteArray) (s : Int × Int × Int) : List Pat × Int × Int × Int := patG R T 4097 [(R s).1] (R s).2
def patO (R : Int × Int × Int → Pat × Int × Int × Int) (T : ByteArray) (s : Int × Int × Int) : Pat × Int × Int × Int := (oneOf 3 (patL R T s).1, (patL R T s).2)
theorem patG_ok {T : ByteArray} {N : Nat} {R : Int × Int × Int → Pat × Int × Int × Int} (hR : ∀ s, OkS T s → (T.size : Int) < s.1 + (N : Int) → OkS T (R s).2 ∧ s.1 ≤ (R s).2.1) : ∀ (m : Nat) (l : List Pat) (s : Int × Int × Int), OkS T s → (T.size : Int) < s.1 + (N : Int) → OkS T (patG R T m l s).2 ∧ s.1 ≤ (patG R T m l s).2.1
  | 0, l, s, h, _ => ⟨h, Int.le_refl _⟩
  | m + 1, l, s, h, hN => by
    rw [patG]
    split
    · rename_i hc
      have h1 := hR (s.1 + 1, s.2) (take_ok (T := T) (s := s) (c := 124) (by decide) hc) (by show (T.size : Int) < s.1 + 1 + N; omega)
      have h2 := h1.2
      dsimp only at h2
      have h3 := patG_ok hR m (l ++ [(R (s.1 + 1, s.2)).1]) (R (s.1 + 1, s.2)).2 h1.1 (by omega)
      exact ⟨h3.1, by have := h3.2; omega⟩
    · exact ⟨h, Int.le_refl _⟩
theorem clG_ok {T : ByteArray} {y : Int} : ∀ (m : Nat) (l : List (Int × Int)) (s : Int × Int × Int), OkS T s → OkS T (clG T y m l s).2 ∧ s.1 ≤ (clG T y m l s).2.1
  | 0, l, s, h => ⟨h, Int.le_refl _⟩
  | m + 1, l, s, h => by
    rw [clG]
    split
    · split
      · rename_i hc
        exact ⟨take_ok (T := T) (s := s) (c := 93) (by decide) hc, by show s.1 ≤ s.1 + 1; omega⟩
      · have h1 := memberA_ok (y := y) h
        have h2 := clG_ok (y := y) m (l ++ [(memR T s y).1]) (memR T s y).2 h1.1
        exact ⟨h2.1, by have h3 := h1.2.1; have h4 : (memberA T s y).2.1 ≤ _ := h2.2; omega⟩
    · exact ⟨h, Int.le_refl _⟩
theorem classA_ok {T : ByteArray} {s : Int × Int × Int} (h : OkS T (s.1 + 1, s.2)) : OkS T (classA T s).2 ∧ s.1 < (classA T s).2.1 := by
  have h0 : OkS T (takeK T (s.1 + 1) 94, s.2) ∧ s.1 + 1 ≤ takeK T (s.1 + 1) 94 := by
    unfold takeK
    split
    · rename_i hc
      exact ⟨take_ok (T := T) (s := (s.1 + 1, s.2)) (c := 94) (by decide) hc, by omega⟩
    · exact ⟨h, Int.le_refl _⟩
  have h1 := memberA_ok (y := s.1) h0.1
  have h2 := clG_ok (y := s.1) 4098 [(memR T (takeK T (s.1 + 1) 94, s.2) s.1).1] (memR T (takeK T (s.1 + 1) 94, s.2) s.1).2 h1.1
  have h3 : takeK T (s.1 + 1) 94 ≤ (memberA T (takeK T (s.1 + 1) 94, s.2) s.1).2.1 := h1.2.1
  have h4 : (memberA T (takeK T (s.1 + 1) 94, s.2) s.1).2.1 ≤ (clL T s).2.1 := h2.2
  have h5 := h0.2
  have h6 : s.1 + 1 ≤ T.size := h.2
  unfold classA clE
  split
  · exact ⟨fail_ok _ _ _ _, by show s.1 < (T.size : Int); omega⟩
  · exact ⟨h2.1, by show s.1 < (clL T s).2.1; omega⟩
theorem escape_far {T : ByteArray} {s : Int × Int × Int} (h0 : 0 ≤ s.1) (h1 : s.1 < T.size) : s.1 < (escapeS T s).2.1 := by
  unfold escapeS
  split
  · exact h1
  · rename_i h2
    have g : OkS T (s.1 + 1 + 1, s.2) := ⟨by show 0 ≤ s.1 + 1 + 1; omega, by show s.1 + 1 + 1 ≤ _; omega⟩
    split
    · show s.1 < s.1 + 1 + 1; omega
    · split
      · show s.1 < s.1 + 1 + 1; omega
      · split
        · show s.1 < s.1 + 1 + 1; omega
        · split
          · have a := hex_ok (o := s.1) g
            have c := hex_ok (o := s.1) a.1
            have a2 : s.1 + 1 + 1 ≤ (hexR T (s.1 + 1 + 1, s.2) s.1).2.1 := a.2
            have c2 := c.2
            show s.1 < (hexR T (hexR T (s.1 + 1 + 1, s.2) s.1).2 s.1).2.1; omega
          · split
            · exact h1
            · show s.1 < s.1 + 1 + 1; omega
theorem atomA_ok {T : ByteArray} {N : Nat} {pat : Int × Int × Int → Pat × Int × Int × Int} (hP : PatOk T N pat) {s : Int × Int × Int} (h : OkS T s) (hlt : s.1 < T.size) (hN : (T.size : Int) < s.1 + ((N + 1 : Nat) : Int)) : OkS T (atomA pat T s).2 ∧ s.1 < (atomA pat T s).2.1 := by
  have h0 := h.1
  have h1 : OkS T (s.1 + 1, s.2) := ⟨by show 0 ≤ s.1 + 1; omega, by show s.1 + 1 ≤ _; omega⟩
  unfold atomA
  split
  · exact ⟨(esc_ok h0 hlt).1, escape_far h0 hlt⟩
  split
  · exact classA_ok h1
  · split
    · exact ⟨h1, by show s.1 < s.1 + 1; omega⟩
    · split
      · have h2 := hP (s.1 + 1, s.2) h1 (by show (T.size : Int) < s.1 + 1 + N; omega)
        have h3 := h2.2
        dsimp only at h3
        dsimp only
        split
        · rename_i hc
          exact ⟨take_ok (T := T) (s := (pat (s.1 + 1, s.2)).2) (c := 41) (by decide) hc, by show s.1 < (pat (s.1 + 1, s.2)).2.1 + 1; omega⟩
        · exact ⟨wrong_ok _ _, hlt⟩
      · split
        · exact ⟨h1, by show s.1 < s.1 + 1; omega⟩
        · exact ⟨wrong_ok _ _, hlt⟩
def itemA (pat : Int × Int × Int → Pat × Int × Int × Int) (T : ByteArray) (s : Int × Int × Int) : Pat × Int × Int × Int := timesS T (atomA pat T s).1 (atomA pat T s).2
theorem itemA_ok {T : ByteArray} {N : Nat} {pat : Int × Int × Int → Pat × Int × Int × Int} (hP : PatOk T N pat) {s : Int × Int × Int} (h : OkS T s) (hlt : s.1 < T.size) (hN : (T.size : Int) < s.1 + ((N + 1 : Nat) : Int)) : OkS T (itemA pat T s).2 ∧ s.1 < (itemA pat T s).2.1 := by
  have h1 := atomA_ok hP h hlt hN
  have h2 := timesG_ok 4097 (atomA pat T s).1 (atomA pat T s).2 h1.1
  exact ⟨h2.1, by have := h1.2; have := h2.2; show s.1 < (timesS T (atomA pat T s).1 (atomA pat T s).2).2.1; unfold timesS; omega⟩
def patA (T : ByteArray) : Nat → Int × Int × Int → Pat × Int × Int × Int
  | 0, s => (zeroP, s)
  | N + 1, s => patO (rowS (itemA (patA T N) T) T) T s
theorem patA_ok {T : ByteArray} : ∀ N, PatOk T N (patA T N) := by
  intro N
  induction N with
  | zero => intro s h hN; have := h.2; omega
  | succ N ih =>
    have hR : ∀ s, OkS T s → (T.size : Int) < s.1 + ((N + 1 : Nat) : Int) → OkS T (rowS (itemA (patA T N) T) T s).2 ∧ s.1 ≤ (rowS (itemA (patA T N) T) T s).2.1 := fun s h hN => rowG_ok (N := N + 1) (fun s h hlt hN => itemA_ok ih h hlt hN) 4097 [] s h hN
    intro s h hN
    have h1 := hR s h hN
    have h2 := patG_ok hR 4097 [(rowS (itemA (patA T N) T) T s).1] (rowS (itemA (patA T N) T) T s).2 h1.1 (by have := h1.2; omega)
    exact ⟨h2.1, by have := h1.2; have := h2.2; show s.1 ≤ (patG _ T 4097 _ _).2.1; omega⟩
def rowB (k1 : Int) (j : Nat) (k2 _e : Int) : Prop := k1 + (j : Int) ≤ k2
end Ex
end Go.Proofs.YtbnchnlogikecaaGreatDoor
