import Derived.Test.YthnbmkapmnpkoaaDoorMExRd7
namespace Go.Proofs.YthnbmkapmnpkoaaDoor
open Go.RowKit
attribute [local go_sem] Oper.semAt_some
namespace Ex

def zeroP : Pat := mkP 0 0 0 0 0 []
/-- An atom, by what reads a pattern. -/
def atomS (pat : Int × Int × Int → Pat × Int × Int × Int) (T : ByteArray) (s : Int × Int × Int) : Pat × Int × Int × Int :=
  if peekP T s.1 = 91 then classS T s
  else if peekP T s.1 = 46 then (rangeP 0 255, s.1 + 1, s.2)
  else if peekP T s.1 = 40 then ((pat (s.1 + 1, s.2)).1, if peekP T (pat (s.1 + 1, s.2)).2.1 = 41 then ((pat (s.1 + 1, s.2)).2.1 + 1, (pat (s.1 + 1, s.2)).2.2) else wrongS T (pat (s.1 + 1, s.2)).2)
  else if plainP (peekP T s.1) then (rangeP (peekP T s.1) (peekP T s.1), s.1 + 1, s.2)
  else (zeroP, wrongS T s)
def PatOk (T : ByteArray) (N : Nat) (pat : Int × Int × Int → Pat × Int × Int × Int) : Prop := ∀ s, OkS T s → (T.size : Int) < s.1 + (N : Int) → OkS T (pat s).2 ∧ s.1 ≤ (pat s).2.1

end Ex
end Go.Proofs.YthnbmkapmnpkoaaDoor
namespace Go.Proofs.YthnbmkapmnpkoaaDoor
open Go.RowKit
attribute [local go_sem] Oper.semAt_some
namespace Ex

theorem timesG_ok {T : ByteArray} : ∀ (m : Nat) (p : Pat) (s : Int × Int × Int), OkS T s → OkS T (timesG T m p s).2 ∧ s.1 ≤ (timesG T m p s).2.1
  | 0, p, s, h => ⟨h, Int.le_refl _⟩
  | m + 1, p, s, h => by
    have go : ∀ (p' : Pat) (c : Int), c ≠ 0 → peekP T s.1 = c → OkS T (timesG T m p' (s.1 + 1, s.2)).2 ∧ s.1 ≤ (timesG T m p' (s.1 + 1, s.2)).2.1 := by
      intro p' c hc hp
      have h1 := timesG_ok m p' (s.1 + 1, s.2) (take_ok hc hp)
      have h2 := h1.2
      dsimp only at h2
      exact ⟨h1.1, by omega⟩
    rw [timesG]
    split
    · rename_i hc; exact go _ 42 (by decide) hc
    · split
      · rename_i hc; exact go _ 43 (by decide) hc
      · split
        · rename_i hc; exact go _ 63 (by decide) hc
        · split
          · rename_i hc
            have h1 := braces_ok (take_ok (T := T) (s := s) (c := 123) (by decide) hc)
            have h2 := timesG_ok m (mkP 4 0 0 (bracesS T s).1 (bracesS T s).2.1 [p]) (bracesS T s).2.2 h1.1
            exact ⟨h2.1, by have := h1.2; have := h2.2; omega⟩
          · exact ⟨h, Int.le_refl _⟩
theorem classG_ok {T : ByteArray} {y : Int} : ∀ (m : Nat) (l : List Pat) (s : Int × Int × Int), OkS T s → OkS T (classG T y m l s).2 ∧ s.1 ≤ (classG T y m l s).2.1
  | 0, l, s, h => ⟨h, Int.le_refl _⟩
  | m + 1, l, s, h => by
    rw [classG]
    split
    · split
      · rename_i hc
        exact ⟨take_ok (T := T) (s := s) (c := 93) (by decide) hc, by show s.1 ≤ s.1 + 1; omega⟩
      · have h1 := member_ok (y := y) h
        have h2 := classG_ok (y := y) m (l ++ [(memberS T s y).1]) (memberS T s y).2 h1.1
        exact ⟨h2.1, by have := h1.2.1; have := h2.2; omega⟩
    · exact ⟨h, Int.le_refl _⟩
theorem class_ok {T : ByteArray} {s : Int × Int × Int} (h : OkS T (s.1 + 1, s.2)) : OkS T (classS T s).2 ∧ s.1 < (classS T s).2.1 := by
  have h1 := member_ok (y := s.1) h
  have h2 := classG_ok (y := s.1) 4098 [(memberS T (s.1 + 1, s.2) s.1).1] (memberS T (s.1 + 1, s.2) s.1).2 h1.1
  have h3 := h1.2.1
  dsimp only at h3
  exact ⟨h2.1, by have := h2.2; show s.1 < (classL T s).2.1; unfold classL; omega⟩
theorem atom_ok {T : ByteArray} {N : Nat} {pat : Int × Int × Int → Pat × Int × Int × Int} (hP : PatOk T N pat) {s : Int × Int × Int} (h : OkS T s) (hlt : s.1 < T.size) (hN : (T.size : Int) < s.1 + ((N + 1 : Nat) : Int)) : OkS T (atomS pat T s).2 ∧ s.1 < (atomS pat T s).2.1 := by
  have h0 := h.1
  have h1 : OkS T (s.1 + 1, s.2) := ⟨by show 0 ≤ s.1 + 1; omega, by show s.1 + 1 ≤ _; omega⟩
  unfold atomS
  split
  · exact class_ok h1
  · split
    · exact ⟨h1, by show s.1 < s.1 + 1; omega⟩
    · split
      · have h2 := hP (s.1 + 1, s.2) h1 (by show (T.size : Int) < s.1 + 1 + N; omega)
        have h3 := h2.2
        dsimp only at h3
        dsimp only
        split
        · rename_i hc
          exact ⟨take_ok (T := T) (s := (pat (s.1 + 1, s.2)).2) (c := 41) (by decide) hc, by show s.1 < (pat (s.1 + 1, s.2)).2.1 + 1; omega⟩
        · exact ⟨wrong_ok _ _, hlt⟩
      · split
        · exact ⟨h1, by show s.1 < s.1 + 1; omega⟩
        · exact ⟨wrong_ok _ _, hlt⟩
/-- An atom and how often it stands. -/
def itemS (pat : Int × Int × Int → Pat × Int × Int × Int) (T : ByteArray) (s : Int × Int × Int) : Pat × Int × Int × Int := timesS T (atomS pat T s).1 (atomS pat T s).2
theorem item_ok {T : ByteArray} {N : Nat} {pat : Int × Int × Int → Pat × Int × Int × Int} (hP : PatOk T N pat) {s : Int × Int × Int} (h : OkS T s) (hlt : s.1 < T.size) (hN : (T.size : Int) < s.1 + ((N + 1 : Nat) : Int)) : OkS T (itemS pat T s).2 ∧ s.1 < (itemS pat T s).2.1 := by
  have h1 := atom_ok hP h hlt hN
  have h2 := timesG_ok 4097 (atomS pat T s).1 (atomS pat T s).2 h1.1
  exact ⟨h2.1, by have := h1.2; have := h2.2; show s.1 < (timesS T (atomS pat T s).1 (atomS pat T s).2).2.1; unfold timesS; omega⟩
abbrev rowGo (T : ByteArray) (k : Int) : Prop := k < T.size ∧ peekP T k ≠ 124 ∧ peekP T k ≠ 41
def rowG (A : Int × Int × Int → Pat × Int × Int × Int) (T : ByteArray) : Nat → List Pat → Int × Int × Int → List Pat × Int × Int × Int
  | 0, l, s => (l, s)
  | m + 1, l, s => if rowGo T s.1 then rowG A T m (l ++ [(A s).1]) (A s).2 else (l, s)
def rowS (A : Int × Int × Int → Pat × Int × Int × Int) (T : ByteArray) (s : Int × Int × Int) : Pat × Int × Int × Int := (oneOf 2 (rowG A T 4097 [] s).1, (rowG A T 4097 [] s).2)
theorem rowG_ok {T : ByteArray} {N : Nat} {A : Int × Int × Int → Pat × Int × Int × Int} (hA : ∀ s, OkS T s → s.1 < T.size → (T.size : Int) < s.1 + (N : Int) → OkS T (A s).2 ∧ s.1 < (A s).2.1) : ∀ (m : Nat) (l : List Pat) (s : Int × Int × Int), OkS T s → (T.size : Int) < s.1 + (N : Int) → OkS T (rowG A T m l s).2 ∧ s.1 ≤ (rowG A T m l s).2.1
  | 0, l, s, h, _ => ⟨h, Int.le_refl _⟩
  | m + 1, l, s, h, hN => by
    rw [rowG]
    split
    · rename_i hg
      have h1 := hA s h hg.1 hN
      have h2 := h1.2
      have h3 := rowG_ok hA m (l ++ [(A s).1]) (A s).2 h1.1 (by omega)
      exact ⟨h3.1, by have := h3.2; omega⟩
    · exact ⟨h, Int.le_refl _⟩
def patG (R : Int × Int × Int → Pat × Int × Int × Int) (T : ByteArray) : Nat → List Pat → Int × Int × Int → List Pat × Int × Int × Int
  | 0, l, s => (l, s)
  | m + 1, l, s => if peekP T s.1 = 124 then patG R T m (l ++ [(R (s.1 + 1, s.2)).1]) (R (s.1 + 1, s.2)).2 else (l, s)
def patL (R : Int × Int × Int → Pat × Int × Int × Int) (T : ByteArray) (s : Int × Int × Int) : List Pat × Int × Int × Int := patG R T 4097 [(R s).1] (R s).2
def patO (R : Int × Int × Int → Pat × Int × Int × Int) (T : ByteArray) (s : Int × Int × Int) : Pat × Int × Int × Int := (oneOf 3 (patL R T s).1, (patL R T s).2)
def patS (T : ByteArray) : Nat → Int × Int × Int → Pat × Int × Int × Int
  | 0, s => (zeroP, s)
  | N + 1, s => patO (rowS (itemS (patS T N) T) T) T s
theorem patG_ok {T : ByteArray} {N : Nat} {R : Int × Int × Int → Pat × Int × Int × Int} (hR : ∀ s, OkS T s → (T.size : Int) < s.1 + (N : Int) → OkS T (R s).2 ∧ s.1 ≤ (R s).2.1) : ∀ (m : Nat) (l : List Pat) (s : Int × Int × Int), OkS T s → (T.size : Int) < s.1 + (N : Int) → OkS T (patG R T m l s).2 ∧ s.1 ≤ (patG R T m l s).2.1
  | 0, l, s, h, _ => ⟨h, Int.le_refl _⟩
  | m + 1, l, s, h, hN => by
    rw [patG]
    split
    · rename_i hc
      have h1 := hR (s.1 + 1, s.2) (take_ok (T := T) (s := s) (c := 124) (by decide) hc) (by show (T.size : Int) < s.1 + 1 + N; omega)
      have h2 := h1.2
      dsimp only at h2
      have h3 := patG_ok hR m (l ++ [(R (s.1 + 1, s.2)).1]) (R (s.1 + 1, s.2)).2 h1.1 (by omega)
      exact ⟨h3.1, by have := h3.2; omega⟩
    · exact ⟨h, Int.le_refl _⟩
theorem pat_ok {T : ByteArray} : ∀ N, PatOk T N (patS T N) := by
  intro N
  induction N with
  | zero => intro s h hN; have := h.2; omega
  | succ N ih =>
    have hR : ∀ s, OkS T s → (T.size : Int) < s.1 + ((N + 1 : Nat) : Int) → OkS T (rowS (itemS (patS T N) T) T s).2 ∧ s.1 ≤ (rowS (itemS (patS T N) T) T s).2.1 := fun s h hN => rowG_ok (N := N + 1) (fun s h hlt hN => item_ok ih h hlt hN) 4097 [] s h hN
    intro s h hN
    have h1 := hR s h hN
    have h2 := patG_ok hR 4097 [(rowS (itemS (patS T N) T) T s).1] (rowS (itemS (patS T N) T) T s).2 h1.1 (by have := h1.2; omega)
    exact ⟨h2.1, by have := h1.2; have := h2.2; show s.1 ≤ (patG _ T 4097 _ _).2.1; omega⟩

end Ex
end Go.Proofs.YthnbmkapmnpkoaaDoor
