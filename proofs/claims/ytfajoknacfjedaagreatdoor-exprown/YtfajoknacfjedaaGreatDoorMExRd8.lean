import Derived.Test.YtfajoknacfjedaaGreatDoorMExRd7
namespace Go.Proofs.YtfajoknacfjedaaGreatDoor
open Go.RowKit
attribute [local go_sem] Oper.semAt_some
namespace Ex

theorem box_start {w : World} {b : Nat} {T : ByteArray} {k e f : Int} (h : RAt w b T k e f) (nd : Nat) :
    KeptBut b w ((w.alloc (.cells #[.int .i64 0, .int .i64 0, .int .i64 0, .int .i64 0, .int .i64 0, .slice none 0 0] 24)).drewN nd) ∧ RAt ((w.alloc (.cells #[.int .i64 0, .int .i64 0, .int .i64 0, .int .i64 0, .int .i64 0, .slice none 0 0] 24)).drewN nd) b T k e f ∧
    BoxAt ((w.alloc (.cells #[.int .i64 0, .int .i64 0, .int .i64 0, .int .i64 0, .int .i64 0, .slice none 0 0] 24)).drewN nd) w.heap.size (.int .i64 0) (.int .i64 0) (.int .i64 0) (.int .i64 0) (.int .i64 0) (.slice none 0 0) :=
  ⟨but_drew (((Kept.refl w).alloc _ _).but b) nd, (h.keep ((Kept.refl _).alloc _ _)).drew nd, BoxAt.new w _ _ _ _ _ _⟩
def zeroP : Pat := mkP 0 0 0 0 0 []
def PatOk (T : ByteArray) (N : Nat) (pat : Int × Int × Int → Pat × Int × Int × Int) : Prop := ∀ s, OkS T s → (T.size : Int) < s.1 + (N : Int) → OkS T (pat s).2 ∧ s.1 ≤ (pat s).2.1

end Ex
end Go.Proofs.YtfajoknacfjedaaGreatDoor
namespace Go.Proofs.YtfajoknacfjedaaGreatDoor
open Go.RowKit
attribute [local go_sem] Oper.semAt_some
namespace Ex

theorem timesG_ok {T : ByteArray} : ∀ (m : Nat) (p : Pat) (s : Int × Int × Int), OkS T s → OkS T (timesG T m p s).2 ∧ s.1 ≤ (timesG T m p s).2.1
  | 0, p, s, h => ⟨h, Int.le_refl _⟩
  | m + 1, p, s, h => by
    have go : ∀ (p' : Pat) (c : Int), c ≠ 0 → peekP T s.1 = c → OkS T (timesG T m p' (s.1 + 1, s.2)).2 ∧ s.1 ≤ (timesG T m p' (s.1 + 1, s.2)).2.1 := by
      intro p' c hc hp
      have h1 := timesG_ok m p' (s.1 + 1, s.2) (take_ok hc hp)
      have h2 := h1.2
      dsimp only at h2
      exact ⟨h1.1, by omega⟩
    rw [timesG]
    split
    · rename_i hc; exact go _ 42 (by decide) hc
    · split
      · rename_i hc; exact go _ 43 (by decide) hc
      · split
        · rename_i hc; exact go _ 63 (by decide) hc
        · split
          · rename_i hc
            have h1 := braces_ok (take_ok (T := T) (s := s) (c := 123) (by decide) hc)
            have h2 := timesG_ok m (mkP 4 0 0 (bracesS T s).1 (bracesS T s).2.1 [p]) (bracesS T s).2.2 h1.1
            exact ⟨h2.1, by have := h1.2; have := h2.2; omega⟩
          · exact ⟨h, Int.le_refl _⟩
abbrev rowGo (T : ByteArray) (k : Int) : Prop := k < T.size ∧ peekP T k ≠ 124 ∧ peekP T k ≠ 41
def rowG (A : Int × Int × Int → Pat × Int × Int × Int) (T : ByteArray) : Nat → List Pat → Int × Int × Int → List Pat × Int × Int × Int
  | 0, l, s => (l, s)
  | m + 1, l, s => if rowGo T s.1 then rowG A T m (l ++ [(A s).1]) (A s).2 else (l, s)
def rowS (A : Int × Int × Int → Pat × Int × Int × Int) (T : ByteArray) (s : Int × Int × Int) : Pat × Int × Int × Int := (oneOf 2 (rowG A T 4097 [] s).1, (rowG A T 4097 [] s).2)
theorem rowG_ok {T : ByteArray} {N : Nat} {A : Int × Int × Int → Pat × Int × Int × Int} (hA : ∀ s, OkS T s → s.1 < T.size → (T.size : Int) < s.1 + (N : Int) → OkS T (A s).2 ∧ s.1 < (A s).2.1) : ∀ (m : Nat) (l : List Pat) (s : Int × Int × Int), OkS T s → (T.size : Int) < s.1 + (N : Int) → OkS T (rowG A T m l s).2 ∧ s.1 ≤ (rowG A T m l s).2.1
  | 0, l, s, h, _ => ⟨h, Int.le_refl _⟩
  | m + 1, l, s, h, hN => by
    rw [rowG]
    split
    · rename_i hg
      have h1 := hA s h hg.1 hN
      have h2 := h1.2
      have h3 := rowG_ok hA m (l ++ [(A s).1]) (A s).2 h1.1 (by omega)
      exact ⟨h3.1, by have := h3.2; omega⟩
    · exact ⟨h, Int.le_refl _⟩
def patG (R : Int × Int × Int → Pat × Int × Int × Int) (T : ByteArray) : Nat → List Pat → Int × Int × Int → List Pat × Int × Int × Int
  | 0, l, s => (l, s)
  | m + 1, l, s => if peekP T s.1 = 124 then patG R T m (l ++ [(R (s.1 + 1, s.2)).1]) (R (s.1 + 1, s.2)).2 else (l, s)
def patL (R : Int × Int × Int → Pat × Int × Int × Int) (T : ByteArray) (s : Int × Int × Int) : List Pat × Int × Int × Int := patG R T 4097 [(R s).1] (R s).2
def patO (R : Int × Int × Int → Pat × Int × Int × Int) (T : ByteArray) (s : Int × Int × Int) : Pat × Int × Int × Int := (oneOf 3 (patL R T s).1, (patL R T s).2)
theorem patG_ok {T : ByteArray} {N : Nat} {R : Int × Int × Int → Pat × Int × Int × Int} (hR : ∀ s, OkS T s → (T.size : Int) < s.1 + (N : Int) → OkS T (R s).2 ∧ s.1 ≤ (R s).2.1) : ∀ (m : Nat) (l : List Pat) (s : Int × Int × Int), OkS T s → (T.size : Int) < s.1 + (N : Int) → OkS T (patG R T m l s).2 ∧ s.1 ≤ (patG R T m l s).2.1
  | 0, l, s, h, _ => ⟨h, Int.le_refl _⟩
  | m + 1, l, s, h, hN => by
    rw [patG]
    split
    · rename_i hc
      have h1 := hR (s.1 + 1, s.2) (take_ok (T := T) (s := s) (c := 124) (by decide) hc) (by show (T.size : Int) < s.1 + 1 + N; omega)
      have h2 := h1.2
      dsimp only at h2
      have h3 := patG_ok hR m (l ++ [(R (s.1 + 1, s.2)).1]) (R (s.1 + 1, s.2)).2 h1.1 (by omega)
      exact ⟨h3.1, by have := h3.2; omega⟩
    · exact ⟨h, Int.le_refl _⟩
end Ex
end Go.Proofs.YtfajoknacfjedaaGreatDoor
