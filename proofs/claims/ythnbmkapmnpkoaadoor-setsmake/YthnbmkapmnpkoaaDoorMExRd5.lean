import Derived.Test.YthnbmkapmnpkoaaDoorMExRd3
namespace Go.Proofs.YthnbmkapmnpkoaaDoor
open Go.RowKit
attribute [local go_sem] Oper.semAt_some
namespace Ex

/-- Behind the first number: the second one, and the state. -/
def bracesM (T : ByteArray) (a : Int × Int × Int × Int) : Int × Int × Int × Int :=
  if peekP T a.2.1 = 44 then (if peekP T (a.2.1 + 1) = 125 then (-1, a.2.1 + 1, a.2.2) else numberS T (a.2.1 + 1, a.2.2)) else a
def bracesZ (T : ByteArray) (n y : Int) (m : Int × Int × Int × Int) : Int × Int × Int × Int × Int :=
  if peekP T m.2.1 = 125 then (n, m.1, if timesP n m.1 then (m.2.1 + 1, m.2.2) else failS T (m.2.1 + 1, m.2.2) 24 y) else (0, 0, wrongS T m.2)
def bracesS (T : ByteArray) (s : Int × Int × Int) : Int × Int × Int × Int × Int := bracesZ T (numberS T (s.1 + 1, s.2)).1 s.1 (bracesM T (numberS T (s.1 + 1, s.2)))
theorem bracesM_ok {T : ByteArray} {a : Int × Int × Int × Int} (h : OkS T a.2) : OkS T (bracesM T a).2 ∧ a.2.1 ≤ (bracesM T a).2.1 := by
  unfold bracesM
  split
  · rename_i h1
    have h2 := take_ok (T := T) (s := a.2) (c := 44) (by decide) h1
    split
    · exact ⟨h2, by show a.2.1 ≤ a.2.1 + 1; omega⟩
    · have := number_ok h2
      exact ⟨this.1, by have := this.2; show a.2.1 ≤ _; dsimp only at this; omega⟩
  · exact ⟨h, Int.le_refl _⟩
theorem bracesZ_ok {T : ByteArray} {n y : Int} {m : Int × Int × Int × Int} (h : OkS T m.2) : OkS T (bracesZ T n y m).2.2 ∧ m.2.1 ≤ (bracesZ T n y m).2.2.1 := by
  unfold bracesZ
  split
  · rename_i h1
    have h2 := take_ok (T := T) (s := m.2) (c := 125) (by decide) h1
    split
    · exact ⟨h2, by show m.2.1 ≤ m.2.1 + 1; omega⟩
    · exact ⟨fail_ok _ _ _ _, h.2⟩
  · exact ⟨wrong_ok _ _, h.2⟩
theorem braces_ok {T : ByteArray} {s : Int × Int × Int} (h : OkS T (s.1 + 1, s.2)) : OkS T (bracesS T s).2.2 ∧ s.1 < (bracesS T s).2.2.1 := by
  have h1 := number_ok h
  have h2 := bracesM_ok h1.1
  have h3 := bracesZ_ok (n := (numberS T (s.1 + 1, s.2)).1) (y := s.1) h2.1
  refine ⟨h3.1, ?_⟩
  have := h1.2
  have := h2.2
  have := h3.2
  unfold bracesS
  dsimp only at *
  omega

end Ex
end Go.Proofs.YthnbmkapmnpkoaaDoor
