import Derived.Test.YtjomglclefbffaaDoorMSpPm
namespace Go.Proofs.YtjomglclefbffaaDoor
open Go.RowKit
namespace Ex

theorem heads_empty {nl : Nat} {E : Nat → Prop} {F : Nat × Nat → Prop} {nx : Nat → Prop} {u : Nat} (hu : nx u) : ∀ {ys : List SymM}, (∀ x ∈ ys, SymOk false E x) → HeadS nl E F nx ys u
  | [], _ => hu
  | x :: xs, h => by
    have hx := h x List.mem_cons_self
    have h3 : x.1 = 3 := by
      by_cases e : x.1 = 3
      · exact e
      · exact absurd (hx.2 e) (by decide)
    exact .inl ⟨h3, .inr ⟨hx.1 h3, heads_empty hu (fun y hy => h y (List.mem_cons_of_mem _ hy))⟩⟩
/-- With what a row and what stands behind it begin. -/
theorem row_heads {nl : Nat} {ps : List ProdM} {nx : Nat → Prop} {ys : List SymM} {r : List Int} (hr : RowOf nl (Sen nl ps) ys r) {u : Nat} (d : List Int) (hu : nx u) : ∃ (v : Nat) (d' : List Int), r ++ (u : Int) :: d = (v : Int) :: d' ∧ HeadS nl (Mk false ps) (Fi nl (Mk false ps) ps) nx ys v := by
  obtain ⟨h1, h2⟩ := row_begins (fun _ h => sen_begins h) hr
  cases r with
  | nil => exact ⟨u, d, rfl, heads_empty hu (h1 rfl)⟩
  | cons t r =>
    obtain ⟨v, rfl, hv⟩ := h2 t r rfl
    exact ⟨v, r ++ (u : Int) :: d, rfl, hv.mono (fun _ h => h) (fun _ h => h.elim)⟩
abbrev FoP (nl st : Nat) (ps : List ProdM) : Nat × Nat → Prop := Fo nl st (Mk false ps) (Fi nl (Mk false ps) ps) ps
/-- What is noted of a symbol that makes c from the place q on: behind each name stands one of its Follow, if that is so behind the symbol. -/
def NoteR (nl st : Nat) (ps : List ProdM) (q : Nat) (y : SymM) (c : List Int) (ms : List (Nat × Nat)) : Prop := ∀ (u : Nat) (d : List Int), (y.1 = 3 → FoP nl st ps (y.2.toNat, u)) → ∀ m ∈ ms, q ≤ m.2 ∧ m.2 ≤ q + c.length ∧ ∃ v : Nat, (c ++ (u : Int) :: d)[m.2 - q]? = some (v : Int) ∧ FoP nl st ps (m.1, v)
/-- The same of the first i symbols of a right side. -/
def NotesR (nl st : Nat) (ps : List ProdM) (q : Nat) (p : ProdM) (i : Nat) (a : List Int) (ms : List (Nat × Nat)) : Prop := ∀ (r : List Int), RowOf nl (Sen nl ps) (p.2.drop i) r → ∀ (u : Nat) (d : List Int), FoP nl st ps (p.1.toNat, u) → ∀ m ∈ ms, q ≤ m.2 ∧ m.2 ≤ q + a.length ∧ ∃ v : Nat, (a ++ (r ++ (u : Int) :: d))[m.2 - q]? = some (v : Int) ∧ FoP nl st ps (m.1, v)
theorem NotesR.start (nl st : Nat) (ps : List ProdM) (q : Nat) (p : ProdM) : NotesR nl st ps q p 0 [] [] := fun _ _ _ _ _ m hm => by cases hm
theorem NotesR.step {nl st : Nat} {ps : List ProdM} {q : Nat} {p : ProdM} {i j : Nat} {a c : List Int} {ms mc : List (Nat × Nat)} {y : SymM} (hj : ps[j]? = some p) (hy : p.2[i]? = some y) (h : NotesR nl st ps q p i a ms) (hs : SymR nl ps y c) (hc : NoteR nl st ps (q + a.length) y c mc) : NotesR nl st ps q p (i + 1) (a ++ c) (ms ++ mc) := by
  intro r hr u d hu m hm
  have hd : p.2.drop i = y :: p.2.drop (i + 1) := by
    obtain ⟨h1, h2⟩ := List.getElem?_eq_some_iff.1 hy
    rw [List.drop_eq_getElem_cons h1, h2]
  rcases List.mem_append.1 hm with hm | hm
  · obtain ⟨h1, h2, v, h3, h4⟩ := h (c ++ r) (by rw [hd]; exact ⟨c, r, rfl, hs, hr⟩) u d hu m hm
    refine ⟨h1, by rw [List.length_append]; omega, v, ?_, h4⟩
    rw [← h3]
    simp [List.append_assoc]
  · obtain ⟨w, d', e1, hw⟩ := row_heads hr d hu (nx := fun t => FoP nl st ps (p.1.toNat, t))
    obtain ⟨h1, h2, v, h3, h4⟩ := hc w d' (fun h3 => (lf_closed (fo_up nl (Mk false ps) (Fi nl (Mk false ps) ps) ps)).2 (j, i) ⟨p, hj, (List.getElem?_eq_some_iff.1 hy).1⟩ _ ⟨p, y, hj, hy, h3, rfl, hw⟩) m hm
    refine ⟨by omega, by rw [List.length_append]; omega, v, ?_, h4⟩
    rw [e1, List.append_assoc, List.getElem?_append_right (by omega), ← h3]
    congr 1
    omega
/-- The name itself is noted at the end. -/
theorem NotesR.done {nl st : Nat} {ps : List ProdM} {q : Nat} {p : ProdM} {a : List Int} {ms : List (Nat × Nat)} {y : SymM} (h : NotesR nl st ps q p p.2.length a ms) (h3 : y.1 = 3) (hp : p.1 = y.2) : NoteR nl st ps q y a (ms ++ [(y.2.toNat, q + a.length)]) := by
  intro u d hu m hm
  rcases List.mem_append.1 hm with hm | hm
  · obtain ⟨h1, h2, v, h4, h5⟩ := h [] (by rw [List.drop_length]; rfl) u d (by rw [hp]; exact hu h3) m hm
    exact ⟨h1, h2, v, by simpa using h4, h5⟩
  · have e : m = (y.2.toNat, q + a.length) := List.mem_singleton.1 hm
    subst e
    refine ⟨by show q ≤ q + a.length; omega, Nat.le_refl _, u, ?_, hu h3⟩
    show (a ++ (u : Int) :: d)[q + a.length - q]? = some (u : Int)
    rw [show q + a.length - q = a.length by omega, List.getElem?_append_right (Nat.le_refl _), Nat.sub_self]
    rfl
theorem NoteR.term (nl st : Nat) (ps : List ProdM) (q : Nat) (y : SymM) (c : List Int) : NoteR nl st ps q y c [] := fun _ _ _ m hm => by cases hm
/-- Of a whole row from Start, end behind it. -/
theorem NoteR.whole {nl st : Nat} {ps : List ProdM} {c : List Int} {ms : List (Nat × Nat)} (h : NoteR nl st ps 0 (3, (st : Int)) c ms) : ∀ m ∈ ms, ∃ v : Nat, (c ++ [((nl + 1 : Nat) : Int)])[m.2]? = some (v : Int) ∧ FoP nl st ps (m.1, v) := fun m hm => by
  obtain ⟨_, _, v, h1, h2⟩ := h (nl + 1) [] (fun _ => (lf_closed (fo_up nl (Mk false ps) (Fi nl (Mk false ps) ps) ps)).1 _ rfl) m hm
  exact ⟨v, h1, h2⟩

end Ex
end Go.Proofs.YtjomglclefbffaaDoor
