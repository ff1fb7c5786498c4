import Derived.Test.YtggodknnfpegmaaDoorMExRd3
import Derived.Test.YtggodknnfpegmaaDoorMExGd0
import Derived.Laws.MakeOwn
import Derived.Deep.Cut
import Derived.Deep.RegionHeld3
namespace Go.Proofs.YtggodknnfpegmaaDoor
open Go.RowKit
namespace Ex

/-- A deep copy (in the blocks S) with a mark behind each list. -/
def MarkAt (S : Nat → Prop) (w : World) : (n : Nat) → List (PatN n) → Value → Prop
  | 0, _, v => v = .slice none 0 0
  | n + 1, l, v => (l = [] ∧ v = .slice none 0 0) ∨ (l ≠ [] ∧ ∃ c, v = .slice (some ⟨c, 0, none⟩) l.length (l.length + 1) ∧ l.length ≤ 4096 ∧ S c ∧ w.cell? ⟨c, l.length * 6, none⟩ = some (.int .i64 93) ∧ ∀ (i : Nat) (q : PatN (n + 1)), l[i]? = some q → ∃ v',
      w.cell? ⟨c, i * 6, none⟩ = some (.int .i64 (kind q)) ∧ w.cell? ⟨c, i * 6 + 1, none⟩ = some (.int .i64 (from_ q)) ∧ w.cell? ⟨c, i * 6 + 2, none⟩ = some (.int .i64 (to_ q)) ∧
      w.cell? ⟨c, i * 6 + 3, none⟩ = some (.int .i64 (min_ q)) ∧ w.cell? ⟨c, i * 6 + 4, none⟩ = some (.int .i64 (max_ q)) ∧ w.cell? ⟨c, i * 6 + 5, none⟩ = some v' ∧ MarkAt S w n (kids q) v')
theorem MarkAt.mono {S S' : Nat → Prop} {w w' : World} (hs : Holds S w w') (hS : ∀ b, S b → S' b) : ∀ (n : Nat) (l : List (PatN n)) (v : Value), MarkAt S w n l v → MarkAt S' w' n l v
  | 0, _, _, h => h
  | n + 1, l, v, h => by
    rcases h with h | ⟨h0, c, h1, h2, h3, h4, h5⟩
    · exact Or.inl h
    · refine Or.inr ⟨h0, c, h1, h2, hS c h3, hs _ _ _ h3 h4, fun i q hq => ?_⟩
      obtain ⟨v', g0, g1, g2, g3, g4, g5, g6⟩ := h5 i q hq
      exact ⟨v', hs _ _ _ h3 g0, hs _ _ _ h3 g1, hs _ _ _ h3 g2, hs _ _ _ h3 g3, hs _ _ _ h3 g4, hs _ _ _ h3 g5, MarkAt.mono hs hS n (kids q) v' g6⟩
theorem MarkAt.kept {S : Nat → Prop} {w w' : World} {n : Nat} {l : List (PatN n)} {v : Value} (h : MarkAt S w n l v) (hk : Kept w w') : MarkAt S w' n l v := MarkAt.mono (hk.holds S) (fun _ h => h) n l v h
theorem MarkAt.kids {S : Nat → Prop} {w : World} : ∀ (n : Nat) (l : List (PatN n)) (v : Value), MarkAt S w n l v → KidsAt S w n l v
  | 0, _, _, h => ⟨_, _, h⟩
  | n + 1, l, v, h => by
    rcases h with ⟨rfl, rfl⟩ | ⟨h0, c, h1, h2, h3, h4, h5⟩
    · exact kids_nil _ _ _ _ _ _ rfl
    · refine ⟨_, _, h1, by omega, by omega, Or.inr ⟨c, 0, rfl, h3, fun i q hq => ?_⟩⟩
      obtain ⟨v', g0, g1, g2, g3, g4, g5, g6⟩ := h5 i q hq
      rw [Nat.zero_add]
      exact ⟨v', g0, g1, g2, g3, g4, g5, MarkAt.kids n (Ex.kids q) v' g6⟩
theorem MarkAt.form {S : Nat → Prop} {w : World} {n : Nat} {l : List (PatN n)} {v : Value} (h : MarkAt S w n l v) : ∃ a cap, v = .slice a l.length cap := (MarkAt.kids n l v h).form

/-- A row of M values in a block of its own. -/
def RowAt (w : World) (g M : Nat) : Prop := ∃ cur : Array Value, w.heap[g]? = some (.cells cur 97 (0, 0)) ∧ cur.size = M * 6
theorem RowAt.lt {w : World} {g M : Nat} (h : RowAt w g M) : g < w.heap.size := by obtain ⟨_, h, _⟩ := h; exact (Array.getElem?_eq_some_iff.1 h).1
theorem RowAt.keep {w w' : World} {g M : Nat} (h : RowAt w g M) (hk : Kept w w') : RowAt w' g M := by
  obtain ⟨cur, h1, h2⟩ := h
  exact ⟨cur, (hk.2.2.2.2 g (Array.getElem?_eq_some_iff.1 h1).1).trans h1, h2⟩
theorem RowAt.set {w : World} {g M : Nat} (h : RowAt w g M) (o : Nat) (x : Value) : RowAt (w.setCell ⟨g, o, none⟩ x) g M := by
  obtain ⟨cur, h1, h2⟩ := h
  have hl : g < w.heap.size := (Array.getElem?_eq_some_iff.1 h1).1
  have he : w.heap[g] = Obj.cells cur 97 (0, 0) := by rw [Array.getElem?_eq_getElem hl] at h1; exact Option.some.inj h1
  refine ⟨cur.setIfInBounds o x, ?_, by rw [Array.size_setIfInBounds]; exact h2⟩
  simp [World.setCell, Array.getElem_modify, hl, he]
theorem RowAt.cell {w : World} {g M k : Nat} (h : RowAt w g M) (hk : k < M * 6) : (∃ x, w.cell? ⟨g, k, none⟩ = some x) ∧ w.frozen? ⟨g, k, none⟩ = false := by
  obtain ⟨cur, h1, h2⟩ := h
  refine ⟨⟨cur[k]'(by omega), ?_⟩, ?_⟩
  · simp [World.cell?, h1, h2, hk]
  · simp [World.frozen?, h1]
theorem RowAt.at {w : World} {g M j : Nat} (h : RowAt w g M) (hj : j < M) : ∃ x0 x1 x2 x3 x4 x5, (w.cell? ⟨g, j * 6, none⟩ = some x0 ∧ w.cell? ⟨g, j * 6 + 1, none⟩ = some x1 ∧ w.cell? ⟨g, j * 6 + 2, none⟩ = some x2 ∧ w.cell? ⟨g, j * 6 + 3, none⟩ = some x3 ∧ w.cell? ⟨g, j * 6 + 4, none⟩ = some x4 ∧ w.cell? ⟨g, j * 6 + 5, none⟩ = some x5) ∧
    w.frozen? ⟨g, j * 6, none⟩ = false ∧ w.frozen? ⟨g, j * 6 + 1, none⟩ = false ∧ w.frozen? ⟨g, j * 6 + 2, none⟩ = false ∧ w.frozen? ⟨g, j * 6 + 3, none⟩ = false ∧ w.frozen? ⟨g, j * 6 + 4, none⟩ = false ∧ w.frozen? ⟨g, j * 6 + 5, none⟩ = false := by
  obtain ⟨⟨x0, c0⟩, f0⟩ := h.cell (k := j * 6) (by omega)
  obtain ⟨⟨x1, c1⟩, f1⟩ := h.cell (k := j * 6 + 1) (by omega)
  obtain ⟨⟨x2, c2⟩, f2⟩ := h.cell (k := j * 6 + 2) (by omega)
  obtain ⟨⟨x3, c3⟩, f3⟩ := h.cell (k := j * 6 + 3) (by omega)
  obtain ⟨⟨x4, c4⟩, f4⟩ := h.cell (k := j * 6 + 4) (by omega)
  obtain ⟨⟨x5, c5⟩, f5⟩ := h.cell (k := j * 6 + 5) (by omega)
  exact ⟨x0, x1, x2, x3, x4, x5, ⟨c0, c1, c2, c3, c4, c5⟩, f0, f1, f2, f3, f4, f5⟩
theorem set_same {w : World} {g M o : Nat} {x : Value} (h : RowAt w g M) (ho : o < M * 6) : (w.setCell ⟨g, o, none⟩ x).cell? ⟨g, o, none⟩ = some x := by
  obtain ⟨⟨y, hy⟩, _⟩ := h.cell ho
  exact World.cell?_setCell_same w _ _ hy
theorem set_other {w : World} {g b o k : Nat} {x : Value} (h : b ≠ g ∨ k ≠ o) : (w.setCell ⟨g, o, none⟩ x).cell? ⟨b, k, none⟩ = w.cell? ⟨b, k, none⟩ :=
  World.cell?_setCell_other _ _ _ _ (by intro e; simp only [Addr.mk.injEq, and_true] at e; omega)
theorem put_row {w : World} {g M o : Nat} {x0 x1 x2 x3 x4 x5 : Value} (h : RowAt w g M) : RowAt ((((((w.setCell ⟨g, o, none⟩ x0).setCell ⟨g, o + 1, none⟩ x1).setCell ⟨g, o + 2, none⟩ x2).setCell ⟨g, o + 3, none⟩ x3).setCell ⟨g, o + 4, none⟩ x4).setCell ⟨g, o + 5, none⟩ x5) g M := (((((h.set _ _).set _ _).set _ _).set _ _).set _ _).set _ _
theorem put_other {w : World} {g b o k : Nat} {x0 x1 x2 x3 x4 x5 : Value} (h : b ≠ g ∨ k < o ∨ o + 6 ≤ k) : ((((((w.setCell ⟨g, o, none⟩ x0).setCell ⟨g, o + 1, none⟩ x1).setCell ⟨g, o + 2, none⟩ x2).setCell ⟨g, o + 3, none⟩ x3).setCell ⟨g, o + 4, none⟩ x4).setCell ⟨g, o + 5, none⟩ x5).cell? ⟨b, k, none⟩ = w.cell? ⟨b, k, none⟩ := by
  rw [set_other (by omega), set_other (by omega), set_other (by omega), set_other (by omega), set_other (by omega), set_other (by omega)]
theorem put_cells {w : World} {g M o : Nat} {x0 x1 x2 x3 x4 x5 : Value} (h : RowAt w g M) (ho : o + 6 ≤ M * 6) : ((((((w.setCell ⟨g, o, none⟩ x0).setCell ⟨g, o + 1, none⟩ x1).setCell ⟨g, o + 2, none⟩ x2).setCell ⟨g, o + 3, none⟩ x3).setCell ⟨g, o + 4, none⟩ x4).setCell ⟨g, o + 5, none⟩ x5).cell? ⟨g, o, none⟩ = some x0 ∧ ((((((w.setCell ⟨g, o, none⟩ x0).setCell ⟨g, o + 1, none⟩ x1).setCell ⟨g, o + 2, none⟩ x2).setCell ⟨g, o + 3, none⟩ x3).setCell ⟨g, o + 4, none⟩ x4).setCell ⟨g, o + 5, none⟩ x5).cell? ⟨g, o + 1, none⟩ = some x1 ∧ ((((((w.setCell ⟨g, o, none⟩ x0).setCell ⟨g, o + 1, none⟩ x1).setCell ⟨g, o + 2, none⟩ x2).setCell ⟨g, o + 3, none⟩ x3).setCell ⟨g, o + 4, none⟩ x4).setCell ⟨g, o + 5, none⟩ x5).cell? ⟨g, o + 2, none⟩ = some x2 ∧ ((((((w.setCell ⟨g, o, none⟩ x0).setCell ⟨g, o + 1, none⟩ x1).setCell ⟨g, o + 2, none⟩ x2).setCell ⟨g, o + 3, none⟩ x3).setCell ⟨g, o + 4, none⟩ x4).setCell ⟨g, o + 5, none⟩ x5).cell? ⟨g, o + 3, none⟩ = some x3 ∧ ((((((w.setCell ⟨g, o, none⟩ x0).setCell ⟨g, o + 1, none⟩ x1).setCell ⟨g, o + 2, none⟩ x2).setCell ⟨g, o + 3, none⟩ x3).setCell ⟨g, o + 4, none⟩ x4).setCell ⟨g, o + 5, none⟩ x5).cell? ⟨g, o + 4, none⟩ = some x4 ∧ ((((((w.setCell ⟨g, o, none⟩ x0).setCell ⟨g, o + 1, none⟩ x1).setCell ⟨g, o + 2, none⟩ x2).setCell ⟨g, o + 3, none⟩ x3).setCell ⟨g, o + 4, none⟩ x4).setCell ⟨g, o + 5, none⟩ x5).cell? ⟨g, o + 5, none⟩ = some x5 := by
  refine ⟨?_, ?_, ?_, ?_, ?_, ?_⟩
  · rw [set_other (by omega), set_other (by omega), set_other (by omega), set_other (by omega), set_other (by omega)]; exact set_same h (by omega)
  · rw [set_other (by omega), set_other (by omega), set_other (by omega), set_other (by omega)]; exact set_same (h.set _ _) (by omega)
  · rw [set_other (by omega), set_other (by omega), set_other (by omega)]; exact set_same ((h.set _ _).set _ _) (by omega)
  · rw [set_other (by omega), set_other (by omega)]; exact set_same (((h.set _ _).set _ _).set _ _) (by omega)
  · rw [set_other (by omega)]; exact set_same ((((h.set _ _).set _ _).set _ _).set _ _) (by omega)
  · exact set_same (((((h.set _ _).set _ _).set _ _).set _ _).set _ _) (by omega)
theorem keep_set {w W : World} {g o : Nat} {x : Value} (h : Kept w W) (hg : w.heap.size ≤ g) : Kept w (W.setCell ⟨g, o, none⟩ x) :=
  ⟨h.1, h.2.1, h.2.2.1, by rw [World.size_setCell]; exact h.size, fun k hk => (Below.heap_setCell W _ _ k (by show k ≠ g; omega)).trans (h.2.2.2.2 k hk)⟩
theorem put_kept {w w1 : World} {g o : Nat} {x0 x1 x2 x3 x4 x5 : Value} (h : Kept w1 w) (hg : w1.heap.size ≤ g) : Kept w1 ((((((w.setCell ⟨g, o, none⟩ x0).setCell ⟨g, o + 1, none⟩ x1).setCell ⟨g, o + 2, none⟩ x2).setCell ⟨g, o + 3, none⟩ x3).setCell ⟨g, o + 4, none⟩ x4).setCell ⟨g, o + 5, none⟩ x5) := keep_set (keep_set (keep_set (keep_set (keep_set (keep_set h hg) hg) hg) hg) hg) hg

end Ex
end Go.Proofs.YtggodknnfpegmaaDoor
namespace Go.Proofs.YtggodknnfpegmaaDoor
open Go.RowKit
attribute [local go_sem] Oper.semAt_some
namespace Ex

theorem sizes_mem {n : Nat} {q : PatN n} : ∀ {L : List (PatN n)}, q ∈ L → sizeP n q ≤ sizesP n L
  | x :: L, h => by
    have h1 := sizes_pos n L
    have h2 := size_pos n x
    show sizeP n q ≤ sizeP n x + sizesP n L
    rcases List.mem_cons.1 h with rfl | h
    · omega
    · have := sizes_mem h; omega
  | [], h => by cases h
/-- The cells of a new row. -/
def rowZ (M : Nat) : Array Value := madeCells (Value.agg #[.int .i64 0, .int .i64 0, .int .i64 0, .int .i64 0, .int .i64 0, .slice none 0 0]).cells (M * 6)
theorem run_row (n : Nat) (hn : n ≤ 100000) (w : World) : (Instr.makeSlice 95 (.int .i64 ((n : Int) + 1)) (.int .i64 ((n : Int) + 1))).run Tryd.prog w = .ok (.slice (some ⟨w.heap.size, 0, none⟩) (n + 1) (n + 1)) (w.alloc (.cells (rowZ (n + 1)) 97)) := by
  obtain ⟨i0, hi, hz0, hz1, hz2⟩ := info_parts expr_info
  rw [run_make (P := Tryd.prog) w 95 97 i0 _ Tryd.underlying95 hi hz0 .i64 .i64 ((n : Int) + 1) ((n : Int) + 1) (by omega) (Int.le_refl _) (by rw [hz2]; omega) (by omega), hz1]
  rfl
theorem row_new (w : World) (M : Nat) : RowAt (w.alloc (.cells (rowZ M) 97)) w.heap.size M := ⟨rowZ M, heap_alloc_new w _, size_madeCells _ _⟩
/-- The copies that are made. -/
def Items (w : World) (g : Nat) {n : Nat} (L : List (PatN (n + 1))) (j : Nat) : Prop :=
  ∀ (i : Nat) (q : PatN (n + 1)), i < j → L[i]? = some q → ∃ v',
      w.cell? ⟨g, i * 6, none⟩ = some (.int .i64 (kind q)) ∧ w.cell? ⟨g, i * 6 + 1, none⟩ = some (.int .i64 (from_ q)) ∧ w.cell? ⟨g, i * 6 + 2, none⟩ = some (.int .i64 (to_ q)) ∧
      w.cell? ⟨g, i * 6 + 3, none⟩ = some (.int .i64 (min_ q)) ∧ w.cell? ⟨g, i * 6 + 4, none⟩ = some (.int .i64 (max_ q)) ∧ w.cell? ⟨g, i * 6 + 5, none⟩ = some v' ∧ MarkAt (fun d => g < d) w n (kids q) v'
theorem Items.keep {w w' : World} {g n j : Nat} {L : List (PatN (n + 1))} (h : Items w g L j) (hk : Holds (fun d => g ≤ d) w w') : Items w' g L j := fun i q hi hq => by
  obtain ⟨v', g0, g1, g2, g3, g4, g5, g6⟩ := h i q hi hq
  exact ⟨v', hk _ _ _ (Nat.le_refl _) g0, hk _ _ _ (Nat.le_refl _) g1, hk _ _ _ (Nat.le_refl _) g2, hk _ _ _ (Nat.le_refl _) g3, hk _ _ _ (Nat.le_refl _) g4, hk _ _ _ (Nat.le_refl _) g5, MarkAt.mono (fun b o v hb hc => hk b o v (Nat.le_of_lt hb) hc) (fun _ h => h) _ _ _ g6⟩
theorem Items.put {w : World} {g n j M : Nat} {L : List (PatN (n + 1))} {q : PatN (n + 1)} {u x0 x1 x2 x3 x4 : Value} (h : Items w g L j) (hr : RowAt w g M) (hj : j + 1 ≤ M) (hq : L[j]? = some q) (hm : MarkAt (fun d => g < d) w n (kids q) u)
    (e0 : x0 = .int .i64 (kind q)) (e1 : x1 = .int .i64 (from_ q)) (e2 : x2 = .int .i64 (to_ q)) (e3 : x3 = .int .i64 (min_ q)) (e4 : x4 = .int .i64 (max_ q)) :
    Items ((((((w.setCell ⟨g, j * 6, none⟩ x0).setCell ⟨g, j * 6 + 1, none⟩ x1).setCell ⟨g, j * 6 + 2, none⟩ x2).setCell ⟨g, j * 6 + 3, none⟩ x3).setCell ⟨g, j * 6 + 4, none⟩ x4).setCell ⟨g, j * 6 + 5, none⟩ u) g L (j + 1) := by
  intro i q' hi hq'
  have hmono : ∀ (l : List (PatN n)) (v : Value), MarkAt (fun d => g < d) w n l v → MarkAt (fun d => g < d) ((((((w.setCell ⟨g, j * 6, none⟩ x0).setCell ⟨g, j * 6 + 1, none⟩ x1).setCell ⟨g, j * 6 + 2, none⟩ x2).setCell ⟨g, j * 6 + 3, none⟩ x3).setCell ⟨g, j * 6 + 4, none⟩ x4).setCell ⟨g, j * 6 + 5, none⟩ u) n l v :=
    fun l v hv => MarkAt.mono (fun b o v hb hc => (put_other (.inl (by have : g < b := hb; omega))).trans hc) (fun _ h => h) _ _ _ hv
  by_cases hij : i = j
  · subst hij
    obtain rfl : q = q' := Option.some.inj (hq.symm.trans hq')
    subst e0 e1 e2 e3 e4
    obtain ⟨g0, g1, g2, g3, g4, g5⟩ := put_cells (o := i * 6) (x0 := .int .i64 (kind q)) (x1 := .int .i64 (from_ q)) (x2 := .int .i64 (to_ q)) (x3 := .int .i64 (min_ q)) (x4 := .int .i64 (max_ q)) (x5 := u) hr (by omega)
    exact ⟨u, g0, g1, g2, g3, g4, g5, hmono _ _ hm⟩
  · obtain ⟨v', g0, g1, g2, g3, g4, g5, g6⟩ := h i q' (by omega) hq'
    exact ⟨v', (put_other (.inr (by omega))).trans g0, (put_other (.inr (by omega))).trans g1, (put_other (.inr (by omega))).trans g2, (put_other (.inr (by omega))).trans g3, (put_other (.inr (by omega))).trans g4, (put_other (.inr (by omega))).trans g5, hmono _ _ g6⟩
theorem two_new (w : World) (o : Obj) (x0 x1 x2 x3 x4 x5 : Value) : BoxAt ((w.alloc o).alloc (.cells #[x0, x1, x2, x3, x4, x5] 97)) (w.heap.size + 1) x0 x1 x2 x3 x4 x5 := by
  have h := BoxAt.new (w.alloc o) x0 x1 x2 x3 x4 x5
  rwa [World.size_alloc] at h
theorem three_new (w : World) (o : Obj) (x0 x1 x2 x3 x4 x5 : Value) (c : Array Value) (t : TypeId) : BoxAt (((w.alloc o).alloc (.cells #[x0, x1, x2, x3, x4, x5] 97)).alloc (.cells c t)) (w.heap.size + 1) x0 x1 x2 x3 x4 x5 := (two_new w o x0 x1 x2 x3 x4 x5).keep ((Kept.refl _).alloc _ _)
theorem BoxAt.set5 {w : World} {g : Nat} {x0 x1 x2 x3 x4 x5 : Value} (h : BoxAt w g x0 x1 x2 x3 x4 x5) (y : Value) : BoxAt (w.setCell ⟨g, 5, none⟩ y) g x0 x1 x2 x3 x4 y := by
  have hl : g < w.heap.size := (Array.getElem?_eq_some_iff.1 h).1
  have he : w.heap[g] = Obj.cells #[x0, x1, x2, x3, x4, x5] 97 (0, 0) := by have h' := h; unfold BoxAt at h'; rw [Array.getElem?_eq_getElem hl] at h'; exact Option.some.inj h'
  show (w.setCell ⟨g, 5, none⟩ y).heap[g]? = _
  simp [World.setCell, Array.getElem_modify, hl, he]
/-- twin between two rounds; W: the world ahead of the row. -/
def TwR (W : World) (g : Nat) {n : Nat} (L : List (PatN (n + 1))) (iv : Value) (wr : World) : Prop :=
  ∃ j : Nat, iv = .int .i64 (j : Int) ∧ j ≤ L.length ∧ Kept W wr ∧ RowAt wr g (L.length + 1) ∧ Items wr g L j

set_option linter.unusedSimpArgs false in
set_option maxRecDepth 100000 in
set_option maxHeartbeats 4000000 in
theorem twin_is (S : Nat → Prop) : ∀ (n : Nat) (p : PatN (n + 1)) (v : Value) (w : World), KidsAt S w n (kids p) v → sizeP (n + 1) p ≤ 4096 →
    Calls Tryd.prog 79 #[valOf p v] w fun e w' => Hid (∃ v2, e = .returned (valOf p v2) ∧ MarkAt (fun d => w.heap.size ≤ d) w' n (kids p) v2) ∧ Kept w w' := by
  intro n
  induction n with
  | zero =>
    intro p v w h _
    obtain ⟨a, cap, rfl⟩ := h.form
    rw [valOf_eq]
    rw [none_of (kids p)]
    clear h
    go_enter Tryd.func79, Tryd.ntmps79
    go_wp2_with fail
    refine bodyPost_ret (box_returns rfl _ _ (w.heap.size + 1) (.int .i64 (kind p)) (.int .i64 (from_ p)) (.int .i64 (to_ p)) (.int .i64 (min_ p)) (.int .i64 (max_ p)) (.slice none 0 0) rfl ?_) rfl ?_
    · exact three_new w _ _ _ _ _ _ _ _ _
    · exact ⟨⟨_, rfl, rfl⟩, (((Kept.refl w).alloc _ _).alloc _ _).alloc _ _⟩
  | succ n ih =>
    intro p v w h hsz
    have IH := hide1 ih
    have HK := hide1 h
    obtain ⟨a, cap, rfl⟩ := h.form
    obtain ⟨_, _, e1, hl1, hl2, h4z⟩ := h
    clear h4z
    simp only [Value.slice.injEq] at e1
    obtain ⟨rfl, _, rfl⟩ := e1
    rw [size_succ] at hsz
    have hln := sizes_len (kids p)
    rw [valOf_eq]
    have HV : Hid (∀ u, valOf p u = .agg #[.int .i64 (kind p), .int .i64 (from_ p), .int .i64 (to_ p), .int .i64 (min_ p), .int .i64 (max_ p), u]) := fun u => rfl
    obtain ⟨L, hL⟩ : ∃ L, kids p = L := ⟨_, rfl⟩
    rw [hL] at HK hl1 hl2 hsz hln ⊢
    have HSQ : Hid (∀ q ∈ L, sizeP (n + 1) q ≤ 4096) := fun q hq => by have := sizes_mem hq; omega
    have gl : (L.length : Int) ≤ 4095 := by omega
    have gc : (L.length : Int) ≤ (cap : Int) := by omega
    clear ih hsz hln hL hl1 hl2
    by_cases h0 : L.length = 0
    · have hz : L = [] := List.length_eq_zero_iff.1 h0
      subst hz
      clear h0
      go_enter Tryd.func79, Tryd.ntmps79
      go_wp2_with fail
      refine bodyPost_ret (box_returns rfl _ _ (w.heap.size + 1) (.int .i64 (kind p)) (.int .i64 (from_ p)) (.int .i64 (to_ p)) (.int .i64 (min_ p)) (.int .i64 (max_ p)) (.slice none 0 0) rfl ?_) rfl ?_
      · exact three_new w _ _ _ _ _ _ _ _ _
      · exact ⟨⟨_, rfl, Or.inl ⟨rfl, rfl⟩⟩, (((Kept.refl w).alloc _ _).alloc _ _).alloc _ _⟩
    · have hp0 : (0 : Int) < (L.length : Int) := by omega
      have HP0 := hide1 h0
      clear h0
      go_enter Tryd.func79, Tryd.ntmps79
      have hmk := run_row L.length (by omega)
      go_wp2_with fail
      obtain ⟨W, hW⟩ : ∃ W, ((w.alloc (.cells #[.int .i64 (kind p), .int .i64 (from_ p), .int .i64 (to_ p), .int .i64 (min_ p), .int .i64 (max_ p), .slice a L.length cap] 97)).alloc (.cells #[.int .i64 0, .int .i64 0, .int .i64 0, .int .i64 0, .int .i64 0, .slice none 0 0] 97)).alloc (.cells #[.int .i64 (kind p), .int .i64 (from_ p), .int .i64 (to_ p), .int .i64 (min_ p), .int .i64 (max_ p), .slice none 0 0] 97) = W := ⟨_, rfl⟩
      have hb0 : BoxAt W w.heap.size (.int .i64 (kind p)) (.int .i64 (from_ p)) (.int .i64 (to_ p)) (.int .i64 (min_ p)) (.int .i64 (max_ p)) (.slice a L.length cap) := by rw [← hW]; exact (BoxAt.new w _ _ _ _ _ _).keep (((Kept.refl _).alloc _ _).alloc _ _)
      have hb1 : BoxAt W (w.heap.size + 1) (.int .i64 0) (.int .i64 0) (.int .i64 0) (.int .i64 0) (.int .i64 0) (.slice none 0 0) := by rw [← hW]; exact three_new w _ _ _ _ _ _ _ _ _
      have hb2 : BoxAt W (w.heap.size + 1 + 1) (.int .i64 (kind p)) (.int .i64 (from_ p)) (.int .i64 (to_ p)) (.int .i64 (min_ p)) (.int .i64 (max_ p)) (.slice none 0 0) := by
        have h := two_new (w.alloc (.cells #[.int .i64 (kind p), .int .i64 (from_ p), .int .i64 (to_ p), .int .i64 (min_ p), .int .i64 (max_ p), .slice a L.length cap] 97)) (.cells #[.int .i64 0, .int .i64 0, .int .i64 0, .int .i64 0, .int .i64 0, .slice none 0 0] 97) (.int .i64 (kind p)) (.int .i64 (from_ p)) (.int .i64 (to_ p)) (.int .i64 (min_ p)) (.int .i64 (max_ p)) (.slice none 0 0)
        rw [World.size_alloc, hW] at h
        exact h
      have hwk : Kept w W := by rw [← hW]; exact (((Kept.refl w).alloc _ _).alloc _ _).alloc _ _
      have hws : W.heap.size = w.heap.size + 1 + 1 + 1 := by rw [← hW]; simp
      have hdc : decide (0 < L.length) = true := decide_eq_true (by omega)
      rw [hW, hdc]
      clear hdc
      obtain ⟨g, hg⟩ : ∃ g, w.heap.size + 1 + 1 + 1 = g := ⟨_, rfl⟩
      rw [hg] at hws ⊢
      have HB0 := hide1 hb0
      have HB1 := hide1 hb1
      have HB2 := hide1 hb2
      have HWK := hide1 hwk
      have HWS := hide1 hws
      have HG := hide1 hg
      clear hb0 hb1 hb2 hwk hW hmk hg
      go_loopw [5] (fun iv wr => TwR W g L iv wr) (fun iv _ => L.length - (intOf iv).toNat)
      case atStart =>
        refine ⟨0, rfl, Nat.zero_le _, (Kept.refl W).alloc _ _, ?_, fun i q hi _ => by omega⟩
        have := row_new W (L.length + 1)
        rwa [hws] at this
      case round =>
        clear hws
        obtain ⟨j, rfl, hj, hkr, hrow, hit⟩ := hrel
        have HKR := hide1 hkr
        have HROW := hide1 hrow
        have HIT := hide1 hit
        have c5 := (HB0.out.keep hkr).facts.1.2.2.2.2.2
        clear hkr hrow hit
        by_cases hlt : (j : Int) < (L.length : Int)
        · obtain ⟨q, hq⟩ : ∃ q, L[j]? = some q := ⟨_, List.getElem?_eq_getElem (by omega)⟩
          obtain ⟨a5, cap5, e2, _, _, h4⟩ := HK.out.kept (gtrans HWK.out HKR.out)
          simp only [Value.slice.injEq] at e2
          obtain ⟨rfl, _, rfl⟩ := e2
          rcases h4 with h4 | ⟨cb, o, rfl, hSc, h7⟩
          · rw [h4] at hq; simp at hq
          · obtain ⟨v', g0, g1, g2, g3, g4, g5, g6⟩ := h7 j q hq
            obtain ⟨a3, cap3, rfl⟩ := g6.form
            have HG6 := hide1 g6
            have HQ := hide1 hq
            have HQS := hide1 (HSQ.out q (List.mem_of_getElem? hq))
            clear h7 g6 hq
            go_wp2_with (go_at_call 79; refine (IH.out q _ _ HG6.out HQS.out).mono ?_; rintro e w7 ⟨h7, hk7⟩; obtain ⟨v7, rfl, hm7⟩ := h7.out; rw [valOf_eq]; obtain ⟨a7, c7, e7⟩ := hm7.form; subst e7; have HM7 := hide1 hm7; have HK7 := hide1 hk7; have HR7 := hide1 (HROW.out.keep hk7); obtain ⟨y0, y1, y2, y3, y4, y5, ⟨k0, k1, k2, k3, k4, k5⟩, f0, f1, f2, f3, f4, f5⟩ := HR7.out.at (j := j) (by omega); clear h7 hm7 hk7)
            clear k0 k1 k2 k3 k4 k5 f0 f1 f2 f3 f4 f5 g0 g1 g2 g3 g4 g5 c5
            go_roundw
            case rel =>
              have hgl := HROW.out.lt
              exact ⟨j + 1, by go_num, by omega, put_kept (gtrans HKR.out HK7.out) (by rw [HWS.out]; exact Nat.le_refl _), put_row HR7.out, Items.put (HIT.out.keep (HK7.out.holds _)) HR7.out (by omega) HQ.out (MarkAt.mono (fun _ _ _ _ h => h) (fun d hd => Nat.lt_of_lt_of_le hgl hd) _ _ _ HM7.out) rfl rfl rfl rfl rfl⟩
            case measure => simp [intOf]; omega
        · have hjl : j = L.length := by omega
          rw [hjl] at HIT
          obtain ⟨y0, y1, y2, y3, y4, y5, ⟨k0, k1, k2, k3, k4, k5⟩, f0, f1, f2, f3, f4, f5⟩ := HROW.out.at (j := L.length) (by omega)
          go_upto_region 10 with fail
          obtain ⟨W9, hW9⟩ : ∃ W9, ((((((wr.setCell ⟨g, L.length * 6, none⟩ (.int .i64 93)).setCell ⟨g, L.length * 6 + 1, none⟩ (.int .i64 0)).setCell ⟨g, L.length * 6 + 2, none⟩ (.int .i64 0)).setCell ⟨g, L.length * 6 + 3, none⟩ (.int .i64 0)).setCell ⟨g, L.length * 6 + 4, none⟩ (.int .i64 0)).setCell ⟨g, L.length * 6 + 5, none⟩ (.slice none 0 0)) = W9 := ⟨_, rfl⟩
          have hk9 : Kept W W9 := by rw [← hW9]; exact put_kept HKR.out (by rw [HWS.out]; exact Nat.le_refl _)
          have hm9 : MarkAt (fun d => g ≤ d) W9 (n + 1) L (.slice (some ⟨g, 0, none⟩) L.length (L.length + 1)) := by
            refine Or.inr ⟨fun e => HP0.out (by rw [e]; rfl), g, rfl, by omega, Nat.le_refl _, ?_, fun i q hq => ?_⟩
            · rw [← hW9]; exact (put_cells HROW.out (by omega)).1
            · obtain ⟨v', g0, g1, g2, g3, g4, g5, g6⟩ := HIT.out i q (List.getElem?_eq_some_iff.1 hq).1 hq
              have hi := (List.getElem?_eq_some_iff.1 hq).1
              rw [← hW9]
              exact ⟨v', (put_other (.inr (by omega))).trans g0, (put_other (.inr (by omega))).trans g1, (put_other (.inr (by omega))).trans g2, (put_other (.inr (by omega))).trans g3, (put_other (.inr (by omega))).trans g4, (put_other (.inr (by omega))).trans g5, MarkAt.mono (fun b o v hb hc => (put_other (.inl (by have : g < b := hb; omega))).trans hc) (fun d hd => Nat.le_of_lt hd) _ _ _ g6⟩
          rw [hW9]
          have HK9 := hide1 hk9
          have HM9 := hide1 hm9
          clear hW9 hm9 k0 k1 k2 k3 k4 k5 f0 f1 f2 f3 f4 f5 c5
          have c5 := (HB0.out.keep hk9).facts.1.2.2.2.2.2
          have HX1 := hide1 (HB1.out.keep hk9)
          obtain ⟨⟨b0, b1, b2, b3, b4, b5⟩, z0, z1, z2, z3, z4, z5⟩ := (HB2.out.keep hk9).facts
          clear hk9
          go_upto_region 11 with fail
          obtain ⟨W10, hW10⟩ : ∃ W10, W9.setCell ⟨w.heap.size + 1 + 1, 5, none⟩ (.slice (some ⟨g, 0, none⟩) L.length (L.length + 1)) = W10 := ⟨_, rfl⟩
          have hx2 : BoxAt W10 (w.heap.size + 1 + 1) (.int .i64 (kind p)) (.int .i64 (from_ p)) (.int .i64 (to_ p)) (.int .i64 (min_ p)) (.int .i64 (max_ p)) (.slice (some ⟨g, 0, none⟩) L.length (L.length + 1)) := by rw [← hW10]; exact (HB2.out.keep HK9.out).set5 _
          have hx1 : BoxAt W10 (w.heap.size + 1) (.int .i64 0) (.int .i64 0) (.int .i64 0) (.int .i64 0) (.int .i64 0) (.slice none 0 0) := by rw [← hW10]; exact (Below.heap_setCell W9 _ _ _ (by show w.heap.size + 1 ≠ w.heap.size + 1 + 1; omega)).trans HX1.out
          have hm10 : MarkAt (fun d => g ≤ d) W10 (n + 1) L (.slice (some ⟨g, 0, none⟩) L.length (L.length + 1)) := by
            rw [← hW10]
            exact MarkAt.mono (fun b o v hb hc => (set_other (.inl (by have : g ≤ b := hb; have := HG.out; omega))).trans hc) (fun _ h => h) _ _ _ HM9.out
          have hk10 : Kept w W10 := by rw [← hW10]; exact keep_set (gtrans HWK.out HK9.out) (by omega)
          rw [hW10]
          have HX1 := hide1 hx1
          have HM10 := hide1 hm10
          have HK10 := hide1 hk10
          clear hW10 hm10 hk10 b0 b1 b2 b3 b4 b5 z0 z1 z2 z3 z4 z5 c5
          obtain ⟨⟨b0, b1, b2, b3, b4, b5⟩, _⟩ := hx2.facts
          obtain ⟨⟨d0, d1, d2, d3, d4, d5⟩, s0, s1, s2, s3, s4, s5⟩ := hx1.facts
          clear hx1 hx2
          go_wp2_with fail
          refine bodyPost_ret (box_returns rfl _ _ (w.heap.size + 1) _ _ _ _ _ _ rfl (BoxAt.set HX1.out)) rfl ?_
          refine ⟨⟨_, rfl, MarkAt.mono (set6_holds (S := fun d => g ≤ d) (by show ¬ g ≤ _; have := HG.out; omega)) (fun d hd => by have : g ≤ d := hd; have := HG.out; omega) _ _ _ HM10.out⟩, put_kept (o := 0) HK10.out (by omega)⟩

end Ex
end Go.Proofs.YtggodknnfpegmaaDoor
namespace Go.Proofs.YtggodknnfpegmaaDoor
open Go.RowKit
attribute [local go_sem] Oper.semAt_some
namespace Ex

set_option linter.unusedSimpArgs false in
set_option maxRecDepth 100000 in
set_option maxHeartbeats 4000000 in
theorem kept_is (S M : Nat → Prop) : ∀ (n : Nat) (p : PatN (n + 1)) (v vm : Value) (w : World), KidsAt S w n (kids p) v → MarkAt M w n (kids p) vm →
    Calls Tryd.prog 89 #[valOf p vm, valOf p v] w fun e w' => e = .returned (.bool true) ∧ Kept w w' := by
  intro n
  induction n with
  | zero =>
    intro p v vm w h hm
    obtain ⟨a, cap, rfl⟩ := h.form
    obtain ⟨am, capm, rfl⟩ := hm.form
    rw [valOf_eq, valOf_eq]
    rw [none_of (kids p)]
    clear h hm
    go_enter Tryd.func89, Tryd.ntmps89
    go_wp2_with fail
    go_ret
    exact ⟨rfl, ((Kept.refl w).alloc _ _).alloc _ _⟩
  | succ n ih =>
    intro p v vm w h hm
    have IH := hide1 ih
    have HK := hide1 h
    have HM := hide1 hm
    obtain ⟨a, cap, rfl⟩ := h.form
    obtain ⟨am, capm, rfl⟩ := hm.form
    have hlen := h.short
    obtain ⟨_, _, e1, hl1, hl2, h4z⟩ := h
    simp only [Value.slice.injEq] at e1
    obtain ⟨rfl, _, rfl⟩ := e1
    clear h4z
    rw [valOf_eq, valOf_eq]
    obtain ⟨L, hL⟩ : ∃ L, kids p = L := ⟨_, rfl⟩
    rw [hL] at HK HM hl1 hl2 hm ⊢
    clear ih hL hlen
    rcases hm with ⟨hz, _⟩ | ⟨hne, c, e3, h4, hM, hmk, hit⟩
    · subst hz
      go_enter Tryd.func89, Tryd.ntmps89
      go_wp2_with fail
      go_ret
      exact ⟨rfl, ((Kept.refl w).alloc _ _).alloc _ _⟩
    · simp only [Value.slice.injEq] at e3
      obtain ⟨rfl, _, rfl⟩ := e3
      have hp0 : (0 : Int) < (L.length : Int) := by have := List.length_pos_iff.2 hne; omega
      have gl : (L.length : Int) ≤ 4096 := by omega
      have gc : (L.length : Int) ≤ (cap : Int) := by omega
      have hmk2 := grown_cell (((Kept.refl w).alloc #[.int .i64 (kind p), .int .i64 (from_ p), .int .i64 (to_ p), .int .i64 (min_ p), .int .i64 (max_ p), .slice (some ⟨c, 0, none⟩) L.length (L.length + 1)] 97).alloc #[.int .i64 (kind p), .int .i64 (from_ p), .int .i64 (to_ p), .int .i64 (min_ p), .int .i64 (max_ p), .slice a L.length cap] 97) hmk
      clear hit hM hmk hl1 hl2 h4 hne
      go_enter Tryd.func89, Tryd.ntmps89
      go_wp2_with fail
      obtain ⟨w5, hw5⟩ : ∃ w5, w5 = (w.alloc (.cells #[.int .i64 (kind p), .int .i64 (from_ p), .int .i64 (to_ p), .int .i64 (min_ p), .int .i64 (max_ p), .slice (some ⟨c, 0, none⟩) L.length (L.length + 1)] 97)).alloc (.cells #[.int .i64 (kind p), .int .i64 (from_ p), .int .i64 (to_ p), .int .i64 (min_ p), .int .i64 (max_ p), .slice a L.length cap] 97) := ⟨_, rfl⟩
      rw [← hw5] at hmk2 ⊢
      have HK5 : Hid (Kept w w5) := by rw [hw5]; exact ((Kept.refl w).alloc _ _).alloc _ _
      have HB : Hid (BoxAt w5 (w.heap.size + 1) (.int .i64 (kind p)) (.int .i64 (from_ p)) (.int .i64 (to_ p)) (.int .i64 (min_ p)) (.int .i64 (max_ p)) (.slice a L.length cap)) := by rw [hw5]; exact two_new w _ _ _ _ _ _ _
      clear hw5 hmk2
      have hdc : ((L.length : Int) == 0) = false := by rw [beq_eq_false_iff_ne]; omega
      rw [hdc]
      clear hdc
      go_loopw [7] (fun i wr => ∃ j : Nat, i = .int .i64 (j : Int) ∧ j ≤ L.length ∧ Hid (Kept w5 wr)) (fun i _ => L.length - (intOf i).toNat)
      case atStart => exact ⟨0, rfl, Nat.zero_le _, Kept.refl _⟩
      case round =>
        obtain ⟨j, rfl, hj, HKr⟩ := hrel
        have c5 := (HB.out.keep HKr.out).facts.1.2.2.2.2.2
        by_cases hlt : (j : Int) < (L.length : Int)
        · obtain ⟨q, hq⟩ : ∃ q, L[j]? = some q := ⟨_, List.getElem?_eq_getElem (by omega)⟩
          obtain ⟨a2, cap2, e2', _, _, h4⟩ := HK.out.kept (gtrans HK5.out HKr.out)
          simp only [Value.slice.injEq] at e2'
          obtain ⟨rfl, _, rfl⟩ := e2'
          rcases h4 with h4 | ⟨cb, o, rfl, hSc, h7⟩
          · rw [h4] at hq; simp at hq
          · obtain ⟨v', g0, g1, g2, g3, g4, g5, g6⟩ := h7 j q hq
            obtain ⟨a3, cap3, rfl⟩ := g6.form
            rcases HM.out.kept (gtrans HK5.out HKr.out) with ⟨hz, _⟩ | ⟨_, c', e3, _, _, _, hit⟩
            · rw [hz] at hq; simp at hq
            · simp only [Value.slice.injEq, Option.some.injEq, Addr.mk.injEq] at e3
              obtain ⟨⟨rfl, _⟩, _⟩ := e3
              obtain ⟨u', m0, m1, m2, m3, m4, m5, m6⟩ := hit j q hq
              obtain ⟨a4, cap4, rfl⟩ := m6.form
              have HG6 := hide1 g6
              have HM6 := hide1 m6
              clear h7 g6 hq hit m6
              have hlt1 : (j : Int) < (L.length : Int) + 1 := by omega
              have hkr : Kept wr wr := Kept.refl wr
              have q5 := keeps c5
              have r0 := keeps g0
              have r1 := keeps g1
              have r2 := keeps g2
              have r3 := keeps g3
              have r4 := keeps g4
              have r5 := keeps g5
              have t0 := keeps m0
              have t1 := keeps m1
              have t2 := keeps m2
              have t3 := keeps m3
              have t4 := keeps m4
              have t5 := keeps m5
              go_wp2_with fail
              go_region_held3 (fun w' => Kept wr w') (first | assumption | exact Kept.refl _ | exact gtrans (by assumption) (by assumption))
                ((first | (go_at_call 89; refine (IH.out q _ _ _ (HG6.out.kept (by assumption)) (HM6.out.kept (by assumption))).mono ?_; rintro e w6 ⟨rfl, hk6⟩)))
              have hk06 : Kept wr w6 := by assumption
              have HK6 := hide1 (gtrans HKr.out hk06)
              clear hk6 hk06 q5 r0 r1 r2 r3 r4 r5 t0 t1 t2 t3 t4 t5 c5 g0 g1 g2 g3 g4 g5 m0 m1 m2 m3 m4 m5 hkr
              go_wp2_with fail
              go_roundw
              case rel => exact ⟨j + 1, by go_num, by omega, HK6⟩
              case measure => simp [intOf]; omega
        · go_wp2_with fail
          go_ret
          exact ⟨rfl, gtrans HK5.out HKr.out⟩

end Ex
end Go.Proofs.YtggodknnfpegmaaDoor
namespace Go.Proofs.YtggodknnfpegmaaDoor
open Go.RowKit
attribute [local go_sem] Oper.semAt_some
namespace Ex

set_option linter.unusedSimpArgs false in
set_option maxRecDepth 100000 in
set_option maxHeartbeats 4000000 in
theorem Flat_is (S : Nat → Prop) (n : Nat) (p : PatN (n + 1)) (v : Value) (w : World) (h : KidsAt S w n (kids p) v) :
    Calls Tryd.prog 78 #[valOf p v] w fun e w' => e = .returned (.bool (boundsP p == 0)) ∧ Kept w w' := by
  have HK := hide1 h
  obtain ⟨a, cap, rfl⟩ := h.form
  rw [valOf_eq]
  clear h
  obtain ⟨bo, hbo⟩ : ∃ x, boundsP p = x := ⟨_, rfl⟩
  have HBO := hide1 hbo
  rw [hbo]
  clear hbo
  go_enter Tryd.func78, Tryd.ntmps78
  go_wp2_with (go_at_call 95; refine (Guard_is S n p _ _ (HK.out.kept ((Kept.refl w).alloc _ _))).mono ?_; rintro e w6 ⟨rfl, hk6⟩; rw [HBO.out]; have HK6 := hide1 (gtrans ((Kept.refl w).alloc _ _) hk6); clear hk6)
  go_ret
  exact ⟨rfl, HK6.out⟩
theorem bounds_size {n : Nat} {p : PatN (n + 1)} (h : boundsP p = 0) : sizeP (n + 1) p ≤ 4096 := by
  rw [bounds_eq] at h
  split at h
  · omega
  · omega

set_option linter.unusedSimpArgs false in
set_option maxRecDepth 100000 in
set_option maxHeartbeats 4000000 in
theorem TwinExpr_is (S : Nat → Prop) (n : Nat) (p : PatN (n + 1)) (v : Value) (w : World) (h : KidsAt S w n (kids p) v) :
    Calls Tryd.prog 41 #[valOf p v] w fun e w' => Hid (∃ v2, e = .returned (valOf p v2) ∧ KidsAt (fun d => S d ∨ w.heap.size ≤ d) w' n (kids p) v2 ∧ (boundsP p = 0 → MarkAt (fun d => w.heap.size ≤ d) w' n (kids p) v2)) ∧ Kept w w' := by
  have HK := hide1 h
  obtain ⟨a, cap, rfl⟩ := h.form
  rw [valOf_eq]
  clear h
  obtain ⟨W, hW⟩ : ∃ W, (w.alloc (.cells #[.int .i64 (kind p), .int .i64 (from_ p), .int .i64 (to_ p), .int .i64 (min_ p), .int .i64 (max_ p), .slice a (kids p).length cap] 97)).alloc (.cells #[.int .i64 0, .int .i64 0, .int .i64 0, .int .i64 0, .int .i64 0, .slice none 0 0] 97) = W := ⟨_, rfl⟩
  have HB0 : Hid (BoxAt W w.heap.size (.int .i64 (kind p)) (.int .i64 (from_ p)) (.int .i64 (to_ p)) (.int .i64 (min_ p)) (.int .i64 (max_ p)) (.slice a (kids p).length cap)) := by rw [← hW]; exact (BoxAt.new w _ _ _ _ _ _).keep ((Kept.refl _).alloc _ _)
  have HB1 : Hid (BoxAt W (w.heap.size + 1) (.int .i64 0) (.int .i64 0) (.int .i64 0) (.int .i64 0) (.int .i64 0) (.slice none 0 0)) := by rw [← hW]; exact two_new w _ _ _ _ _ _ _
  have HWK : Hid (Kept w W) := by rw [← hW]; exact ((Kept.refl w).alloc _ _).alloc _ _
  have HW := hide1 hW
  clear hW
  go_enter Tryd.func41, Tryd.ntmps41
  by_cases hb : boundsP p = 0
  · have eb : (boundsP p == 0) = true := by simpa using hb
    have HBS := hide1 (bounds_size hb)
    clear hb
    go_wp2_with (go_at_call 78; rw [HW.out]; refine (Flat_is S n p _ _ (HK.out.kept HWK.out)).mono ?_; rintro e w6 ⟨rfl, hk6⟩; have HK6 := hide1 hk6; obtain ⟨⟨d0, d1, d2, d3, d4, d5⟩, _⟩ := (HB0.out.keep hk6).facts; obtain ⟨⟨t0, t1, t2, t3, t4, t5⟩, s0, s1, s2, s3, s4, s5⟩ := (HB1.out.keep hk6).facts; clear hk6)
    refine (twin_is S n p _ _ (HK.out.kept (gtrans HWK.out HK6.out)) HBS.out).mono ?_
    rintro e w7 ⟨h7, hk7⟩
    obtain ⟨v7, rfl, hm7⟩ := h7.out
    rw [valOf_eq]
    obtain ⟨a7, c7, e7⟩ := hm7.form
    subst e7
    have HM7 := hide1 hm7
    have HK7 := hide1 (gtrans HWK.out (gtrans HK6.out hk7))
    have HX1 := hide1 (HB1.out.keep (gtrans HK6.out hk7))
    have HL := hide1 (HB1.out.keep HK6.out).lt
    clear h7 hm7 hk7 d0 d1 d2 d3 d4 d5 t0 t1 t2 t3 t4 t5 s0 s1 s2 s3 s4 s5
    obtain ⟨⟨t0, t1, t2, t3, t4, t5⟩, s0, s1, s2, s3, s4, s5⟩ := HX1.out.facts
    go_wp2_with fail
    refine bodyPost_ret (box_returns rfl _ _ (w.heap.size + 1) _ _ _ _ _ _ rfl (BoxAt.set HX1.out)) rfl ?_
    have hmk := MarkAt.mono (set6_holds (W := w7) (g := w.heap.size + 1) (x0 := .int .i64 (kind p)) (x1 := .int .i64 (from_ p)) (x2 := .int .i64 (to_ p)) (x3 := .int .i64 (min_ p)) (x4 := .int .i64 (max_ p)) (x5 := .slice a7 (kids p).length c7) (S := fun d => w6.heap.size ≤ d) (by show ¬ w6.heap.size ≤ _; have := HL.out; omega)) (fun d hd => (by have : w6.heap.size ≤ d := hd; have := HL.out; omega : w.heap.size ≤ d)) _ _ _ HM7.out
    exact ⟨⟨_, rfl, KidsAt.mono (fun _ _ _ _ h => h) (fun d hd => Or.inr hd) _ _ _ (MarkAt.kids _ _ _ hmk), fun _ => hmk⟩, put_kept (o := 0) HK7.out (by omega)⟩
  · have eb : (boundsP p == 0) = false := by simpa using hb
    have HNB := hide1 hb
    clear hb
    go_wp2_with (go_at_call 78; rw [HW.out]; refine (Flat_is S n p _ _ (HK.out.kept HWK.out)).mono ?_; rintro e w6 ⟨rfl, hk6⟩; have HK6 := hide1 hk6; obtain ⟨⟨d0, d1, d2, d3, d4, d5⟩, _⟩ := (HB0.out.keep hk6).facts; obtain ⟨⟨t0, t1, t2, t3, t4, t5⟩, s0, s1, s2, s3, s4, s5⟩ := (HB1.out.keep hk6).facts; clear hk6)
    refine bodyPost_ret (box_returns rfl _ _ (w.heap.size + 1) _ _ _ _ _ _ rfl (BoxAt.set (HB1.out.keep HK6.out))) rfl ?_
    have hkw := put_kept (o := 0) (x0 := .int .i64 (kind p)) (x1 := .int .i64 (from_ p)) (x2 := .int .i64 (to_ p)) (x3 := .int .i64 (min_ p)) (x4 := .int .i64 (max_ p)) (x5 := .slice a (kids p).length cap) (g := w.heap.size + 1) (gtrans HWK.out HK6.out) (by omega)
    exact ⟨⟨_, rfl, KidsAt.mono (fun _ _ _ _ h => h) (fun d hd => Or.inl hd) _ _ _ (HK.out.kept hkw), fun e => absurd e HNB.out⟩, hkw⟩

set_option linter.unusedSimpArgs false in
set_option maxRecDepth 100000 in
set_option maxHeartbeats 4000000 in
theorem KeptExpr_is (S S2 M : Nat → Prop) (n : Nat) (p : PatN (n + 1)) (v vm : Value) (w : World) (h : KidsAt S w n (kids p) v) (h2 : KidsAt S2 w n (kids p) vm) (hm : boundsP p = 0 → MarkAt M w n (kids p) vm) :
    Calls Tryd.prog 52 #[valOf p vm, valOf p v] w fun e w' => e = .returned (.bool true) ∧ Kept w w' := by
  have HK := hide1 h
  have HM := hide1 hm
  obtain ⟨a, cap, rfl⟩ := h.form
  obtain ⟨am, capm, rfl⟩ := h2.form
  rw [valOf_eq, valOf_eq]
  clear h h2 hm
  obtain ⟨W, hW⟩ : ∃ W, (w.alloc (.cells #[.int .i64 (kind p), .int .i64 (from_ p), .int .i64 (to_ p), .int .i64 (min_ p), .int .i64 (max_ p), .slice am (kids p).length capm] 97)).alloc (.cells #[.int .i64 (kind p), .int .i64 (from_ p), .int .i64 (to_ p), .int .i64 (min_ p), .int .i64 (max_ p), .slice a (kids p).length cap] 97) = W := ⟨_, rfl⟩
  have HB0 : Hid (BoxAt W w.heap.size (.int .i64 (kind p)) (.int .i64 (from_ p)) (.int .i64 (to_ p)) (.int .i64 (min_ p)) (.int .i64 (max_ p)) (.slice am (kids p).length capm)) := by rw [← hW]; exact (BoxAt.new w _ _ _ _ _ _).keep ((Kept.refl _).alloc _ _)
  have HB1 : Hid (BoxAt W (w.heap.size + 1) (.int .i64 (kind p)) (.int .i64 (from_ p)) (.int .i64 (to_ p)) (.int .i64 (min_ p)) (.int .i64 (max_ p)) (.slice a (kids p).length cap)) := by rw [← hW]; exact two_new w _ _ _ _ _ _ _
  have HWK : Hid (Kept w W) := by rw [← hW]; exact ((Kept.refl w).alloc _ _).alloc _ _
  have HW := hide1 hW
  clear hW
  go_enter Tryd.func52, Tryd.ntmps52
  by_cases hb : boundsP p = 0
  · have eb : (boundsP p == 0) = true := by simpa using hb
    have HMM := hide1 (HM.out hb)
    clear hb
    go_wp2_with (go_at_call 78; rw [HW.out]; refine (Flat_is S n p _ _ (HK.out.kept HWK.out)).mono ?_; rintro e w6 ⟨rfl, hk6⟩; have HK6 := hide1 hk6; obtain ⟨⟨d0, d1, d2, d3, d4, d5⟩, _⟩ := (HB0.out.keep hk6).facts; obtain ⟨⟨t0, t1, t2, t3, t4, t5⟩, _⟩ := (HB1.out.keep hk6).facts; clear hk6)
    refine (kept_is S M n p _ _ _ (HK.out.kept (gtrans HWK.out HK6.out)) (HMM.out.kept (gtrans HWK.out HK6.out))).mono ?_
    rintro e w7 ⟨rfl, hk7⟩
    have HK7 := hide1 (gtrans HWK.out (gtrans HK6.out hk7))
    clear hk7
    go_wp2_with fail
    go_ret
    exact ⟨rfl, HK7.out⟩
  · have eb : (boundsP p == 0) = false := by simpa using hb
    clear hb
    go_wp2_with (go_at_call 78; rw [HW.out]; refine (Flat_is S n p _ _ (HK.out.kept HWK.out)).mono ?_; rintro e w6 ⟨rfl, hk6⟩; have HK6 := hide1 hk6; obtain ⟨⟨d0, d1, d2, d3, d4, d5⟩, _⟩ := (HB0.out.keep hk6).facts; obtain ⟨⟨t0, t1, t2, t3, t4, t5⟩, _⟩ := (HB1.out.keep hk6).facts; clear hk6)
    go_ret
    exact ⟨rfl, gtrans HWK.out HK6.out⟩

end Ex
end Go.Proofs.YtggodknnfpegmaaDoor
