import Derived.Test.YtnchmhginmaliaaGreatDoorMExRd6
import Derived.Test.YtnchmhginmaliaaGreatDoorMExGd0
import Derived.Laws.MakeOwn
import Derived.Deep.Cut
import Derived.Deep.RegionHeld3
namespace Go.Proofs.YtnchmhginmaliaaGreatDoor
open Go.RowKit
namespace Ex

/-- A deep copy (in the blocks S) with a mark behind each list. -/
def MarkAt (S : Nat → Prop) (w : World) : (n : Nat) → List (PatN n) → Value → Prop
  | 0, _, v => v = .slice none 0 0
  | n + 1, l, v => (l = [] ∧ v = .slice none 0 0) ∨ (l ≠ [] ∧ ∃ c, v = .slice (some ⟨c, 0, none⟩) l.length (l.length + 1) ∧ l.length ≤ 4096 ∧ S c ∧ w.cell? ⟨c, l.length * 6, none⟩ = some (.int .i64 93) ∧ ∀ (i : Nat) (q : PatN (n + 1)), l[i]? = some q → ∃ v',
      w.cell? ⟨c, i * 6, none⟩ = some (.int .i64 (kind q)) ∧ w.cell? ⟨c, i * 6 + 1, none⟩ = some (.int .i64 (from_ q)) ∧ w.cell? ⟨c, i * 6 + 2, none⟩ = some (.int .i64 (to_ q)) ∧
      w.cell? ⟨c, i * 6 + 3, none⟩ = some (.int .i64 (min_ q)) ∧ w.cell? ⟨c, i * 6 + 4, none⟩ = some (.int .i64 (max_ q)) ∧ w.cell? ⟨c, i * 6 + 5, none⟩ = some v' ∧ MarkAt S w n (kids q) v')
theorem MarkAt.mono {S S' : Nat → Prop} {w w' : World} (hs : Holds S w w') (hS : ∀ b, S b → S' b) : ∀ (n : Nat) (l : List (PatN n)) (v : Value), MarkAt S w n l v → MarkAt S' w' n l v
  | 0, _, _, h => h
  | n + 1, l, v, h => by
    rcases h with h | ⟨h0, c, h1, h2, h3, h4, h5⟩
    · exact Or.inl h
    · refine Or.inr ⟨h0, c, h1, h2, hS c h3, hs _ _ _ h3 h4, fun i q hq => ?_⟩
      obtain ⟨v', g0, g1, g2, g3, g4, g5, g6⟩ := h5 i q hq
      exact ⟨v', hs _ _ _ h3 g0, hs _ _ _ h3 g1, hs _ _ _ h3 g2, hs _ _ _ h3 g3, hs _ _ _ h3 g4, hs _ _ _ h3 g5, MarkAt.mono hs hS n (kids q) v' g6⟩
theorem MarkAt.kept {S : Nat → Prop} {w w' : World} {n : Nat} {l : List (PatN n)} {v : Value} (h : MarkAt S w n l v) (hk : Kept w w') : MarkAt S w' n l v := MarkAt.mono (hk.holds S) (fun _ h => h) n l v h
theorem MarkAt.kids {S : Nat → Prop} {w : World} : ∀ (n : Nat) (l : List (PatN n)) (v : Value), MarkAt S w n l v → KidsAt S w n l v
  | 0, _, _, h => ⟨_, _, h⟩
  | n + 1, l, v, h => by
    rcases h with ⟨rfl, rfl⟩ | ⟨h0, c, h1, h2, h3, h4, h5⟩
    · exact kids_nil _ _ _ _ _ _ rfl
    · refine ⟨_, _, h1, by omega, by omega, Or.inr ⟨c, 0, rfl, h3, fun i q hq => ?_⟩⟩
      obtain ⟨v', g0, g1, g2, g3, g4, g5, g6⟩ := h5 i q hq
      rw [Nat.zero_add]
      exact ⟨v', g0, g1, g2, g3, g4, g5, MarkAt.kids n (Ex.kids q) v' g6⟩
theorem MarkAt.form {S : Nat → Prop} {w : World} {n : Nat} {l : List (PatN n)} {v : Value} (h : MarkAt S w n l v) : ∃ a cap, v = .slice a l.length cap := (MarkAt.kids n l v h).form

/-- A row of M values in a block of its own. -/
def RowAt (w : World) (g M : Nat) : Prop := ∃ cur : Array Value, w.heap[g]? = some (.cells cur 25 (0, 0)) ∧ cur.size = M * 6
theorem RowAt.lt {w : World} {g M : Nat} (h : RowAt w g M) : g < w.heap.size := by obtain ⟨_, h, _⟩ := h; exact (Array.getElem?_eq_some_iff.1 h).1
theorem RowAt.keep {w w' : World} {g M : Nat} (h : RowAt w g M) (hk : Kept w w') : RowAt w' g M := by
  obtain ⟨cur, h1, h2⟩ := h
  exact ⟨cur, (hk.2.2.2.2 g (Array.getElem?_eq_some_iff.1 h1).1).trans h1, h2⟩
theorem RowAt.set {w : World} {g M : Nat} (h : RowAt w g M) (o : Nat) (x : Value) : RowAt (w.setCell ⟨g, o, none⟩ x) g M := by
  obtain ⟨cur, h1, h2⟩ := h
  have hl : g < w.heap.size := (Array.getElem?_eq_some_iff.1 h1).1
  have he : w.heap[g] = Obj.cells cur 25 (0, 0) := by rw [Array.getElem?_eq_getElem hl] at h1; exact Option.some.inj h1
  refine ⟨cur.setIfInBounds o x, ?_, by rw [Array.size_setIfInBounds]; exact h2⟩
  simp [World.setCell, Array.getElem_modify, hl, he]
theorem RowAt.cell {w : World} {g M k : Nat} (h : RowAt w g M) (hk : k < M * 6) : (∃ x, w.cell? ⟨g, k, none⟩ = some x) ∧ w.frozen? ⟨g, k, none⟩ = false := by
  obtain ⟨cur, h1, h2⟩ := h
  refine ⟨⟨cur[k]'(by omega), ?_⟩, ?_⟩
  · simp [World.cell?, h1, h2, hk]
  · simp [World.frozen?, h1]
theorem RowAt.at {w : World} {g M j : Nat} (h : RowAt w g M) (hj : j < M) : ∃ x0 x1 x2 x3 x4 x5, (w.cell? ⟨g, j * 6, none⟩ = some x0 ∧ w.cell? ⟨g, j * 6 + 1, none⟩ = some x1 ∧ w.cell? ⟨g, j * 6 + 2, none⟩ = some x2 ∧ w.cell? ⟨g, j * 6 + 3, none⟩ = some x3 ∧ w.cell? ⟨g, j * 6 + 4, none⟩ = some x4 ∧ w.cell? ⟨g, j * 6 + 5, none⟩ = some x5) ∧
    w.frozen? ⟨g, j * 6, none⟩ = false ∧ w.frozen? ⟨g, j * 6 + 1, none⟩ = false ∧ w.frozen? ⟨g, j * 6 + 2, none⟩ = false ∧ w.frozen? ⟨g, j * 6 + 3, none⟩ = false ∧ w.frozen? ⟨g, j * 6 + 4, none⟩ = false ∧ w.frozen? ⟨g, j * 6 + 5, none⟩ = false := by
  obtain ⟨⟨x0, c0⟩, f0⟩ := h.cell (k := j * 6) (by omega)
  obtain ⟨⟨x1, c1⟩, f1⟩ := h.cell (k := j * 6 + 1) (by omega)
  obtain ⟨⟨x2, c2⟩, f2⟩ := h.cell (k := j * 6 + 2) (by omega)
  obtain ⟨⟨x3, c3⟩, f3⟩ := h.cell (k := j * 6 + 3) (by omega)
  obtain ⟨⟨x4, c4⟩, f4⟩ := h.cell (k := j * 6 + 4) (by omega)
  obtain ⟨⟨x5, c5⟩, f5⟩ := h.cell (k := j * 6 + 5) (by omega)
  exact ⟨x0, x1, x2, x3, x4, x5, ⟨c0, c1, c2, c3, c4, c5⟩, f0, f1, f2, f3, f4, f5⟩
theorem set_same {w : World} {g M o : Nat} {x : Value} (h : RowAt w g M) (ho : o < M * 6) : (w.setCell ⟨g, o, none⟩ x).cell? ⟨g, o, none⟩ = some x := by
  obtain ⟨⟨y, hy⟩, _⟩ := h.cell ho
  exact World.cell?_setCell_same w _ _ hy
theorem set_other {w : World} {g b o k : Nat} {x : Value} (h : b ≠ g ∨ k ≠ o) : (w.setCell ⟨g, o, none⟩ x).cell? ⟨b, k, none⟩ = w.cell? ⟨b, k, none⟩ :=
  World.cell?_setCell_other _ _ _ _ (by intro e; simp only [Addr.mk.injEq, and_true] at e; omega)
theorem put_row {w : World} {g M o : Nat} {x0 x1 x2 x3 x4 x5 : Value} (h : RowAt w g M) : RowAt ((((((w.setCell ⟨g, o, none⟩ x0).setCell ⟨g, o + 1, none⟩ x1).setCell ⟨g, o + 2, none⟩ x2).setCell ⟨g, o + 3, none⟩ x3).setCell ⟨g, o + 4, none⟩ x4).setCell ⟨g, o + 5, none⟩ x5) g M := (((((h.set _ _).set _ _).set _ _).set _ _).set _ _).set _ _
theorem put_other {w : World} {g b o k : Nat} {x0 x1 x2 x3 x4 x5 : Value} (h : b ≠ g ∨ k < o ∨ o + 6 ≤ k) : ((((((w.setCell ⟨g, o, none⟩ x0).setCell ⟨g, o + 1, none⟩ x1).setCell ⟨g, o + 2, none⟩ x2).setCell ⟨g, o + 3, none⟩ x3).setCell ⟨g, o + 4, none⟩ x4).setCell ⟨g, o + 5, none⟩ x5).cell? ⟨b, k, none⟩ = w.cell? ⟨b, k, none⟩ := by
  rw [set_other (by omega), set_other (by omega), set_other (by omega), set_other (by omega), set_other (by omega), set_other (by omega)]
theorem put_cells {w : World} {g M o : Nat} {x0 x1 x2 x3 x4 x5 : Value} (h : RowAt w g M) (ho : o + 6 ≤ M * 6) : ((((((w.setCell ⟨g, o, none⟩ x0).setCell ⟨g, o + 1, none⟩ x1).setCell ⟨g, o + 2, none⟩ x2).setCell ⟨g, o + 3, none⟩ x3).setCell ⟨g, o + 4, none⟩ x4).setCell ⟨g, o + 5, none⟩ x5).cell? ⟨g, o, none⟩ = some x0 ∧ ((((((w.setCell ⟨g, o, none⟩ x0).setCell ⟨g, o + 1, none⟩ x1).setCell ⟨g, o + 2, none⟩ x2).setCell ⟨g, o + 3, none⟩ x3).setCell ⟨g, o + 4, none⟩ x4).setCell ⟨g, o + 5, none⟩ x5).cell? ⟨g, o + 1, none⟩ = some x1 ∧ ((((((w.setCell ⟨g, o, none⟩ x0).setCell ⟨g, o + 1, none⟩ x1).setCell ⟨g, o + 2, none⟩ x2).setCell ⟨g, o + 3, none⟩ x3).setCell ⟨g, o + 4, none⟩ x4).setCell ⟨g, o + 5, none⟩ x5).cell? ⟨g, o + 2, none⟩ = some x2 ∧ ((((((w.setCell ⟨g, o, none⟩ x0).setCell ⟨g, o + 1, none⟩ x1).setCell ⟨g, o + 2, none⟩ x2).setCell ⟨g, o + 3, none⟩ x3).setCell ⟨g, o + 4, none⟩ x4).setCell ⟨g, o + 5, none⟩ x5).cell? ⟨g, o + 3, none⟩ = some x3 ∧ ((((((w.setCell ⟨g, o, none⟩ x0).setCell ⟨g, o + 1, none⟩ x1).setCell ⟨g, o + 2, none⟩ x2).setCell ⟨g, o + 3, none⟩ x3).setCell ⟨g, o + 4, none⟩ x4).setCell ⟨g, o + 5, none⟩ x5).cell? ⟨g, o + 4, none⟩ = some x4 ∧ ((((((w.setCell ⟨g, o, none⟩ x0).setCell ⟨g, o + 1, none⟩ x1).setCell ⟨g, o + 2, none⟩ x2).setCell ⟨g, o + 3, none⟩ x3).setCell ⟨g, o + 4, none⟩ x4).setCell ⟨g, o + 5, none⟩ x5).cell? ⟨g, o + 5, none⟩ = some x5 := by
  refine ⟨?_, ?_, ?_, ?_, ?_, ?_⟩
  · rw [set_other (by omega), set_other (by omega), set_other (by omega), set_other (by omega), set_other (by omega)]; exact set_same h (by omega)
  · rw [set_other (by omega), set_other (by omega), set_other (by omega), set_other (by omega)]; exact set_same (h.set _ _) (by omega)
  · rw [set_other (by omega), set_other (by omega), set_other (by omega)]; exact set_same ((h.set _ _).set _ _) (by omega)
  · rw [set_other (by omega), set_other (by omega)]; exact set_same (((h.set _ _).set _ _).set _ _) (by omega)
  · rw [set_other (by omega)]; exact set_same ((((h.set _ _).set _ _).set _ _).set _ _) (by omega)
  · exact set_same (((((h.set _ _).set _ _).set _ _).set _ _).set _ _) (by omega)
theorem keep_set {w W : World} {g o : Nat} {x : Value} (h : Kept w W) (hg : w.heap.size ≤ g) : Kept w (W.setCell ⟨g, o, none⟩ x) :=
  ⟨h.1, h.2.1, h.2.2.1, by rw [World.size_setCell]; exact h.size, fun k hk => (Below.heap_setCell W _ _ k (by show k ≠ g; omega)).trans (h.2.2.2.2 k hk)⟩
theorem put_kept {w w1 : World} {g o : Nat} {x0 x1 x2 x3 x4 x5 : Value} (h : Kept w1 w) (hg : w1.heap.size ≤ g) : Kept w1 ((((((w.setCell ⟨g, o, none⟩ x0).setCell ⟨g, o + 1, none⟩ x1).setCell ⟨g, o + 2, none⟩ x2).setCell ⟨g, o + 3, none⟩ x3).setCell ⟨g, o + 4, none⟩ x4).setCell ⟨g, o + 5, none⟩ x5) := keep_set (keep_set (keep_set (keep_set (keep_set (keep_set h hg) hg) hg) hg) hg) hg

end Ex
end Go.Proofs.YtnchmhginmaliaaGreatDoor
namespace Go.Proofs.YtnchmhginmaliaaGreatDoor
open Go.RowKit
attribute [local go_sem] Oper.semAt_some
namespace Ex

theorem sizes_mem {n : Nat} {q : PatN n} : ∀ {L : List (PatN n)}, q ∈ L → sizeP n q ≤ sizesP n L
  | x :: L, h => by
    have h1 := sizes_pos n L
    have h2 := size_pos n x
    show sizeP n q ≤ sizeP n x + sizesP n L
    rcases List.mem_cons.1 h with rfl | h
    · omega
    · have := sizes_mem h; omega
  | [], h => by cases h
/-- The cells of a new row. -/
def rowZ (M : Nat) : Array Value := madeCells (Value.agg #[.int .i64 0, .int .i64 0, .int .i64 0, .int .i64 0, .int .i64 0, .slice none 0 0]).cells (M * 6)
theorem run_row (n : Nat) (hn : n ≤ 100000) (w : World) : (Instr.makeSlice 23 (.int .i64 ((n : Int) + 1)) (.int .i64 ((n : Int) + 1))).run Tryz.prog w = .ok (.slice (some ⟨w.heap.size, 0, none⟩) (n + 1) (n + 1)) (w.alloc (.cells (rowZ (n + 1)) 25)) := by
  obtain ⟨i0, hi, hz0, hz1, hz2⟩ := info_parts expr_info
  rw [run_make (P := Tryz.prog) w 23 25 i0 _ Tryz.underlying23 hi hz0 .i64 .i64 ((n : Int) + 1) ((n : Int) + 1) (by omega) (Int.le_refl _) (by rw [hz2]; omega) (by omega), hz1]
  rfl
theorem row_new (w : World) (M : Nat) : RowAt (w.alloc (.cells (rowZ M) 25)) w.heap.size M := ⟨rowZ M, heap_alloc_new w _, size_madeCells _ _⟩
/-- The copies that are made. -/
def Items (w : World) (g : Nat) {n : Nat} (L : List (PatN (n + 1))) (j : Nat) : Prop :=
  ∀ (i : Nat) (q : PatN (n + 1)), i < j → L[i]? = some q → ∃ v',
      w.cell? ⟨g, i * 6, none⟩ = some (.int .i64 (kind q)) ∧ w.cell? ⟨g, i * 6 + 1, none⟩ = some (.int .i64 (from_ q)) ∧ w.cell? ⟨g, i * 6 + 2, none⟩ = some (.int .i64 (to_ q)) ∧
      w.cell? ⟨g, i * 6 + 3, none⟩ = some (.int .i64 (min_ q)) ∧ w.cell? ⟨g, i * 6 + 4, none⟩ = some (.int .i64 (max_ q)) ∧ w.cell? ⟨g, i * 6 + 5, none⟩ = some v' ∧ MarkAt (fun d => g < d) w n (kids q) v'
theorem Items.keep {w w' : World} {g n j : Nat} {L : List (PatN (n + 1))} (h : Items w g L j) (hk : Holds (fun d => g ≤ d) w w') : Items w' g L j := fun i q hi hq => by
  obtain ⟨v', g0, g1, g2, g3, g4, g5, g6⟩ := h i q hi hq
  exact ⟨v', hk _ _ _ (Nat.le_refl _) g0, hk _ _ _ (Nat.le_refl _) g1, hk _ _ _ (Nat.le_refl _) g2, hk _ _ _ (Nat.le_refl _) g3, hk _ _ _ (Nat.le_refl _) g4, hk _ _ _ (Nat.le_refl _) g5, MarkAt.mono (fun b o v hb hc => hk b o v (Nat.le_of_lt hb) hc) (fun _ h => h) _ _ _ g6⟩
theorem Items.put {w : World} {g n j M : Nat} {L : List (PatN (n + 1))} {q : PatN (n + 1)} {u x0 x1 x2 x3 x4 : Value} (h : Items w g L j) (hr : RowAt w g M) (hj : j + 1 ≤ M) (hq : L[j]? = some q) (hm : MarkAt (fun d => g < d) w n (kids q) u)
    (e0 : x0 = .int .i64 (kind q)) (e1 : x1 = .int .i64 (from_ q)) (e2 : x2 = .int .i64 (to_ q)) (e3 : x3 = .int .i64 (min_ q)) (e4 : x4 = .int .i64 (max_ q)) :
    Items ((((((w.setCell ⟨g, j * 6, none⟩ x0).setCell ⟨g, j * 6 + 1, none⟩ x1).setCell ⟨g, j * 6 + 2, none⟩ x2).setCell ⟨g, j * 6 + 3, none⟩ x3).setCell ⟨g, j * 6 + 4, none⟩ x4).setCell ⟨g, j * 6 + 5, none⟩ u) g L (j + 1) := by
  intro i q' hi hq'
  have hmono : ∀ (l : List (PatN n)) (v : Value), MarkAt (fun d => g < d) w n l v → MarkAt (fun d => g < d) ((((((w.setCell ⟨g, j * 6, none⟩ x0).setCell ⟨g, j * 6 + 1, none⟩ x1).setCell ⟨g, j * 6 + 2, none⟩ x2).setCell ⟨g, j * 6 + 3, none⟩ x3).setCell ⟨g, j * 6 + 4, none⟩ x4).setCell ⟨g, j * 6 + 5, none⟩ u) n l v :=
    fun l v hv => MarkAt.mono (fun b o v hb hc => (put_other (.inl (by have : g < b := hb; omega))).trans hc) (fun _ h => h) _ _ _ hv
  by_cases hij : i = j
  · subst hij
    obtain rfl : q = q' := Option.some.inj (hq.symm.trans hq')
    subst e0 e1 e2 e3 e4
    obtain ⟨g0, g1, g2, g3, g4, g5⟩ := put_cells (o := i * 6) (x0 := .int .i64 (kind q)) (x1 := .int .i64 (from_ q)) (x2 := .int .i64 (to_ q)) (x3 := .int .i64 (min_ q)) (x4 := .int .i64 (max_ q)) (x5 := u) hr (by omega)
    exact ⟨u, g0, g1, g2, g3, g4, g5, hmono _ _ hm⟩
  · obtain ⟨v', g0, g1, g2, g3, g4, g5, g6⟩ := h i q' (by omega) hq'
    exact ⟨v', (put_other (.inr (by omega))).trans g0, (put_other (.inr (by omega))).trans g1, (put_other (.inr (by omega))).trans g2, (put_other (.inr (by omega))).trans g3, (put_other (.inr (by omega))).trans g4, (put_other (.inr (by omega))).trans g5, hmono _ _ g6⟩
theorem two_new (w : World) (o : Obj) (x0 x1 x2 x3 x4 x5 : Value) : BoxAt ((w.alloc o).alloc (.cells #[x0, x1, x2, x3, x4, x5] 25)) (w.heap.size + 1) x0 x1 x2 x3 x4 x5 := by
  have h := BoxAt.new (w.alloc o) x0 x1 x2 x3 x4 x5
  rwa [World.size_alloc] at h
theorem three_new (w : World) (o : Obj) (x0 x1 x2 x3 x4 x5 : Value) (c : Array Value) (t : TypeId) : BoxAt (((w.alloc o).alloc (.cells #[x0, x1, x2, x3, x4, x5] 25)).alloc (.cells c t)) (w.heap.size + 1) x0 x1 x2 x3 x4 x5 := (two_new w o x0 x1 x2 x3 x4 x5).keep ((Kept.refl _).alloc _ _)
theorem BoxAt.set5 {w : World} {g : Nat} {x0 x1 x2 x3 x4 x5 : Value} (h : BoxAt w g x0 x1 x2 x3 x4 x5) (y : Value) : BoxAt (w.setCell ⟨g, 5, none⟩ y) g x0 x1 x2 x3 x4 y := by
  have hl : g < w.heap.size := (Array.getElem?_eq_some_iff.1 h).1
  have he : w.heap[g] = Obj.cells #[x0, x1, x2, x3, x4, x5] 25 (0, 0) := by have h' := h; unfold BoxAt at h'; rw [Array.getElem?_eq_getElem hl] at h'; exact Option.some.inj h'
  show (w.setCell ⟨g, 5, none⟩ y).heap[g]? = _
  simp [World.setCell, Array.getElem_modify, hl, he]
/-- twin between two rounds; W: the world ahead of the row. -/
def TwR (W : World) (g : Nat) {n : Nat} (L : List (PatN (n + 1))) (iv : Value) (wr : World) : Prop :=
  ∃ j : Nat, iv = .int .i64 (j : Int) ∧ j ≤ L.length ∧ Kept W wr ∧ RowAt wr g (L.length + 1) ∧ Items wr g L j

end Ex
end Go.Proofs.YtnchmhginmaliaaGreatDoor
namespace Go.Proofs.YtnchmhginmaliaaGreatDoor
open Go.RowKit
attribute [local go_sem] Oper.semAt_some
namespace Ex

set_option linter.unusedSimpArgs false in
set_option maxRecDepth 100000 in
set_option maxHeartbeats 4000000 in
theorem same_is (S M : Nat → Prop) : ∀ (n : Nat) (p : PatN (n + 1)) (v vm : Value) (w : World), KidsAt S w n (kids p) v → KidsAt M w n (kids p) vm →
    Calls Tryz.prog 6 #[valOf p vm, valOf p v] w fun e w' => e = .returned (.bool true) ∧ Kept w w' := by
  intro n
  induction n with
  | zero =>
    intro p v vm w h hm
    obtain ⟨a, cap, rfl⟩ := h.form
    obtain ⟨am, capm, rfl⟩ := hm.form
    rw [valOf_eq, valOf_eq]
    rw [none_of (kids p)]
    clear h hm
    go_enter Tryz.func6, Tryz.ntmps6
    go_wp2_with fail
    go_loopw [5] (fun i wr => i = .int .i64 0 ∧ Hid (Kept w wr) ∧ Hid (BoxAt wr w.heap.size (.int .i64 (kind p)) (.int .i64 (from_ p)) (.int .i64 (to_ p)) (.int .i64 (min_ p)) (.int .i64 (max_ p)) (.slice am 0 capm))) (fun _ _ => 0)
    case atStart => exact ⟨rfl, ((Kept.refl w).alloc _ _).alloc _ _, (BoxAt.new w _ _ _ _ _ _).keep ((Kept.refl _).alloc _ _)⟩
    case round =>
      obtain ⟨rfl, HKr, HA⟩ := hrel
      have a5 := HA.out.facts.1.2.2.2.2.2
      go_wp2_with fail
      go_ret
      exact ⟨rfl, HKr.out⟩
  | succ n ih =>
    intro p v vm w h hm
    have IH := hide1 ih
    have HK := hide1 h
    have HM := hide1 hm
    obtain ⟨a, cap, rfl⟩ := h.form
    obtain ⟨am, capm, rfl⟩ := hm.form
    obtain ⟨_, _, e1, hl1, hl2, h4z⟩ := h
    simp only [Value.slice.injEq] at e1
    obtain ⟨rfl, _, rfl⟩ := e1
    obtain ⟨_, _, e2, hm1, hm2, h5z⟩ := hm
    simp only [Value.slice.injEq] at e2
    obtain ⟨rfl, _, rfl⟩ := e2
    clear h4z h5z
    rw [valOf_eq, valOf_eq]
    obtain ⟨L, hL⟩ : ∃ L, kids p = L := ⟨_, rfl⟩
    rw [hL] at HK HM hl1 hl2 hm1 ⊢
    have gl : (L.length : Int) ≤ 17592186044416 := by omega
    have gc : (L.length : Int) ≤ (cap : Int) := by omega
    have gm : (L.length : Int) ≤ (capm : Int) := by omega
    clear ih hL hl1 hl2 hm1 hm2
    go_enter Tryz.func6, Tryz.ntmps6
    go_wp2_with fail
    obtain ⟨w5, hw5⟩ : ∃ w5, w5 = (w.alloc (.cells #[.int .i64 (kind p), .int .i64 (from_ p), .int .i64 (to_ p), .int .i64 (min_ p), .int .i64 (max_ p), .slice am L.length capm] 25)).alloc (.cells #[.int .i64 (kind p), .int .i64 (from_ p), .int .i64 (to_ p), .int .i64 (min_ p), .int .i64 (max_ p), .slice a L.length cap] 25) := ⟨_, rfl⟩
    rw [← hw5]
    have HK5 : Hid (Kept w w5) := by rw [hw5]; exact ((Kept.refl w).alloc _ _).alloc _ _
    have HB : Hid (BoxAt w5 (w.heap.size + 1) (.int .i64 (kind p)) (.int .i64 (from_ p)) (.int .i64 (to_ p)) (.int .i64 (min_ p)) (.int .i64 (max_ p)) (.slice a L.length cap)) := by rw [hw5]; exact two_new w _ _ _ _ _ _ _
    have HA : Hid (BoxAt w5 w.heap.size (.int .i64 (kind p)) (.int .i64 (from_ p)) (.int .i64 (to_ p)) (.int .i64 (min_ p)) (.int .i64 (max_ p)) (.slice am L.length capm)) := by rw [hw5]; exact (BoxAt.new w _ _ _ _ _ _).keep ((Kept.refl _).alloc _ _)
    clear hw5
    go_loopw [5] (fun i wr => ∃ j : Nat, i = .int .i64 (j : Int) ∧ j ≤ L.length ∧ Hid (Kept w5 wr)) (fun i _ => L.length - (intOf i).toNat)
    case atStart => exact ⟨0, rfl, Nat.zero_le _, Kept.refl _⟩
    case round =>
      obtain ⟨j, rfl, hj, HKr⟩ := hrel
      have b5 := (HB.out.keep HKr.out).facts.1.2.2.2.2.2
      have a5 := (HA.out.keep HKr.out).facts.1.2.2.2.2.2
      by_cases hlt : (j : Int) < (L.length : Int)
      · obtain ⟨q, hq⟩ : ∃ q, L[j]? = some q := ⟨_, List.getElem?_eq_getElem (by omega)⟩
        obtain ⟨a2, cap2, e2', _, _, h4⟩ := HK.out.kept (gtrans HK5.out HKr.out)
        simp only [Value.slice.injEq] at e2'
        obtain ⟨rfl, _, rfl⟩ := e2'
        rcases h4 with h4 | ⟨cb, o, rfl, hSc, h7⟩
        · rw [h4] at hq; simp at hq
        · obtain ⟨v', g0, g1, g2, g3, g4, g5, g6⟩ := h7 j q hq
          obtain ⟨a3, cap3, rfl⟩ := g6.form
          obtain ⟨a4, cap4, e4', _, _, h5⟩ := HM.out.kept (gtrans HK5.out HKr.out)
          simp only [Value.slice.injEq] at e4'
          obtain ⟨rfl, _, rfl⟩ := e4'
          rcases h5 with h5 | ⟨cm, om, rfl, hSm, h8⟩
          · rw [h5] at hq; simp at hq
          · obtain ⟨u', m0, m1, m2, m3, m4, m5, m6⟩ := h8 j q hq
            obtain ⟨a6, cap6, rfl⟩ := m6.form
            have HG6 := hide1 g6
            have HM6 := hide1 m6
            clear h7 g6 hq h8 m6
            have hkr : Kept wr wr := Kept.refl wr
            have q5 := keeps b5
            have q6 := keeps a5
            have r0 := keeps g0
            have r1 := keeps g1
            have r2 := keeps g2
            have r3 := keeps g3
            have r4 := keeps g4
            have r5 := keeps g5
            have t0 := keeps m0
            have t1 := keeps m1
            have t2 := keeps m2
            have t3 := keeps m3
            have t4 := keeps m4
            have t5 := keeps m5
            go_wp2_with fail
            go_region_held3 (fun w' => Kept wr w') (first | assumption | exact Kept.refl _ | exact gtrans (by assumption) (by assumption))
              ((first | (go_at_call 6; refine (IH.out q _ _ _ (HG6.out.kept (by assumption)) (HM6.out.kept (by assumption))).mono ?_; rintro e w6 ⟨rfl, hk6⟩)))
            have hk06 : Kept wr w6 := by assumption
            have HK6 := hide1 (gtrans HKr.out hk06)
            clear hk6 hk06 q5 q6 r0 r1 r2 r3 r4 r5 t0 t1 t2 t3 t4 t5 a5 b5 g0 g1 g2 g3 g4 g5 m0 m1 m2 m3 m4 m5 hkr
            go_wp2_with fail
            go_roundw
            case rel => exact ⟨j + 1, by go_num, by omega, HK6⟩
            case measure => simp [intOf]; omega
      · go_wp2_with fail
        go_ret
        exact ⟨rfl, gtrans HK5.out HKr.out⟩

end Ex
end Go.Proofs.YtnchmhginmaliaaGreatDoor
