import Derived.Test.YtggodknnfpegmaaDoorMExRight
import Derived.Test.YtggodknnfpegmaaDoorMExBase
import Derived.Handy
import Derived.Deep.DeepMust
import Derived.OwnWalk
namespace Go.Proofs.YtggodknnfpegmaaDoor
open Go.RowKit
attribute [local go_sem] Oper.semAt_some
namespace Ex

def rangeV (f t : Int) : Value := .agg #[.int .i64 1, .int .i64 f, .int .i64 t, .int .i64 0, .int .i64 0, .slice none 0 0]
def rangeP (f t : Int) : Pat := mkP 1 f t 0 0 []
theorem rangeV_pat (S : Nat → Prop) (w : World) (f t : Int) : PatV S w (rangeP f t) (rangeV f t) := ⟨.slice none 0 0, rfl, kids_nil _ _ _ _ _ _ rfl⟩

theorem one_flat {S : Nat → Prop} {w : World} {p : Pat} {v' : Value} (h : KidsAt S w p.1 (kids p.2) v') : FlatAt S w [p] (cellsP p v') := FlatAt.snoc (l := []) (xs := []) rfl h
theorem box_cells (w : World) (p : Pat) (v' : Value) (t : TypeId) : ∀ j u, (cellsP p v')[j]? = some u → (w.alloc (.cells #[.int .i64 (kind p.2), .int .i64 (from_ p.2), .int .i64 (to_ p.2), .int .i64 (min_ p.2), .int .i64 (max_ p.2), v'] t)).cell? ⟨w.heap.size, 0 + j, none⟩ = some u := by
  intro j u h
  have hb := box_at w (.int .i64 (kind p.2)) (.int .i64 (from_ p.2)) (.int .i64 (to_ p.2)) (.int .i64 (min_ p.2)) (.int .i64 (max_ p.2)) v' t
  have hj : j < 6 := (List.getElem?_eq_some_iff.1 h).1
  rw [Nat.zero_add]
  match j, hj with
  | 0, _ => rw [hb.1]; exact h
  | 1, _ => rw [hb.2.1]; exact h
  | 2, _ => rw [hb.2.2.1]; exact h
  | 3, _ => rw [hb.2.2.2.1]; exact h
  | 4, _ => rw [hb.2.2.2.2.1]; exact h
  | 5, _ => rw [hb.2.2.2.2.2]; exact h
def PGives (S : Nat → Prop) (p : Pat) (e : Ending) (w' : World) : Prop := ∃ v, e = .returned v ∧ PatV S w' p v

def failS (T : ByteArray) (s : Int × Int × Int) (x y : Int) : Int × Int × Int := (T.size, failE s.2.1 x, failF s.2.1 s.2.2 y)
def wrongS (T : ByteArray) (s : Int × Int × Int) : Int × Int × Int := failS T s (wrongC T s.1) s.1

/-- The reader's place. -/
def placeOf (b : Nat) (w : World) : Nat := (intOf ((w.cell? ⟨b, 1, none⟩).getD (.int .i64 0))).toNat
/-- Up to m digits. -/
def numG (T : ByteArray) : Nat → Int → Int → Int × Int
  | 0, k, n => (n, k)
  | m + 1, k, n => if digitP (peekP T k) then numG T m (k + 1) (n * 10 + (peekP T k - 48)) else (n, k)
def numberS (T : ByteArray) (s : Int × Int × Int) : Int × Int × Int × Int := if (numG T 4 s.1 0).2 = s.1 then ((numG T 4 s.1 0).1, wrongS T s) else ((numG T 4 s.1 0).1, (numG T 4 s.1 0).2, s.2)
theorem peek_lt {T : ByteArray} {k : Int} (h : peekP T k ≠ 0) : 0 ≤ k ∧ k < T.size := by
  unfold peekP at h
  split at h
  · assumption
  · exact absurd rfl h
theorem numG_end {T : ByteArray} {N : Nat} {k n : Int} (h : N = 0 ∨ digitP (peekP T k) = false) : numG T N k n = (n, k) := by
  cases N with
  | zero => rfl
  | succ N =>
    rcases h with h | h
    · omega
    · rw [numG, h]; rfl

/-- Texts without \\ and ^ alone. -/
def Plain (T : ByteArray) : Prop := ∀ k, peekP T k ≠ 92 ∧ peekP T k ≠ 94
def classSignsS : ByteArray := ⟨#[93, 92, 45, 47]⟩
def oneS (T : ByteArray) (s : Int × Int × Int) : Int × Int × Int × Int := if printedP (peekP T s.1) && !inS classSignsS (peekP T s.1) then (peekP T s.1, s.1 + 1, s.2) else (0, wrongS T s)
end Ex
end Go.Proofs.YtggodknnfpegmaaDoor
namespace Go.Proofs.YtggodknnfpegmaaDoor
open Go.RowKit
attribute [local go_sem] Oper.semAt_some
namespace Ex

def OkS (T : ByteArray) (s : Int × Int × Int) : Prop := 0 ≤ s.1 ∧ s.1 ≤ T.size
theorem wrong_ok (T : ByteArray) (s : Int × Int × Int) : OkS T (wrongS T s) := ⟨Int.natCast_nonneg _, Int.le_refl _⟩
theorem fail_ok (T : ByteArray) (s : Int × Int × Int) (x y : Int) : OkS T (failS T s x y) := ⟨Int.natCast_nonneg _, Int.le_refl _⟩
theorem one_ok {T : ByteArray} {s : Int × Int × Int} (h : OkS T s) : OkS T (oneS T s).2 ∧ s.1 ≤ (oneS T s).2.1 := by
  unfold oneS
  split
  · rename_i hp
    simp only [Bool.and_eq_true] at hp
    have h1 : peekP T s.1 ≠ 0 := by have := hp.1; unfold printedP at this; simp at this; omega
    have h2 := peek_lt h1
    exact ⟨⟨by show 0 ≤ s.1 + 1; omega, by show s.1 + 1 ≤ _; omega⟩, by show s.1 ≤ s.1 + 1; omega⟩
  · exact ⟨wrong_ok T s, h.2⟩
theorem numG_ok {T : ByteArray} : ∀ (N : Nat) (k n : Int), 0 ≤ k → k ≤ T.size → k ≤ (numG T N k n).2 ∧ (numG T N k n).2 ≤ T.size
  | 0, k, n, h0, h1 => ⟨Int.le_refl _, h1⟩
  | N + 1, k, n, h0, h1 => by
    rw [numG]
    split
    · rename_i hd
      have h2 : peekP T k ≠ 0 := by unfold digitP at hd; simp at hd; omega
      have h3 := peek_lt h2
      have := numG_ok (T := T) N (k + 1) (n * 10 + (peekP T k - 48)) (by omega) (by omega)
      omega
    · exact ⟨Int.le_refl _, h1⟩
theorem number_ok {T : ByteArray} {s : Int × Int × Int} (h : OkS T s) : OkS T (numberS T s).2 ∧ s.1 ≤ (numberS T s).2.1 := by
  have h1 := numG_ok (T := T) 4 s.1 0 h.1 h.2
  have h0 := h.1
  unfold numberS
  split
  · exact ⟨wrong_ok T s, h.2⟩
  · exact ⟨⟨by show 0 ≤ (numG T 4 s.1 0).2; omega, h1.2⟩, h1.1⟩
theorem take_ok {T : ByteArray} {s : Int × Int × Int} {c : Int} (hc : c ≠ 0) (h : peekP T s.1 = c) : OkS T (s.1 + 1, s.2) := by
  have := peek_lt (T := T) (k := s.1) (by rw [h]; exact hc)
  exact ⟨by show 0 ≤ s.1 + 1; omega, by show s.1 + 1 ≤ _; omega⟩

theorem but_allocd {b : Nat} {w w' : World} {c : Array Value} {t : TypeId} (h : KeptBut b (w.alloc (.cells c t)) w') : KeptBut b w w' := (((Kept.refl w).alloc c t).but b).trans h
theorem but_new {b g o : Nat} {w w' : World} {v : Value} (h : KeptBut b w w') (hg : w.heap.size ≤ g) : KeptBut b w (w'.setCell ⟨g, o, none⟩ v) :=
  ⟨h.1, h.2.1, h.2.2.1, by simpa [World.setCell] using h.2.2.2.1, fun k hk hn => (Below.heap_setCell _ _ _ _ (show k ≠ g by omega)).trans (h.2.2.2.2 k hk hn)⟩
/-- The box of a result, empty yet. -/
def boxZ : Array Value := #[.int .i64 0, .int .i64 0, .int .i64 0, .int .i64 0, .int .i64 0, .slice none 0 0]
theorem box_end {b : Nat} {w w' : World} (h : KeptBut b (w.alloc (.cells #[.int .i64 0, .int .i64 0, .int .i64 0, .int .i64 0, .int .i64 0, .slice none 0 0] 97)) w') (hb : b < w.heap.size) :
    (w'.cell? ⟨w.heap.size, 0, none⟩ = some (.int .i64 0) ∧ w'.cell? ⟨w.heap.size, 1, none⟩ = some (.int .i64 0) ∧ w'.cell? ⟨w.heap.size, 2, none⟩ = some (.int .i64 0) ∧ w'.cell? ⟨w.heap.size, 3, none⟩ = some (.int .i64 0) ∧ w'.cell? ⟨w.heap.size, 4, none⟩ = some (.int .i64 0) ∧ w'.cell? ⟨w.heap.size, 5, none⟩ = some (.slice none 0 0)) ∧
    w'.frozen? ⟨w.heap.size, 0, none⟩ = false ∧ w'.frozen? ⟨w.heap.size, 1, none⟩ = false ∧ w'.frozen? ⟨w.heap.size, 2, none⟩ = false ∧ w'.frozen? ⟨w.heap.size, 3, none⟩ = false ∧ w'.frozen? ⟨w.heap.size, 4, none⟩ = false ∧ w'.frozen? ⟨w.heap.size, 5, none⟩ = false := by
  have e : w'.heap[w.heap.size]? = some (.cells #[.int .i64 0, .int .i64 0, .int .i64 0, .int .i64 0, .int .i64 0, .slice none 0 0] 97 (0, 0)) := by
    rw [h.2.2.2.2 w.heap.size (by simp) (by omega)]
    exact heap_alloc_new w _
  refine ⟨⟨?_, ?_, ?_, ?_, ?_, ?_⟩, ?_, ?_, ?_, ?_, ?_, ?_⟩ <;> simp [World.cell?, World.frozen?, e]
theorem box_kept {b : Nat} {w w' : World} (h : KeptBut b (w.alloc (.cells #[.int .i64 0, .int .i64 0, .int .i64 0, .int .i64 0, .int .i64 0, .slice none 0 0] 97)) w') (hb : b < w.heap.size) : w'.heap[w.heap.size]? = some (.cells #[.int .i64 0, .int .i64 0, .int .i64 0, .int .i64 0, .int .i64 0, .slice none 0 0] 97 (0, 0)) := by
  rw [h.2.2.2.2 w.heap.size (by simp) (by omega)]
  exact heap_alloc_new w _
theorem box_full {w : World} {g : Nat} {y0 y1 y2 y3 y4 y5 x0 x1 x2 x3 x4 x5 : Value} (h : w.heap[g]? = some (.cells #[y0, y1, y2, y3, y4, y5] 97 (0, 0))) :
    ((((((w.setCell ⟨g, 0, none⟩ x0).setCell ⟨g, 1, none⟩ x1).setCell ⟨g, 2, none⟩ x2).setCell ⟨g, 3, none⟩ x3).setCell ⟨g, 4, none⟩ x4).setCell ⟨g, 5, none⟩ x5).heap[g]? = some (.cells #[x0, x1, x2, x3, x4, x5] 97 (0, 0)) := by
  have hl : g < w.heap.size := (Array.getElem?_eq_some_iff.1 h).1
  have he : w.heap[g] = Obj.cells #[y0, y1, y2, y3, y4, y5] 97 (0, 0) := by rw [Array.getElem?_eq_getElem hl] at h; exact Option.some.inj h
  simp [World.setCell, Array.getElem_modify, hl, he]
theorem box_returns {fn : Func} {p : Tmp} (h : fn.results = #[.cell p 97]) (tmps : Array Value) (w : World) (g : Nat) (x0 x1 x2 x3 x4 x5 : Value) (hp : tmps.getD p undef = .pointer (some ⟨g, 0, none⟩)) (hg : w.heap[g]? = some (.cells #[x0, x1, x2, x3, x4, x5] 97 (0, 0))) :
    (results fn tmps).run Tryd.prog w = .ok (.agg #[x0, x1, x2, x3, x4, x5]) w :=
  results_cell_row h tmps w g 97 _ (0, 0) _ hp hg Tryd.underlying97 rfl (by kernel_rfl)
theorem fin_but {b g : Nat} {w w' : World} {x0 x1 x2 x3 x4 x5 : Value} (h : KeptBut b w w') (hg : w.heap.size ≤ g) : KeptBut b w ((((((w'.setCell ⟨g, 0, none⟩ x0).setCell ⟨g, 1, none⟩ x1).setCell ⟨g, 2, none⟩ x2).setCell ⟨g, 3, none⟩ x3).setCell ⟨g, 4, none⟩ x4).setCell ⟨g, 5, none⟩ x5) :=
  but_new (but_new (but_new (but_new (but_new (but_new h hg) hg) hg) hg) hg) hg
/-- A member's first byte, its last, the state behind. -/
def memberE (T : ByteArray) (s : Int × Int × Int) : Int × Int × Int × Int := if peekP T (oneS T s).2.1 = 45 then oneS T ((oneS T s).2.1 + 1, (oneS T s).2.2) else oneS T s
def memberS (T : ByteArray) (s : Int × Int × Int) (y : Int) : Pat × Int × Int × Int := (rangeP (oneS T s).1 (memberE T s).1, if (memberE T s).1 < (oneS T s).1 then failS T (memberE T s).2 22 y else (memberE T s).2)

end Ex
end Go.Proofs.YtggodknnfpegmaaDoor
namespace Go.Proofs.YtggodknnfpegmaaDoor
open Go.RowKit
attribute [local go_sem] Oper.semAt_some
namespace Ex

/-- Behind the first number: the second one, and the state. -/
def bracesM (T : ByteArray) (a : Int × Int × Int × Int) : Int × Int × Int × Int :=
  if peekP T a.2.1 = 44 then (if peekP T (a.2.1 + 1) = 125 then (-1, a.2.1 + 1, a.2.2) else numberS T (a.2.1 + 1, a.2.2)) else a
def bracesZ (T : ByteArray) (n y : Int) (m : Int × Int × Int × Int) : Int × Int × Int × Int × Int :=
  if peekP T m.2.1 = 125 then (n, m.1, if timesP n m.1 then (m.2.1 + 1, m.2.2) else failS T (m.2.1 + 1, m.2.2) 24 y) else (0, 0, wrongS T m.2)
def bracesS (T : ByteArray) (s : Int × Int × Int) : Int × Int × Int × Int × Int := bracesZ T (numberS T (s.1 + 1, s.2)).1 s.1 (bracesM T (numberS T (s.1 + 1, s.2)))
theorem bracesM_ok {T : ByteArray} {a : Int × Int × Int × Int} (h : OkS T a.2) : OkS T (bracesM T a).2 ∧ a.2.1 ≤ (bracesM T a).2.1 := by
  unfold bracesM
  split
  · rename_i h1
    have h2 := take_ok (T := T) (s := a.2) (c := 44) (by decide) h1
    split
    · exact ⟨h2, by show a.2.1 ≤ a.2.1 + 1; omega⟩
    · have := number_ok h2
      exact ⟨this.1, by have := this.2; show a.2.1 ≤ _; dsimp only at this; omega⟩
  · exact ⟨h, Int.le_refl _⟩
theorem bracesZ_ok {T : ByteArray} {n y : Int} {m : Int × Int × Int × Int} (h : OkS T m.2) : OkS T (bracesZ T n y m).2.2 ∧ m.2.1 ≤ (bracesZ T n y m).2.2.1 := by
  unfold bracesZ
  split
  · rename_i h1
    have h2 := take_ok (T := T) (s := m.2) (c := 125) (by decide) h1
    split
    · exact ⟨h2, by show m.2.1 ≤ m.2.1 + 1; omega⟩
    · exact ⟨fail_ok _ _ _ _, h.2⟩
  · exact ⟨wrong_ok _ _, h.2⟩
theorem braces_ok {T : ByteArray} {s : Int × Int × Int} (h : OkS T (s.1 + 1, s.2)) : OkS T (bracesS T s).2.2 ∧ s.1 < (bracesS T s).2.2.1 := by
  have h1 := number_ok h
  have h2 := bracesM_ok h1.1
  have h3 := bracesZ_ok (n := (numberS T (s.1 + 1, s.2)).1) (y := s.1) h2.1
  refine ⟨h3.1, ?_⟩
  have := h1.2
  have := h2.2
  have := h3.2
  unfold bracesS
  dsimp only at *
  omega

end Ex
end Go.Proofs.YtggodknnfpegmaaDoor
namespace Go.Proofs.YtggodknnfpegmaaDoor
open Go.RowKit
attribute [local go_sem] Oper.semAt_some
namespace Ex

/-- How often: up to m signs. -/
def timesG (T : ByteArray) : Nat → Pat → Int × Int × Int → Pat × Int × Int × Int
  | 0, p, s => (p, s)
  | m + 1, p, s =>
    if peekP T s.1 = 42 then timesG T m (mkP 4 0 0 0 (-1) [p]) (s.1 + 1, s.2)
    else if peekP T s.1 = 43 then timesG T m (mkP 4 0 0 1 (-1) [p]) (s.1 + 1, s.2)
    else if peekP T s.1 = 63 then timesG T m (mkP 4 0 0 0 1 [p]) (s.1 + 1, s.2)
    else if peekP T s.1 = 123 then timesG T m (mkP 4 0 0 (bracesS T s).1 (bracesS T s).2.1 [p]) (bracesS T s).2.2
    else (p, s)
def timesS (T : ByteArray) (p : Pat) (s : Int × Int × Int) : Pat × Int × Int × Int := timesG T 4097 p s

/-- A box of six cells. -/
def BoxAt (w : World) (g : Nat) (x0 x1 x2 x3 x4 x5 : Value) : Prop := w.heap[g]? = some (.cells #[x0, x1, x2, x3, x4, x5] 97 (0, 0))
theorem BoxAt.facts {w : World} {g : Nat} {x0 x1 x2 x3 x4 x5 : Value} (h : BoxAt w g x0 x1 x2 x3 x4 x5) :
    (w.cell? ⟨g, 0, none⟩ = some x0 ∧ w.cell? ⟨g, 1, none⟩ = some x1 ∧ w.cell? ⟨g, 2, none⟩ = some x2 ∧ w.cell? ⟨g, 3, none⟩ = some x3 ∧ w.cell? ⟨g, 4, none⟩ = some x4 ∧ w.cell? ⟨g, 5, none⟩ = some x5) ∧
    w.frozen? ⟨g, 0, none⟩ = false ∧ w.frozen? ⟨g, 1, none⟩ = false ∧ w.frozen? ⟨g, 2, none⟩ = false ∧ w.frozen? ⟨g, 3, none⟩ = false ∧ w.frozen? ⟨g, 4, none⟩ = false ∧ w.frozen? ⟨g, 5, none⟩ = false := by
  unfold BoxAt at h
  refine ⟨⟨?_, ?_, ?_, ?_, ?_, ?_⟩, ?_, ?_, ?_, ?_, ?_, ?_⟩ <;> simp [World.cell?, World.frozen?, h]
theorem BoxAt.lt {w : World} {g : Nat} {x0 x1 x2 x3 x4 x5 : Value} (h : BoxAt w g x0 x1 x2 x3 x4 x5) : g < w.heap.size := (Array.getElem?_eq_some_iff.1 h).1
theorem BoxAt.but {b : Nat} {w w' : World} {g : Nat} {x0 x1 x2 x3 x4 x5 : Value} (h : BoxAt w g x0 x1 x2 x3 x4 x5) (hk : KeptBut b w w') (hg : g ≠ b) : BoxAt w' g x0 x1 x2 x3 x4 x5 := (hk.2.2.2.2 g h.lt hg).trans h
theorem BoxAt.keep {w w' : World} {g : Nat} {x0 x1 x2 x3 x4 x5 : Value} (h : BoxAt w g x0 x1 x2 x3 x4 x5) (hk : Kept w w') : BoxAt w' g x0 x1 x2 x3 x4 x5 := (hk.2.2.2.2 g h.lt).trans h
theorem BoxAt.new (w : World) (x0 x1 x2 x3 x4 x5 : Value) : BoxAt (w.alloc (.cells #[x0, x1, x2, x3, x4, x5] 97)) w.heap.size x0 x1 x2 x3 x4 x5 := heap_alloc_new w _
theorem BoxAt.set {W : World} {g : Nat} {y0 y1 y2 y3 y4 y5 x0 x1 x2 x3 x4 x5 : Value} (h : BoxAt W g y0 y1 y2 y3 y4 y5) : BoxAt ((((((W.setCell ⟨g, 0, none⟩ x0).setCell ⟨g, 1, none⟩ x1).setCell ⟨g, 2, none⟩ x2).setCell ⟨g, 3, none⟩ x3).setCell ⟨g, 4, none⟩ x4).setCell ⟨g, 5, none⟩ x5) g x0 x1 x2 x3 x4 x5 := box_full h
theorem set6_other {W : World} {g d : Nat} {x0 x1 x2 x3 x4 x5 : Value} (hd : d ≠ g) : ((((((W.setCell ⟨g, 0, none⟩ x0).setCell ⟨g, 1, none⟩ x1).setCell ⟨g, 2, none⟩ x2).setCell ⟨g, 3, none⟩ x3).setCell ⟨g, 4, none⟩ x4).setCell ⟨g, 5, none⟩ x5).heap[d]? = W.heap[d]? := by
  rw [Below.heap_setCell _ _ _ _ hd, Below.heap_setCell _ _ _ _ hd, Below.heap_setCell _ _ _ _ hd, Below.heap_setCell _ _ _ _ hd, Below.heap_setCell _ _ _ _ hd, Below.heap_setCell _ _ _ _ hd]
theorem BoxAt.other {W : World} {g d : Nat} {y0 y1 y2 y3 y4 y5 x0 x1 x2 x3 x4 x5 : Value} (h : BoxAt W d y0 y1 y2 y3 y4 y5) (hd : d ≠ g) : BoxAt ((((((W.setCell ⟨g, 0, none⟩ x0).setCell ⟨g, 1, none⟩ x1).setCell ⟨g, 2, none⟩ x2).setCell ⟨g, 3, none⟩ x3).setCell ⟨g, 4, none⟩ x4).setCell ⟨g, 5, none⟩ x5) d y0 y1 y2 y3 y4 y5 := (set6_other hd).trans h
theorem set6_holds {S : Nat → Prop} {W : World} {g : Nat} {x0 x1 x2 x3 x4 x5 : Value} (hS : ¬ S g) : Holds S W ((((((W.setCell ⟨g, 0, none⟩ x0).setCell ⟨g, 1, none⟩ x1).setCell ⟨g, 2, none⟩ x2).setCell ⟨g, 3, none⟩ x3).setCell ⟨g, 4, none⟩ x4).setCell ⟨g, 5, none⟩ x5) := by
  intro d o v hd hc
  rw [← hc]
  exact World.cell?_of_block (a := ⟨d, o, none⟩) (set6_other (fun e => hS (e ▸ hd)))

theorem valOf_mkP (k f t mn mx : Int) (l : List Pat) (u : Value) : valOf (mkP k f t mn mx l).2 u = .agg #[.int .i64 k, .int .i64 f, .int .i64 t, .int .i64 mn, .int .i64 mx, u] := rfl
end Ex
end Go.Proofs.YtggodknnfpegmaaDoor
namespace Go.Proofs.YtggodknnfpegmaaDoor
open Go.RowKit
attribute [local go_sem] Oper.semAt_some
namespace Ex

theorem expr_info : (Tryd.prog.info? 97).map (fun i => (i.zero, i.size, i.bytes)) = some (some (.agg #[.int .i64 0, .int .i64 0, .int .i64 0, .int .i64 0, .int .i64 0, .slice none 0 0]), 6, 64) := by kernel_rfl
theorem info_parts {P : Program} {e : TypeId} {z : Value} {s b : Nat} (h : (P.info? e).map (fun i => (i.zero, i.size, i.bytes)) = some (some z, s, b)) : ∃ i, P.info? e = some i ∧ i.zero = some z ∧ i.size = s ∧ i.bytes = b := by
  obtain ⟨i, hi, h2⟩ := Option.map_eq_some_iff.1 h
  simp only [Prod.mk.injEq] at h2
  exact ⟨i, hi, h2.1, h2.2.1, h2.2.2⟩
/-- A list of patterns of the call's own, at v; what they hold lies in S, and not in the list's own block. -/
def PatsOwn (w : World) (base : Nat) (S : Nat → Prop) (v : Value) (l : List Pat) : Prop := ∃ xs, w.ownsRow base 97 6 v l.length xs ∧ FlatAt (fun d => S d ∧ v.ownBlock ≠ some d) w l xs
theorem PatsOwn.nil (w : World) (base : Nat) (S : Nat → Prop) : PatsOwn w base S (.slice none 0 0) [] := ⟨[], World.ownsRow_nil _ _ _ _, rfl⟩
theorem owns_same {w w' : World} {base size n : Nat} {e : TypeId} {v : Value} {xs : List Value} (h : w.ownsRow base e size v n xs) (hh : ∀ g, v.ownBlock = some g → w'.heap[g]? = w.heap[g]?) : w'.ownsRow base e size v n xs := by
  refine ⟨h.1, ?_⟩
  rcases h.2 with h0 | ⟨g, cap, cur, rfl, h1, h2, h3⟩
  · exact .inl h0
  · exact .inr ⟨g, cap, cur, rfl, h1, by rw [hh g rfl]; exact h2, h3⟩
theorem PatsOwn.form {w : World} {base : Nat} {S : Nat → Prop} {v : Value} {l : List Pat} (h : PatsOwn w base S v l) : ∃ a c, v = .slice a l.length c := by
  obtain ⟨xs, h, _⟩ := h
  rcases h.2 with ⟨rfl, h0⟩ | ⟨g, cap, cur, rfl, _⟩
  · exact ⟨none, 0, by rw [h0]⟩
  · exact ⟨_, _, rfl⟩
theorem PatsOwn.but {b base : Nat} {w w' : World} {S : Nat → Prop} {v : Value} {l : List Pat} (h : PatsOwn w base S v l) (hk : KeptBut b w w') (hb : b < base) (hS : ¬ S b) : PatsOwn w' base S v l := by
  obtain ⟨xs, h1, h2⟩ := h
  exact ⟨xs, owns_same h1 (fun g hg => hk.2.2.2.2 g (h1.lt g hg).2 (by have := (h1.lt g hg).1; omega)), h2.mono (hk.holds (fun h => hS h.1)) (fun _ h => h)⟩
theorem PatsOwn.keep {base : Nat} {w w' : World} {S : Nat → Prop} {v : Value} {l : List Pat} (h : PatsOwn w base S v l) (hk : Kept w w') : PatsOwn w' base S v l := by
  obtain ⟨xs, h1, h2⟩ := h
  exact ⟨xs, owns_same h1 (fun g hg => hk.2.2.2.2 g (h1.lt g hg).2), h2.mono (hk.holds _) (fun _ h => h)⟩
theorem PatsOwn.lt {base : Nat} {w : World} {S : Nat → Prop} {v : Value} {l : List Pat} (h : PatsOwn w base S v l) : ∀ g, v.ownBlock = some g → base ≤ g ∧ g < w.heap.size := by
  obtain ⟨xs, h1, _⟩ := h
  exact h1.lt
/-- The list of one. -/
theorem PatsOwn.one {w : World} {base g : Nat} {S : Nat → Prop} {p : Pat} {u : Value} (h : BoxAt w g (.int .i64 (kind p.2)) (.int .i64 (from_ p.2)) (.int .i64 (to_ p.2)) (.int .i64 (min_ p.2)) (.int .i64 (max_ p.2)) u) (hg : base ≤ g) (hk : KidsAt (fun d => S d ∧ d ≠ g) w p.1 (kids p.2) u) :
    PatsOwn w base S (.slice (some ⟨g, 0, none⟩) 1 1) [p] := by
  refine ⟨cellsP p u, ⟨rfl, .inr ⟨g, 1, _, rfl, hg, h, Nat.le_refl _, by unfold maxLen; omega, rfl, rfl⟩⟩, ?_⟩
  exact one_flat (KidsAt.mono (fun _ _ _ _ h => h) (fun d hd => ⟨hd.1, fun e => hd.2 (by simp only [Value.ownBlock, Option.some.injEq] at e; exact e.symm)⟩) _ _ _ hk)
theorem row_cells {w : World} {g n : Nat} {cur : Array Value} {xs : List Value} {t : TypeId} (h : w.heap[g]? = some (.cells cur t (0, 0))) (hx : cur.toList.take n = xs) : ∀ j u, xs[j]? = some u → w.cell? ⟨g, 0 + j, none⟩ = some u := by
  intro j u hj
  rw [← hx, List.getElem?_take] at hj
  split at hj
  · unfold World.cell?
    rw [Nat.zero_add]
    simp only [h]
    simpa using hj
  · cases hj
theorem PatsOwn.kids {base m : Nat} {w : World} {S : Nat → Prop} {v : Value} {l : List Pat} (h : PatsOwn w base S v l) (hS : ∀ d, base ≤ d → S d) (hm : topL l ≤ m) (hl : l.length ≤ 17592186044416) : KidsAt S w m (kidsOf m l) v := by
  obtain ⟨xs, h1, h2⟩ := h
  rcases h1.2 with ⟨rfl, h0⟩ | ⟨g, cap, cur, rfl, hb, hg, hc, _, _, hx⟩
  · have : l = [] := List.length_eq_zero_iff.1 h0
    subst this
    exact kids_nil _ _ _ _ _ _ rfl
  · exact (h2.mono (S' := S) (fun _ _ _ _ h => h) (fun d h => h.1)).kids (row_cells hg hx) (hS g hb) hm hl hc
theorem PatsOwn.first {base : Nat} {w : World} {S : Nat → Prop} {v : Value} {p : Pat} {l : List Pat} (h : PatsOwn w base S v (p :: l)) : ∃ g cap u, v = .slice (some ⟨g, 0, none⟩) (l.length + 1) cap ∧ l.length + 1 ≤ cap ∧ (w.cell? ⟨g, 0, none⟩ = some (.int .i64 (kind p.2)) ∧ w.cell? ⟨g, 1, none⟩ = some (.int .i64 (from_ p.2)) ∧ w.cell? ⟨g, 2, none⟩ = some (.int .i64 (to_ p.2)) ∧ w.cell? ⟨g, 3, none⟩ = some (.int .i64 (min_ p.2)) ∧ w.cell? ⟨g, 4, none⟩ = some (.int .i64 (max_ p.2)) ∧ w.cell? ⟨g, 5, none⟩ = some u) ∧ KidsAt S w p.1 (Ex.kids p.2) u := by
  obtain ⟨xs, h1, h2⟩ := h
  rcases h1.2 with ⟨rfl, h0⟩ | ⟨g, cap, cur, rfl, hb, hg, hc, _, _, hx⟩
  · simp at h0
  · obtain ⟨u, a0, a1, a2, a3, a4, a5, hk⟩ := h2.at (i := 0) (p := p) rfl
    have hh := row_cells hg hx
    refine ⟨g, cap, u, rfl, hc, ⟨?_, ?_, ?_, ?_, ?_, ?_⟩, KidsAt.mono (fun _ _ _ _ h => h) (fun d h => h.1) _ _ _ hk⟩
    · exact hh _ _ a0
    · exact hh _ _ a1
    · exact hh _ _ a2
    · exact hh _ _ a3
    · exact hh _ _ a4
    · exact hh _ _ a5
/-- What an append leaves: all but the list's own block. -/
theorem KeptBut.grown {b base : Nat} {w0 w w' : World} {S : Nat → Prop} {v : Value} {l : List Pat} (h : KeptBut b w0 w) (ho : PatsOwn w base S v l) (hb : w0.heap.size ≤ base) (hg : w.grownBy w' v.ownBlock) : KeptBut b w0 w' :=
  ⟨hg.os.trans h.1, hg.tape.trans h.2.1, hg.output.trans h.2.2.1, Nat.le_trans h.2.2.2.1 hg.size, fun k hk hn => (hg.block k (Nat.lt_of_lt_of_le hk h.2.2.2.1) (fun e => by have := (ho.lt k e.symm).1; omega)).trans (h.2.2.2.2 k hk hn)⟩
theorem heap_grown {base k : Nat} {w w' : World} {S : Nat → Prop} {v : Value} {l : List Pat} (ho : PatsOwn w base S v l) (hg : w.grownBy w' v.ownBlock) (hk : k < base) (hl : k < w.heap.size) : w'.heap[k]? = w.heap[k]? :=
  hg.block k hl (fun e => by have := (ho.lt k e.symm).1; omega)
theorem wpl_append_pat {ops : Array Oper} {rest : List Oper} {o : Oper} {a : Act} {Q : Exit → Act → World → Prop} (hgd : o.guard = none) (s x : Operand)
    (ho : o.op = .call { callee := .builtin .append, args := #[s, x], argTypes := #[95, 95] }) (W : World) (base : Nat) (S : Nat → Prop) (v : Value) (l : List Pat) (n : Nat) (hn : l.length = n) (hs : a.eval s = v) (hown : PatsOwn W base S v l)
    (lb : Nat) (p : Pat) (u : Value) (hx : a.eval x = .slice (some ⟨lb, 0, none⟩) 1 1) (hbx : BoxAt W lb (.int .i64 (kind p.2)) (.int .i64 (from_ p.2)) (.int .i64 (to_ p.2)) (.int .i64 (min_ p.2)) (.int .i64 (max_ p.2)) u)
    (hk : KidsAt (fun d => S d ∧ v.ownBlock ≠ some d) W p.1 (kids p.2) u) (hl : l.length ≤ 100000) (hbase : base ≤ W.heap.size)
    (h : ∀ g cap w', PatsOwn w' base S (.slice (some ⟨g, 0, none⟩) (n + 1) cap) (l ++ [p]) → W.grownBy w' v.ownBlock → wpList Tryd.prog ops Q rest (a.put o.dst (.slice (some ⟨g, 0, none⟩) (n + 1) cap)) w') : wpList Tryd.prog ops Q (o :: rest) a W := by
  obtain ⟨i0, hi, hz0, hz1, hz2⟩ := info_parts expr_info
  obtain ⟨xs, h1, h2⟩ := hown
  subst hn
  obtain ⟨⟨c0, c1, c2, c3, c4, c5⟩, _⟩ := hbx.facts
  obtain ⟨au, lu, cu, hu⟩ : ∃ a l c, u = .slice a l c := by obtain ⟨a, c, h⟩ := hk.form; exact ⟨_, _, _, h⟩
  refine wpList_append_lies W hgd s x 95 ho base 97 i0 _ 6 64 Tryd.underlying95 hi hz0 hz1 hz2 rfl (by decide) v l.length xs hs h1 ⟨lb, 0, none⟩ 1 1 (cellsP p u) hx rfl ?_ ?_ (by decide) (by unfold maxLen; omega) (by omega) hbase W.heap.size rfl ?_
  · intro j y hj
    have hj6 : j < 6 := (List.getElem?_eq_some_iff.1 hj).1
    match j, hj6 with
    | 0, _ => exact c0.trans hj
    | 1, _ => exact c1.trans hj
    | 2, _ => exact c2.trans hj
    | 3, _ => exact c3.trans hj
    | 4, _ => exact c4.trans hj
    | 5, _ => exact c5.trans hj
  · intro y hy
    subst hu
    simp only [cellsP, List.mem_cons, List.not_mem_nil, or_false] at hy
    rcases hy with rfl | rfl | rfl | rfl | rfl | rfl <;> rfl
  · intro g cap w' h3 h4 h5 h6
    refine h g cap w' ⟨xs ++ cellsP p u, by rw [List.length_append, List.length_singleton]; exact h3, ?_⟩ h4
    have hflat := (h2.snoc hk).tight
    refine hflat.mono ?_ ?_
    · intro d o' v' hd hc
      exact h4.cell hc (fun e => hd.1.2 e.symm)
    · intro d hd
      refine ⟨hd.1.1, fun e => ?_⟩
      simp only [Value.ownBlock, Option.some.injEq] at e
      rcases h5 with h5 | h5
      · exact hd.1.2 (by rw [h5, e])
      · have := hd.2; omega

end Ex
end Go.Proofs.YtggodknnfpegmaaDoor
namespace Go.Proofs.YtggodknnfpegmaaDoor
open Go.RowKit
attribute [local go_sem] Oper.semAt_some
namespace Ex

/-- One pattern by itself, or a list of that kind. -/
def oneOf (k : Int) : List Pat → Pat
  | [p] => p
  | l => mkP k 0 0 0 0 l
/-- The members of a class behind the first one. -/
def classG (T : ByteArray) (y : Int) : Nat → List Pat → Int × Int × Int → List Pat × Int × Int × Int
  | 0, l, s => (l, s)
  | m + 1, l, s => if s.2.1 = 0 then (if peekP T s.1 = 93 then (l, s.1 + 1, s.2) else classG T y m (l ++ [(memberS T s y).1]) (memberS T s y).2) else (l, s)
def classL (T : ByteArray) (s : Int × Int × Int) : List Pat × Int × Int × Int := classG T s.1 4098 [(memberS T (s.1 + 1, s.2) s.1).1] (memberS T (s.1 + 1, s.2) s.1).2
def classS (T : ByteArray) (s : Int × Int × Int) : Pat × Int × Int × Int := (oneOf 3 (classL T s).1, (classL T s).2)

theorem failE_ne {e x : Int} (hx : x ≠ 0) : failE e x ≠ 0 := by unfold failE; split <;> assumption
theorem wrongC_ne (T : ByteArray) (k : Int) : wrongC T k ≠ 0 := by unfold wrongC; split <;> decide
theorem one_go {T : ByteArray} {s : Int × Int × Int} : s.1 < (oneS T s).2.1 ∨ (oneS T s).2.2.1 ≠ 0 := by
  unfold oneS
  split
  · left; show s.1 < s.1 + 1; omega
  · right; exact failE_ne (wrongC_ne _ _)
theorem one_err {T : ByteArray} {s : Int × Int × Int} (h : s.2.1 ≠ 0) : (oneS T s).2.2.1 ≠ 0 := by
  unfold oneS
  split
  · exact h
  · exact failE_ne (wrongC_ne _ _)
theorem memberE_ok {T : ByteArray} {s : Int × Int × Int} (h : OkS T s) : OkS T (memberE T s).2 ∧ s.1 ≤ (memberE T s).2.1 ∧ (s.1 < (memberE T s).2.1 ∨ (memberE T s).2.2.1 ≠ 0) := by
  have h1 := one_ok h
  have h2 := one_go (T := T) (s := s)
  unfold memberE
  split
  · rename_i hc
    have h3 := one_ok (take_ok (T := T) (s := (oneS T s).2) (c := 45) (by decide) hc)
    have h4 := h1.2
    have h5 := h3.2
    dsimp only at h5
    exact ⟨h3.1, by omega, Or.inl (by omega)⟩
  · exact ⟨h1.1, h1.2, h2⟩
theorem member_ok {T : ByteArray} {s : Int × Int × Int} {y : Int} (h : OkS T s) : OkS T (memberS T s y).2 ∧ s.1 ≤ (memberS T s y).2.1 ∧ (s.1 < (memberS T s y).2.1 ∨ (memberS T s y).2.2.1 ≠ 0) := by
  have h1 := memberE_ok h
  have e : (memberS T s y).2 = if (memberE T s).1 < (oneS T s).1 then failS T (memberE T s).2 22 y else (memberE T s).2 := rfl
  rw [e]
  split
  · exact ⟨fail_ok _ _ _ _, h.2, Or.inr (failE_ne (by decide))⟩
  · exact h1

theorem rangeP_inj {a b x y : Int} (h : rangeP a b = rangeP x y) : a = x ∧ b = y := ⟨congrArg (fun p : Pat => from_ p.2) h, congrArg (fun p : Pat => to_ p.2) h⟩
theorem box_moved {b o : Nat} {w w' : World} {v : Value} (h : KeptBut b ((w.setCell ⟨b, o, none⟩ v).alloc (.cells #[.int .i64 0, .int .i64 0, .int .i64 0, .int .i64 0, .int .i64 0, .slice none 0 0] 97)) w') (hb : b < w.heap.size) : BoxAt w' w.heap.size (.int .i64 0) (.int .i64 0) (.int .i64 0) (.int .i64 0) (.int .i64 0) (.slice none 0 0) := by
  have e : (w.setCell ⟨b, o, none⟩ v).heap.size = w.heap.size := by simp [World.setCell]
  have := box_kept h (by rw [e]; exact hb)
  rw [e] at this
  exact this

theorem PatsOwn.nonnil {base n cap : Nat} {w : World} {S : Nat → Prop} {a : Option Addr} {q : Pat} {l : List Pat} (h : PatsOwn w base S (.slice a n cap) (q :: l)) : ∃ g, a = some ⟨g, 0, none⟩ ∧ 1 ≤ cap := by
  obtain ⟨g, c, u, e, hc, _⟩ := h.first
  simp only [Value.slice.injEq] at e
  exact ⟨g, e.1, by omega⟩
theorem PatsOwn.one_facts {base n cap g : Nat} {w : World} {S : Nat → Prop} {q : Pat} {l : List Pat} (h : PatsOwn w base S (.slice (some ⟨g, 0, none⟩) n cap) (q :: l)) : ∃ u, (w.cell? ⟨g, 0, none⟩ = some (.int .i64 (kind q.2)) ∧ w.cell? ⟨g, 1, none⟩ = some (.int .i64 (from_ q.2)) ∧ w.cell? ⟨g, 2, none⟩ = some (.int .i64 (to_ q.2)) ∧ w.cell? ⟨g, 3, none⟩ = some (.int .i64 (min_ q.2)) ∧ w.cell? ⟨g, 4, none⟩ = some (.int .i64 (max_ q.2)) ∧ w.cell? ⟨g, 5, none⟩ = some u) ∧ KidsAt S w q.1 (Ex.kids q.2) u := by
  obtain ⟨g', c, u, e, _, hc, hk⟩ := h.first
  simp only [Value.slice.injEq, Option.some.injEq, Addr.mk.injEq] at e
  obtain ⟨⟨rfl, _⟩, _⟩ := e
  exact ⟨u, hc, hk⟩
def errOf (b : Nat) (w : World) : Int := intOf ((w.cell? ⟨b, 2, none⟩).getD (.int .i64 0))
def classB (k1 : Int) (j : Nat) (k2 e2 : Int) : Prop := k1 + (j : Int) ≤ k2 + (if e2 ≠ 0 then 1 else 0)
theorem oneOf_more {k : Int} {l : List Pat} (h : l.length ≠ 1) : oneOf k l = mkP k 0 0 0 0 l := by
  match l, h with
  | [], _ => rfl
  | [_], h => exact absurd rfl h
  | _ :: _ :: _, _ => rfl
theorem list_more {l : List Pat} {g : Pat} : (l ++ [g]).length = l.length + 1 := by simp
theorem list_one {l : List Pat} (h : l.length = 1) : ∃ p, l = [p] := List.length_eq_one_iff.1 h
/-- The list as the kids of a pattern that is answered. -/
theorem end_list {w wr : World} {l : List Pat} {v : Value} {kd : Int} (ho : PatsOwn wr (w.heap.size + 1) (fun d => w.heap.size < d) v l) (hl : l.length ≠ 1) (hb : l.length ≤ 100000) :
    PGives (fun d => w.heap.size ≤ d) (oneOf kd l) (.returned (.agg #[.int .i64 kd, .int .i64 0, .int .i64 0, .int .i64 0, .int .i64 0, v])) ((((((wr.setCell ⟨w.heap.size, 0, none⟩ (.int .i64 kd)).setCell ⟨w.heap.size, 1, none⟩ (.int .i64 0)).setCell ⟨w.heap.size, 2, none⟩ (.int .i64 0)).setCell ⟨w.heap.size, 3, none⟩ (.int .i64 0)).setCell ⟨w.heap.size, 4, none⟩ (.int .i64 0)).setCell ⟨w.heap.size, 5, none⟩ v) := by
  rw [oneOf_more hl]
  exact ⟨_, rfl, v, rfl, KidsAt.mono (set6_holds (S := fun d => w.heap.size < d) (fun h => absurd h (by omega))) (fun d h => by omega) _ _ _ (ho.kids (fun d h => by omega) (Nat.le_refl _) (by omega))⟩
theorem end_one {w wr : World} {p : Pat} {u : Value} {kd : Int} {x0 x1 x2 x3 x4 x5 : Value} (hk : KidsAt (fun d => w.heap.size < d) wr p.1 (kids p.2) u) :
    PGives (fun d => w.heap.size ≤ d) (oneOf kd [p]) (.returned (.agg #[.int .i64 (kind p.2), .int .i64 (from_ p.2), .int .i64 (to_ p.2), .int .i64 (min_ p.2), .int .i64 (max_ p.2), u])) ((((((wr.setCell ⟨w.heap.size, 0, none⟩ x0).setCell ⟨w.heap.size, 1, none⟩ x1).setCell ⟨w.heap.size, 2, none⟩ x2).setCell ⟨w.heap.size, 3, none⟩ x3).setCell ⟨w.heap.size, 4, none⟩ x4).setCell ⟨w.heap.size, 5, none⟩ x5) :=
  ⟨_, rfl, u, rfl, KidsAt.mono (set6_holds (S := fun d => w.heap.size < d) (fun h => absurd h (by omega))) (fun d h => by omega) _ _ _ hk⟩

end Ex
end Go.Proofs.YtggodknnfpegmaaDoor
namespace Go.Proofs.YtggodknnfpegmaaDoor
open Go.RowKit
attribute [local go_sem] Oper.semAt_some
namespace Ex

def zeroP : Pat := mkP 0 0 0 0 0 []
/-- An atom, by what reads a pattern. -/
def atomS (pat : Int × Int × Int → Pat × Int × Int × Int) (T : ByteArray) (s : Int × Int × Int) : Pat × Int × Int × Int :=
  if peekP T s.1 = 91 then classS T s
  else if peekP T s.1 = 46 then (rangeP 0 255, s.1 + 1, s.2)
  else if peekP T s.1 = 40 then ((pat (s.1 + 1, s.2)).1, if peekP T (pat (s.1 + 1, s.2)).2.1 = 41 then ((pat (s.1 + 1, s.2)).2.1 + 1, (pat (s.1 + 1, s.2)).2.2) else wrongS T (pat (s.1 + 1, s.2)).2)
  else if plainP (peekP T s.1) then (rangeP (peekP T s.1) (peekP T s.1), s.1 + 1, s.2)
  else (zeroP, wrongS T s)
def PatOk (T : ByteArray) (N : Nat) (pat : Int × Int × Int → Pat × Int × Int × Int) : Prop := ∀ s, OkS T s → (T.size : Int) < s.1 + (N : Int) → OkS T (pat s).2 ∧ s.1 ≤ (pat s).2.1

end Ex
end Go.Proofs.YtggodknnfpegmaaDoor
namespace Go.Proofs.YtggodknnfpegmaaDoor
open Go.RowKit
attribute [local go_sem] Oper.semAt_some
namespace Ex

theorem timesG_ok {T : ByteArray} : ∀ (m : Nat) (p : Pat) (s : Int × Int × Int), OkS T s → OkS T (timesG T m p s).2 ∧ s.1 ≤ (timesG T m p s).2.1
  | 0, p, s, h => ⟨h, Int.le_refl _⟩
  | m + 1, p, s, h => by
    have go : ∀ (p' : Pat) (c : Int), c ≠ 0 → peekP T s.1 = c → OkS T (timesG T m p' (s.1 + 1, s.2)).2 ∧ s.1 ≤ (timesG T m p' (s.1 + 1, s.2)).2.1 := by
      intro p' c hc hp
      have h1 := timesG_ok m p' (s.1 + 1, s.2) (take_ok hc hp)
      have h2 := h1.2
      dsimp only at h2
      exact ⟨h1.1, by omega⟩
    rw [timesG]
    split
    · rename_i hc; exact go _ 42 (by decide) hc
    · split
      · rename_i hc; exact go _ 43 (by decide) hc
      · split
        · rename_i hc; exact go _ 63 (by decide) hc
        · split
          · rename_i hc
            have h1 := braces_ok (take_ok (T := T) (s := s) (c := 123) (by decide) hc)
            have h2 := timesG_ok m (mkP 4 0 0 (bracesS T s).1 (bracesS T s).2.1 [p]) (bracesS T s).2.2 h1.1
            exact ⟨h2.1, by have := h1.2; have := h2.2; omega⟩
          · exact ⟨h, Int.le_refl _⟩
theorem classG_ok {T : ByteArray} {y : Int} : ∀ (m : Nat) (l : List Pat) (s : Int × Int × Int), OkS T s → OkS T (classG T y m l s).2 ∧ s.1 ≤ (classG T y m l s).2.1
  | 0, l, s, h => ⟨h, Int.le_refl _⟩
  | m + 1, l, s, h => by
    rw [classG]
    split
    · split
      · rename_i hc
        exact ⟨take_ok (T := T) (s := s) (c := 93) (by decide) hc, by show s.1 ≤ s.1 + 1; omega⟩
      · have h1 := member_ok (y := y) h
        have h2 := classG_ok (y := y) m (l ++ [(memberS T s y).1]) (memberS T s y).2 h1.1
        exact ⟨h2.1, by have := h1.2.1; have := h2.2; omega⟩
    · exact ⟨h, Int.le_refl _⟩
theorem class_ok {T : ByteArray} {s : Int × Int × Int} (h : OkS T (s.1 + 1, s.2)) : OkS T (classS T s).2 ∧ s.1 < (classS T s).2.1 := by
  have h1 := member_ok (y := s.1) h
  have h2 := classG_ok (y := s.1) 4098 [(memberS T (s.1 + 1, s.2) s.1).1] (memberS T (s.1 + 1, s.2) s.1).2 h1.1
  have h3 := h1.2.1
  dsimp only at h3
  exact ⟨h2.1, by have := h2.2; show s.1 < (classL T s).2.1; unfold classL; omega⟩
theorem atom_ok {T : ByteArray} {N : Nat} {pat : Int × Int × Int → Pat × Int × Int × Int} (hP : PatOk T N pat) {s : Int × Int × Int} (h : OkS T s) (hlt : s.1 < T.size) (hN : (T.size : Int) < s.1 + ((N + 1 : Nat) : Int)) : OkS T (atomS pat T s).2 ∧ s.1 < (atomS pat T s).2.1 := by
  have h0 := h.1
  have h1 : OkS T (s.1 + 1, s.2) := ⟨by show 0 ≤ s.1 + 1; omega, by show s.1 + 1 ≤ _; omega⟩
  unfold atomS
  split
  · exact class_ok h1
  · split
    · exact ⟨h1, by show s.1 < s.1 + 1; omega⟩
    · split
      · have h2 := hP (s.1 + 1, s.2) h1 (by show (T.size : Int) < s.1 + 1 + N; omega)
        have h3 := h2.2
        dsimp only at h3
        dsimp only
        split
        · rename_i hc
          exact ⟨take_ok (T := T) (s := (pat (s.1 + 1, s.2)).2) (c := 41) (by decide) hc, by show s.1 < (pat (s.1 + 1, s.2)).2.1 + 1; omega⟩
        · exact ⟨wrong_ok _ _, hlt⟩
      · split
        · exact ⟨h1, by show s.1 < s.1 + 1; omega⟩
        · exact ⟨wrong_ok _ _, hlt⟩
/-- An atom and how often it stands. -/
def itemS (pat : Int × Int × Int → Pat × Int × Int × Int) (T : ByteArray) (s : Int × Int × Int) : Pat × Int × Int × Int := timesS T (atomS pat T s).1 (atomS pat T s).2
theorem item_ok {T : ByteArray} {N : Nat} {pat : Int × Int × Int → Pat × Int × Int × Int} (hP : PatOk T N pat) {s : Int × Int × Int} (h : OkS T s) (hlt : s.1 < T.size) (hN : (T.size : Int) < s.1 + ((N + 1 : Nat) : Int)) : OkS T (itemS pat T s).2 ∧ s.1 < (itemS pat T s).2.1 := by
  have h1 := atom_ok hP h hlt hN
  have h2 := timesG_ok 4097 (atomS pat T s).1 (atomS pat T s).2 h1.1
  exact ⟨h2.1, by have := h1.2; have := h2.2; show s.1 < (timesS T (atomS pat T s).1 (atomS pat T s).2).2.1; unfold timesS; omega⟩
abbrev rowGo (T : ByteArray) (k : Int) : Prop := k < T.size ∧ peekP T k ≠ 124 ∧ peekP T k ≠ 41
def rowG (A : Int × Int × Int → Pat × Int × Int × Int) (T : ByteArray) : Nat → List Pat → Int × Int × Int → List Pat × Int × Int × Int
  | 0, l, s => (l, s)
  | m + 1, l, s => if rowGo T s.1 then rowG A T m (l ++ [(A s).1]) (A s).2 else (l, s)
def rowS (A : Int × Int × Int → Pat × Int × Int × Int) (T : ByteArray) (s : Int × Int × Int) : Pat × Int × Int × Int := (oneOf 2 (rowG A T 4097 [] s).1, (rowG A T 4097 [] s).2)
theorem rowG_ok {T : ByteArray} {N : Nat} {A : Int × Int × Int → Pat × Int × Int × Int} (hA : ∀ s, OkS T s → s.1 < T.size → (T.size : Int) < s.1 + (N : Int) → OkS T (A s).2 ∧ s.1 < (A s).2.1) : ∀ (m : Nat) (l : List Pat) (s : Int × Int × Int), OkS T s → (T.size : Int) < s.1 + (N : Int) → OkS T (rowG A T m l s).2 ∧ s.1 ≤ (rowG A T m l s).2.1
  | 0, l, s, h, _ => ⟨h, Int.le_refl _⟩
  | m + 1, l, s, h, hN => by
    rw [rowG]
    split
    · rename_i hg
      have h1 := hA s h hg.1 hN
      have h2 := h1.2
      have h3 := rowG_ok hA m (l ++ [(A s).1]) (A s).2 h1.1 (by omega)
      exact ⟨h3.1, by have := h3.2; omega⟩
    · exact ⟨h, Int.le_refl _⟩
def patG (R : Int × Int × Int → Pat × Int × Int × Int) (T : ByteArray) : Nat → List Pat → Int × Int × Int → List Pat × Int × Int × Int
  | 0, l, s => (l, s)
  | m + 1, l, s => if peekP T s.1 = 124 then patG R T m (l ++ [(R (s.1 + 1, s.2)).1]) (R (s.1 + 1, s.2)).2 else (l, s)
def patL (R : Int × Int × Int → Pat × Int × Int × Int) (T : ByteArray) (s : Int × Int × Int) : List Pat × Int × Int × Int := patG R T 4097 [(R s).1] (R s).2
def patO (R : Int × Int × Int → Pat × Int × Int × Int) (T : ByteArray) (s : Int × Int × Int) : Pat × Int × Int × Int := (oneOf 3 (patL R T s).1, (patL R T s).2)
def patS (T : ByteArray) : Nat → Int × Int × Int → Pat × Int × Int × Int
  | 0, s => (zeroP, s)
  | N + 1, s => patO (rowS (itemS (patS T N) T) T) T s
theorem patG_ok {T : ByteArray} {N : Nat} {R : Int × Int × Int → Pat × Int × Int × Int} (hR : ∀ s, OkS T s → (T.size : Int) < s.1 + (N : Int) → OkS T (R s).2 ∧ s.1 ≤ (R s).2.1) : ∀ (m : Nat) (l : List Pat) (s : Int × Int × Int), OkS T s → (T.size : Int) < s.1 + (N : Int) → OkS T (patG R T m l s).2 ∧ s.1 ≤ (patG R T m l s).2.1
  | 0, l, s, h, _ => ⟨h, Int.le_refl _⟩
  | m + 1, l, s, h, hN => by
    rw [patG]
    split
    · rename_i hc
      have h1 := hR (s.1 + 1, s.2) (take_ok (T := T) (s := s) (c := 124) (by decide) hc) (by show (T.size : Int) < s.1 + 1 + N; omega)
      have h2 := h1.2
      dsimp only at h2
      have h3 := patG_ok hR m (l ++ [(R (s.1 + 1, s.2)).1]) (R (s.1 + 1, s.2)).2 h1.1 (by omega)
      exact ⟨h3.1, by have := h3.2; omega⟩
    · exact ⟨h, Int.le_refl _⟩
theorem pat_ok {T : ByteArray} : ∀ N, PatOk T N (patS T N) := by
  intro N
  induction N with
  | zero => intro s h hN; have := h.2; omega
  | succ N ih =>
    have hR : ∀ s, OkS T s → (T.size : Int) < s.1 + ((N + 1 : Nat) : Int) → OkS T (rowS (itemS (patS T N) T) T s).2 ∧ s.1 ≤ (rowS (itemS (patS T N) T) T s).2.1 := fun s h hN => rowG_ok (N := N + 1) (fun s h hlt hN => item_ok ih h hlt hN) 4097 [] s h hN
    intro s h hN
    have h1 := hR s h hN
    have h2 := patG_ok hR 4097 [(rowS (itemS (patS T N) T) T s).1] (rowS (itemS (patS T N) T) T s).2 h1.1 (by have := h1.2; omega)
    exact ⟨h2.1, by have := h1.2; have := h2.2; show s.1 ≤ (patG _ T 4097 _ _).2.1; omega⟩

end Ex
end Go.Proofs.YtggodknnfpegmaaDoor
namespace Go.Proofs.YtggodknnfpegmaaDoor
open Go.RowKit
attribute [local go_sem] Oper.semAt_some
namespace Ex

def rowB (k1 : Int) (j : Nat) (k2 _e : Int) : Prop := k1 + (j : Int) ≤ k2
end Ex
end Go.Proofs.YtggodknnfpegmaaDoor
namespace Go.Proofs.YtggodknnfpegmaaDoor
open Go.RowKit
attribute [local go_sem] Oper.semAt_some
namespace Ex

end Ex
end Go.Proofs.YtggodknnfpegmaaDoor
namespace Go.Proofs.YtggodknnfpegmaaDoor
open Go.RowKit
attribute [local go_sem] Oper.semAt_some
namespace Ex

theorem Holds.set {S : Nat → Prop} {w W : World} {g o : Nat} {v : Value} (h : Holds S w W) (hS : ¬ S g) : Holds S w (W.setCell ⟨g, o, none⟩ v) := by
  intro d o' u hd hc
  rw [← h d o' u hd hc]
  exact World.cell?_of_block (a := ⟨d, o', none⟩) (Below.heap_setCell _ _ _ _ (show d ≠ g from fun e => hS (e ▸ hd)))
theorem Kept.set {w W : World} {g o : Nat} {v : Value} (h : Kept w W) (hg : w.heap.size ≤ g) : Kept w (W.setCell ⟨g, o, none⟩ v) :=
  ⟨h.1, h.2.1, h.2.2.1, by simpa [World.setCell] using h.2.2.2.1, fun k hk => (Below.heap_setCell _ _ _ _ (show k ≠ g by omega)).trans (h.2.2.2.2 k hk)⟩
theorem heap_set {W : World} {g o d : Nat} {v : Value} {x : Option Obj} (h : W.heap[d]? = x) (hd : d ≠ g) : (W.setCell ⟨g, o, none⟩ v).heap[d]? = x := (Below.heap_setCell _ _ _ _ hd).trans h
def FaultAt (w : World) (g : Nat) (y0 y1 y2 : Value) : Prop := w.heap[g]? = some (.cells #[y0, y1, y2] 44 (0, 0))
theorem fault_facts {w : World} {g : Nat} {y0 y1 y2 : Value} (h : FaultAt w g y0 y1 y2) : (w.cell? ⟨g, 0, none⟩ = some y0 ∧ w.cell? ⟨g, 1, none⟩ = some y1 ∧ w.cell? ⟨g, 2, none⟩ = some y2) ∧ w.frozen? ⟨g, 0, none⟩ = false ∧ w.frozen? ⟨g, 1, none⟩ = false ∧ w.frozen? ⟨g, 2, none⟩ = false := by
  unfold FaultAt at h
  refine ⟨⟨?_, ?_, ?_⟩, ?_, ?_, ?_⟩ <;> simp [World.cell?, World.frozen?, h]
theorem FaultAt.set {W : World} {g : Nat} {y0 y1 y2 x0 x1 x2 : Value} (h : FaultAt W g y0 y1 y2) : FaultAt (((W.setCell ⟨g, 0, none⟩ x0).setCell ⟨g, 1, none⟩ x1).setCell ⟨g, 2, none⟩ x2) g x0 x1 x2 := by
  unfold FaultAt at h ⊢
  have hl : g < W.heap.size := (Array.getElem?_eq_some_iff.1 h).1
  have he : W.heap[g] = Obj.cells #[y0, y1, y2] 44 (0, 0) := by rw [Array.getElem?_eq_getElem hl] at h; exact Option.some.inj h
  simp [World.setCell, Array.getElem_modify, hl, he]
theorem parse_box0 {w w7 w8 : World} {o : Obj} {c : Array Value} {t : TypeId} (hk : KeptBut (w.heap.size + 1 + 1) (((w.alloc (.cells #[.int .i64 0, .int .i64 0, .int .i64 0, .int .i64 0, .int .i64 0, .slice none 0 0] 97)).alloc (.cells #[.int .i64 0, .int .i64 0, .string ⟨#[]⟩] 44)).alloc o) w7) (h8 : Kept (w7.alloc (.cells c t)) w8) : BoxAt w8 w.heap.size (.int .i64 0) (.int .i64 0) (.int .i64 0) (.int .i64 0) (.int .i64 0) (.slice none 0 0) := by
  have h1 : BoxAt (((w.alloc (.cells #[.int .i64 0, .int .i64 0, .int .i64 0, .int .i64 0, .int .i64 0, .slice none 0 0] 97)).alloc (.cells #[.int .i64 0, .int .i64 0, .string ⟨#[]⟩] 44)).alloc o) w.heap.size (.int .i64 0) (.int .i64 0) (.int .i64 0) (.int .i64 0) (.int .i64 0) (.slice none 0 0) := by
    unfold BoxAt
    rw [heap_alloc_old _ _ (by simp; omega), heap_alloc_old _ _ (by simp)]
    exact heap_alloc_new w _
  exact ((h1.but hk (by omega)).keep ((Kept.refl _).alloc c t)).keep h8
theorem parse_box1 {w w7 w8 : World} {o : Obj} {c : Array Value} {t : TypeId} (hk : KeptBut (w.heap.size + 1 + 1) (((w.alloc (.cells #[.int .i64 0, .int .i64 0, .int .i64 0, .int .i64 0, .int .i64 0, .slice none 0 0] 97)).alloc (.cells #[.int .i64 0, .int .i64 0, .string ⟨#[]⟩] 44)).alloc o) w7) (h8 : Kept (w7.alloc (.cells c t)) w8) : FaultAt w8 (w.heap.size + 1) (.int .i64 0) (.int .i64 0) (.string ⟨#[]⟩) := by
  have h1 : FaultAt (((w.alloc (.cells #[.int .i64 0, .int .i64 0, .int .i64 0, .int .i64 0, .int .i64 0, .slice none 0 0] 97)).alloc (.cells #[.int .i64 0, .int .i64 0, .string ⟨#[]⟩] 44)).alloc o) (w.heap.size + 1) (.int .i64 0) (.int .i64 0) (.string ⟨#[]⟩) := by
    unfold FaultAt
    rw [heap_alloc_old _ _ (by simp)]
    exact heap_alloc2_new w _ _
  have hl : w.heap.size + 1 < (((w.alloc (.cells #[.int .i64 0, .int .i64 0, .int .i64 0, .int .i64 0, .int .i64 0, .slice none 0 0] 97)).alloc (.cells #[.int .i64 0, .int .i64 0, .string ⟨#[]⟩] 44)).alloc o).heap.size := by simp
  have h2 : FaultAt w7 (w.heap.size + 1) (.int .i64 0) (.int .i64 0) (.string ⟨#[]⟩) := (hk.2.2.2.2 _ hl (by omega)).trans h1
  have h3 : w.heap.size + 1 < w7.heap.size := Nat.lt_of_lt_of_le hl hk.2.2.2.1
  have hk2 := gtrans ((Kept.refl w7).alloc c t) h8
  exact (hk2.2.2.2.2 _ h3).trans h2
def wholeS (T : ByteArray) (s : Int × Int × Int) : Pat × Int × Int × Int := if (patS T 4098 s).2.1 < T.size then ((patS T 4098 s).1, wrongS T (patS T 4098 s).2) else patS T 4098 s
theorem parse_results {fn : Func} {p q : Tmp} (h : fn.results = #[.cell p 97, .cell q 44]) (tmps : Array Value) (w : World) (g g' : Nat) (x0 x1 x2 x3 x4 x5 y0 y1 y2 : Value)
    (hp : tmps.getD p undef = .pointer (some ⟨g, 0, none⟩)) (hg : w.heap[g]? = some (.cells #[x0, x1, x2, x3, x4, x5] 97 (0, 0)))
    (hp' : tmps.getD q undef = .pointer (some ⟨g', 0, none⟩)) (hg' : w.heap[g']? = some (.cells #[y0, y1, y2] 44 (0, 0))) :
    (results fn tmps).run Tryd.prog w = .ok (.tuple #[.agg #[x0, x1, x2, x3, x4, x5], .agg #[y0, y1, y2]]) w := by
  have hp2 : tmps[p]?.getD undef = .pointer (some ⟨g, 0, none⟩) := by simpa using hp
  have hp3 : tmps[q]?.getD undef = .pointer (some ⟨g', 0, none⟩) := by simpa using hp'
  have e1 := run_loadVar_row (P := Tryd.prog) w g 97 97 _ (0, 0) _ hg Tryd.underlying97 rfl (by kernel_rfl)
  have e2 := run_loadVar_row (P := Tryd.prog) w g' 44 44 _ (0, 0) _ hg' Tryd.underlying44 rfl (by kernel_rfl)
  simp [results, h, hp2, hp3, asAddr, e1, e2]

theorem parse_kept {w w7 w8 : World} {o1 o2 o3 : Obj} {c : Array Value} {t : TypeId} (hk : KeptBut (w.heap.size + 1 + 1) (((w.alloc o1).alloc o2).alloc o3) w7) (h8 : Kept (w7.alloc (.cells c t)) w8) : Kept w w8 := by
  have h1 : Kept w (((w.alloc o1).alloc o2).alloc o3) := Kept.of ((((Below.refl _ _).alloc (Nat.le_refl _) _).alloc (by simp) _).alloc (by simp; omega) _)
  have h2 : Kept w w7 := KeptBut.up h1 (by omega) hk
  exact gtrans (h2.alloc c t) h8
end Ex
end Go.Proofs.YtggodknnfpegmaaDoor
