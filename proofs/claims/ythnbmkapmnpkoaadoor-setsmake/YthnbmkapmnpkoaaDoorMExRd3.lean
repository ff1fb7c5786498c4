import Derived.Test.YthnbmkapmnpkoaaDoorMExLook
import Derived.Test.YthnbmkapmnpkoaaDoorMExBase
import Derived.Handy
namespace Go.Proofs.YthnbmkapmnpkoaaDoor
open Go.RowKit
attribute [local go_sem] Oper.semAt_some
namespace Ex

def rangeV (f t : Int) : Value := .agg #[.int .i64 1, .int .i64 f, .int .i64 t, .int .i64 0, .int .i64 0, .slice none 0 0]
def rangeP (f t : Int) : Pat := mkP 1 f t 0 0 []
theorem rangeV_pat (S : Nat → Prop) (w : World) (f t : Int) : PatV S w (rangeP f t) (rangeV f t) := ⟨.slice none 0 0, rfl, kids_nil _ _ _ _ _ _ rfl⟩

theorem one_flat {S : Nat → Prop} {w : World} {p : Pat} {v' : Value} (h : KidsAt S w p.1 (kids p.2) v') : FlatAt S w [p] (cellsP p v') := FlatAt.snoc (l := []) (xs := []) rfl h
theorem box_cells (w : World) (p : Pat) (v' : Value) (t : TypeId) : ∀ j u, (cellsP p v')[j]? = some u → (w.alloc (.cells #[.int .i64 (kind p.2), .int .i64 (from_ p.2), .int .i64 (to_ p.2), .int .i64 (min_ p.2), .int .i64 (max_ p.2), v'] t)).cell? ⟨w.heap.size, 0 + j, none⟩ = some u := by
  intro j u h
  have hb := box_at w (.int .i64 (kind p.2)) (.int .i64 (from_ p.2)) (.int .i64 (to_ p.2)) (.int .i64 (min_ p.2)) (.int .i64 (max_ p.2)) v' t
  have hj : j < 6 := (List.getElem?_eq_some_iff.1 h).1
  rw [Nat.zero_add]
  match j, hj with
  | 0, _ => rw [hb.1]; exact h
  | 1, _ => rw [hb.2.1]; exact h
  | 2, _ => rw [hb.2.2.1]; exact h
  | 3, _ => rw [hb.2.2.2.1]; exact h
  | 4, _ => rw [hb.2.2.2.2.1]; exact h
  | 5, _ => rw [hb.2.2.2.2.2]; exact h
def PGives (S : Nat → Prop) (p : Pat) (e : Ending) (w' : World) : Prop := ∃ v, e = .returned v ∧ PatV S w' p v

def failS (T : ByteArray) (s : Int × Int × Int) (x y : Int) : Int × Int × Int := (T.size, failE s.2.1 x, failF s.2.1 s.2.2 y)
def wrongS (T : ByteArray) (s : Int × Int × Int) : Int × Int × Int := failS T s (wrongC T s.1) s.1

/-- The reader's place. -/
def placeOf (b : Nat) (w : World) : Nat := (intOf ((w.cell? ⟨b, 1, none⟩).getD (.int .i64 0))).toNat
/-- Up to m digits. -/
def numG (T : ByteArray) : Nat → Int → Int → Int × Int
  | 0, k, n => (n, k)
  | m + 1, k, n => if digitP (peekP T k) then numG T m (k + 1) (n * 10 + (peekP T k - 48)) else (n, k)
def numberS (T : ByteArray) (s : Int × Int × Int) : Int × Int × Int × Int := if (numG T 4 s.1 0).2 = s.1 then ((numG T 4 s.1 0).1, wrongS T s) else ((numG T 4 s.1 0).1, (numG T 4 s.1 0).2, s.2)
theorem peek_lt {T : ByteArray} {k : Int} (h : peekP T k ≠ 0) : 0 ≤ k ∧ k < T.size := by
  unfold peekP at h
  split at h
  · assumption
  · exact absurd rfl h
theorem numG_end {T : ByteArray} {N : Nat} {k n : Int} (h : N = 0 ∨ digitP (peekP T k) = false) : numG T N k n = (n, k) := by
  cases N with
  | zero => rfl
  | succ N =>
    rcases h with h | h
    · omega
    · rw [numG, h]; rfl

/-- Texts without \\ and ^ alone. -/
def Plain (T : ByteArray) : Prop := ∀ k, peekP T k ≠ 92 ∧ peekP T k ≠ 94
def classSignsS : ByteArray := ⟨#[93, 92, 45, 47]⟩
def oneS (T : ByteArray) (s : Int × Int × Int) : Int × Int × Int × Int := if printedP (peekP T s.1) && !inS classSignsS (peekP T s.1) then (peekP T s.1, s.1 + 1, s.2) else (0, wrongS T s)
end Ex
end Go.Proofs.YthnbmkapmnpkoaaDoor
namespace Go.Proofs.YthnbmkapmnpkoaaDoor
open Go.RowKit
attribute [local go_sem] Oper.semAt_some
namespace Ex

def OkS (T : ByteArray) (s : Int × Int × Int) : Prop := 0 ≤ s.1 ∧ s.1 ≤ T.size
theorem wrong_ok (T : ByteArray) (s : Int × Int × Int) : OkS T (wrongS T s) := ⟨Int.natCast_nonneg _, Int.le_refl _⟩
theorem fail_ok (T : ByteArray) (s : Int × Int × Int) (x y : Int) : OkS T (failS T s x y) := ⟨Int.natCast_nonneg _, Int.le_refl _⟩
theorem one_ok {T : ByteArray} {s : Int × Int × Int} (h : OkS T s) : OkS T (oneS T s).2 ∧ s.1 ≤ (oneS T s).2.1 := by
  unfold oneS
  split
  · rename_i hp
    simp only [Bool.and_eq_true] at hp
    have h1 : peekP T s.1 ≠ 0 := by have := hp.1; unfold printedP at this; simp at this; omega
    have h2 := peek_lt h1
    exact ⟨⟨by show 0 ≤ s.1 + 1; omega, by show s.1 + 1 ≤ _; omega⟩, by show s.1 ≤ s.1 + 1; omega⟩
  · exact ⟨wrong_ok T s, h.2⟩
theorem numG_ok {T : ByteArray} : ∀ (N : Nat) (k n : Int), 0 ≤ k → k ≤ T.size → k ≤ (numG T N k n).2 ∧ (numG T N k n).2 ≤ T.size
  | 0, k, n, h0, h1 => ⟨Int.le_refl _, h1⟩
  | N + 1, k, n, h0, h1 => by
    rw [numG]
    split
    · rename_i hd
      have h2 : peekP T k ≠ 0 := by unfold digitP at hd; simp at hd; omega
      have h3 := peek_lt h2
      have := numG_ok (T := T) N (k + 1) (n * 10 + (peekP T k - 48)) (by omega) (by omega)
      omega
    · exact ⟨Int.le_refl _, h1⟩
theorem number_ok {T : ByteArray} {s : Int × Int × Int} (h : OkS T s) : OkS T (numberS T s).2 ∧ s.1 ≤ (numberS T s).2.1 := by
  have h1 := numG_ok (T := T) 4 s.1 0 h.1 h.2
  have h0 := h.1
  unfold numberS
  split
  · exact ⟨wrong_ok T s, h.2⟩
  · exact ⟨⟨by show 0 ≤ (numG T 4 s.1 0).2; omega, h1.2⟩, h1.1⟩
theorem take_ok {T : ByteArray} {s : Int × Int × Int} {c : Int} (hc : c ≠ 0) (h : peekP T s.1 = c) : OkS T (s.1 + 1, s.2) := by
  have := peek_lt (T := T) (k := s.1) (by rw [h]; exact hc)
  exact ⟨by show 0 ≤ s.1 + 1; omega, by show s.1 + 1 ≤ _; omega⟩

theorem but_allocd {b : Nat} {w w' : World} {c : Array Value} {t : TypeId} (h : KeptBut b (w.alloc (.cells c t)) w') : KeptBut b w w' := (((Kept.refl w).alloc c t).but b).trans h
theorem but_new {b g o : Nat} {w w' : World} {v : Value} (h : KeptBut b w w') (hg : w.heap.size ≤ g) : KeptBut b w (w'.setCell ⟨g, o, none⟩ v) :=
  ⟨h.1, h.2.1, h.2.2.1, by simpa [World.setCell] using h.2.2.2.1, fun k hk hn => (Below.heap_setCell _ _ _ _ (show k ≠ g by omega)).trans (h.2.2.2.2 k hk hn)⟩
/-- The box of a result, empty yet. -/
def boxZ : Array Value := #[.int .i64 0, .int .i64 0, .int .i64 0, .int .i64 0, .int .i64 0, .slice none 0 0]
theorem box_end {b : Nat} {w w' : World} (h : KeptBut b (w.alloc (.cells #[.int .i64 0, .int .i64 0, .int .i64 0, .int .i64 0, .int .i64 0, .slice none 0 0] 102)) w') (hb : b < w.heap.size) :
    (w'.cell? ⟨w.heap.size, 0, none⟩ = some (.int .i64 0) ∧ w'.cell? ⟨w.heap.size, 1, none⟩ = some (.int .i64 0) ∧ w'.cell? ⟨w.heap.size, 2, none⟩ = some (.int .i64 0) ∧ w'.cell? ⟨w.heap.size, 3, none⟩ = some (.int .i64 0) ∧ w'.cell? ⟨w.heap.size, 4, none⟩ = some (.int .i64 0) ∧ w'.cell? ⟨w.heap.size, 5, none⟩ = some (.slice none 0 0)) ∧
    w'.frozen? ⟨w.heap.size, 0, none⟩ = false ∧ w'.frozen? ⟨w.heap.size, 1, none⟩ = false ∧ w'.frozen? ⟨w.heap.size, 2, none⟩ = false ∧ w'.frozen? ⟨w.heap.size, 3, none⟩ = false ∧ w'.frozen? ⟨w.heap.size, 4, none⟩ = false ∧ w'.frozen? ⟨w.heap.size, 5, none⟩ = false := by
  have e : w'.heap[w.heap.size]? = some (.cells #[.int .i64 0, .int .i64 0, .int .i64 0, .int .i64 0, .int .i64 0, .slice none 0 0] 102 (0, 0)) := by
    rw [h.2.2.2.2 w.heap.size (by simp) (by omega)]
    exact heap_alloc_new w _
  refine ⟨⟨?_, ?_, ?_, ?_, ?_, ?_⟩, ?_, ?_, ?_, ?_, ?_, ?_⟩ <;> simp [World.cell?, World.frozen?, e]
theorem box_kept {b : Nat} {w w' : World} (h : KeptBut b (w.alloc (.cells #[.int .i64 0, .int .i64 0, .int .i64 0, .int .i64 0, .int .i64 0, .slice none 0 0] 102)) w') (hb : b < w.heap.size) : w'.heap[w.heap.size]? = some (.cells #[.int .i64 0, .int .i64 0, .int .i64 0, .int .i64 0, .int .i64 0, .slice none 0 0] 102 (0, 0)) := by
  rw [h.2.2.2.2 w.heap.size (by simp) (by omega)]
  exact heap_alloc_new w _
theorem box_full {w : World} {g : Nat} {y0 y1 y2 y3 y4 y5 x0 x1 x2 x3 x4 x5 : Value} (h : w.heap[g]? = some (.cells #[y0, y1, y2, y3, y4, y5] 102 (0, 0))) :
    ((((((w.setCell ⟨g, 0, none⟩ x0).setCell ⟨g, 1, none⟩ x1).setCell ⟨g, 2, none⟩ x2).setCell ⟨g, 3, none⟩ x3).setCell ⟨g, 4, none⟩ x4).setCell ⟨g, 5, none⟩ x5).heap[g]? = some (.cells #[x0, x1, x2, x3, x4, x5] 102 (0, 0)) := by
  have hl : g < w.heap.size := (Array.getElem?_eq_some_iff.1 h).1
  have he : w.heap[g] = Obj.cells #[y0, y1, y2, y3, y4, y5] 102 (0, 0) := by rw [Array.getElem?_eq_getElem hl] at h; exact Option.some.inj h
  simp [World.setCell, Array.getElem_modify, hl, he]
theorem box_returns {fn : Func} {p : Tmp} (h : fn.results = #[.cell p 102]) (tmps : Array Value) (w : World) (g : Nat) (x0 x1 x2 x3 x4 x5 : Value) (hp : tmps.getD p undef = .pointer (some ⟨g, 0, none⟩)) (hg : w.heap[g]? = some (.cells #[x0, x1, x2, x3, x4, x5] 102 (0, 0))) :
    (results fn tmps).run Tryd.prog w = .ok (.agg #[x0, x1, x2, x3, x4, x5]) w :=
  results_cell_row h tmps w g 102 _ (0, 0) _ hp hg Tryd.underlying102 rfl (by kernel_rfl)
theorem fin_but {b g : Nat} {w w' : World} {x0 x1 x2 x3 x4 x5 : Value} (h : KeptBut b w w') (hg : w.heap.size ≤ g) : KeptBut b w ((((((w'.setCell ⟨g, 0, none⟩ x0).setCell ⟨g, 1, none⟩ x1).setCell ⟨g, 2, none⟩ x2).setCell ⟨g, 3, none⟩ x3).setCell ⟨g, 4, none⟩ x4).setCell ⟨g, 5, none⟩ x5) :=
  but_new (but_new (but_new (but_new (but_new (but_new h hg) hg) hg) hg) hg) hg
/-- A member's first byte, its last, the state behind. -/
def memberE (T : ByteArray) (s : Int × Int × Int) : Int × Int × Int × Int := if peekP T (oneS T s).2.1 = 45 then oneS T ((oneS T s).2.1 + 1, (oneS T s).2.2) else oneS T s
def memberS (T : ByteArray) (s : Int × Int × Int) (y : Int) : Pat × Int × Int × Int := (rangeP (oneS T s).1 (memberE T s).1, if (memberE T s).1 < (oneS T s).1 then failS T (memberE T s).2 22 y else (memberE T s).2)

end Ex
end Go.Proofs.YthnbmkapmnpkoaaDoor
