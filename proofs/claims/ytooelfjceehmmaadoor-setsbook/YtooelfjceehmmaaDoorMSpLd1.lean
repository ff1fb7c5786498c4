import Derived.Test.YtooelfjceehmmaaDoorMExTw1
import Derived.Deep.RegionHeld3
import Derived.Test.YtooelfjceehmmaaDoorMSpSz2
import Derived.Test.YtooelfjceehmmaaDoorMExWr1
import Derived.Lib.Bytealg
import Derived.Lib.BytesEntry
import Derived.Lib.Strings
import Derived.Test.YtooelfjceehmmaaDoorMSpLf
namespace Go.Proofs.YtooelfjceehmmaaDoor
open Go.RowKit
attribute [local go_sem] Oper.semAt_some
namespace Ex

theorem mark_in {S : Nat → Prop} {w : World} : ∀ (n : Nat) (l : List (PatN n)) (v : Value), MarkAt S w n l v → MarkAt (fun d => S d ∧ d < w.heap.size) w n l v
  | 0, _, _, h => h
  | n + 1, l, v, h => by
    rcases h with h | ⟨h0, c, h1, h2, h3, h4, h5⟩
    · exact .inl h
    · refine .inr ⟨h0, c, h1, h2, ⟨h3, World.block_lt_of_cell? w _ h4⟩, h4, fun i q hq => ?_⟩
      obtain ⟨v', g0, g1, g2, g3, g4, g5, g6⟩ := h5 i q hq
      exact ⟨v', g0, g1, g2, g3, g4, g5, mark_in n _ _ g6⟩
/-- A pattern in memory apart from the blocks g and e; with marks, if it is flat. -/
def PatL (g e : Nat) {k : Nat} (p : PatN (k + 1)) (v : Value) (w : World) : Prop := KidsAt (fun d => (d ≠ g ∧ d ≠ e) ∧ d < w.heap.size) w k (kids p) v ∧ (boundsP p = 0 → MarkAt (fun d => (d ≠ g ∧ d ≠ e) ∧ d < w.heap.size) w k (kids p) v)
theorem PatL.keep {g e : Nat} {k : Nat} {p : PatN (k + 1)} {v : Value} {w w' : World} (h : PatL g e p v w) (hk : Kept w w') : PatL g e p v w' := ⟨KidsAt.mono (hk.holds _) (fun _ hd => ⟨hd.1, Nat.lt_of_lt_of_le hd.2 hk.size⟩) _ _ _ h.1, fun hb => MarkAt.mono (hk.holds _) (fun _ hd => ⟨hd.1, Nat.lt_of_lt_of_le hd.2 hk.size⟩) _ _ _ (h.2 hb)⟩
theorem holds_set {S : Nat → Prop} {w : World} {g o : Nat} {x : Value} (hS : ∀ d, S d → d ≠ g) : Holds S w (w.setCell ⟨g, o, none⟩ x) := fun b k v hb hv => by rw [set_other (.inl (hS b hb))]; exact hv
theorem PatL.set {g e c o : Nat} {k : Nat} {p : PatN (k + 1)} {v x : Value} {w : World} (h : PatL g e p v w) (hc : c = g ∨ c = e) : PatL g e p v (w.setCell ⟨c, o, none⟩ x) := ⟨KidsAt.mono (holds_set (fun _ hd => by rcases hc with rfl | rfl; exact hd.1.1; exact hd.1.2)) (fun _ hd => ⟨hd.1, by rw [World.size_setCell]; exact hd.2⟩) _ _ _ h.1, fun hb => MarkAt.mono (holds_set (fun _ hd => by rcases hc with rfl | rfl; exact hd.1.1; exact hd.1.2)) (fun _ hd => ⟨hd.1, by rw [World.size_setCell]; exact hd.2⟩) _ _ _ (h.2 hb)⟩
theorem PatL.weak {g e : Nat} {k : Nat} {p : PatN (k + 1)} {v : Value} {w : World} (h : PatL g e p v w) : PatL g g p v w := ⟨KidsAt.mono (fun _ _ _ _ hv => hv) (fun _ hd => ⟨⟨hd.1.1, hd.1.1⟩, hd.2⟩) _ _ _ h.1, fun hb => MarkAt.mono (fun _ _ _ _ hv => hv) (fun _ hd => ⟨⟨hd.1.1, hd.1.1⟩, hd.2⟩) _ _ _ (h.2 hb)⟩
theorem pat_twin {g e0 k : Nat} {p : PatN (k + 1)} {v : Value} {w0 w : World} (h : KidsAt (fun d => d < w0.heap.size) w0 k (kids p) v) (hk : Kept w0 w) (hg : w0.heap.size ≤ g) (hgw : g < w.heap.size) (he : w0.heap.size ≤ e0) (hew : e0 < w.heap.size) :
    Calls Tryd.prog 33 #[.agg #[.int .i64 (kind p), .int .i64 (from_ p), .int .i64 (to_ p), .int .i64 (min_ p), .int .i64 (max_ p), v]] w fun e w' => ∃ v2, e = .returned (.agg #[.int .i64 (kind p), .int .i64 (from_ p), .int .i64 (to_ p), .int .i64 (min_ p), .int .i64 (max_ p), v2]) ∧ PatL g e0 p v2 w' ∧ Kept w w' := by
  refine Calls.mono (TwinExpr_is (fun d => d ≠ g ∧ d ≠ e0) k p v w (KidsAt.mono (hk.holds _) (fun d hd => ⟨by omega, by omega⟩) _ _ _ h)) ?_
  rintro e w' ⟨h1, h2⟩
  obtain ⟨v2, e1, k1, m1⟩ := (show ∃ v2, e = .returned (valOf p v2) ∧ KidsAt (fun d => (d ≠ g ∧ d ≠ e0) ∨ w.heap.size ≤ d) w' k (kids p) v2 ∧ (boundsP p = 0 → MarkAt (fun d => w.heap.size ≤ d) w' k (kids p) v2) from h1)
  refine ⟨v2, e1, ⟨?_, fun hb => ?_⟩, h2⟩
  · exact KidsAt.mono (fun _ _ _ _ hv => hv) (fun d hd => ⟨⟨by rcases hd.1 with h | h <;> omega, by rcases hd.1 with h | h <;> omega⟩, hd.2⟩) _ _ _ (kids_in _ _ _ k1)
  · exact MarkAt.mono (fun _ _ _ _ hv => hv) (fun d hd => ⟨⟨by have := hd.1; omega, by have := hd.1; omega⟩, hd.2⟩) _ _ _ (mark_in _ _ _ (m1 hb))
/-- The rules that are laid. -/
def LexIt (w : World) (g e : Nat) {k : Nat} (lex : List (LexM k)) (j : Nat) : Prop := ∀ (i : Nat) (l : LexM k), i < j → lex[i]? = some l → ∃ v', w.cell? ⟨g, i * 8, none⟩ = some (.string l.1) ∧ w.cell? ⟨g, i * 8 + 1, none⟩ = some (.bool l.2.1) ∧ w.cell? ⟨g, i * 8 + 2, none⟩ = some (.int .i64 (kind l.2.2)) ∧ w.cell? ⟨g, i * 8 + 3, none⟩ = some (.int .i64 (from_ l.2.2)) ∧ w.cell? ⟨g, i * 8 + 4, none⟩ = some (.int .i64 (to_ l.2.2)) ∧ w.cell? ⟨g, i * 8 + 5, none⟩ = some (.int .i64 (min_ l.2.2)) ∧ w.cell? ⟨g, i * 8 + 6, none⟩ = some (.int .i64 (max_ l.2.2)) ∧ w.cell? ⟨g, i * 8 + 7, none⟩ = some v' ∧ PatL g e l.2.2 v' w
theorem LexIt.keep {w w' : World} {g e k j : Nat} {lex : List (LexM k)} (h : LexIt w g e lex j) (hk : Kept w w') : LexIt w' g e lex j := fun i l hi hl => by
  obtain ⟨v', h0, h1, h2, h3, h4, h5, h6, h7, h8⟩ := h i l hi hl
  exact ⟨v', grown_cell hk h0, grown_cell hk h1, grown_cell hk h2, grown_cell hk h3, grown_cell hk h4, grown_cell hk h5, grown_cell hk h6, grown_cell hk h7, h8.keep hk⟩
theorem LexIt.set {w : World} {g e k j o : Nat} {x : Value} {lex : List (LexM k)} (h : LexIt w g e lex j) (ho : j * 8 ≤ o) : LexIt (w.setCell ⟨g, o, none⟩ x) g e lex j := fun i l hi hl => by
  obtain ⟨v', h0, h1, h2, h3, h4, h5, h6, h7, h8⟩ := h i l hi hl
  refine ⟨v', ?_, ?_, ?_, ?_, ?_, ?_, ?_, ?_, h8.set (.inl rfl)⟩ <;> rw [set_other (by omega)] <;> assumption
theorem LexIt.setE {w : World} {g e k j o : Nat} {x : Value} {lex : List (LexM k)} (h : LexIt w g e lex j) (hg : g ≠ e) : LexIt (w.setCell ⟨e, o, none⟩ x) g e lex j := fun i l hi hl => by
  obtain ⟨v', h0, h1, h2, h3, h4, h5, h6, h7, h8⟩ := h i l hi hl
  refine ⟨v', ?_, ?_, ?_, ?_, ?_, ?_, ?_, ?_, h8.set (.inr rfl)⟩ <;> rw [set_other (.inl hg)] <;> assumption
theorem LexIt.weak {w : World} {g e k j : Nat} {lex : List (LexM k)} (h : LexIt w g e lex j) : LexIt w g g lex j := fun i l hi hl => by
  obtain ⟨v', h0, h1, h2, h3, h4, h5, h6, h7, h8⟩ := h i l hi hl
  exact ⟨v', h0, h1, h2, h3, h4, h5, h6, h7, h8.weak⟩
/-- Eight cells that are written one behind the other. -/
def put8 (w : World) (g o : Nat) (x0 x1 x2 x3 x4 x5 x6 x7 : Value) : World := (((((((w.setCell ⟨g, o, none⟩ x0).setCell ⟨g, o + 1, none⟩ x1).setCell ⟨g, o + 2, none⟩ x2).setCell ⟨g, o + 3, none⟩ x3).setCell ⟨g, o + 4, none⟩ x4).setCell ⟨g, o + 5, none⟩ x5).setCell ⟨g, o + 6, none⟩ x6).setCell ⟨g, o + 7, none⟩ x7
section
variable {w : World} {g o n : Nat} {t : TypeId} {x0 x1 x2 x3 x4 x5 x6 x7 : Value}
theorem put8_row (h : RowG w g n t) : RowG (put8 w g o x0 x1 x2 x3 x4 x5 x6 x7) g n t := (((((((h.set _ _).set _ _).set _ _).set _ _).set _ _).set _ _).set _ _).set _ _
theorem put8_kept {w1 : World} (h : Kept w1 w) (hg : w1.heap.size ≤ g) : Kept w1 (put8 w g o x0 x1 x2 x3 x4 x5 x6 x7) := keep_set (keep_set (keep_set (keep_set (keep_set (keep_set (keep_set (keep_set h hg) hg) hg) hg) hg) hg) hg) hg
theorem put8_pat {k e : Nat} {p : PatN (k + 1)} {v : Value} (h : PatL g e p v w) : PatL g e p v (put8 w g o x0 x1 x2 x3 x4 x5 x6 x7) := (((((((h.set (.inl rfl)).set (.inl rfl)).set (.inl rfl)).set (.inl rfl)).set (.inl rfl)).set (.inl rfl)).set (.inl rfl)).set (.inl rfl)
theorem put8_cells (h : RowG w g n t) (ho : o + 8 ≤ n) : (put8 w g o x0 x1 x2 x3 x4 x5 x6 x7).cell? ⟨g, o, none⟩ = some x0 ∧ (put8 w g o x0 x1 x2 x3 x4 x5 x6 x7).cell? ⟨g, o + 1, none⟩ = some x1 ∧ (put8 w g o x0 x1 x2 x3 x4 x5 x6 x7).cell? ⟨g, o + 2, none⟩ = some x2 ∧ (put8 w g o x0 x1 x2 x3 x4 x5 x6 x7).cell? ⟨g, o + 3, none⟩ = some x3 ∧ (put8 w g o x0 x1 x2 x3 x4 x5 x6 x7).cell? ⟨g, o + 4, none⟩ = some x4 ∧ (put8 w g o x0 x1 x2 x3 x4 x5 x6 x7).cell? ⟨g, o + 5, none⟩ = some x5 ∧ (put8 w g o x0 x1 x2 x3 x4 x5 x6 x7).cell? ⟨g, o + 6, none⟩ = some x6 ∧ (put8 w g o x0 x1 x2 x3 x4 x5 x6 x7).cell? ⟨g, o + 7, none⟩ = some x7 := by
  unfold put8
  refine ⟨?_, ?_, ?_, ?_, ?_, ?_, ?_, ?_⟩
  · rw [set_other (by omega), set_other (by omega), set_other (by omega), set_other (by omega), set_other (by omega), set_other (by omega), set_other (by omega)]; exact h.same (by omega)
  · rw [set_other (by omega), set_other (by omega), set_other (by omega), set_other (by omega), set_other (by omega), set_other (by omega)]; exact (h.set _ _).same (by omega)
  · rw [set_other (by omega), set_other (by omega), set_other (by omega), set_other (by omega), set_other (by omega)]; exact ((h.set _ _).set _ _).same (by omega)
  · rw [set_other (by omega), set_other (by omega), set_other (by omega), set_other (by omega)]; exact (((h.set _ _).set _ _).set _ _).same (by omega)
  · rw [set_other (by omega), set_other (by omega), set_other (by omega)]; exact ((((h.set _ _).set _ _).set _ _).set _ _).same (by omega)
  · rw [set_other (by omega), set_other (by omega)]; exact (((((h.set _ _).set _ _).set _ _).set _ _).set _ _).same (by omega)
  · rw [set_other (by omega)]; exact ((((((h.set _ _).set _ _).set _ _).set _ _).set _ _).set _ _).same (by omega)
  · exact (((((((h.set _ _).set _ _).set _ _).set _ _).set _ _).set _ _).set _ _).same (by omega)
end
theorem LexIt.put {w : World} {g e k j n : Nat} {t : TypeId} {lex : List (LexM k)} {l : LexM k} {v : Value} (h : LexIt w g e lex j) (hr : RowG w g n t) (hj : j * 8 + 8 ≤ n) (hl : lex[j]? = some l) (hp : PatL g e l.2.2 v w) : LexIt (put8 w g (j * 8) (.string l.1) (.bool l.2.1) (.int .i64 (kind l.2.2)) (.int .i64 (from_ l.2.2)) (.int .i64 (to_ l.2.2)) (.int .i64 (min_ l.2.2)) (.int .i64 (max_ l.2.2)) v) g e lex (j + 1) := by
  intro i l' hi hl'
  rcases Nat.lt_or_ge i j with hij | hij
  · have h2 : LexIt (put8 w g (j * 8) (.string l.1) (.bool l.2.1) (.int .i64 (kind l.2.2)) (.int .i64 (from_ l.2.2)) (.int .i64 (to_ l.2.2)) (.int .i64 (min_ l.2.2)) (.int .i64 (max_ l.2.2)) v) g e lex j := (((((((h.set (by omega)).set (by omega)).set (by omega)).set (by omega)).set (by omega)).set (by omega)).set (by omega)).set (by omega)
    exact h2 i l' hij hl'
  · have ei : i = j := by omega
    subst ei
    rw [hl] at hl'
    injection hl' with hl'
    subst hl'
    obtain ⟨c0, c1, c2, c3, c4, c5, c6, c7⟩ := put8_cells (x0 := .string l.1) (x1 := .bool l.2.1) (x2 := .int .i64 (kind l.2.2)) (x3 := .int .i64 (from_ l.2.2)) (x4 := .int .i64 (to_ l.2.2)) (x5 := .int .i64 (min_ l.2.2)) (x6 := .int .i64 (max_ l.2.2)) (x7 := v) hr hj
    exact ⟨v, c0, c1, c2, c3, c4, c5, c6, c7, put8_pat hp⟩
theorem put8_but {w w0 : World} {g o : Nat} {x0 x1 x2 x3 x4 x5 x6 x7 : Value} (h : KeptBut g w0 w) : KeptBut g w0 (put8 w g o x0 x1 x2 x3 x4 x5 x6 x7) := but_set (but_set (but_set (but_set (but_set (but_set (but_set (but_set h _ _) _ _) _ _) _ _) _ _) _ _) _ _) _ _
theorem but_cellS {w w' : World} {g c o : Nat} {v : Value} (hk : KeptBut g w w') (hc : w.cell? ⟨c, o, none⟩ = some v) (h : c ≠ g) : w'.cell? ⟨c, o, none⟩ = some v := by
  have e := hk.2.2.2.2 c (World.block_lt_of_cell? w _ hc) h
  rw [← hc]
  simp only [World.cell?, e]
/-- The first loop of Lend. -/
def LdI {k : Nat} (lex : List (LexM k)) (g e n : Nat) (W : World) (vi : Value) (wr : World) : Prop := ∃ j : Nat, vi = .int .i64 (j : Int) ∧ j ≤ lex.length ∧ Hid (LexIt wr g e lex j) ∧ Hid (RowG wr g n 89) ∧ Hid (Kept W wr)

end Ex
end Go.Proofs.YtooelfjceehmmaaDoor
namespace Go.Proofs.YtooelfjceehmmaaDoor
open Go.RowKit
namespace Ex

def lessI : List Int → List Int → Bool
  | [], [] => false
  | [], _ :: _ => true
  | _ :: _, [] => false
  | a :: x, b :: y => decide (a < b) || (a == b && lessI x y)
def shorter (x y : List Int) : Bool := decide (x.length < y.length) || (x.length == y.length && lessI x y)
end Ex
end Go.Proofs.YtooelfjceehmmaaDoor
namespace Go.Proofs.YtooelfjceehmmaaDoor
open Go.RowKit
attribute [local go_sem] Oper.semAt_some
namespace Ex

/-- A row of bytes that a call answers, in memory of its own. -/
def RowIn (w : World) (base : Nat) (v : Value) (xs : List Int) : Prop :=
  ∃ a c, v = .slice a xs.length c ∧ xs.length ≤ c ∧ (xs = [] ∨ ∃ g, a = some ⟨g, 0, none⟩ ∧ base ≤ g ∧ ∀ (j : Nat) (y : Int), xs[j]? = some y → w.cell? ⟨g, j, none⟩ = some (.int .u8 y))
theorem RowIn.keep {w w' : World} {base : Nat} {v : Value} {xs : List Int} (h : RowIn w base v xs) (hk : Kept w w') : RowIn w' base v xs := by
  obtain ⟨a, c, e, hl, h⟩ := h
  refine ⟨a, c, e, hl, ?_⟩
  rcases h with h | ⟨g, e2, hb, hc⟩
  · exact .inl h
  · exact .inr ⟨g, e2, hb, fun j y hy => grown_cell hk (hc j y hy)⟩
theorem RowIn.low {w : World} {base b' : Nat} {v : Value} {xs : List Int} (h : RowIn w base v xs) (hb : b' ≤ base) : RowIn w b' v xs := by
  obtain ⟨a, c, e, hl, h⟩ := h
  refine ⟨a, c, e, hl, ?_⟩
  rcases h with h | ⟨g, e2, hb2, hc⟩
  · exact .inl h
  · exact .inr ⟨g, e2, Nat.le_trans hb hb2, hc⟩
theorem RowIn.form {w : World} {base : Nat} {v : Value} {xs : List Int} (h : RowIn w base v xs) : ∃ a c, v = .slice a xs.length c := by
  obtain ⟨a, c, e, _⟩ := h
  exact ⟨a, c, e⟩
theorem RowIn.nil (w : World) (base : Nat) (a : Option Addr) (c : Nat) : RowIn w base (.slice a 0 c) [] := ⟨a, c, rfl, Nat.zero_le _, .inl rfl⟩
theorem OutAt.row {w : World} {base : Nat} {v : Value} {xs : List Int} (h : OutAt w base v xs) : RowIn w base v xs := by
  rcases h.2 with ⟨rfl, h0⟩ | ⟨g, cap, cur, rfl, hb, hg, hnc, _⟩
  · rw [List.length_eq_zero_iff.1 h0]
    exact RowIn.nil _ _ _ _
  · refine ⟨_, _, rfl, hnc, .inr ⟨g, rfl, hb, fun j y hy => ?_⟩⟩
    have hc := h.cells (g := g) rfl j (.int .u8 y) (by rw [byteV, List.getElem?_map, hy]; rfl)
    rwa [Addr.add_lit, Nat.zero_add] at hc
theorem Kept.grownO {w0 w w' : World} {l : List Int} {v : Value} (h : Kept w0 w) (ho : OutAt w w0.heap.size v l) (hg : w.grownBy w' v.ownBlock) : Kept w0 w' :=
  ⟨hg.os.trans h.1, hg.tape.trans h.2.1, hg.output.trans h.2.2.1, Nat.le_trans h.size hg.size, fun k hk => (hg.block k (Nat.lt_of_lt_of_le hk h.size) (fun e => by have := (ho.lt k e.symm).1; omega)).trans (h.2.2.2.2 k hk)⟩
end Ex
end Go.Proofs.YtooelfjceehmmaaDoor
namespace Go.Proofs.YtooelfjceehmmaaDoor
open Go.RowKit
attribute [local go_sem] Oper.semAt_some
namespace Ex

def u8s (zs : List Int) : List UInt8 := zs.map fun z => UInt8.ofNat z.toNat
theorem fold_list : ∀ (zs : List Int) (s : ByteArray), (zs.foldl (fun r n => r.push (UInt8.ofNat n.toNat)) s).data.toList = s.data.toList ++ u8s zs
  | [], s => by simp [u8s]
  | z :: zs, s => by
    rw [List.foldl_cons, fold_list zs]
    show (s.data.push _).toList ++ _ = _
    rw [Array.toList_push, List.append_assoc]
    rfl
theorem strOf_list (zs : List Int) : (strOf zs).data.toList = u8s zs := by
  unfold strOf
  rw [fold_list]
  rfl
theorem u8_lt {a b : Int} (ha : IsB a) (hb : IsB b) : (UInt8.ofNat a.toNat < UInt8.ofNat b.toNat) ↔ a < b := by
  unfold IsB at ha hb
  rw [UInt8.lt_iff_toNat_lt]
  have e1 : (UInt8.ofNat a.toNat).toNat = a.toNat % 256 := by first | rfl | simp
  have e2 : (UInt8.ofNat b.toNat).toNat = b.toNat % 256 := by first | rfl | simp
  rw [e1, e2]
  omega
theorem u8_eq {a b : Int} (ha : IsB a) (hb : IsB b) : (UInt8.ofNat a.toNat = UInt8.ofNat b.toNat) ↔ a = b := by
  unfold IsB at ha hb
  have e1 : (UInt8.ofNat a.toNat).toNat = a.toNat % 256 := by first | rfl | simp
  have e2 : (UInt8.ofNat b.toNat).toNat = b.toNat % 256 := by first | rfl | simp
  constructor
  · intro h
    have := congrArg UInt8.toNat h
    rw [e1, e2] at this
    omega
  · rintro rfl; rfl
theorem less_u8 : ∀ (a b : List Int), (∀ z ∈ a, IsB z) → (∀ z ∈ b, IsB z) → Op.bytesLess (u8s a) (u8s b) = lessI a b
  | [], [], _, _ => rfl
  | [], _ :: _, _, _ => rfl
  | _ :: _, [], _, _ => rfl
  | x :: a, y :: b, ha, hb => by
    have hx := ha x (List.mem_cons_self ..)
    have hy := hb y (List.mem_cons_self ..)
    have ih := less_u8 a b (fun z hz => ha z (List.mem_cons_of_mem _ hz)) (fun z hz => hb z (List.mem_cons_of_mem _ hz))
    show (decide (UInt8.ofNat x.toNat < UInt8.ofNat y.toNat) || (UInt8.ofNat x.toNat == UInt8.ofNat y.toNat && Op.bytesLess (u8s a) (u8s b))) = (decide (x < y) || (x == y && lessI a b))
    rw [ih, decide_eq_decide.2 (u8_lt hx hy)]
    congr 2
    rw [Bool.eq_iff_iff]
    simp only [beq_iff_eq]
    exact u8_eq hx hy
end Ex
end Go.Proofs.YtooelfjceehmmaaDoor
namespace Go.Proofs.YtooelfjceehmmaaDoor
open Go.RowKit
namespace Ex

/-- s is no worse than u. -/
def LeY (s u : List Int) : Prop := shorter u s = false
theorem ley_iff (s u : List Int) : LeY s u ↔ s.length < u.length ∨ (s.length = u.length ∧ lessI u s = false) := by
  unfold LeY shorter
  by_cases h1 : u.length < s.length
  · simp [h1]
    omega
  · by_cases h2 : u.length = s.length
    · simp [h2]
    · simp [h1, h2]
      omega
theorem lessY_app : ∀ (a b x y : List Int), a.length = b.length → lessI a b = false → lessI x y = false → lessI (a ++ x) (b ++ y) = false
  | [], [], _, _, _, _, h => h
  | [], _ :: _, _, _, e, _, _ => by simp at e
  | _ :: _, [], _, _, e, _, _ => by simp at e
  | c :: a, d :: b, x, y, e, h1, h2 => by
    have ih := lessY_app a b x y (by simpa using e)
    simp only [List.cons_append, lessI, Bool.or_eq_false_iff, Bool.and_eq_false_iff, beq_eq_false_iff_ne] at h1 ⊢
    refine ⟨h1.1, ?_⟩
    rcases h1.2 with h | h
    · exact .inl h
    · exact .inr (ih h h2)
theorem LeY.app {s1 s2 u1 u2 : List Int} (h1 : LeY s1 u1) (h2 : LeY s2 u2) : LeY (s1 ++ s2) (u1 ++ u2) := by
  rw [ley_iff] at h1 h2 ⊢
  rw [List.length_append, List.length_append]
  rcases h1 with h1 | h1
  · rcases h2 with h2 | h2 <;> exact .inl (by omega)
  · rcases h2 with h2 | h2
    · exact .inl (by omega)
    · exact .inr ⟨by omega, lessY_app _ _ _ _ h1.1.symm h1.2 h2.2⟩
theorem LeY.nil (u : List Int) : LeY [] u := by
  rw [ley_iff]
  cases u with
  | nil => exact .inr ⟨rfl, rfl⟩
  | cons x u => exact .inl (by simp)
theorem lessY_irr : ∀ (a : List Int), lessI a a = false
  | [] => rfl
  | x :: a => by simp [lessI, lessY_irr a]
theorem LeY.refl (s : List Int) : LeY s s := by rw [ley_iff]; exact .inr ⟨rfl, lessY_irr s⟩
theorem lessY_trans : ∀ (a b c : List Int), a.length = b.length → b.length = c.length → lessI b a = false → lessI c b = false → lessI c a = false
  | [], [], [], _, _, _, _ => rfl
  | x :: a, y :: b, z :: c, e1, e2, h1, h2 => by
    have ih := lessY_trans a b c (by simpa using e1) (by simpa using e2)
    simp only [lessI, Bool.or_eq_false_iff, Bool.and_eq_false_iff, beq_eq_false_iff_ne, decide_eq_false_iff_not] at h1 h2 ⊢
    refine ⟨by omega, ?_⟩
    by_cases e : z = x
    · right
      have e1 : y = x := by omega
      have e2 : z = y := by omega
      exact ih (h1.2.resolve_left (fun h => h e1)) (h2.2.resolve_left (fun h => h e2))
    · exact .inl e
  | [], [], _ :: _, _, e, _, _ => by simp at e
  | [], _ :: _, _, e, _, _, _ => by simp at e
  | _ :: _, [], _, e, _, _, _ => by simp at e
  | _ :: _, _ :: _, [], _, e, _, _ => by simp at e
theorem LeY.trans {a b c : List Int} (h1 : LeY a b) (h2 : LeY b c) : LeY a c := by
  rw [ley_iff] at h1 h2 ⊢
  rcases h1 with h1 | h1
  · rcases h2 with h2 | h2 <;> exact .inl (by omega)
  · rcases h2 with h2 | h2
    · exact .inl (by omega)
    · exact .inr ⟨by omega, lessY_trans a b c h1.1 h2.1 h1.2 h2.2⟩
theorem lessY_asym : ∀ (a b : List Int), lessI a b = true → lessI b a = false
  | [], _ :: _, _ => rfl
  | _ :: _, [], h => by simp [lessI] at h
  | [], [], h => by simp [lessI] at h
  | x :: a, y :: b, h => by
    simp only [lessI, Bool.or_eq_true, Bool.and_eq_true, beq_iff_eq, decide_eq_true_eq] at h
    simp only [lessI, Bool.or_eq_false_iff, Bool.and_eq_false_iff, beq_eq_false_iff_ne, decide_eq_false_iff_not]
    rcases h with h | h
    · exact ⟨by omega, .inl (by omega)⟩
    · exact ⟨by omega, .inr (lessY_asym a b h.2)⟩
theorem ley_of {a b : List Int} (h : shorter a b = true) : LeY a b := by
  rw [ley_iff]
  unfold shorter at h
  simp only [Bool.or_eq_true, Bool.and_eq_true, beq_iff_eq, decide_eq_true_eq] at h
  rcases h with h | h
  · exact .inl h
  · exact .inr ⟨h.1, lessY_asym _ _ h.2⟩
theorem lessY_or : ∀ (a b : List Int), a.length = b.length → lessI b a = false → lessI a b = true ∨ a = b := by
  intro a
  induction a with
  | nil => intro b e _; right; exact (List.length_eq_zero_iff.1 e.symm).symm
  | cons x a ih =>
    intro b e h
    cases b with
    | nil => simp at e
    | cons y b =>
      simp only [lessI, Bool.or_eq_false_iff, Bool.and_eq_false_iff, beq_eq_false_iff_ne, decide_eq_false_iff_not] at h
      by_cases h1 : x < y
      · left; simp [lessI, h1]
      · have e1 : x = y := by omega
        subst e1
        have h3 := h.2.resolve_left (fun h => h rfl)
        rcases ih b (by simpa using e) h3 with h4 | h4
        · left; simp [lessI, h4]
        · right; rw [h4]
theorem LeY.anti {a b : List Int} (h1 : LeY a b) (h2 : LeY b a) : a = b := by
  rw [ley_iff] at h1 h2
  rcases h1 with h1 | h1
  · rcases h2 with h2 | h2 <;> omega
  · rcases h2 with h2 | h2
    · omega
    · rcases lessY_or a b h1.1 h1.2 with h | h
      · rw [h] at h2; exact absurd h2.2 (by simp)
      · exact h
theorem LeY.len {a b : List Int} (h : LeY a b) : a.length ≤ b.length := by
  rw [ley_iff] at h
  omega
theorem ley_not {a b : List Int} (h : LeY a b) (hn : a ≠ b) : shorter a b = true := by
  rw [ley_iff] at h
  unfold shorter
  simp only [Bool.or_eq_true, Bool.and_eq_true, beq_iff_eq, decide_eq_true_eq]
  rcases h with h | h
  · exact .inl h
  · exact .inr ⟨h.1, (lessY_or a b h.1 h.2).resolve_right hn⟩
theorem bytes_str {xs ys : List Int} (hx : ∀ z ∈ xs, IsB z) (hy : ∀ z ∈ ys, IsB z) : Op.bytesLess (strOf xs).toList (strOf ys).toList = lessI xs ys := by
  rw [Lib.toList_data, Lib.toList_data, strOf_list, strOf_list, less_u8 xs ys hx hy]
/-- Rows in their order, as numbers. -/
def valY : List Int → Nat
  | [] => 0
  | z :: r => (z.toNat + 1) * 256 ^ r.length + valY r
theorem valY_bound : ∀ (r : List Int), (∀ z ∈ r, IsB z) → 255 * valY r + 256 ≤ 256 ^ (r.length + 1) ∧ 256 ^ r.length ≤ 255 * valY r + 1
  | [], _ => ⟨by decide, by decide⟩
  | z :: r, h => by
    have hz := h z List.mem_cons_self
    obtain ⟨h1, h2⟩ := valY_bound r (fun y hy => h y (List.mem_cons_of_mem _ hy))
    show 255 * ((z.toNat + 1) * 256 ^ r.length + valY r) + 256 ≤ 256 ^ (r.length + 1 + 1) ∧ 256 ^ (r.length + 1) ≤ 255 * ((z.toNat + 1) * 256 ^ r.length + valY r) + 1
    obtain ⟨B, hB⟩ : ∃ B, 256 ^ r.length = B := ⟨_, rfl⟩
    rw [Nat.pow_succ, Nat.pow_succ] at *
    rw [hB] at h1 h2 ⊢
    obtain ⟨n, hn⟩ : ∃ n, z.toNat = n := ⟨_, rfl⟩
    rw [hn]
    have hn8 : n ≤ 255 := by unfold IsB at hz; omega
    have hm : (n + 1) * B ≤ 256 * B := Nat.mul_le_mul_right B (by omega)
    have hm2 : 1 * B ≤ (n + 1) * B := Nat.mul_le_mul_right B (by omega)
    constructor
    · omega
    · omega
theorem valY_less : ∀ (a b : List Int), (∀ z ∈ a, IsB z) → (∀ z ∈ b, IsB z) → a.length = b.length → lessI a b = true → valY a < valY b
  | [], [], _, _, _, h => by simp [lessI] at h
  | [], _ :: _, _, _, e, _ => by simp at e
  | _ :: _, [], _, _, e, _ => by simp at e
  | x :: a, y :: b, ha, hb, e, h => by
    have hx := ha x List.mem_cons_self
    have hy := hb y List.mem_cons_self
    have ha2 := fun z hz => ha z (List.mem_cons_of_mem _ hz)
    have hb2 := fun z hz => hb z (List.mem_cons_of_mem _ hz)
    have el : a.length = b.length := by simpa using e
    show (x.toNat + 1) * 256 ^ a.length + valY a < (y.toNat + 1) * 256 ^ b.length + valY b
    simp only [lessI, Bool.or_eq_true, Bool.and_eq_true, beq_iff_eq, decide_eq_true_eq] at h
    rcases h with h | ⟨h1, h2⟩
    · have b1 := (valY_bound a ha2).1
      have b2 := (valY_bound b hb2).2
      rw [Nat.pow_succ, el] at b1
      rw [el]
      obtain ⟨B, hB⟩ : ∃ B, 256 ^ b.length = B := ⟨_, rfl⟩
      rw [hB] at b1 b2 ⊢
      have hxy : x.toNat + 1 + 1 ≤ y.toNat + 1 := by unfold IsB at hx hy; omega
      have hm : (x.toNat + 1 + 1) * B ≤ (y.toNat + 1) * B := Nat.mul_le_mul_right B hxy
      rw [Nat.add_mul (x.toNat + 1) 1 B, Nat.one_mul] at hm
      omega
    · rw [h1, el]
      have := valY_less a b ha2 hb2 el h2
      omega
theorem valY_shorter {a b : List Int} (ha : ∀ z ∈ a, IsB z) (hb : ∀ z ∈ b, IsB z) (h : shorter a b = true) : valY a < valY b := by
  unfold shorter at h
  simp only [Bool.or_eq_true, Bool.and_eq_true, beq_iff_eq, decide_eq_true_eq] at h
  rcases h with h | h
  · have b1 := (valY_bound a ha).1
    have b2 := (valY_bound b hb).2
    have hp : 256 ^ (a.length + 1) ≤ 256 ^ b.length := Nat.pow_le_pow_right (by decide) h
    omega
  · exact valY_less a b ha hb h.1 h.2

end Ex
end Go.Proofs.YtooelfjceehmmaaDoor
