import Derived.Test.YtooelfjceehmmaaDoorMSpLd1
import Derived.Test.YtooelfjceehmmaaDoorMSpSm
namespace Go.Proofs.YtooelfjceehmmaaDoor
open Go.RowKit
attribute [local go_sem] Oper.semAt_some
namespace Ex

/-- What a cell holds. -/
def valAt (w : World) (g k : Nat) : Value := (w.cell? ⟨g, k, none⟩).getD (.bool false)
theorem RowG.got {w : World} {g n k : Nat} {t : TypeId} (h : RowG w g n t) (hk : k < n) : w.cell? ⟨g, k, none⟩ = some (valAt w g k) := by
  obtain ⟨⟨x, hx⟩, _⟩ := h.cell hk
  unfold valAt
  rw [hx]
  rfl
theorem RowG.soft {w : World} {g n k : Nat} {t : TypeId} (h : RowG w g n t) (hk : k < n) : w.frozen? ⟨g, k, none⟩ = false := (h.cell hk).2
/-- The text of a mark. -/
abbrev markB : ByteArray := ⟨#[109, 97, 114, 107]⟩
theorem LexIt.past {w : World} {g e k j o : Nat} {x0 x1 x2 x3 x4 x5 x6 x7 : Value} {lex : List (LexM k)} (h : LexIt w g e lex j) (ho : j * 8 ≤ o) : LexIt (put8 w g o x0 x1 x2 x3 x4 x5 x6 x7) g e lex j := (((((((h.set (by omega)).set (by omega)).set (by omega)).set (by omega)).set (by omega)).set (by omega)).set (by omega)).set (by omega)
/-- The productions that are laid. -/
def PrIt (w : World) (g : Nat) (ps : List ProdM) (j : Nat) : Prop := ∀ (i : Nat) (p : ProdM), i < j → ps[i]? = some p → ∃ r, w.cell? ⟨g, i * 2, none⟩ = some (.int .i64 p.1) ∧ w.cell? ⟨g, i * 2 + 1, none⟩ = some (.slice (some ⟨r, 0, none⟩) p.2.length (p.2.length + 1)) ∧ g < r ∧ r < w.heap.size ∧ ElsAt w 2 SymEl r p.2 ∧ w.cell? ⟨r, p.2.length * 2, none⟩ = some (.int .i64 77)
theorem PrIt.keep {w w' : World} {g j : Nat} {ps : List ProdM} (h : PrIt w g ps j) (hk : Kept w w') : PrIt w' g ps j := fun i p hi hp => by
  obtain ⟨r, h0, h1, h2, h3, h4, h5⟩ := h i p hi hp
  exact ⟨r, grown_cell hk h0, grown_cell hk h1, h2, Nat.lt_of_lt_of_le h3 hk.size, h4.keep hk, grown_cell hk h5⟩
theorem ElsAt.other {α : Type} {w : World} {sz g d o : Nat} {v : Value} {El : List Value → α → Prop} {xs : List α} (h : ElsAt w sz El g xs) (hd : g ≠ d) : ElsAt (w.setCell ⟨d, o, none⟩ v) sz El g xs := fun i x hi => by
  obtain ⟨cs, h1, h2, h3⟩ := h i x hi
  exact ⟨cs, h1, fun j u hj => by rw [set_other (.inl hd)]; exact h2 j u hj, h3⟩
theorem PrIt.set {w : World} {g j o : Nat} {x : Value} {ps : List ProdM} (h : PrIt w g ps j) (ho : j * 2 ≤ o) : PrIt (w.setCell ⟨g, o, none⟩ x) g ps j := fun i p hi hp => by
  obtain ⟨r, h0, h1, h2, h3, h4, h5⟩ := h i p hi hp
  refine ⟨r, ?_, ?_, h2, by rw [World.size_setCell]; exact h3, h4.other (by omega), ?_⟩
  · rw [set_other (by omega)]; exact h0
  · rw [set_other (by omega)]; exact h1
  · rw [set_other (.inl (by omega))]; exact h5
theorem PrIt.setE {w : World} {g e j o : Nat} {x : Value} {ps : List ProdM} (h : PrIt w g ps j) (he : e < g) : PrIt (w.setCell ⟨e, o, none⟩ x) g ps j := fun i p hi hp => by
  obtain ⟨r, h0, h1, h2, h3, h4, h5⟩ := h i p hi hp
  refine ⟨r, ?_, ?_, h2, by rw [World.size_setCell]; exact h3, h4.other (by omega), ?_⟩
  · rw [set_other (.inl (by omega))]; exact h0
  · rw [set_other (.inl (by omega))]; exact h1
  · rw [set_other (.inl (by omega))]; exact h5
theorem PrIt.put {w : World} {g j n r nr : Nat} {t : TypeId} {l : Int} {ps : List ProdM} {p : ProdM} (h : PrIt w g ps j) (hr : RowG w g n t) (hj : j * 2 + 2 ≤ n) (hp : ps[j]? = some p) (hl : p.1 = l) (hnr : p.2.length = nr) (hrg : g < r) (hrs : r < w.heap.size) (he : ElsAt w 2 SymEl r p.2) (hm : w.cell? ⟨r, nr * 2, none⟩ = some (.int .i64 77)) : PrIt ((w.setCell ⟨g, j * 2, none⟩ (.int .i64 l)).setCell ⟨g, j * 2 + 1, none⟩ (.slice (some ⟨r, 0, none⟩) nr (nr + 1))) g ps (j + 1) := by
  subst hl hnr
  intro i q hi hq
  rcases Nat.lt_or_ge i j with hij | hij
  · exact ((h.set (by omega)).set (by omega)) i q hij hq
  · have e : i = j := by omega
    subst e
    rw [hp] at hq
    injection hq with hq
    subst hq
    refine ⟨r, ?_, (hr.set _ _).same (by omega), hrg, by rw [World.size_setCell, World.size_setCell]; exact hrs, (he.other (by omega)).other (by omega), ?_⟩
    · rw [set_other (by omega)]; exact hr.same (by omega)
    · rw [set_other (.inl (by omega)), set_other (.inl (by omega))]; exact hm
/-- A spec that was lent. -/
structure LentAt (w : World) {k : Nat} (lex : List (LexM k)) (names : List ByteArray) (ps : List ProdM) (g gn gp : Nat) : Prop where
  rules : LexIt w g g lex lex.length
  lmark : w.cell? ⟨g, lex.length * 8, none⟩ = some (.string markB)
  nam : ElsAt w 1 StrEl gn names
  nmark : w.cell? ⟨gn, names.length, none⟩ = some (.string markB)
  prd : PrIt w gp ps ps.length
  pmark : w.cell? ⟨gp, ps.length * 2, none⟩ = some (.int .i64 (-77))
theorem LentAt.keep {w w' : World} {k : Nat} {lex : List (LexM k)} {names : List ByteArray} {ps : List ProdM} {g gn gp : Nat} (h : LentAt w lex names ps g gn gp) (hk : Kept w w') : LentAt w' lex names ps g gn gp := ⟨h.rules.keep hk, grown_cell hk h.lmark, h.nam.keep hk, grown_cell hk h.nmark, h.prd.keep hk, grown_cell hk h.pmark⟩
theorem LentAt.lexAt {w : World} {k : Nat} {lex : List (LexM k)} {names : List ByteArray} {ps : List ProdM} {g gn gp nl : Nat} (h : LentAt w lex names ps g gn gp) (hnl : lex.length = nl) (h44 : nl ≤ 17592186044416) (hs : ∀ l ∈ lex, l.1.size ≤ 200000000000000) : LexAt w k (.slice (some ⟨g, 0, none⟩) nl (nl + 1)) lex := by
  subst hnl
  refine ⟨some ⟨g, 0, none⟩, lex.length + 1, rfl, by omega, h44, .inr ⟨g, 0, rfl, World.block_lt_of_cell? w _ h.lmark, fun i l hi => ?_⟩⟩
  obtain ⟨v', h0, h1, h2, h3, h4, h5, h6, h7, h8⟩ := h.rules i l (List.getElem?_eq_some_iff.1 hi).1 hi
  refine ⟨[.string l.1, .bool l.2.1, .int .i64 (kind l.2.2), .int .i64 (from_ l.2.2), .int .i64 (to_ l.2.2), .int .i64 (min_ l.2.2), .int .i64 (max_ l.2.2), v'], rfl, fun j u hj => ?_, v', rfl, hs l (List.mem_of_getElem? hi), KidsAt.mono (fun _ _ _ _ hv => hv) (fun _ hd => hd.2) _ _ _ h8.1⟩
  rw [Nat.zero_add]
  match j, hj with
  | 0, hj => simp only [List.getElem?_cons_zero, Option.some.injEq] at hj; subst hj; exact h0
  | 1, hj => simp only [List.getElem?_cons_succ, List.getElem?_cons_zero, Option.some.injEq] at hj; subst hj; exact h1
  | 2, hj => simp only [List.getElem?_cons_succ, List.getElem?_cons_zero, Option.some.injEq] at hj; subst hj; exact h2
  | 3, hj => simp only [List.getElem?_cons_succ, List.getElem?_cons_zero, Option.some.injEq] at hj; subst hj; exact h3
  | 4, hj => simp only [List.getElem?_cons_succ, List.getElem?_cons_zero, Option.some.injEq] at hj; subst hj; exact h4
  | 5, hj => simp only [List.getElem?_cons_succ, List.getElem?_cons_zero, Option.some.injEq] at hj; subst hj; exact h5
  | 6, hj => simp only [List.getElem?_cons_succ, List.getElem?_cons_zero, Option.some.injEq] at hj; subst hj; exact h6
  | 7, hj => simp only [List.getElem?_cons_succ, List.getElem?_cons_zero, Option.some.injEq] at hj; subst hj; exact h7
  | _ + 8, hj => simp at hj
theorem els_slice {α : Type} {w : World} {sz g n cap : Nat} {El : List Value → α → Prop} {xs : List α} (h : ElsAt w sz El g xs) (hn : xs.length = n) (hc : n ≤ cap) (h44 : n ≤ 17592186044416) (hg : g < w.heap.size) : SliceOf w sz El (.slice (some ⟨g, 0, none⟩) n cap) xs := by
  subst hn
  refine ⟨some ⟨g, 0, none⟩, cap, rfl, hc, h44, .inr ⟨g, 0, rfl, hg, fun i x hi => ?_⟩⟩
  obtain ⟨cs, h1, h2, h3⟩ := h i x hi
  exact ⟨cs, h1, fun j u hj => by rw [Nat.zero_add]; exact h2 j u hj, h3⟩
theorem LentAt.prodsAt {w : World} {k : Nat} {lex : List (LexM k)} {names : List ByteArray} {ps : List ProdM} {g gn gp np : Nat} (h : LentAt w lex names ps g gn gp) (hnp : ps.length = np) (h44 : np ≤ 17592186044416) (hs : ∀ p ∈ ps, p.2.length ≤ 17592186044416) : ProdsAt w (.slice (some ⟨gp, 0, none⟩) np (np + 1)) ps := by
  subst hnp
  refine ⟨some ⟨gp, 0, none⟩, ps.length + 1, rfl, by omega, h44, .inr ⟨gp, 0, rfl, World.block_lt_of_cell? w _ h.pmark, fun i p hi => ?_⟩⟩
  obtain ⟨r, h0, h1, _, h3, h4, _⟩ := h.prd i p (List.getElem?_eq_some_iff.1 hi).1 hi
  refine ⟨[.int .i64 p.1, .slice (some ⟨r, 0, none⟩) p.2.length (p.2.length + 1)], rfl, fun j u hj => ?_, _, rfl, els_slice h4 rfl (by omega) (hs p (List.mem_of_getElem? hi)) h3⟩
  rw [Nat.zero_add]
  match j, hj with
  | 0, hj => simp only [List.getElem?_cons_zero, Option.some.injEq] at hj; subst hj; exact h0
  | 1, hj => simp only [List.getElem?_cons_succ, List.getElem?_cons_zero, Option.some.injEq] at hj; subst hj; exact h1
  | _ + 2, hj => simp at hj
/-- What Lend answers. -/
def LentR {k : Nat} (lex : List (LexM k)) (names : List ByteArray) (ps : List ProdM) (nl nn np : Nat) (st : Int) (w : World) (e : Ending) (w' : World) : Prop := ∃ g gn gp, e = .returned (.agg #[.slice (some ⟨g, 0, none⟩) nl (nl + 1), .slice (some ⟨gn, 0, none⟩) nn (nn + 1), .int .i64 st, .slice (some ⟨gp, 0, none⟩) np (np + 1)]) ∧ LentAt w' lex names ps g gn gp ∧ Kept w w'
/-- The second loop of Lend. -/
def LdJ (ps : List ProdM) (g n : Nat) (W : World) (vi : Value) (wr : World) : Prop := ∃ j : Nat, vi = .int .i64 (j : Int) ∧ j ≤ ps.length ∧ Hid (PrIt wr g ps j) ∧ Hid (RowG wr g n 40) ∧ Hid (Kept W wr)
theorem lent_one {w : World} {k : Nat} {lex : List (LexM k)} {names : List ByteArray} {ps : List ProdM} {g e gn gp o : Nat} {x : Value} (h : LexIt w g e lex lex.length ∧ w.cell? ⟨g, lex.length * 8, none⟩ = some (.string markB) ∧ ElsAt w 1 StrEl gn names ∧ w.cell? ⟨gn, names.length, none⟩ = some (.string markB) ∧ PrIt w gp ps ps.length ∧ w.cell? ⟨gp, ps.length * 2, none⟩ = some (.int .i64 (-77))) (h1 : e < g) (h2 : e < gn) (h3 : e < gp) : LexIt (w.setCell ⟨e, o, none⟩ x) g e lex lex.length ∧ (w.setCell ⟨e, o, none⟩ x).cell? ⟨g, lex.length * 8, none⟩ = some (.string markB) ∧ ElsAt (w.setCell ⟨e, o, none⟩ x) 1 StrEl gn names ∧ (w.setCell ⟨e, o, none⟩ x).cell? ⟨gn, names.length, none⟩ = some (.string markB) ∧ PrIt (w.setCell ⟨e, o, none⟩ x) gp ps ps.length ∧ (w.setCell ⟨e, o, none⟩ x).cell? ⟨gp, ps.length * 2, none⟩ = some (.int .i64 (-77)) :=
  ⟨h.1.setE (by omega), by rw [set_other (.inl (by omega))]; exact h.2.1, h.2.2.1.other (by omega), by rw [set_other (.inl (by omega))]; exact h.2.2.2.1, h.2.2.2.2.1.setE h3, by rw [set_other (.inl (by omega))]; exact h.2.2.2.2.2⟩
theorem lent_box {w D : World} {k : Nat} {lex : List (LexM k)} {names : List ByteArray} {ps : List ProdM} {g e gn gp : Nat} {x0 x1 x2 x3 : Value} (hk : Kept w D) (a1 : LexIt w g e lex lex.length) (a2 : w.cell? ⟨g, lex.length * 8, none⟩ = some (.string markB)) (a3 : ElsAt w 1 StrEl gn names) (a4 : w.cell? ⟨gn, names.length, none⟩ = some (.string markB)) (a5 : PrIt w gp ps ps.length) (a6 : w.cell? ⟨gp, ps.length * 2, none⟩ = some (.int .i64 (-77))) (h1 : e < g) (h2 : e < gn) (h3 : e < gp) : LentAt ((((D.setCell ⟨e, 0, none⟩ x0).setCell ⟨e, 1, none⟩ x1).setCell ⟨e, 2, none⟩ x2).setCell ⟨e, 3, none⟩ x3) lex names ps g gn gp := by
  obtain ⟨b1, b2, b3, b4, b5, b6⟩ := lent_one (o := 3) (x := x3) (lent_one (o := 2) (x := x2) (lent_one (o := 1) (x := x1) (lent_one (o := 0) (x := x0) ⟨a1.keep hk, grown_cell hk a2, a3.keep hk, grown_cell hk a4, a5.keep hk, grown_cell hk a6⟩ h1 h2 h3) h1 h2 h3) h1 h2 h3) h1 h2 h3
  exact ⟨b1.weak, b2, b3, b4, b5, b6⟩
theorem kept_ofBut {g : Nat} {w w1 w2 : World} (h : Kept w w1) (hb : KeptBut g w1 w2) (hg : w.heap.size ≤ g) : Kept w w2 := KeptBut.up h hg hb
theorem sbox_free {w : World} {b : Nat} {x0 x1 x2 x3 : Value} (h : SBox w b x0 x1 x2 x3) (i : Nat) : w.frozen? ⟨b, i, none⟩ = false := by simp [World.frozen?, show w.heap[b]? = _ from h]
theorem str_one : ∀ cs x, StrEl cs x → ∀ u ∈ cs, u.oneCell' = true := fun cs x h u hu => by
  obtain ⟨rfl, _⟩ := h
  simp only [List.mem_singleton] at hu
  subst hu
  rfl
theorem sym_one : ∀ cs x, SymEl cs x → ∀ u ∈ cs, u.oneCell' = true := fun cs x h u hu => by
  have h : cs = [.int .i64 x.1, .int .i64 x.2] := h
  subst h
  simp only [List.mem_cons, List.not_mem_nil, or_false] at hu
  rcases hu with rfl | rfl <;> rfl

end Ex
end Go.Proofs.YtooelfjceehmmaaDoor
