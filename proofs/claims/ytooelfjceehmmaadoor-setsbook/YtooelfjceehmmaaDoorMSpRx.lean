import Derived.Test.YtooelfjceehmmaaDoorMSpGl
import Derived.Test.YtooelfjceehmmaaDoorMSpTs
namespace Go.Proofs.YtooelfjceehmmaaDoor
open Go.RowKit
set_option linter.unusedVariables false
namespace Ex
open Sh

/-- A list of lists, of the call's own: its headers, and each list in a block of its own. -/
def RowsX (w : World) (base top : Nat) (v : Value) (ls : List (List Int)) : Prop := ∃ xs : List SlV, LO slE w base v xs ∧ (∀ d, v.ownBlock = some d → d < top) ∧ xs.length = ls.length ∧ (∀ (i : Nat) (x : SlV) (l : List Int), xs[i]? = some x → ls[i]? = some l → LO inE w base (val x) l ∧ ∀ d, (val x).ownBlock = some d → d < top) ∧ LoneS xs
theorem flat_ints (l : List Int) : flatE inE l = flatS l := by
  unfold flatE flatS
  induction l with
  | nil => rfl
  | cons x l ih => rw [List.flatMap_cons, ih]; rfl
theorem ints_lo {w : World} {base : Nat} {v : Value} {l : List Int} (h : IntsO w base v l) : LO inE w base v l := by
  unfold LO
  rw [flat_ints]
  exact h
theorem lo_ints {w : World} {base : Nat} {v : Value} {l : List Int} (h : LO inE w base v l) : IntsO w base v l := by
  unfold LO at h
  rw [flat_ints] at h
  exact h
theorem lo_low {α : Type} {E : ElK α} {w : World} {base b : Nat} {v : Value} {l : List α} (h : LO E w base v l) (hb : b ≤ base) : LO E w b v l := by
  refine ⟨h.1, ?_⟩
  rcases h.2 with h10 | ⟨g, cap, cur, q1, q2, q3⟩
  · exact .inl h10
  · exact .inr ⟨g, cap, cur, q1, Nat.le_trans hb q2, q3⟩
theorem lo_but {α : Type} {E : ElK α} {w w' : World} {base c : Nat} {v : Value} {l : List α} (h : LO E w base v l) (hk : KeptBut c w w') (hc : c < base) : LO E w' base v l := h.same (fun d hd => hk.2.2.2.2 d (h.lt' d hd).2 (by have := (h.lt' d hd).1; omega))
def toSl : Value → SlV
  | .slice a n c => (a, n, c)
  | _ => (none, 0, 0)
theorem rows_x {w : World} {base : Nat} {v : Value} {ls : List (List Int)} (hm : ls.length ≤ maxLen) (h : RowsO w base v ls) : RowsX w base w.heap.size v ls := by
  obtain ⟨g, vs, B, rfl, h2, h3, h4, h5⟩ := h
  have hvs : ∀ (i : Nat) (u : Value), vs[i]? = some u → val (toSl u) = u := fun i u hu => by
    obtain ⟨l, hl⟩ : ∃ l, ls[i]? = some l := ⟨_, List.getElem?_eq_getElem (by rw [← h5.len]; exact (List.getElem?_eq_some_iff.1 hu).1)⟩
    obtain ⟨a, c, rfl⟩ := (h5.each i u l hu hl).1.form
    rfl
  have hBm : ∀ a b, a ≤ b → B a ≤ B b := fun a b hab => by
    induction hab with
    | refl => exact Nat.le_refl _
    | step _ ih => exact Nat.le_trans ih (h5.mono _)
  have hflat : flatE slE (vs.map toSl) = vs := by
    apply List.ext_getElem?
    intro i
    have e : flatE slE (vs.map toSl) = vs.map fun u => val (toSl u) := by
      unfold flatE
      rw [List.flatMap_map]
      clear hvs h4 h5
      induction vs with
      | nil => rfl
      | cons x l ih => rw [List.flatMap_cons, ih]; rfl
    rw [e, List.getElem?_map]
    cases hu : vs[i]? with
    | none => rfl
    | some u => exact congrArg some (hvs i u hu)
  have hlen : (vs.map toSl).length = ls.length := by rw [List.length_map, h5.len]
  refine ⟨vs.map toSl, ⟨by rw [hflat, hlen, h5.len]; exact (Nat.mul_one _).symm, .inr ⟨g, ls.length, vs.toArray, by rw [hlen], h2, h4, by rw [hlen]; exact Nat.le_refl _, hm, by rw [← h5.len]; exact (Nat.mul_one _).symm, by rw [hflat, hlen]; show List.take (ls.length * 1) vs = vs; rw [Nat.mul_one, ← h5.len]; exact List.take_length⟩⟩, fun d hd => ?_, hlen, fun i x l hx hl => ?_, fun i j x y d hx hy hdx hdy => ?_⟩
  · have : g = d := by simpa [Value.ownBlock] using hd
    rw [← this]; exact h4.lt
  · rw [List.getElem?_map] at hx
    obtain ⟨u, hu, rfl⟩ := Option.map_eq_some_iff.1 hx
    rw [hvs i u hu]
    have h6 := (h5.each i u l hu hl).1
    exact ⟨lo_low (ints_lo h6) (by have := h5.le i; omega), fun d hd => (h6.lt d hd).2⟩
  · rw [List.getElem?_map] at hx hy
    obtain ⟨u, hu, rfl⟩ := Option.map_eq_some_iff.1 hx
    obtain ⟨u', hu', rfl⟩ := Option.map_eq_some_iff.1 hy
    rw [hvs i u hu] at hdx
    rw [hvs j u' hu'] at hdy
    obtain ⟨l, hl⟩ : ∃ l, ls[i]? = some l := ⟨_, List.getElem?_eq_getElem (by rw [← h5.len]; exact (List.getElem?_eq_some_iff.1 hu).1)⟩
    obtain ⟨l', hl'⟩ : ∃ l, ls[j]? = some l := ⟨_, List.getElem?_eq_getElem (by rw [← h5.len]; exact (List.getElem?_eq_some_iff.1 hu').1)⟩
    obtain ⟨a1, a2⟩ := h5.each i u l hu hl
    obtain ⟨b1, b2⟩ := h5.each j u' l' hu' hl'
    have q1 := (a1.lt d hdx).1
    have q2 := a2 d hdx
    have q3 := (b1.lt d hdy).1
    have q4 := b2 d hdy
    rcases Nat.lt_trichotomy i j with h | h | h
    · have := hBm (i + 1) j h; omega
    · exact h
    · have := hBm (j + 1) i h; omega
theorem rowsX_nil (w : World) (base top : Nat) : RowsX w base top (.slice none 0 0) [] := ⟨[], LO.nil _ _, fun d hd => (by cases hd), rfl, fun i x l hx => (by simp at hx), fun i j x y d hx => (by simp at hx)⟩
section
variable {w w' : World} {base top : Nat} {v : Value} {ls : List (List Int)}
theorem RowsX.keep (h : RowsX w base top v ls) (hk : Kept w w') : RowsX w' base top v ls := by
  obtain ⟨xs, h1, h2, h3, h4, h5⟩ := h
  exact ⟨xs, h1.keep hk, h2, h3, fun i x l hx hl => ⟨(h4 i x l hx hl).1.keep hk, (h4 i x l hx hl).2⟩, h5⟩
theorem RowsX.but {c : Nat} (h : RowsX w base top v ls) (hk : KeptBut c w w') (hc : c < base) : RowsX w' base top v ls := by
  obtain ⟨xs, h1, h2, h3, h4, h5⟩ := h
  exact ⟨xs, lo_but h1 hk hc, h2, h3, fun i x l hx hl => ⟨lo_but (h4 i x l hx hl).1 hk hc, (h4 i x l hx hl).2⟩, h5⟩
theorem RowsX.read (h : RowsX w base top v ls) (hn : ls.length ≤ 17592186044416) (hl : ∀ l ∈ ls, l.length ≤ 17592186044416) : RowsR w v ls := by
  obtain ⟨xs, h1, h2, h3, h4, h5⟩ := h
  obtain ⟨a, c, rfl⟩ := h1.form
  refine ⟨a, c, by rw [h3], ?_, hn, ?_⟩
  · have := h1.cap; omega
  · by_cases he : ls = []
    · exact .inl he
    · have hne : xs ≠ [] := fun e => he (List.length_eq_zero_iff.1 (by rw [← h3, e]; rfl))
      obtain ⟨g, rfl⟩ := h1.some hne
      refine .inr ⟨g, 0, rfl, (h1.lt' g rfl).2, fun i l hli => ?_⟩
      obtain ⟨x, hx⟩ : ∃ x, xs[i]? = some x := ⟨_, List.getElem?_eq_getElem (by rw [h3]; exact (List.getElem?_eq_some_iff.1 hli).1)⟩
      refine ⟨[val x], rfl, fun j u hu => ?_, val x, rfl, (lo_ints (h4 i x l hx hli).1).read (hl l (List.mem_of_getElem? hli))⟩
      rw [Nat.zero_add]
      exact h1.cell hx hu
end
/-- What is told of a spec in order: one answer. -/
def TdU (ps : List ProdM) (nl st nn : Nat) (es : List Bool) (l2 l3 l4 : List (List Int)) (fl : Bool) : Prop :=
  (∃ E : Nat, (∀ n, E.testBit n = true ↔ Mk false ps n) ∧ es = (List.range nn).map fun i => E.testBit i) ∧
  (∃ F : Nat → Nat, (∀ x, famS F x ↔ Fi nl (Mk false ps) ps x) ∧ l2 = (List.range nn).map fun i => bitsTo (F i) 128) ∧
  (∃ F : Nat → Nat, (∀ x, famS F x ↔ Fo nl st (Mk false ps) (Fi nl (Mk false ps) ps) ps x) ∧ l3 = (List.range nn).map fun i => bitsTo (F i) 128) ∧
  ∃ L, OkY L ∧ YIs nl ps L ∧ (((∃ i, i < nn ∧ L i = none) ∧ fl = true ∧ l4 = []) ∨ ((∀ i, i < nn → L i ≠ none) ∧ fl = false ∧ l4 = (List.range nn).map fun i => (L i).getD []))
theorem fam_one {F F' : Nat → Nat} {P : Nat × Nat → Prop} (h : ∀ x, famS F x ↔ P x) (h' : ∀ x, famS F' x ↔ P x) (i : Nat) : F i = F' i := Nat.eq_of_testBit_eq fun b => by
  have := (h (i, b)).trans (h' (i, b)).symm
  unfold famS at this
  rw [Bool.eq_iff_iff]
  exact this
theorem TdU.one {ps : List ProdM} {nl st nn : Nat} {es es' : List Bool} {l2 l3 l4 l2' l3' l4' : List (List Int)} {fl fl' : Bool} (h : TdU ps nl st nn es l2 l3 l4 fl) (h' : TdU ps nl st nn es' l2' l3' l4' fl') : es = es' ∧ l2 = l2' ∧ l3 = l3' ∧ l4 = l4' ∧ fl = fl' := by
  obtain ⟨⟨E, e1, rfl⟩, ⟨F, f1, rfl⟩, ⟨G, g1, rfl⟩, L, _, y1, h4⟩ := h
  obtain ⟨⟨E', e1', rfl⟩, ⟨F', f1', rfl⟩, ⟨G', g1', rfl⟩, L', _, y1', h4'⟩ := h'
  have eE : E = E' := Nat.eq_of_testBit_eq fun b => by rw [Bool.eq_iff_iff]; exact (e1 b).trans (e1' b).symm
  subst eE
  have eL : L = L' := funext fun n => y1.one y1' n
  subst eL
  refine ⟨rfl, by congr 1; funext i; rw [fam_one f1 f1'], by congr 1; funext i; rw [fam_one g1 g1'], ?_⟩
  rcases h4 with ⟨⟨i, hi, hn⟩, rfl, rfl⟩ | ⟨ha, rfl, rfl⟩
  · rcases h4' with ⟨_, rfl, rfl⟩ | ⟨ha', _⟩
    · exact ⟨rfl, rfl⟩
    · exact absurd hn (ha' i hi)
  · rcases h4' with ⟨⟨i, hi, hn⟩, _⟩ | ⟨_, rfl, rfl⟩
    · exact absurd hn (ha i hi)
    · exact ⟨rfl, rfl⟩
theorem TdU.lens {ps : List ProdM} {nl st nn : Nat} {es : List Bool} {l2 l3 l4 : List (List Int)} {fl : Bool} (h : TdU ps nl st nn es l2 l3 l4 fl) : es.length = nn ∧ l2.length = nn ∧ l3.length = nn ∧ (l4.length = nn ∨ l4.length = 0) ∧ (∀ l ∈ l2, l.length ≤ 128) ∧ (∀ l ∈ l3, l.length ≤ 128) ∧ ∀ l ∈ l4, l.length ≤ 4096 := by
  obtain ⟨⟨E, e1, rfl⟩, ⟨F, f1, rfl⟩, ⟨G, g1, rfl⟩, L, ok, y1, h4⟩ := h
  have lb : ∀ (Q : Nat → Nat), ∀ l ∈ ((List.range nn).map fun i => bitsTo (Q i) 128), l.length ≤ 128 := fun Q l hl => by
    obtain ⟨i, _, rfl⟩ := List.mem_map.1 hl
    exact bitsTo_len _ _
  refine ⟨by simp, by simp, by simp, ?_, lb _, lb _, ?_⟩
  · rcases h4 with ⟨_, _, rfl⟩ | ⟨_, _, rfl⟩
    · exact .inr rfl
    · exact .inl (by simp)
  · rcases h4 with ⟨_, _, rfl⟩ | ⟨_, _, rfl⟩
    · intro l hl; cases hl
    · intro l hl
      obtain ⟨i, _, rfl⟩ := List.mem_map.1 hl
      cases hi : L i with
      | none => exact Nat.zero_le _
      | some r => exact (ok i r hi).2
/-- What told answers, each list in a block of its own. -/
def ToldS {k : Nat} (lex : List (LexM k)) (ps : List ProdM) (nn nl : Nat) (st : Int) (w : World) (e : Ending) (w' : World) : Prop := ∃ x : Int × Int, CheckQ lex ps nn nl st x ∧ Kept w w' ∧
  ((x.1 ≠ 0 ∧ e = .returned (.tuple #[.agg #[.slice none 0 0, .slice none 0 0, .slice none 0 0, .slice none 0 0, .bool false], .bool false, .bool true])) ∨
   (x.1 = 0 ∧ ∃ (g1 g2 g3 : Nat) (ay : Option Addr) (m : Nat) (fl : Bool) (es : List Bool) (l2 l3 l4 : List (List Int)) (H1 H2 H3 : Nat), e = .returned (.tuple #[.agg #[.slice (some ⟨g1, 0, none⟩) nn nn, .slice (some ⟨g2, 0, none⟩) nn nn, .slice (some ⟨g3, 0, none⟩) nn nn, .slice ay m m, .bool fl], .bool true, .bool true]) ∧ TdU ps nl st.toNat nn es l2 l3 l4 fl ∧ l4.length = m ∧ (w.heap.size ≤ H1 ∧ H1 ≤ H2 ∧ H2 ≤ H3 ∧ H3 ≤ w'.heap.size) ∧ LO boE w' w.heap.size (.slice (some ⟨g1, 0, none⟩) nn nn) es ∧ RowsX w' w.heap.size H1 (.slice (some ⟨g2, 0, none⟩) nn nn) l2 ∧ RowsX w' H1 H2 (.slice (some ⟨g3, 0, none⟩) nn nn) l3 ∧ RowsX w' H2 H3 (.slice ay m m) l4))
theorem bools_lo {w : World} {base : Nat} {v : Value} {l : List Bool} (hm : l.length ≤ maxLen) (h : BoolsO w base v l) : LO boE w base v l := by
  obtain ⟨g, rfl, h2, h3⟩ := h
  have hf : flatE boE l = l.map Value.bool := by
    unfold flatE
    clear h2 h3 hm
    induction l with
    | nil => rfl
    | cons x l ih => rw [List.flatMap_cons, ih]; rfl
  refine ⟨by rw [hf, List.length_map]; exact (Nat.mul_one _).symm, .inr ⟨g, l.length, _, rfl, h2, h3, Nat.le_refl _, hm, by simp; exact (Nat.mul_one _).symm, ?_⟩⟩
  rw [hf]
  show List.take (l.length * 1) (l.map Value.bool) = _
  rw [Nat.mul_one]
  exact List.take_of_length_le (by simp)

end Ex
end Go.Proofs.YtooelfjceehmmaaDoor
namespace Go.Proofs.YtooelfjceehmmaaDoor
open Go.RowKit
attribute [local go_sem] Oper.semAt_some
namespace Ex
open Sh

theorem rowsX_down {w : World} {base base' top : Nat} {v : Value} {ls : List (List Int)} (h : RowsX w base top v ls) (hb : base' ≤ base) : RowsX w base' top v ls := by
  obtain ⟨xs, h1, h2, h3, h4, h5⟩ := h
  exact ⟨xs, lo_low h1 hb, h2, h3, fun i x l hx hl => ⟨lo_low (h4 i x l hx hl).1 hb, (h4 i x l hx hl).2⟩, h5⟩
theorem maxs {n : Nat} (h : n ≤ 17592186044416) : n ≤ maxLen := by unfold maxLen; omega
theorem range_le {α : Type} (nn : Nat) (f : Nat → α) (hn : nn ≤ 17592186044416) : ((List.range nn).map f).length ≤ maxLen := by rw [List.length_map, List.length_range]; exact maxs hn
/-- The four answers, each with what it owns. -/
theorem nullX {ps : List ProdM} {nn base : Nat} {v : Value} {w : World} (hn : nn ≤ 17592186044416) (h : NullOk ps nn base v w) : ∃ es, (∃ E : Nat, (∀ n, E.testBit n = true ↔ Mk false ps n) ∧ es = (List.range nn).map fun i => E.testBit i) ∧ LO boE w base v es := by
  obtain ⟨E, h1, h2⟩ := h
  exact ⟨_, ⟨E, h1, rfl⟩, bools_lo (range_le nn _ hn) h2⟩
theorem firstX {nl nn base : Nat} {ps : List ProdM} {v : Value} {w : World} (hn : nn ≤ 17592186044416) (h : FirstOk nl ps nn base v w) : ∃ ls, (∃ F : Nat → Nat, (∀ x, famS F x ↔ Fi nl (Mk false ps) ps x) ∧ ls = (List.range nn).map fun i => bitsTo (F i) 128) ∧ RowsX w base w.heap.size v ls := by
  obtain ⟨F, _, h1, h2⟩ := h
  exact ⟨_, ⟨F, h1, rfl⟩, rows_x (range_le nn _ hn) h2⟩
theorem followX {nl st nn base : Nat} {ps : List ProdM} {v : Value} {w : World} (hn : nn ≤ 17592186044416) (h : FollowOk nl st ps nn base v w) : ∃ ls, (∃ F : Nat → Nat, (∀ x, famS F x ↔ Fo nl st (Mk false ps) (Fi nl (Mk false ps) ps) ps x) ∧ ls = (List.range nn).map fun i => bitsTo (F i) 128) ∧ RowsX w base w.heap.size v ls := by
  obtain ⟨F, G, _, h1, h2, h3⟩ := h
  have e : famS F = Fi nl (Mk false ps) ps := funext fun x => propext (h1 x)
  rw [e] at h2
  exact ⟨_, ⟨G, h2, rfl⟩, rows_x (range_le nn _ hn) h3⟩
theorem yieldX {nl nn base m : Nat} {ps : List ProdM} {y : Int × Int} {ay : Option Addr} {w : World} (hn : nn ≤ 17592186044416) (h : YldO nl ps nn base y (.slice ay m m) w) : ∃ l4 fl, (∃ L, OkY L ∧ YIs nl ps L ∧ (((∃ i, i < nn ∧ L i = none) ∧ fl = true ∧ l4 = []) ∨ ((∀ i, i < nn → L i ≠ none) ∧ fl = false ∧ l4 = (List.range nn).map fun i => (L i).getD []))) ∧ RowsX w base w.heap.size (.slice ay m m) l4 ∧ l4.length = m ∧ (y.1 == 6) = fl := by
  obtain ⟨L, ok, hL, h⟩ := h
  rcases h with ⟨i, h1, h2, _, rfl, h5⟩ | ⟨h1, rfl, h2⟩
  · injection h5 with e1 e2 e3
    subst e1 e2
    exact ⟨[], true, ⟨L, ok, hL, .inl ⟨⟨i, h1, h2⟩, rfl, rfl⟩⟩, rowsX_nil _ _ _, rfl, rfl⟩
  · obtain ⟨g, hg⟩ := h2.form
    injection hg with e1 e2 e3
    exact ⟨_, false, ⟨L, ok, hL, .inr ⟨h1, rfl, rfl⟩⟩, rows_x (range_le nn _ hn) h2, e2.symm, rfl⟩
set_option linter.unusedSimpArgs false in
set_option maxRecDepth 100000 in
set_option maxHeartbeats 8000000 in
theorem toldS_is (k : Nat) (lex : List (LexM k)) (ps : List ProdM) (al an ap : Option Addr) (nl cl nn cn np cp : Nat) (st : Int) (w : World) (hnn : nn ≤ 17592186044416) (hlex : lex.length = nl) (hps : ps.length = np) (hl : LexAt w k (.slice al nl cl) lex) (hp : ProdsAt w (.slice ap np cp) ps) (hT : TabAt w) :
    Calls Tryd.prog 5 #[.agg #[.slice al nl cl, .slice an nn cn, .int .i64 st, .slice ap np cp]] w (ToldS lex ps nn nl st w) := by
  obtain ⟨h1, h2, h3, h4⟩ := td_start w (.slice al nl cl) (.slice an nn cn) (.int .i64 st) (.slice ap np cp)
  have HB := hide1 h1
  have HR := hide1 h2
  have HD := hide1 h3
  have HK := hide1 h4
  have HC := hide1 (sCheckTop_is k lex ps al an ap nl cl nn cn np cp st _ hnn hlex hps (hl.keep h4) (hp.keep h4))
  have HP := hide1 hp
  have HL := hide1 hl
  have HPS := hide1 hps
  have HLEN := hide1 hlex
  have HT := hide1 hT
  have HNN := hide1 hnn
  have gn : (nn : Int) ≤ 17592186044416 := by omega
  clear h1 h2 h3 h4 hp hps hl hlex hnn hT
  go_enter Tryd.func5, Tryd.ntmps5
  go_upto_region 2 with fail
  obtain ⟨W, hW⟩ : ∃ W, ((w.alloc (.cells #[.slice al nl cl, .slice an nn cn, .int .i64 st, .slice ap np cp] 26)).alloc (.cells #[.slice none 0 0, .slice none 0 0, .slice none 0 0, .slice none 0 0, .bool false] 30)).alloc (.cells #[.slice none 0 0, .slice none 0 0, .slice none 0 0, .slice none 0 0, .bool false] 30) = W := ⟨_, rfl⟩
  rw [hW] at HB HR HD HK HC ⊢
  clear hW
  obtain ⟨b, hb⟩ : ∃ b, w.heap.size = b := ⟨_, rfl⟩
  rw [hb] at HB HR HD ⊢
  have HSZ := hide1 hb
  clear hb
  obtain ⟨s0, s1, s2, s3⟩ := HB.out.facts
  go_upto_region 3 with (go_at_call 15; refine HC.out.mono ?_; rintro e w6 ⟨⟨xe, xa⟩, rfl, hq6, hk6⟩; rw [faultV_eq]; have HQ6 := hide1 hq6; have HK6 := hide1 hk6; clear hq6 hk6)
  clear s0 s1 s2 s3
  have HXB : Hid (FlBox (w6.alloc (.cells #[.int .i64 xe, .int .i64 xa, .string ⟨#[]⟩] 44)) w6.heap.size xe xa) := heap_alloc_new w6 _
  have HK7 := hide1 (gtrans HK6.out ((Kept.refl w6).alloc #[.int .i64 xe, .int .i64 xa, .string ⟨#[]⟩] 44))
  obtain ⟨W0, hW7⟩ : ∃ W0, w6.alloc (.cells #[.int .i64 xe, .int .i64 xa, .string ⟨#[]⟩] 44) = W0 := ⟨_, rfl⟩
  rw [hW7] at HXB HK7 ⊢
  clear hW7
  obtain ⟨xb, hxb⟩ : ∃ xb, w6.heap.size = xb := ⟨_, rfl⟩
  rw [hxb] at HXB ⊢
  clear hxb
  have x0 := HXB.out.cells.1.1
  have HKw0 := hide1 (gtrans HK.out HK7.out)
  have HB0 := hide1 (HB.out.keep HK7.out)
  have HR0 := hide1 (HR.out.keep HK7.out)
  have HD0 := hide1 (HD.out.keep HK7.out)
  by_cases hx0 : xe = 0
  · subst hx0
    have HPA := hide1 (checkQ_ok HQ6.out rfl)
    have HQ0 : Hid (CheckQ lex ps nn nl st (0, 0)) := by
      have h := HQ6.out
      rw [HPA.out.1] at h
      exact h
    obtain ⟨s0, s1, s2, s3⟩ := HB0.out.facts
    go_upto_region 6 with (go_at_call 19; refine (null_ok k lex ps al an ap nl cl nn cn np cp st _ HNN.out HLEN.out HPS.out (HL.out.keep HKw0.out) (HP.out.keep HKw0.out) (HT.out.keep HKw0.out) HQ0.out).mono ?_; rintro e v0 ⟨g0, rfl, ho0, hk0⟩; obtain ⟨es, he0, ho0x⟩ := nullX HNN.out ho0; have HE0 := hide1 he0; have HO0 := hide1 ho0x; clear he0 ho0x; have HKc0 := hide1 hk0; clear ho0 hk0)
    clear s0 s1 s2 s3 x0
    have HX0 : Hid (FlBox (v0.alloc (.cells #[.int .i64 0, .int .i64 0, .string ⟨#[]⟩] 44)) v0.heap.size 0 0) := heap_alloc_new v0 _
    have HA0 : Hid (Kept v0 (v0.alloc (.cells #[.int .i64 0, .int .i64 0, .string ⟨#[]⟩] 44))) := (Kept.refl v0).alloc _ _
    obtain ⟨W1, hW1⟩ : ∃ W1, v0.alloc (.cells #[.int .i64 0, .int .i64 0, .string ⟨#[]⟩] 44) = W1 := ⟨_, rfl⟩
    rw [hW1] at HX0 HA0 ⊢
    clear hW1
    obtain ⟨x1, hx1⟩ : ∃ x1, v0.heap.size = x1 := ⟨_, rfl⟩
    rw [hx1] at HX0 ⊢
    clear hx1
    have HG0 := hide1 (gtrans HKc0.out HA0.out)
    have HKw1 := hide1 (gtrans HKw0.out HG0.out)
    have HB1 := hide1 (HB0.out.keep HG0.out)
    have HR1 := hide1 (HR0.out.keep HG0.out)
    have HD1 := hide1 (HD0.out.keep HG0.out)
    obtain ⟨s0, s1, s2, s3⟩ := HB1.out.facts
    go_upto_region 7 with (go_at_call 20; refine (first_ok k lex ps al an ap nl cl nn cn np cp st _ HNN.out HLEN.out HPS.out (HL.out.keep HKw1.out) (HP.out.keep HKw1.out) (HT.out.keep HKw1.out) HQ0.out).mono ?_; rintro e v1 ⟨g1, rfl, ho1, hk1⟩; obtain ⟨l2, he1, ho1x⟩ := firstX HNN.out ho1; have HE1 := hide1 he1; have HO1 := hide1 ho1x; clear he1 ho1x; have HKc1 := hide1 hk1; clear ho1 hk1)
    clear s0 s1 s2 s3
    have HX1 : Hid (FlBox (v1.alloc (.cells #[.int .i64 0, .int .i64 0, .string ⟨#[]⟩] 44)) v1.heap.size 0 0) := heap_alloc_new v1 _
    have HA1 : Hid (Kept v1 (v1.alloc (.cells #[.int .i64 0, .int .i64 0, .string ⟨#[]⟩] 44))) := (Kept.refl v1).alloc _ _
    obtain ⟨W2, hW2⟩ : ∃ W2, v1.alloc (.cells #[.int .i64 0, .int .i64 0, .string ⟨#[]⟩] 44) = W2 := ⟨_, rfl⟩
    rw [hW2] at HX1 HA1 ⊢
    clear hW2
    obtain ⟨x2, hx2⟩ : ∃ x2, v1.heap.size = x2 := ⟨_, rfl⟩
    rw [hx2] at HX1 ⊢
    clear hx2
    have HG1 := hide1 (gtrans HKc1.out HA1.out)
    have HKw2 := hide1 (gtrans HKw1.out HG1.out)
    have HB2 := hide1 (HB1.out.keep HG1.out)
    have HR2 := hide1 (HR1.out.keep HG1.out)
    have HD2 := hide1 (HD1.out.keep HG1.out)
    obtain ⟨s0, s1, s2, s3⟩ := HB2.out.facts
    go_upto_region 8 with (go_at_call 21; refine (follow_ok k lex ps al an ap nl cl nn cn np cp st _ HNN.out HLEN.out HPS.out (HL.out.keep HKw2.out) (HP.out.keep HKw2.out) (HT.out.keep HKw2.out) HQ0.out).mono ?_; rintro e v2 ⟨g2, rfl, ho2, hk2⟩; obtain ⟨l3, he2, ho2x⟩ := followX HNN.out ho2; have HE2 := hide1 he2; have HO2 := hide1 ho2x; clear he2 ho2x; have HKc2 := hide1 hk2; clear ho2 hk2)
    clear s0 s1 s2 s3
    have HX2 : Hid (FlBox (v2.alloc (.cells #[.int .i64 0, .int .i64 0, .string ⟨#[]⟩] 44)) v2.heap.size 0 0) := heap_alloc_new v2 _
    have HA2 : Hid (Kept v2 (v2.alloc (.cells #[.int .i64 0, .int .i64 0, .string ⟨#[]⟩] 44))) := (Kept.refl v2).alloc _ _
    obtain ⟨W3, hW3⟩ : ∃ W3, v2.alloc (.cells #[.int .i64 0, .int .i64 0, .string ⟨#[]⟩] 44) = W3 := ⟨_, rfl⟩
    rw [hW3] at HX2 HA2 ⊢
    clear hW3
    obtain ⟨x3, hx3⟩ : ∃ x3, v2.heap.size = x3 := ⟨_, rfl⟩
    rw [hx3] at HX2 ⊢
    clear hx3
    have HG2 := hide1 (gtrans HKc2.out HA2.out)
    have HKw3 := hide1 (gtrans HKw2.out HG2.out)
    have HB3 := hide1 (HB2.out.keep HG2.out)
    have HR3 := hide1 (HR2.out.keep HG2.out)
    have HD3 := hide1 (HD2.out.keep HG2.out)
    obtain ⟨s0, s1, s2, s3⟩ := HB3.out.facts
    go_upto_region 9 with (go_at_call 22; refine (yields_ok k lex ps al an ap nl cl nn cn np cp st _ HNN.out HLEN.out HPS.out (HL.out.keep HKw3.out) (HP.out.keep HKw3.out) (HT.out.keep HKw3.out) HQ0.out).mono ?_; rintro e v3 ⟨ay, m, ye, ya, rfl, ho3, hor, hk3⟩; obtain ⟨l4, fl, he3, ho3x, hm3, hfl⟩ := yieldX HNN.out ho3; have HE3 := hide1 he3; have HO3 := hide1 ho3x; have HM3 := hide1 hm3; have HFL := hide1 hfl; clear he3 ho3x hm3 hfl; have HKc3 := hide1 hk3; have HOR := hide1 hor; clear hor; clear ho3 hk3)
    clear s0 s1 s2 s3
    have HX3 : Hid (FlBox (v3.alloc (.cells #[.int .i64 ye, .int .i64 ya, .string ⟨#[]⟩] 44)) v3.heap.size ye ya) := heap_alloc_new v3 _
    have HA3 : Hid (Kept v3 (v3.alloc (.cells #[.int .i64 ye, .int .i64 ya, .string ⟨#[]⟩] 44))) := (Kept.refl v3).alloc _ _
    obtain ⟨W4, hW4⟩ : ∃ W4, v3.alloc (.cells #[.int .i64 ye, .int .i64 ya, .string ⟨#[]⟩] 44) = W4 := ⟨_, rfl⟩
    rw [hW4] at HX3 HA3 ⊢
    clear hW4
    obtain ⟨x4, hx4⟩ : ∃ x4, v3.heap.size = x4 := ⟨_, rfl⟩
    rw [hx4] at HX3 ⊢
    clear hx4
    have HG3 := hide1 (gtrans HKc3.out HA3.out)
    have HKw4 := hide1 (gtrans HKw3.out HG3.out)
    have HB4 := hide1 (HB3.out.keep HG3.out)
    have HR4 := hide1 (HR3.out.keep HG3.out)
    have HD4 := hide1 (HD3.out.keep HG3.out)
    obtain ⟨s0, s1, s2, s3⟩ := HB4.out.facts
    have a0 := (HX0.out.keep (gtrans HG1.out (gtrans HG2.out HG3.out))).cells.1.1
    have a1 := (HX1.out.keep (gtrans HG2.out HG3.out)).cells.1.1
    have a2 := (HX2.out.keep HG3.out).cells.1.1
    have a3 := HX3.out.cells.1.1
    have HN4 := hide1 (HO0.out.keep (gtrans HA0.out (gtrans HG1.out (gtrans HG2.out HG3.out))))
    have HF4 := hide1 (HO1.out.keep (gtrans HA1.out (gtrans HG2.out HG3.out)))
    have HW4 := hide1 (HO2.out.keep (gtrans HA2.out HG3.out))
    have HY4 := hide1 (HO3.out.keep HA3.out)
    have hfl : (ye == 6) = fl := HFL.out
    obtain ⟨⟨d0, d1, d2, d3, d4⟩, z0, z1, z2, z3, z4⟩ := HD4.out.cells
    go_upto_region 11 with fail
    clear s0 s1 s2 s3 d0 d1 d2 d3 d4 z0 z1 z2 z3 z4
    obtain ⟨D, hD⟩ : ∃ D, ((((W4.setCell ⟨b + 1 + 1, 0, none⟩ (.slice (some ⟨g0, 0, none⟩) nn nn)).setCell ⟨b + 1 + 1, 1, none⟩ (.slice (some ⟨g1, 0, none⟩) nn nn)).setCell ⟨b + 1 + 1, 2, none⟩ (.slice (some ⟨g2, 0, none⟩) nn nn)).setCell ⟨b + 1 + 1, 3, none⟩ (.slice ay m m)).setCell ⟨b + 1 + 1, 4, none⟩ (.bool fl) = D := ⟨_, rfl⟩
    have HDD := hide1 (HD4.out.fill (.slice (some ⟨g0, 0, none⟩) nn nn) (.slice (some ⟨g1, 0, none⟩) nn nn) (.slice (some ⟨g2, 0, none⟩) nn nn) (.slice ay m m) fl)
    have HKD : Hid (KeptBut (b + 1 + 1) W4 (((((W4.setCell ⟨b + 1 + 1, 0, none⟩ (.slice (some ⟨g0, 0, none⟩) nn nn)).setCell ⟨b + 1 + 1, 1, none⟩ (.slice (some ⟨g1, 0, none⟩) nn nn)).setCell ⟨b + 1 + 1, 2, none⟩ (.slice (some ⟨g2, 0, none⟩) nn nn)).setCell ⟨b + 1 + 1, 3, none⟩ (.slice ay m m)).setCell ⟨b + 1 + 1, 4, none⟩ (.bool fl))) := but_set (but_set (but_set (but_set (but_set (but_refl (b + 1 + 1) W4) _ _) _ _) _ _) _ _) _ _
    rw [hD] at HDD HKD ⊢
    clear hD a0 a1 a2 a3
    have a0 := ((HX0.out.keep (gtrans HG1.out (gtrans HG2.out HG3.out))).but HKD.out (fl_td_ne (HX0.out.keep (gtrans HG1.out (gtrans HG2.out HG3.out))) HD4.out)).cells.1.1
    have a1 := ((HX1.out.keep (gtrans HG2.out HG3.out)).but HKD.out (fl_td_ne (HX1.out.keep (gtrans HG2.out HG3.out)) HD4.out)).cells.1.1
    have a2 := ((HX2.out.keep HG3.out).but HKD.out (fl_td_ne (HX2.out.keep HG3.out) HD4.out)).cells.1.1
    have a3 := (HX3.out.but HKD.out (fl_td_ne HX3.out HD4.out)).cells.1.1
    have HRD := hide1 (HR4.out.but HKD.out (by omega))
    have HKwD : Hid (Kept w D) := KeptBut.up HKw4.out (by rw [HSZ.out]; omega) HKD.out
    have HND := hide1 (lo_but HN4.out HKD.out HD0.out.lt)
    have HFD := hide1 (HF4.out.but HKD.out HD1.out.lt)
    have HWD := hide1 (HW4.out.but HKD.out HD2.out.lt)
    have HYD := hide1 (HY4.out.but HKD.out HD3.out.lt)
    have L0 := hide1 HR0.out.lt
    have L1 := hide1 HR1.out.lt
    have L2 := hide1 HR2.out.lt
    have L3 := hide1 HR3.out.lt
    clear hfl
    obtain ⟨⟨d0, d1, d2, d3, d4⟩, _⟩ := HDD.out.cells
    obtain ⟨⟨r0, r1, r2, r3, r4⟩, z0, z1, z2, z3, z4⟩ := HRD.out.cells
    have HFIN : Hid (ye = 0 ∧ m = nn ∧ fl = false ∨ ye = 6 ∧ m = 0 ∧ fl = true) := by
      have h := HFL.out
      rcases HOR.out with ⟨h1, h2⟩ | ⟨h1, h2⟩
      · exact .inl ⟨h1, h2, by rw [← h, h1]; rfl⟩
      · exact .inr ⟨h1, h2, by rw [← h, h1]; rfl⟩
    have HBK : Hid (KeptBut (b + 1) D (((((D.setCell ⟨b + 1, 0, none⟩ (.slice (some ⟨g0, 0, none⟩) nn nn)).setCell ⟨b + 1, 1, none⟩ (.slice (some ⟨g1, 0, none⟩) nn nn)).setCell ⟨b + 1, 2, none⟩ (.slice (some ⟨g2, 0, none⟩) nn nn)).setCell ⟨b + 1, 3, none⟩ (.slice ay m m)).setCell ⟨b + 1, 4, none⟩ (.bool fl))) := but_set (but_set (but_set (but_set (but_set (but_refl (b + 1) D) _ _) _ _) _ _) _ _) _ _
    have HEND : Hid (ToldS lex ps nn nl st w (.returned (.tuple #[.agg #[.slice (some ⟨g0, 0, none⟩) nn nn, .slice (some ⟨g1, 0, none⟩) nn nn, .slice (some ⟨g2, 0, none⟩) nn nn, .slice ay m m, .bool fl], .bool true, .bool true])) (((((D.setCell ⟨b + 1, 0, none⟩ (.slice (some ⟨g0, 0, none⟩) nn nn)).setCell ⟨b + 1, 1, none⟩ (.slice (some ⟨g1, 0, none⟩) nn nn)).setCell ⟨b + 1, 2, none⟩ (.slice (some ⟨g2, 0, none⟩) nn nn)).setCell ⟨b + 1, 3, none⟩ (.slice ay m m)).setCell ⟨b + 1, 4, none⟩ (.bool fl))) := by
      have z1 : w.heap.size ≤ W1.heap.size := HKw1.out.size
      have z2 : v1.heap.size ≤ W2.heap.size := HA1.out.size
      have z3 : v2.heap.size ≤ W3.heap.size := HA2.out.size
      have z4 : W1.heap.size ≤ v1.heap.size := HKc1.out.size
      have z5 : W2.heap.size ≤ v2.heap.size := HKc2.out.size
      have z6 : W3.heap.size ≤ v3.heap.size := HKc3.out.size
      have z7 : v3.heap.size ≤ W4.heap.size := HA3.out.size
      have z8 := HKD.out.2.2.2.1
      have z9 := HBK.out.2.2.2.1
      refine ⟨(0, 0), HQ0.out, KeptBut.up HKwD.out (by rw [HSZ.out]; omega) HBK.out, .inr ⟨rfl, g0, g1, g2, ay, m, fl, es, l2, l3, l4, v1.heap.size, v2.heap.size, v3.heap.size, rfl, ⟨HE0.out, HE1.out, HE2.out, HE3.out⟩, HM3.out, ⟨by omega, by omega, by omega, by omega⟩, lo_low (lo_but HND.out HBK.out L0.out) HKw0.out.size, rowsX_down (HFD.out.but HBK.out L1.out) HKw1.out.size, rowsX_down (HWD.out.but HBK.out L2.out) z2, rowsX_down (HYD.out.but HBK.out L3.out) z3⟩⟩
    rcases HFIN.out with ⟨rfl, rfl, rfl⟩ | ⟨rfl, rfl, rfl⟩
    · go_wp2_with fail
      refine bodyPost_ret (results_row_tmp2 rfl _ _ (b + 1) 30 _ (0, 0) _ rfl (HRD.out.fill _ _ _ _ _) Tryd.underlying30 rfl (td_size _ _ _ _ _)) rfl ?_
      exact HEND.out
    · go_wp2_with fail
      refine bodyPost_ret (results_row_tmp2 rfl _ _ (b + 1) 30 _ (0, 0) _ rfl (HRD.out.fill _ _ _ _ _) Tryd.underlying30 rfl (td_size _ _ _ _ _)) rfl ?_
      exact HEND.out
  · have b0 : (xe != 0) = true := by simpa using hx0
    have HNX : Hid (xe ≠ 0) := hx0
    obtain ⟨⟨d0, d1, d2, d3, d4⟩, _⟩ := HD0.out.cells
    obtain ⟨⟨r0, r1, r2, r3, r4⟩, z0, z1, z2, z3, z4⟩ := HR0.out.cells
    clear hx0
    go_wp2_with fail
    refine bodyPost_ret (results_row_tmp2 rfl _ _ (b + 1) 30 _ (0, 0) _ rfl (HR0.out.fill (.slice none 0 0) (.slice none 0 0) (.slice none 0 0) (.slice none 0 0) false) Tryd.underlying30 rfl (td_size _ _ _ _ _)) rfl ?_
    have HBK : Hid (KeptBut (b + 1) W0 (((((W0.setCell ⟨b + 1, 0, none⟩ (.slice none 0 0)).setCell ⟨b + 1, 1, none⟩ (.slice none 0 0)).setCell ⟨b + 1, 2, none⟩ (.slice none 0 0)).setCell ⟨b + 1, 3, none⟩ (.slice none 0 0)).setCell ⟨b + 1, 4, none⟩ (.bool false))) := but_set (but_set (but_set (but_set (but_set (but_refl (b + 1) W0) _ _) _ _) _ _) _ _) _ _
    exact ⟨(xe, xa), HQ6.out, KeptBut.up HKw0.out (by rw [HSZ.out]; omega) HBK.out, .inl ⟨HNX.out, rfl⟩⟩

end Ex
end Go.Proofs.YtooelfjceehmmaaDoor
