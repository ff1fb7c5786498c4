import Derived.Test.YtooelfjceehmmaaDoorMExBase
import Derived.Test.YtooelfjceehmmaaDoorRows
import Derived.ProofKit
import Derived.LaidMore
import Derived.OpenShut
import Derived.Stop.Joined
import Derived.Lib.TrailingZeros
import Derived.Lib.OthersKept
import Derived.Lib.DecodeN
import Derived.Lib.MapLaws
import Derived.Deep.AppendLies
import Derived.OwnWalk
import Derived.Lib.AppendStr
import Derived.Lib.AppendZeros
import Derived.Lib.ConvBytes
import Derived.Laws.BytesString
import Derived.Deep.RegionHeld3
import Derived.Deep.DeepMust
namespace Go.Proofs.YtooelfjceehmmaaDoor
open Go.RowKit Go.ChangeShapes Go.WideShapes Go.ChangeAt
namespace Ex

/-- Symbols, productions, lexical rules, specs (patterns of k + 1 levels). -/
abbrev SymM : Type := Int × Int
abbrev ProdM : Type := Int × List SymM
abbrev LexM (k : Nat) : Type := ByteArray × Bool × PatN (k + 1)
abbrev SpecM (k : Nat) : Type := List (LexM k) × List ByteArray × Int × List ProdM
def SymEl (cs : List Value) (s : SymM) : Prop := cs = [.int .i64 s.1, .int .i64 s.2]
def RightAt (w : World) (v : Value) (r : List SymM) : Prop := SliceOf w 2 SymEl v r
def ProdEl (w : World) (cs : List Value) (p : ProdM) : Prop := ∃ v', cs = [.int .i64 p.1, v'] ∧ RightAt w v' p.2
def ProdsAt (w : World) (v : Value) (ps : List ProdM) : Prop := SliceOf w 2 (ProdEl w) v ps
def LexEl (w : World) (k : Nat) (cs : List Value) (l : LexM k) : Prop := ∃ v', cs = [.string l.1, .bool l.2.1, .int .i64 (kind l.2.2), .int .i64 (from_ l.2.2), .int .i64 (to_ l.2.2), .int .i64 (min_ l.2.2), .int .i64 (max_ l.2.2), v'] ∧ l.1.size ≤ 200000000000000 ∧ KidsAt (fun d => d < w.heap.size) w k (kids l.2.2) v'
def LexAt (w : World) (k : Nat) (v : Value) (ls : List (LexM k)) : Prop := SliceOf w 8 (LexEl w k) v ls
def StrEl (cs : List Value) (s : ByteArray) : Prop := cs = [.string s] ∧ s.size ≤ 200000000000000
def NamesAt (w : World) (v : Value) (ns : List ByteArray) : Prop := SliceOf w 1 StrEl v ns
def SpecEl (w : World) (k : Nat) (cs : List Value) (sp : SpecM k) : Prop := ∃ vl vn vp, cs = [vl, vn, .int .i64 sp.2.2.1, vp] ∧ LexAt w k vl sp.1 ∧ NamesAt w vn sp.2.1 ∧ ProdsAt w vp sp.2.2.2
theorem RightAt.keep {w w' : World} {v : Value} {r : List SymM} (h : RightAt w v r) (hk : Kept w w') : RightAt w' v r := SliceOf.mono h hk (fun _ _ h => h)
theorem ProdsAt.keep {w w' : World} {v : Value} {r : List ProdM} (h : ProdsAt w v r) (hk : Kept w w') : ProdsAt w' v r := SliceOf.mono h hk (fun _ _ ⟨v', h1, h2⟩ => ⟨v', h1, h2.keep hk⟩)
theorem NamesAt.keep {w w' : World} {v : Value} {r : List ByteArray} (h : NamesAt w v r) (hk : Kept w w') : NamesAt w' v r := SliceOf.mono h hk (fun _ _ h => h)
theorem LexAt.keep {w w' : World} {k : Nat} {v : Value} {r : List (LexM k)} (h : LexAt w k v r) (hk : Kept w w') : LexAt w' k v r := SliceOf.mono h hk (fun _ _ ⟨v', h1, h2, h3⟩ => ⟨v', h1, h2, KidsAt.mono (hk.holds _) (fun _ hd => Nat.lt_of_lt_of_le hd hk.size) _ _ _ h3⟩)
theorem SpecEl.keep {w w' : World} {k : Nat} {cs : List Value} {sp : SpecM k} (h : SpecEl w k cs sp) (hk : Kept w w') : SpecEl w' k cs sp := by
  obtain ⟨vl, vn, vp, h1, h2, h3, h4⟩ := h
  exact ⟨vl, vn, vp, h1, h2.keep hk, h3.keep hk, h4.keep hk⟩
section
variable {H : Type} {enc : TypeId × Value → H}
theorem sym_size : Tryd.prog.cellsOf 58 = 2 := by kernel_rfl
theorem sym_bytes : Tryd.prog.bytesOf 58 = 16 := by kernel_rfl
theorem syms_size : Tryd.prog.cellsOf 38 = 1 := by kernel_rfl
theorem prod_size : Tryd.prog.cellsOf 40 = 2 := by kernel_rfl
theorem prod_bytes : Tryd.prog.bytesOf 40 = 32 := by kernel_rfl
theorem prods_size : Tryd.prog.cellsOf 24 = 1 := by kernel_rfl
theorem lex_size : Tryd.prog.cellsOf 89 = 8 := by kernel_rfl
theorem lex_bytes : Tryd.prog.bytesOf 89 = 88 := by kernel_rfl
theorem lexs_size : Tryd.prog.cellsOf 22 = 1 := by kernel_rfl
theorem nam_size : Tryd.prog.cellsOf 9 = 1 := by kernel_rfl
theorem nam_bytes : Tryd.prog.bytesOf 9 = 16 := by kernel_rfl
theorem nams_size : Tryd.prog.cellsOf 23 = 1 := by kernel_rfl
theorem bool_size : Tryd.prog.cellsOf 4 = 1 := by kernel_rfl
theorem spec_size : Tryd.prog.cellsOf 26 = 4 := by kernel_rfl
theorem two_l {α : Type} : ∀ {l : List α}, l.length = 2 → ∃ a b, l = [a, b]
  | [a, b], _ => ⟨a, b, rfl⟩
  | [], h => by simp at h
  | [_], h => by simp at h
  | _ :: _ :: _ :: _, h => by simp at h
theorem one_l {α : Type} : ∀ {l : List α}, l.length = 1 → ∃ a, l = [a]
  | [a], _ => ⟨a, rfl⟩
  | [], h => by simp at h
  | _ :: _ :: _, h => by simp at h
theorem three_l {α : Type} : ∀ {l : List α}, l.length = 3 → ∃ a b c, l = [a, b, c]
  | [a, b, c], _ => ⟨a, b, c, rfl⟩
  | [], h => by simp at h
  | [_], h => by simp at h
  | [_, _], h => by simp at h
  | _ :: _ :: _ :: _ :: _, h => by simp at h
theorem four_l {α : Type} : ∀ {l : List α}, l.length = 4 → ∃ a b c d, l = [a, b, c, d]
  | [a, b, c, d], _ => ⟨a, b, c, d, rfl⟩
  | [], h => by simp at h
  | [_], h => by simp at h
  | [_, _], h => by simp at h
  | [_, _, _], h => by simp at h
  | _ :: _ :: _ :: _ :: _ :: _, h => by simp at h
theorem eight_l {α : Type} : ∀ {l : List α}, l.length = 8 → ∃ a b c d e f g h, l = [a, b, c, d, e, f, g, h]
  | a :: b :: l, hl => by
    obtain ⟨c, d, e, f, g, h, rfl⟩ := six (l := l) (by simpa using hl)
    exact ⟨a, b, c, d, e, f, g, h, rfl⟩
  | [], h => by simp at h
  | [_], h => by simp at h
theorem weights_agg {P : Program} {t : TypeId} {fs : Array Field} (ht : P.underlying t = some (.struct fs)) : ∀ (ys : List (DataW H)) (i : Nat) (f : Field) (y : DataW H), fs[i]? = some f → ys[i]? = some y → ∀ n ∈ y.weights P f.type, n ∈ (DataW.agg ys).weights P t := by
  intro ys i f y hf hy n hn
  simp only [DataW.weights, ht]
  exact DataW.weights_mem_each (j := i) (by simp [hf]) hy n hn
set_option maxRecDepth 100000 in
theorem sym_of {W : World} {fuel : Nat} {cs : List Value} {y : DataW H × List MemPlace} (hl : cs.length = 2) (h : DataW.trod enc Tryd.prog W 0 (fun _ => true) true fuel 58 cs = some y) : ∃ s, SymEl cs s := by
  obtain ⟨xs, n', hn', hx1, _, hx3, hx4⟩ := DataW.trod_struct Tryd.underlying58 h
  obtain ⟨v0, v1, rfl⟩ := two_l hl
  obtain ⟨y0, y1, rfl⟩ := two_l hx3
  have f0 : DataW.trod enc Tryd.prog W 0 (fun _ => true) true n' 3 [v0] = some y0 := by have := hx4 0 _ rfl; simpa [int_size] using this
  have f1 : DataW.trod enc Tryd.prog W 0 (fun _ => true) true n' 3 [v1] = some y1 := by have := hx4 1 _ rfl; simpa [int_size] using this
  obtain ⟨z0, e0, _, _⟩ := DataW.trod_int Tryd.underlying3 f0
  obtain ⟨z1, e1, _, _⟩ := DataW.trod_int Tryd.underlying3 f1
  simp only [List.cons.injEq, and_true] at e0 e1
  subst e0 e1
  exact ⟨(z0, z1), rfl⟩
set_option maxRecDepth 100000 in
theorem str_of {W : World} {fuel : Nat} {cs : List Value} {y : DataW H × List MemPlace} (h : DataW.trod enc Tryd.prog W 0 (fun _ => true) true fuel 9 cs = some y) (hz : ∀ n ∈ y.1.weights Tryd.prog 9, n ≤ reachBytes) : ∃ s, StrEl cs s := by
  obtain ⟨s, e1, e2, _⟩ := DataW.trod_string Tryd.underlying9 h
  subst e2
  have hw := hz s.data.toList.length (by simp [DataW.weights])
  have hs : s.data.toList.length = s.size := by rw [Array.length_toList]; rfl
  rw [hs] at hw
  exact ⟨s, e1, by unfold reachBytes at hw; omega⟩
set_option maxRecDepth 100000 in
theorem lex_of {W : World} {k fuel : Nat} (hk : fuel ≤ k) {cs : List Value} {y : DataW H × List MemPlace} (hl : cs.length = 8) (h : DataW.trod enc Tryd.prog W 0 (fun _ => true) true fuel 89 cs = some y) (hz : ∀ n ∈ y.1.weights Tryd.prog 89, n ≤ reachBytes) : ∃ p, LexEl W k cs p := by
  obtain ⟨xs, n', hn', hx1, _, hx3, hx4⟩ := DataW.trod_struct Tryd.underlying89 h
  obtain ⟨v0, v1, v2, v3, v4, v5, v6, v7, rfl⟩ := eight_l hl
  obtain ⟨y0, y1, y2, rfl⟩ := three_l hx3
  have f0 : DataW.trod enc Tryd.prog W 0 (fun _ => true) true n' 9 [v0] = some y0 := by have := hx4 0 _ rfl; simpa [nam_size] using this
  have f1 : DataW.trod enc Tryd.prog W 0 (fun _ => true) true n' 4 [v1] = some y1 := by have := hx4 1 _ rfl; simpa [bool_size] using this
  have f2 : DataW.trod enc Tryd.prog W 0 (fun _ => true) true n' 87 [v2, v3, v4, v5, v6, v7] = some y2 := by have := hx4 2 _ rfl; simpa [expr_size] using this
  subst hx1
  obtain ⟨s, hs1, hs2⟩ := str_of f0 (fun n hn => hz n (weights_agg Tryd.underlying89 _ 0 _ y0.1 rfl rfl n hn))
  obtain ⟨b, e1, _⟩ := DataW.trod_bool Tryd.underlying4 f1
  simp only [List.cons.injEq, and_true] at hs1 e1
  subst hs1 e1
  have hz2 : ∀ n ∈ y2.1.weights Tryd.prog 87, n ≤ reachBytes := fun n hn => hz n (weights_agg Tryd.underlying89 _ 2 _ y2.1 rfl rfl n hn)
  obtain ⟨xs2, n2, hn2, hx12, _, hx32, hx42⟩ := DataW.trod_struct Tryd.underlying87 f2
  obtain ⟨w0, w1, w2, w3, w4, w5, rfl⟩ := six hx32
  have g0 : DataW.trod enc Tryd.prog W 0 (fun _ => true) true n2 3 [v2] = some w0 := by have := hx42 0 _ rfl; simpa [int_size] using this
  have g1 : DataW.trod enc Tryd.prog W 0 (fun _ => true) true n2 3 [v3] = some w1 := by have := hx42 1 _ rfl; simpa [int_size] using this
  have g2 : DataW.trod enc Tryd.prog W 0 (fun _ => true) true n2 3 [v4] = some w2 := by have := hx42 2 _ rfl; simpa [int_size] using this
  have g3 : DataW.trod enc Tryd.prog W 0 (fun _ => true) true n2 3 [v5] = some w3 := by have := hx42 3 _ rfl; simpa [int_size] using this
  have g4 : DataW.trod enc Tryd.prog W 0 (fun _ => true) true n2 3 [v6] = some w4 := by have := hx42 4 _ rfl; simpa [int_size] using this
  have g5 : DataW.trod enc Tryd.prog W 0 (fun _ => true) true n2 85 [v7] = some w5 := by have := hx42 5 _ rfl; simpa [exprs_size] using this
  obtain ⟨z0, e0, _, _⟩ := DataW.trod_int Tryd.underlying3 g0
  obtain ⟨z1, e1, _, _⟩ := DataW.trod_int Tryd.underlying3 g1
  obtain ⟨z2, e2, _, _⟩ := DataW.trod_int Tryd.underlying3 g2
  obtain ⟨z3, e3, _, _⟩ := DataW.trod_int Tryd.underlying3 g3
  obtain ⟨z4, e4, _, _⟩ := DataW.trod_int Tryd.underlying3 g4
  simp only [List.cons.injEq, and_true] at e0 e1 e2 e3 e4
  subst e0 e1 e2 e3 e4
  subst hx12
  obtain ⟨l5, h5⟩ := exprs_trod k n2 (by omega) v7 w5 g5 (fun n hn => hz2 n (weights_field Tryd.underlying87 rfl n hn))
  exact ⟨(s, b, (show PatN (k + 1) from ((z0, z1, z2, z3, z4, l5) : Int × Int × Int × Int × Int × List (PatN k)))), v7, rfl, hs2, h5⟩
end

end Ex
end Go.Proofs.YtooelfjceehmmaaDoor
namespace Go.Proofs.YtooelfjceehmmaaDoor
open Go.RowKit Go.ChangeShapes Go.WideShapes Go.ChangeAt
namespace Ex

section
variable {H : Type} {enc : TypeId × Value → H}
set_option maxRecDepth 100000 in
/-- A list that came in, by what its elements are; with its bytes. -/
theorem slice_sized {α : Type} (dflt : α) {t e : TypeId} (ht : Tryd.prog.underlying t = some (.slice e)) (sz byt : Nat) (hsz : Tryd.prog.cellsOf e = sz) (hpos : 0 < sz) (hby : Tryd.prog.bytesOf e = byt) (hb8 : 8 ≤ byt) (El : List Value → α → Prop) {W : World} {fuel : Nat} {v : Value} {x : DataW H × List MemPlace} (h : DataW.trod enc Tryd.prog W 0 (fun _ => true) true fuel t [v] = some x) (hz : ∀ n ∈ x.1.weights Tryd.prog t, n ≤ reachBytes)
    (hel : ∀ (m : Nat) (cs : List Value) (y : DataW H × List MemPlace), m < fuel → cs.length = sz → DataW.trod enc Tryd.prog W 0 (fun _ => true) true m e cs = some y → (∀ n ∈ y.1.weights Tryd.prog e, n ≤ reachBytes) → ∃ a, El cs a) : ∃ xs, SliceOf W sz El v xs ∧ xs.length * byt ≤ 140737488351232 := by
  rcases DataW.trod_slice ht h with ⟨hcs, _⟩ | ⟨a, len, cap, elems, rest, n, hn, hcs, hx, _, hl, hm, hlen, hall, _, _⟩
  · simp only [List.cons.injEq, and_true] at hcs
    subst hcs
    exact ⟨[], ⟨none, 0, rfl, by simp, by simp, .inl rfl⟩, by simp⟩
  · simp only [List.cons.injEq, and_true] at hcs
    subst hcs hx
    have hb2 : len * byt ≤ 140737488351232 := by
      have := hz _ (by simp only [DataW.weights, ht]; exact List.mem_cons_self)
      rw [hby] at this
      simp only [List.length_map] at this
      rw [hlen] at this
      have h2 : len * byt ≤ (len + rest.length) * byt := Nat.mul_le_mul (Nat.le_add_right _ _) (Nat.le_refl _)
      unfold reachBytes at this
      omega
    have hb : len * 8 ≤ reachBytes := by
      have := hz _ (by simp only [DataW.weights, ht]; exact List.mem_cons_self)
      rw [hby] at this
      simp only [List.length_map] at this
      rw [hlen] at this
      have h2 : len * 8 ≤ (len + rest.length) * byt := Nat.mul_le_mul (Nat.le_add_right _ _) hb8
      omega
    have hle : len ≤ 17592186044416 := by unfold reachBytes at hb; omega
    by_cases h0 : len = 0
    · subst h0
      exact ⟨[], ⟨some a, cap, rfl, by simp, by simp, .inl rfl⟩, by simp⟩
    have hone : ∀ i, i < len → ∃ q : α, ∃ cs : List Value, cs.length = sz ∧ (∀ (j : Nat) (u : Value), cs[j]? = some u → W.cell? ((a.add (i * sz)).add j) = some u) ∧ El cs q := by
      intro i hi
      have hei := hall i hi
      obtain ⟨ei, hei2⟩ : ∃ y, elems[i]? = some y := ⟨_, List.getElem?_eq_getElem (by omega)⟩
      rw [hei2, hsz] at hei
      obtain ⟨cs', hc1, hc2⟩ := Option.bind_eq_some_iff.1 hei
      obtain ⟨_, hc3, hc4⟩ := World.cells?_some hc1
      obtain ⟨q, hq⟩ := hel n cs' ei (by omega) hc3 hc2 (fun m hm2 => hz m (by
        simp only [DataW.weights, ht]
        exact List.mem_cons_of_mem _ (List.mem_append.2 (.inl (weights_all (List.mem_map.2 ⟨ei, List.mem_of_getElem? hei2, rfl⟩) m hm2)))))
      refine ⟨q, cs', hc3, fun j u hj => ?_, hq⟩
      have hjl := (List.getElem?_eq_some_iff.1 hj).1
      rw [hc4 j (by omega)]
      exact hj
    have inh : Inhabited α := ⟨dflt⟩
    obtain ⟨Q, hQ⟩ := Go.Deep.choose_lt hone
    obtain ⟨c1, o1, t1⟩ := a
    have hspot : t1 = none := by
      obtain ⟨cs, g1, g2, _⟩ := hQ 0 (by omega)
      obtain ⟨u, hu⟩ : ∃ u, cs[0]? = some u := ⟨_, List.getElem?_eq_getElem (by omega)⟩
      simpa [Addr.add] using World.cell?_spot (g2 0 u hu)
    subst hspot
    have hc : c1 < W.heap.size := by
      obtain ⟨cs, g1, g2, _⟩ := hQ 0 (by omega)
      obtain ⟨u, hu⟩ : ∃ u, cs[0]? = some u := ⟨_, List.getElem?_eq_getElem (by omega)⟩
      have := g2 0 u hu
      simp only [Addr.add_mid] at this
      exact World.block_lt_of_cell? W _ this
    refine ⟨(List.range len).map Q, ⟨some ⟨c1, o1, none⟩, cap, ?_, ?_, ?_, .inr ⟨c1, o1, rfl, hc, fun i q hq => ?_⟩⟩, by rw [List.length_map, List.length_range]; exact hb2⟩
    · rw [List.length_map, List.length_range]
    · rw [List.length_map, List.length_range]; exact hl
    · rw [List.length_map, List.length_range]; exact hle
    · rw [List.getElem?_map] at hq
      obtain ⟨i', hi', rfl⟩ := Option.map_eq_some_iff.1 hq
      obtain ⟨hi, he⟩ := List.getElem?_eq_some_iff.1 hi'
      rw [List.length_range] at hi
      rw [List.getElem_range] at he
      subst he
      obtain ⟨cs, g1, g2, g3⟩ := hQ i hi
      refine ⟨cs, g1, fun j u hj => ?_, g3⟩
      have := g2 j u hj
      simp only [Addr.add_mid] at this
      exact this
/-- A production, a spec, with how many bytes their lists have. -/
def ProdSz (w : World) (cs : List Value) (p : ProdM) : Prop := ProdEl w cs p ∧ p.2.length * 16 ≤ 140737488351232
def SizedS {k : Nat} (sp : SpecM k) : Prop := sp.1.length * 88 ≤ 140737488351232 ∧ sp.2.1.length * 16 ≤ 140737488351232 ∧ sp.2.2.2.length * 32 ≤ 140737488351232 ∧ ∀ p ∈ sp.2.2.2, p.2.length * 16 ≤ 140737488351232
def SpecSz (w : World) (k : Nat) (cs : List Value) (sp : SpecM k) : Prop := SpecEl w k cs sp ∧ SizedS sp
theorem SpecSz.keep {w w' : World} {k : Nat} {cs : List Value} {sp : SpecM k} (h : SpecSz w k cs sp) (hk : Kept w w') : SpecSz w' k cs sp := ⟨h.1.keep hk, h.2⟩
theorem slice_each {α : Type} {w : World} {sz : Nat} {El El' : List Value → α → Prop} {v : Value} {xs : List α} (h : SliceOf w sz El v xs) (hE : ∀ cs x, El cs x → El' cs x) : SliceOf w sz El' v xs := by
  obtain ⟨a, cap, h1, h2, h3, h4⟩ := h
  refine ⟨a, cap, h1, h2, h3, ?_⟩
  rcases h4 with h4 | ⟨c, o, h5, h6, h7⟩
  · exact .inl h4
  · refine .inr ⟨c, o, h5, h6, fun i x hi => ?_⟩
    obtain ⟨cs, g1, g2, g3⟩ := h7 i x hi
    exact ⟨cs, g1, g2, hE cs x g3⟩
theorem prods_el {w : World} {v : Value} {ps : List ProdM} (h : SliceOf w 2 (ProdSz w) v ps) : ProdsAt w v ps := slice_each h (fun _ _ h => h.1)
theorem prods_rows {w : World} {v : Value} {ps : List ProdM} (h : SliceOf w 2 (ProdSz w) v ps) : ∀ p ∈ ps, p.2.length * 16 ≤ 140737488351232 := by
  obtain ⟨a, cap, h1, h2, h3, h4⟩ := h
  intro p hp
  rcases h4 with h4 | ⟨c, o, h5, h6, h7⟩
  · subst h4; cases hp
  · obtain ⟨i, hi⟩ := List.getElem?_of_mem hp
    obtain ⟨cs, g1, g2, g3⟩ := h7 i p hi
    exact g3.2
set_option maxRecDepth 100000 in
theorem right_sz {W : World} {fuel : Nat} {v : Value} {y : DataW H × List MemPlace} (h : DataW.trod enc Tryd.prog W 0 (fun _ => true) true fuel 38 [v] = some y) (hz : ∀ n ∈ y.1.weights Tryd.prog 38, n ≤ reachBytes) : ∃ r, RightAt W v r ∧ r.length * 16 ≤ 140737488351232 :=
  slice_sized (0, 0) Tryd.underlying38 2 16 sym_size (by decide) sym_bytes (by decide) SymEl h hz (fun _ _ _ _ hl hh _ => sym_of hl hh)
set_option maxRecDepth 100000 in
theorem prod_sz {W : World} {fuel : Nat} {cs : List Value} {y : DataW H × List MemPlace} (hl : cs.length = 2) (h : DataW.trod enc Tryd.prog W 0 (fun _ => true) true fuel 40 cs = some y) (hz : ∀ n ∈ y.1.weights Tryd.prog 40, n ≤ reachBytes) : ∃ p, ProdSz W cs p := by
  obtain ⟨xs, n', hn', hx1, _, hx3, hx4⟩ := DataW.trod_struct Tryd.underlying40 h
  obtain ⟨v0, v1, rfl⟩ := two_l hl
  obtain ⟨y0, y1, rfl⟩ := two_l hx3
  have f0 : DataW.trod enc Tryd.prog W 0 (fun _ => true) true n' 3 [v0] = some y0 := by have := hx4 0 _ rfl; simpa [int_size] using this
  have f1 : DataW.trod enc Tryd.prog W 0 (fun _ => true) true n' 38 [v1] = some y1 := by have := hx4 1 _ rfl; simpa [syms_size] using this
  obtain ⟨z0, e0, _, _⟩ := DataW.trod_int Tryd.underlying3 f0
  simp only [List.cons.injEq, and_true] at e0
  subst e0
  subst hx1
  obtain ⟨r, hr, hs⟩ := right_sz f1 (fun n hn => hz n (weights_agg Tryd.underlying40 _ 1 _ y1.1 rfl rfl n hn))
  exact ⟨(z0, r), ⟨v1, rfl, hr⟩, hs⟩
set_option maxRecDepth 100000 in
theorem prods_sz {W : World} {fuel : Nat} {v : Value} {y : DataW H × List MemPlace} (h : DataW.trod enc Tryd.prog W 0 (fun _ => true) true fuel 24 [v] = some y) (hz : ∀ n ∈ y.1.weights Tryd.prog 24, n ≤ reachBytes) : ∃ r, SliceOf W 2 (ProdSz W) v r ∧ r.length * 32 ≤ 140737488351232 :=
  slice_sized (0, []) Tryd.underlying24 2 32 prod_size (by decide) prod_bytes (by decide) (ProdSz W) h hz (fun _ _ _ _ hl hh hz2 => prod_sz hl hh hz2)
set_option maxRecDepth 100000 in
theorem names_sz {W : World} {fuel : Nat} {v : Value} {y : DataW H × List MemPlace} (h : DataW.trod enc Tryd.prog W 0 (fun _ => true) true fuel 23 [v] = some y) (hz : ∀ n ∈ y.1.weights Tryd.prog 23, n ≤ reachBytes) : ∃ r, NamesAt W v r ∧ r.length * 16 ≤ 140737488351232 :=
  slice_sized ByteArray.empty Tryd.underlying23 1 16 nam_size (by decide) nam_bytes (by decide) StrEl h hz (fun _ _ _ _ _ hh hz2 => str_of hh hz2)
set_option maxRecDepth 100000 in
theorem lexs_sz {W : World} {k fuel : Nat} (hk : fuel ≤ k) {v : Value} {y : DataW H × List MemPlace} (h : DataW.trod enc Tryd.prog W 0 (fun _ => true) true fuel 22 [v] = some y) (hz : ∀ n ∈ y.1.weights Tryd.prog 22, n ≤ reachBytes) : ∃ r, LexAt W k v r ∧ r.length * 88 ≤ 140737488351232 :=
  slice_sized (ByteArray.empty, false, (show PatN (k + 1) from ((0, 0, 0, 0, 0, []) : Int × Int × Int × Int × Int × List (PatN k)))) Tryd.underlying22 8 88 lex_size (by decide) lex_bytes (by decide) (LexEl W k) h hz (fun _ _ _ hm hl hh hz2 => lex_of (by omega) hl hh hz2)
set_option maxRecDepth 100000 in
theorem spec_sz {W : World} {k fuel : Nat} (hk : fuel ≤ k) {cs : List Value} {y : DataW H × List MemPlace} (hl : cs.length = 4) (h : DataW.trod enc Tryd.prog W 0 (fun _ => true) true fuel 26 cs = some y) (hz : ∀ n ∈ y.1.weights Tryd.prog 26, n ≤ reachBytes) : ∃ p, SpecSz W k cs p := by
  obtain ⟨xs, n', hn', hx1, _, hx3, hx4⟩ := DataW.trod_struct Tryd.underlying26 h
  obtain ⟨v0, v1, v2, v3, rfl⟩ := four_l hl
  obtain ⟨y0, y1, y2, y3, rfl⟩ := four_l hx3
  have f0 : DataW.trod enc Tryd.prog W 0 (fun _ => true) true n' 22 [v0] = some y0 := by have := hx4 0 _ rfl; simpa [lexs_size] using this
  have f1 : DataW.trod enc Tryd.prog W 0 (fun _ => true) true n' 23 [v1] = some y1 := by have := hx4 1 _ rfl; simpa [nams_size] using this
  have f2 : DataW.trod enc Tryd.prog W 0 (fun _ => true) true n' 3 [v2] = some y2 := by have := hx4 2 _ rfl; simpa [int_size] using this
  have f3 : DataW.trod enc Tryd.prog W 0 (fun _ => true) true n' 24 [v3] = some y3 := by have := hx4 3 _ rfl; simpa [prods_size] using this
  obtain ⟨z2, e2, _, _⟩ := DataW.trod_int Tryd.underlying3 f2
  simp only [List.cons.injEq, and_true] at e2
  subst e2
  subst hx1
  obtain ⟨r0, h0, s0⟩ := lexs_sz (k := k) (by omega) f0 (fun n hn => hz n (weights_agg Tryd.underlying26 _ 0 _ y0.1 rfl rfl n hn))
  obtain ⟨r1, h1, s1⟩ := names_sz f1 (fun n hn => hz n (weights_agg Tryd.underlying26 _ 1 _ y1.1 rfl rfl n hn))
  obtain ⟨r3, h3, s3⟩ := prods_sz f3 (fun n hn => hz n (weights_agg Tryd.underlying26 _ 3 _ y3.1 rfl rfl n hn))
  exact ⟨(r0, r1, z2, r3), ⟨v0, v1, v3, rfl, h0, h1, prods_el h3⟩, s0, s1, s3, prods_rows h3⟩
end

end Ex
end Go.Proofs.YtooelfjceehmmaaDoor
namespace Go.Proofs.YtooelfjceehmmaaDoor
open Go.ChangeShapes Go.WideShapes Go.ChangeAt Go.RowKit
namespace Ex

theorem own : ownKnob Tryd.prog.godebug = none := by kernel_rfl
theorem laidOut : laidOutB Tryd.prog = true := by kernel_rfl
theorem tTab : (Tryd.prog.globals[0]?).map (·.type) = some 143 := by kernel_rfl
theorem u8_one : Tryd.prog.cellsOf 5 = 1 := by kernel_rfl
/-- The door's own heap meets the condition. -/
theorem door_met (os : Os) (args : Array Value) : laidMetH Tryd.prog Rows.setsHeadsRow.laid ((World.doorLaid Tryd.prog 4000 os).forCall (fun _ _ => 0) ⟨#[], args, []⟩).memory :=
  laidMetH_of_parts3 (fuel := 8) (laidMet_of_run' 8 (by kernel_rfl) (by kernel_rfl)) (by kernel_rfl) (by kernel_rfl)
theorem tab_datum : (Rows.laid_math_bits_deBruijn64tab : DataW Unit) = .agg (Lib.deBruijn64tab.map fun (n : Nat) => DataW.lit (Lit.int .u8 (n : Int))) := rfl
theorem of_laid {W : World} (h : laidMetH Tryd.prog Rows.setsHeadsRow.laid W) : ∀ j, j < 64 → W.cell? ⟨0, j, none⟩ = some (.int .u8 (Lib.deBruijn64tab.getD j 0 : Nat)) := by
  rw [MakeChecks.laidMetH_plain _ _ _ (by kernel_rfl)] at h
  obtain ⟨ps, ⟨g1, t1, cs1, f1, p1, q1, hg1, ht1, hv1, hd1, _, _⟩, _, _⟩ := h
  obtain rfl : g1 = 0 := Option.some.inj (hg1.symm.trans (by kernel_rfl))
  obtain rfl := Option.some.inj (tTab.symm.trans ht1)
  intro j hj
  have hcell := World.var?_cell hg1 hv1 j
  rw [hcell]
  obtain ⟨xs, m1, rfl, hx1, hlen, hn, hel⟩ := DataW.trod_array Tryd.underlying143 hd1
  rw [tab_datum] at hx1
  simp only [Prod.mk.injEq, DataW.agg.injEq] at hx1
  have hj0 := hel j (by simpa using hj)
  obtain ⟨xj, hxj⟩ : ∃ x, xs[j]? = some x := ⟨_, List.getElem?_eq_getElem (by rw [hn]; exact hj)⟩
  rw [hxj, u8_one] at hj0
  obtain ⟨k, e1, e2, _⟩ := DataW.trod_int Tryd.underlying5 hj0
  have hq : (xs.map (·.1))[j]? = some xj.1 := by rw [List.getElem?_map, hxj]; rfl
  rw [← hx1.1, List.getElem?_map] at hq
  obtain ⟨n, hn1, hn2⟩ := Option.map_eq_some_iff.1 hq
  rw [e2] at hn2
  simp only [DataW.lit.injEq, Lit.int.injEq, true_and] at hn2
  have hk : (Lib.deBruijn64tab.getD j 0 : Nat) = n := by rw [List.getD_eq_getElem?_getD, hn1]; rfl
  rw [hk, hn2]
  have e3 : (cs1.toList.drop (j * 1)).take 1 = [.int .u8 k] := e1
  rw [Nat.mul_one] at e3
  have e4 : ((cs1.toList.drop j).take 1)[0]? = some (.int .u8 k) := by rw [e3]; rfl
  rw [List.getElem?_take] at e4
  simpa using e4

end Ex
end Go.Proofs.YtooelfjceehmmaaDoor
namespace Go.Proofs.YtooelfjceehmmaaDoor
open Go.RowKit
namespace Ex
namespace Sh

def bs (xs : List Int) : ByteArray := ⟨(xs.map fun x => x.toNat.toUInt8).toArray⟩
/-- What a reader of words has read so far, as the document's reader. -/
structure St where
  md : Int
  word : List Int
  words : List ByteArray
  digit : Int
  bad : Bool
def start (ws : List ByteArray) (dg : Int) : St := ⟨0, [], ws, dg, false⟩
end Sh
end Ex
end Go.Proofs.YtooelfjceehmmaaDoor
namespace Go.Proofs.YtooelfjceehmmaaDoor
open Go.RowKit
attribute [local go_sem] Oper.semAt_some
namespace Ex
namespace Sh

theorem owns_same {w w' : World} {base size n : Nat} {e : TypeId} {v : Value} {xs : List Value} (h : w.ownsRow base e size v n xs) (hh : ∀ g, v.ownBlock = some g → w'.heap[g]? = w.heap[g]?) : w'.ownsRow base e size v n xs := by
  refine ⟨h.1, ?_⟩
  rcases h.2 with h0 | ⟨g, cap, cur, rfl, h1, h2, h3⟩
  · exact .inl h0
  · exact .inr ⟨g, cap, cur, rfl, h1, by rw [hh g rfl]; exact h2, h3⟩
theorem row_cells {w : World} {g n : Nat} {cur : Array Value} {xs : List Value} {t : TypeId} (h : w.heap[g]? = some (.cells cur t (0, 0))) (hx : cur.toList.take n = xs) : ∀ j u, xs[j]? = some u → w.cell? ⟨g, 0 + j, none⟩ = some u := by
  intro j u hj
  rw [← hx, List.getElem?_take] at hj
  split at hj
  · unfold World.cell?
    rw [Nat.zero_add]
    simp only [h]
    simpa using hj
  · cases hj
/-- A kind of element of lists: its type, the list's type, its cells, its bytes, what its cells are. -/
structure ElK (α : Type) where
  T : TypeId
  TT : TypeId
  sz : Nat
  by_ : Nat
  z : Value
  enc : α → List Value
  pos : 0 < sz
  info : (Tryd.prog.info? T).map (fun i => (i.zero, i.size, i.bytes)) = some (some z, sz, by_)
  zs : z.cells.size = sz
  und : Tryd.prog.underlying TT = some (.slice T)
  len : ∀ x, (enc x).length = sz
  one : ∀ x, ∀ u ∈ enc x, u.oneCell' = true
section
variable {α : Type} (E : ElK α)
def flatE (l : List α) : List Value := l.flatMap E.enc
/-- A list of the call's own. -/
def LO (w : World) (base : Nat) (v : Value) (l : List α) : Prop := w.ownsRow base E.T E.sz v l.length (flatE E l)
variable {E}
theorem LO.nil (w : World) (base : Nat) : LO E w base (.slice none 0 0) [] := World.ownsRow_nil _ _ _ _
theorem LO.form {w : World} {base : Nat} {v : Value} {l : List α} (h : LO E w base v l) : ∃ a c, v = .slice a l.length c := by
  rcases h.2 with ⟨rfl, h0⟩ | ⟨g, cap, cur, rfl, _⟩
  · exact ⟨none, 0, by rw [h0]⟩
  · exact ⟨_, _, rfl⟩
theorem LO.lt' {w : World} {base : Nat} {v : Value} {l : List α} (h : LO E w base v l) : ∀ g, v.ownBlock = some g → base ≤ g ∧ g < w.heap.size := fun g hg => World.ownsRow.lt h g hg
theorem LO.same {w w' : World} {base : Nat} {v : Value} {l : List α} (h : LO E w base v l) (he : ∀ d, v.ownBlock = some d → w'.heap[d]? = w.heap[d]?) : LO E w' base v l := owns_same h he
theorem LO.keep {w w' : World} {base : Nat} {v : Value} {l : List α} (h : LO E w base v l) (hk : Kept w w') : LO E w' base v l := h.same (fun d hd => hk.2.2.2.2 d (h.lt' d hd).2)
section
variable {w : World} {ops : Array Oper} {rest : List Oper} {o : Oper} {a : Act} {Q : Exit → Act → World → Prop}
end
/-- Where an element's cells lie. -/
theorem LO.cell {w : World} {base g n cap : Nat} {l : List α} (h : LO E w base (.slice (some ⟨g, 0, none⟩) n cap) l) {i j : Nat} {x : α} {u : Value} (hx : l[i]? = some x) (hu : (E.enc x)[j]? = some u) : w.cell? ⟨g, i * E.sz + j, none⟩ = some u := by
  rcases h.2 with ⟨h0, _⟩ | ⟨g', cap', cur, he, _, hg, hc, hlen, _, hxs⟩
  · cases h0
  · have hj : j < E.sz := by rw [← E.len x]; exact (List.getElem?_eq_some_iff.1 hu).1
    have key : ∀ (l : List α) (i : Nat), l[i]? = some x → (flatE E l)[i * E.sz + j]? = some u := fun l => by
      induction l with
      | nil => intro i hi; simp at hi
      | cons y l ih =>
        intro i hi
        have e : flatE E (y :: l) = E.enc y ++ flatE E l := by unfold flatE; simp
        cases i with
        | zero =>
          simp only [List.getElem?_cons_zero, Option.some.injEq] at hi
          subst hi
          rw [e, Nat.zero_mul, Nat.zero_add, List.getElem?_append_left (by rw [E.len]; exact hj), hu]
        | succ i =>
          simp only [List.getElem?_cons_succ] at hi
          rw [e, List.getElem?_append_right (by rw [E.len, Nat.add_mul]; omega), E.len, ← ih i hi]
          congr 1
          rw [Nat.add_mul]
          omega
    injection he with he1
    injection he1 with he2
    injection he2 with he3
    subst he3
    have := row_cells hg hxs (i * E.sz + j) u (key l i hx)
    rw [Nat.zero_add] at this
    exact this
end

def encU8 (y : Int) : List Value := [.int .u8 y]
theorem encU8_one (y : Int) : ∀ u ∈ encU8 y, u.oneCell' = true := fun u hu => by
  unfold encU8 at hu
  simp only [List.mem_cons, List.not_mem_nil, or_false] at hu
  subst hu
  rfl
/-- Lists of bytes. -/
def u8E : ElK Int := { T := 5, TT := 162, sz := 1, by_ := 1, z := .int .u8 0, enc := encU8, pos := by decide, info := by kernel_rfl, zs := rfl, und := Tryd.underlying162, len := fun _ => rfl, one := encU8_one }
theorem flatE_app2 {α : Type} (E : ElK α) (l m : List α) : flatE E (l ++ m) = flatE E l ++ flatE E m := by unfold flatE; simp
theorem flatE_one {α : Type} (E : ElK α) (l : List α) : ∀ u ∈ flatE E l, u.oneCell' = true := fun u hu => by
  unfold flatE at hu
  obtain ⟨x, _, h⟩ := List.mem_flatMap.1 hu
  exact E.one x u h
theorem flatE_lenT {α : Type} (E : ElK α) (l : List α) : (flatE E l).length = l.length * E.sz := by
  induction l with
  | nil => simp [flatE]
  | cons x l ih =>
    have e : flatE E (x :: l) = E.enc x ++ flatE E l := by unfold flatE; simp
    rw [e, List.length_append, ih, E.len, List.length_cons, Nat.add_mul]
    omega
/-- Where a list's elements can be read. -/
def Src {α : Type} (E : ElK α) (w : World) (sa : Option Addr) (ys : List α) : Prop := ys = [] ∨ ∃ g o, sa = some ⟨g, o, none⟩ ∧ ∀ j u, (flatE E ys)[j]? = some u → w.cell? ⟨g, o + j, none⟩ = some u
theorem Src.keep {α : Type} {E : ElK α} {w w' : World} {sa : Option Addr} {ys : List α} (h : Src E w sa ys) (hk : Kept w w') : Src E w' sa ys := by
  rcases h with h | ⟨g, o, h1, h2⟩
  · exact Or.inl h
  · exact Or.inr ⟨g, o, h1, fun j u hj => grown_cell hk (h2 j u hj)⟩
theorem lo_zero {α : Type} {E : ElK α} {w : World} {base : Nat} {v : Value} {l : List α} (h : LO E w base v l) (a : Option Addr) (cap : Nat) (ty : TypeId) :
    (Builtin.append_ #[E.TT, E.TT] ty #[v, .slice a 0 cap]).run Tryd.prog w = .ok v w := by
  obtain ⟨i0, hi, hz0, hz1, hz2⟩ := info_parts E.info
  have ht := E.und
  rcases h.2 with ⟨rfl, h0⟩ | ⟨g, c, cur, rfl, _, _, hnc, _⟩
  · cases a <;> simp [Builtin.append_, run_underlying ht, sizeOf, typeInfo, hi, Builtin.lenOf, Builtin.firstCells, loadCells, loadCellsFrom, Result.andThen]
  · cases a <;> simp [Builtin.append_, run_underlying ht, sizeOf, typeInfo, hi, Builtin.lenOf, Builtin.firstCells, hnc, storeCells, loadCells, loadCellsFrom, Result.andThen]
/-- append of a list. -/
theorem lo_many {α : Type} {E : ElK α} {w : World} {base : Nat} {v : Value} {l : List α} (h : LO E w base v l) (ty : TypeId) {sa : Option Addr} {ys : List α} (sc : Nat) (hs : Src E w sa ys) (hl : (l.length + ys.length) * E.by_ ≤ 140737488355328) (hl2 : l.length + ys.length ≤ maxLen) (hbase : base ≤ w.heap.size) :
    ∃ a' cap w', (Builtin.append_ #[E.TT, E.TT] ty #[v, .slice sa ys.length sc]).run Tryd.prog w = .ok (.slice a' (l.length + ys.length) cap) w' ∧ LO E w' base (.slice a' (l.length + ys.length) cap) (l ++ ys) ∧ w.grownBy w' v.ownBlock ∧ ((Value.slice a' (l.length + ys.length) cap).ownBlock = v.ownBlock ∨ (Value.slice a' (l.length + ys.length) cap).ownBlock = some w.heap.size) := by
  by_cases hy : ys = []
  · subst hy
    obtain ⟨b', c', rfl⟩ := h.form
    refine ⟨b', c', w, lo_zero h sa sc ty, ?_, ⟨rfl, rfl, rfl, Nat.le_refl _, fun _ _ _ => rfl⟩, Or.inl rfl⟩
    rw [List.append_nil]
    exact h
  · rcases hs with hs | ⟨g0, o0, rfl, hc⟩
    · exact absurd hs hy
    · obtain ⟨i0, hi, hz0, hz1, hz2⟩ := info_parts E.info
      obtain ⟨g, cap, w', hr, h2, h3, h4, h5⟩ := run_append_lies (P := Tryd.prog) w E.TT ty base E.T i0 _ E.sz E.by_ E.und hi hz0 hz1 hz2 E.zs E.pos v l.length (flatE E l) h ⟨g0, o0, none⟩ ys.length sc (flatE E ys) (by rw [flatE_lenT]) (fun j y hj => by rw [Addr.add_lit]; exact hc j y hj) (flatE_one E ys) (List.length_pos_iff.2 hy) hl2 hl hbase w.heap.size rfl
      refine ⟨some ⟨g, 0, none⟩, cap, w', hr, ?_, h3, ?_⟩
      · unfold LO
        rw [flatE_app2, List.length_append]
        exact h2
      · rcases h4 with h4 | h4
        · exact Or.inl h4.symm
        · exact Or.inr (by rw [h4]; rfl)
section
variable {α : Type} {E : ElK α} {w : World} {ops : Array Oper} {rest : List Oper} {o : Oper} {a : Act} {Q : Exit → Act → World → Prop}
theorem step_many {K : Act → World → Prop} {EE : Prop} (hgd : o.guard = none) (s x : Operand) (ho : o.op = .call { callee := .builtin .append, args := #[s, x], argTypes := #[E.TT, E.TT] }) (base : Nat) (v : Value) (l ys : List α) (m n k : Nat) (hm : l.length = m) (hn : ys.length = n) (hk : m + n = k) (hs : a.eval s = v) (hown : LO E w base v l) (sa : Option Addr) (sc : Nat) (hx : a.eval x = .slice sa n sc) (hsrc : Src E w sa ys) (hl : k * E.by_ ≤ 140737488355328) (hl2 : k ≤ maxLen) (hbase : base ≤ w.heap.size)
    (h : ∀ a' cap w', LO E w' base (.slice a' k cap) (l ++ ys) → w.grownBy w' v.ownBlock → ((Value.slice a' k cap).ownBlock = v.ownBlock ∨ (Value.slice a' k cap).ownBlock = some w.heap.size) → K (a.put o.dst (.slice a' k cap)) w') :
    if Region.wanted o (yielded ops a.tmps) = true then Oper.wp Tryd.prog o a w K Q else EE := by
  subst hm hn hk
  have hw : Region.wanted o (yielded ops a.tmps) = true := by simp [Region.wanted, hgd]
  rw [if_pos hw]
  obtain ⟨a', cap, w', hr, h2, h3, h4⟩ := lo_many hown o.type sc hsrc hl hl2 hbase
  unfold Oper.wp
  simp [execOp, ho, resolve, invoke, builtin, hs, hx, hr, Result.andThen]
  exact h a' cap w' h2 h3 h4
end
theorem Src.front {w : World} {a : Option Addr} {y z : List Int} (h : Src u8E w a (y ++ z)) : Src u8E w a y := by
  rcases h with h | ⟨g, o, h1, h2⟩
  · exact Or.inl (List.append_eq_nil_iff.1 h).1
  · refine Or.inr ⟨g, o, h1, fun j u hj => h2 j u ?_⟩
    rw [flatE_app2, List.getElem?_append_left (List.getElem?_eq_some_iff.1 hj).1]
    exact hj


end Sh
end Ex
end Go.Proofs.YtooelfjceehmmaaDoor
