import Derived.Test.YtggodknnfpegmaaDoorMExBase
namespace Go.Proofs.YtggodknnfpegmaaDoor
open Go.RowKit Go.ChangeShapes Go.WideShapes Go.ChangeAt
namespace Ex

/-- A list in memory: sz cells each, of which El tells what they are. -/
def SliceOf {α : Type} (w : World) (sz : Nat) (El : List Value → α → Prop) (v : Value) (xs : List α) : Prop :=
  ∃ a cap, v = .slice a xs.length cap ∧ xs.length ≤ cap ∧ xs.length ≤ 17592186044416 ∧ (xs = [] ∨ ∃ c o, a = some ⟨c, o, none⟩ ∧ c < w.heap.size ∧ ∀ (i : Nat) (x : α), xs[i]? = some x → ∃ cs : List Value, cs.length = sz ∧ (∀ (j : Nat) (u : Value), cs[j]? = some u → w.cell? ⟨c, o + i * sz + j, none⟩ = some u) ∧ El cs x)
theorem SliceOf.mono {α : Type} {w w' : World} {sz : Nat} {El El' : List Value → α → Prop} {v : Value} {xs : List α} (h : SliceOf w sz El v xs) (hk : Kept w w') (hE : ∀ cs x, El cs x → El' cs x) : SliceOf w' sz El' v xs := by
  obtain ⟨a, cap, h1, h2, h3, h4⟩ := h
  refine ⟨a, cap, h1, h2, h3, ?_⟩
  rcases h4 with h4 | ⟨c, o, h5, h6, h7⟩
  · exact .inl h4
  · refine .inr ⟨c, o, h5, Nat.lt_of_lt_of_le h6 hk.size, fun i x hi => ?_⟩
    obtain ⟨cs, g1, g2, g3⟩ := h7 i x hi
    exact ⟨cs, g1, fun j u hj => grown_cell hk (g2 j u hj), hE cs x g3⟩
section
variable {H : Type} {enc : TypeId × Value → H}
set_option maxRecDepth 100000 in
/-- A list that came in, by what its elements are. -/
theorem slice_gen {α : Type} (dflt : α) {t e : TypeId} (ht : Tryd.prog.underlying t = some (.slice e)) (sz byt : Nat) (hsz : Tryd.prog.cellsOf e = sz) (hpos : 0 < sz) (hby : Tryd.prog.bytesOf e = byt) (hb8 : 8 ≤ byt) (El : List Value → α → Prop) {W : World} {fuel : Nat} {v : Value} {x : DataW H × List MemPlace} (h : DataW.trod enc Tryd.prog W 0 (fun _ => true) true fuel t [v] = some x) (hz : ∀ n ∈ x.1.weights Tryd.prog t, n ≤ reachBytes)
    (hel : ∀ (m : Nat) (cs : List Value) (y : DataW H × List MemPlace), m < fuel → cs.length = sz → DataW.trod enc Tryd.prog W 0 (fun _ => true) true m e cs = some y → (∀ n ∈ y.1.weights Tryd.prog e, n ≤ reachBytes) → ∃ a, El cs a) : ∃ xs, SliceOf W sz El v xs := by
  rcases DataW.trod_slice ht h with ⟨hcs, _⟩ | ⟨a, len, cap, elems, rest, n, hn, hcs, hx, _, hl, hm, hlen, hall, _, _⟩
  · simp only [List.cons.injEq, and_true] at hcs
    subst hcs
    exact ⟨[], none, 0, rfl, by simp, by simp, .inl rfl⟩
  · simp only [List.cons.injEq, and_true] at hcs
    subst hcs hx
    have hb : len * 8 ≤ reachBytes := by
      have := hz _ (by simp only [DataW.weights, ht]; exact List.mem_cons_self)
      rw [hby] at this
      simp only [List.length_map] at this
      rw [hlen] at this
      have h2 : len * 8 ≤ (len + rest.length) * byt := Nat.mul_le_mul (Nat.le_add_right _ _) hb8
      omega
    have hle : len ≤ 17592186044416 := by unfold reachBytes at hb; omega
    by_cases h0 : len = 0
    · subst h0
      exact ⟨[], some a, cap, rfl, by simp, by simp, .inl rfl⟩
    have hone : ∀ i, i < len → ∃ q : α, ∃ cs : List Value, cs.length = sz ∧ (∀ (j : Nat) (u : Value), cs[j]? = some u → W.cell? ((a.add (i * sz)).add j) = some u) ∧ El cs q := by
      intro i hi
      have hei := hall i hi
      obtain ⟨ei, hei2⟩ : ∃ y, elems[i]? = some y := ⟨_, List.getElem?_eq_getElem (by omega)⟩
      rw [hei2, hsz] at hei
      obtain ⟨cs', hc1, hc2⟩ := Option.bind_eq_some_iff.1 hei
      obtain ⟨_, hc3, hc4⟩ := World.cells?_some hc1
      obtain ⟨q, hq⟩ := hel n cs' ei (by omega) hc3 hc2 (fun m hm2 => hz m (by
        simp only [DataW.weights, ht]
        exact List.mem_cons_of_mem _ (List.mem_append.2 (.inl (weights_all (List.mem_map.2 ⟨ei, List.mem_of_getElem? hei2, rfl⟩) m hm2)))))
      refine ⟨q, cs', hc3, fun j u hj => ?_, hq⟩
      have hjl := (List.getElem?_eq_some_iff.1 hj).1
      rw [hc4 j (by omega)]
      exact hj
    have inh : Inhabited α := ⟨dflt⟩
    obtain ⟨Q, hQ⟩ := Go.Deep.choose_lt hone
    obtain ⟨c1, o1, t1⟩ := a
    have hspot : t1 = none := by
      obtain ⟨cs, g1, g2, _⟩ := hQ 0 (by omega)
      obtain ⟨u, hu⟩ : ∃ u, cs[0]? = some u := ⟨_, List.getElem?_eq_getElem (by omega)⟩
      simpa [Addr.add] using World.cell?_spot (g2 0 u hu)
    subst hspot
    have hc : c1 < W.heap.size := by
      obtain ⟨cs, g1, g2, _⟩ := hQ 0 (by omega)
      obtain ⟨u, hu⟩ : ∃ u, cs[0]? = some u := ⟨_, List.getElem?_eq_getElem (by omega)⟩
      have := g2 0 u hu
      simp only [Addr.add_mid] at this
      exact World.block_lt_of_cell? W _ this
    refine ⟨(List.range len).map Q, some ⟨c1, o1, none⟩, cap, ?_, ?_, ?_, .inr ⟨c1, o1, rfl, hc, fun i q hq => ?_⟩⟩
    · rw [List.length_map, List.length_range]
    · rw [List.length_map, List.length_range]; exact hl
    · rw [List.length_map, List.length_range]; exact hle
    · rw [List.getElem?_map] at hq
      obtain ⟨i', hi', rfl⟩ := Option.map_eq_some_iff.1 hq
      obtain ⟨hi, he⟩ := List.getElem?_eq_some_iff.1 hi'
      rw [List.length_range] at hi
      rw [List.getElem_range] at he
      subst he
      obtain ⟨cs, g1, g2, g3⟩ := hQ i hi
      refine ⟨cs, g1, fun j u hj => ?_, g3⟩
      have := g2 j u hj
      simp only [Addr.add_mid] at this
      exact this
end

end Ex
end Go.Proofs.YtggodknnfpegmaaDoor
namespace Go.Proofs.YtggodknnfpegmaaDoor
open Go.RowKit Go.ChangeShapes Go.WideShapes Go.ChangeAt
namespace Ex

/-- Symbols, productions, lexical rules, specs (patterns of k + 1 levels). -/
abbrev SymM : Type := Int × Int
abbrev ProdM : Type := Int × List SymM
abbrev LexM (k : Nat) : Type := ByteArray × Bool × PatN (k + 1)
abbrev SpecM (k : Nat) : Type := List (LexM k) × List ByteArray × Int × List ProdM
def SymEl (cs : List Value) (s : SymM) : Prop := cs = [.int .i64 s.1, .int .i64 s.2]
def RightAt (w : World) (v : Value) (r : List SymM) : Prop := SliceOf w 2 SymEl v r
def ProdEl (w : World) (cs : List Value) (p : ProdM) : Prop := ∃ v', cs = [.int .i64 p.1, v'] ∧ RightAt w v' p.2
def ProdsAt (w : World) (v : Value) (ps : List ProdM) : Prop := SliceOf w 2 (ProdEl w) v ps
def LexEl (w : World) (k : Nat) (cs : List Value) (l : LexM k) : Prop := ∃ v', cs = [.string l.1, .bool l.2.1, .int .i64 (kind l.2.2), .int .i64 (from_ l.2.2), .int .i64 (to_ l.2.2), .int .i64 (min_ l.2.2), .int .i64 (max_ l.2.2), v'] ∧ l.1.size ≤ 200000000000000 ∧ KidsAt (fun d => d < w.heap.size) w k (kids l.2.2) v'
def LexAt (w : World) (k : Nat) (v : Value) (ls : List (LexM k)) : Prop := SliceOf w 8 (LexEl w k) v ls
def StrEl (cs : List Value) (s : ByteArray) : Prop := cs = [.string s] ∧ s.size ≤ 200000000000000
def NamesAt (w : World) (v : Value) (ns : List ByteArray) : Prop := SliceOf w 1 StrEl v ns
def SpecEl (w : World) (k : Nat) (cs : List Value) (sp : SpecM k) : Prop := ∃ vl vn vp, cs = [vl, vn, .int .i64 sp.2.2.1, vp] ∧ LexAt w k vl sp.1 ∧ NamesAt w vn sp.2.1 ∧ ProdsAt w vp sp.2.2.2
def SpecsAt (w : World) (k : Nat) (v : Value) (l : List (SpecM k)) : Prop := SliceOf w 4 (SpecEl w k) v l
theorem RightAt.keep {w w' : World} {v : Value} {r : List SymM} (h : RightAt w v r) (hk : Kept w w') : RightAt w' v r := SliceOf.mono h hk (fun _ _ h => h)
theorem ProdsAt.keep {w w' : World} {v : Value} {r : List ProdM} (h : ProdsAt w v r) (hk : Kept w w') : ProdsAt w' v r := SliceOf.mono h hk (fun _ _ ⟨v', h1, h2⟩ => ⟨v', h1, h2.keep hk⟩)
theorem NamesAt.keep {w w' : World} {v : Value} {r : List ByteArray} (h : NamesAt w v r) (hk : Kept w w') : NamesAt w' v r := SliceOf.mono h hk (fun _ _ h => h)
theorem LexAt.keep {w w' : World} {k : Nat} {v : Value} {r : List (LexM k)} (h : LexAt w k v r) (hk : Kept w w') : LexAt w' k v r := SliceOf.mono h hk (fun _ _ ⟨v', h1, h2, h3⟩ => ⟨v', h1, h2, KidsAt.mono (hk.holds _) (fun _ hd => Nat.lt_of_lt_of_le hd hk.size) _ _ _ h3⟩)
theorem SpecEl.keep {w w' : World} {k : Nat} {cs : List Value} {sp : SpecM k} (h : SpecEl w k cs sp) (hk : Kept w w') : SpecEl w' k cs sp := by
  obtain ⟨vl, vn, vp, h1, h2, h3, h4⟩ := h
  exact ⟨vl, vn, vp, h1, h2.keep hk, h3.keep hk, h4.keep hk⟩
theorem SpecsAt.keep {w w' : World} {k : Nat} {v : Value} {l : List (SpecM k)} (h : SpecsAt w k v l) (hk : Kept w w') : SpecsAt w' k v l := SliceOf.mono h hk (fun _ _ h => h.keep hk)
section
variable {H : Type} {enc : TypeId × Value → H}
theorem sym_size : Tryd.prog.cellsOf 68 = 2 := by kernel_rfl
theorem sym_bytes : Tryd.prog.bytesOf 68 = 16 := by kernel_rfl
theorem syms_size : Tryd.prog.cellsOf 38 = 1 := by kernel_rfl
theorem prod_size : Tryd.prog.cellsOf 40 = 2 := by kernel_rfl
theorem prod_bytes : Tryd.prog.bytesOf 40 = 32 := by kernel_rfl
theorem prods_size : Tryd.prog.cellsOf 24 = 1 := by kernel_rfl
theorem lex_size : Tryd.prog.cellsOf 99 = 8 := by kernel_rfl
theorem lex_bytes : Tryd.prog.bytesOf 99 = 88 := by kernel_rfl
theorem lexs_size : Tryd.prog.cellsOf 22 = 1 := by kernel_rfl
theorem nam_size : Tryd.prog.cellsOf 9 = 1 := by kernel_rfl
theorem nam_bytes : Tryd.prog.bytesOf 9 = 16 := by kernel_rfl
theorem nams_size : Tryd.prog.cellsOf 23 = 1 := by kernel_rfl
theorem bool_size : Tryd.prog.cellsOf 4 = 1 := by kernel_rfl
theorem spec_size : Tryd.prog.cellsOf 26 = 4 := by kernel_rfl
theorem spec_bytes : Tryd.prog.bytesOf 26 = 80 := by kernel_rfl
theorem two_l {α : Type} : ∀ {l : List α}, l.length = 2 → ∃ a b, l = [a, b]
  | [a, b], _ => ⟨a, b, rfl⟩
  | [], h => by simp at h
  | [_], h => by simp at h
  | _ :: _ :: _ :: _, h => by simp at h
theorem one_l {α : Type} : ∀ {l : List α}, l.length = 1 → ∃ a, l = [a]
  | [a], _ => ⟨a, rfl⟩
  | [], h => by simp at h
  | _ :: _ :: _, h => by simp at h
theorem three_l {α : Type} : ∀ {l : List α}, l.length = 3 → ∃ a b c, l = [a, b, c]
  | [a, b, c], _ => ⟨a, b, c, rfl⟩
  | [], h => by simp at h
  | [_], h => by simp at h
  | [_, _], h => by simp at h
  | _ :: _ :: _ :: _ :: _, h => by simp at h
theorem four_l {α : Type} : ∀ {l : List α}, l.length = 4 → ∃ a b c d, l = [a, b, c, d]
  | [a, b, c, d], _ => ⟨a, b, c, d, rfl⟩
  | [], h => by simp at h
  | [_], h => by simp at h
  | [_, _], h => by simp at h
  | [_, _, _], h => by simp at h
  | _ :: _ :: _ :: _ :: _ :: _, h => by simp at h
theorem eight_l {α : Type} : ∀ {l : List α}, l.length = 8 → ∃ a b c d e f g h, l = [a, b, c, d, e, f, g, h]
  | a :: b :: l, hl => by
    obtain ⟨c, d, e, f, g, h, rfl⟩ := six (l := l) (by simpa using hl)
    exact ⟨a, b, c, d, e, f, g, h, rfl⟩
  | [], h => by simp at h
  | [_], h => by simp at h
theorem weights_agg {P : Program} {t : TypeId} {fs : Array Field} (ht : P.underlying t = some (.struct fs)) : ∀ (ys : List (DataW H)) (i : Nat) (f : Field) (y : DataW H), fs[i]? = some f → ys[i]? = some y → ∀ n ∈ y.weights P f.type, n ∈ (DataW.agg ys).weights P t := by
  intro ys i f y hf hy n hn
  simp only [DataW.weights, ht]
  exact DataW.weights_mem_each (j := i) (by simp [hf]) hy n hn
set_option maxRecDepth 100000 in
theorem sym_of {W : World} {fuel : Nat} {cs : List Value} {y : DataW H × List MemPlace} (hl : cs.length = 2) (h : DataW.trod enc Tryd.prog W 0 (fun _ => true) true fuel 68 cs = some y) : ∃ s, SymEl cs s := by
  obtain ⟨xs, n', hn', hx1, _, hx3, hx4⟩ := DataW.trod_struct Tryd.underlying68 h
  obtain ⟨v0, v1, rfl⟩ := two_l hl
  obtain ⟨y0, y1, rfl⟩ := two_l hx3
  have f0 : DataW.trod enc Tryd.prog W 0 (fun _ => true) true n' 3 [v0] = some y0 := by have := hx4 0 _ rfl; simpa [int_size] using this
  have f1 : DataW.trod enc Tryd.prog W 0 (fun _ => true) true n' 3 [v1] = some y1 := by have := hx4 1 _ rfl; simpa [int_size] using this
  obtain ⟨z0, e0, _, _⟩ := DataW.trod_int Tryd.underlying3 f0
  obtain ⟨z1, e1, _, _⟩ := DataW.trod_int Tryd.underlying3 f1
  simp only [List.cons.injEq, and_true] at e0 e1
  subst e0 e1
  exact ⟨(z0, z1), rfl⟩
set_option maxRecDepth 100000 in
theorem right_of {W : World} {fuel : Nat} {v : Value} {y : DataW H × List MemPlace} (h : DataW.trod enc Tryd.prog W 0 (fun _ => true) true fuel 38 [v] = some y) (hz : ∀ n ∈ y.1.weights Tryd.prog 38, n ≤ reachBytes) : ∃ r, RightAt W v r :=
  slice_gen (0, 0) Tryd.underlying38 2 16 sym_size (by decide) sym_bytes (by decide) SymEl h hz (fun _ _ _ _ hl hh _ => sym_of hl hh)
set_option maxRecDepth 100000 in
theorem prod_of {W : World} {fuel : Nat} {cs : List Value} {y : DataW H × List MemPlace} (hl : cs.length = 2) (h : DataW.trod enc Tryd.prog W 0 (fun _ => true) true fuel 40 cs = some y) (hz : ∀ n ∈ y.1.weights Tryd.prog 40, n ≤ reachBytes) : ∃ p, ProdEl W cs p := by
  obtain ⟨xs, n', hn', hx1, _, hx3, hx4⟩ := DataW.trod_struct Tryd.underlying40 h
  obtain ⟨v0, v1, rfl⟩ := two_l hl
  obtain ⟨y0, y1, rfl⟩ := two_l hx3
  have f0 : DataW.trod enc Tryd.prog W 0 (fun _ => true) true n' 3 [v0] = some y0 := by have := hx4 0 _ rfl; simpa [int_size] using this
  have f1 : DataW.trod enc Tryd.prog W 0 (fun _ => true) true n' 38 [v1] = some y1 := by have := hx4 1 _ rfl; simpa [syms_size] using this
  obtain ⟨z0, e0, _, _⟩ := DataW.trod_int Tryd.underlying3 f0
  simp only [List.cons.injEq, and_true] at e0
  subst e0
  subst hx1
  obtain ⟨r, hr⟩ := right_of f1 (fun n hn => hz n (weights_agg Tryd.underlying40 _ 1 _ y1.1 rfl rfl n hn))
  exact ⟨(z0, r), v1, rfl, hr⟩
set_option maxRecDepth 100000 in
theorem prods_of {W : World} {fuel : Nat} {v : Value} {y : DataW H × List MemPlace} (h : DataW.trod enc Tryd.prog W 0 (fun _ => true) true fuel 24 [v] = some y) (hz : ∀ n ∈ y.1.weights Tryd.prog 24, n ≤ reachBytes) : ∃ r, ProdsAt W v r :=
  slice_gen (0, []) Tryd.underlying24 2 32 prod_size (by decide) prod_bytes (by decide) (ProdEl W) h hz (fun _ _ _ _ hl hh hz2 => prod_of hl hh hz2)
set_option maxRecDepth 100000 in
theorem str_of {W : World} {fuel : Nat} {cs : List Value} {y : DataW H × List MemPlace} (h : DataW.trod enc Tryd.prog W 0 (fun _ => true) true fuel 9 cs = some y) (hz : ∀ n ∈ y.1.weights Tryd.prog 9, n ≤ reachBytes) : ∃ s, StrEl cs s := by
  obtain ⟨s, e1, e2, _⟩ := DataW.trod_string Tryd.underlying9 h
  subst e2
  have hw := hz s.data.toList.length (by simp [DataW.weights])
  have hs : s.data.toList.length = s.size := by rw [Array.length_toList]; rfl
  rw [hs] at hw
  exact ⟨s, e1, by unfold reachBytes at hw; omega⟩
set_option maxRecDepth 100000 in
theorem names_of {W : World} {fuel : Nat} {v : Value} {y : DataW H × List MemPlace} (h : DataW.trod enc Tryd.prog W 0 (fun _ => true) true fuel 23 [v] = some y) (hz : ∀ n ∈ y.1.weights Tryd.prog 23, n ≤ reachBytes) : ∃ r, NamesAt W v r :=
  slice_gen ByteArray.empty Tryd.underlying23 1 16 nam_size (by decide) nam_bytes (by decide) StrEl h hz (fun _ _ _ _ _ hh hz2 => str_of hh hz2)
set_option maxRecDepth 100000 in
theorem lex_of {W : World} {k fuel : Nat} (hk : fuel ≤ k) {cs : List Value} {y : DataW H × List MemPlace} (hl : cs.length = 8) (h : DataW.trod enc Tryd.prog W 0 (fun _ => true) true fuel 99 cs = some y) (hz : ∀ n ∈ y.1.weights Tryd.prog 99, n ≤ reachBytes) : ∃ p, LexEl W k cs p := by
  obtain ⟨xs, n', hn', hx1, _, hx3, hx4⟩ := DataW.trod_struct Tryd.underlying99 h
  obtain ⟨v0, v1, v2, v3, v4, v5, v6, v7, rfl⟩ := eight_l hl
  obtain ⟨y0, y1, y2, rfl⟩ := three_l hx3
  have f0 : DataW.trod enc Tryd.prog W 0 (fun _ => true) true n' 9 [v0] = some y0 := by have := hx4 0 _ rfl; simpa [nam_size] using this
  have f1 : DataW.trod enc Tryd.prog W 0 (fun _ => true) true n' 4 [v1] = some y1 := by have := hx4 1 _ rfl; simpa [bool_size] using this
  have f2 : DataW.trod enc Tryd.prog W 0 (fun _ => true) true n' 97 [v2, v3, v4, v5, v6, v7] = some y2 := by have := hx4 2 _ rfl; simpa [expr_size] using this
  subst hx1
  obtain ⟨s, hs1, hs2⟩ := str_of f0 (fun n hn => hz n (weights_agg Tryd.underlying99 _ 0 _ y0.1 rfl rfl n hn))
  obtain ⟨b, e1, _⟩ := DataW.trod_bool Tryd.underlying4 f1
  simp only [List.cons.injEq, and_true] at hs1 e1
  subst hs1 e1
  have hz2 : ∀ n ∈ y2.1.weights Tryd.prog 97, n ≤ reachBytes := fun n hn => hz n (weights_agg Tryd.underlying99 _ 2 _ y2.1 rfl rfl n hn)
  obtain ⟨xs2, n2, hn2, hx12, _, hx32, hx42⟩ := DataW.trod_struct Tryd.underlying97 f2
  obtain ⟨w0, w1, w2, w3, w4, w5, rfl⟩ := six hx32
  have g0 : DataW.trod enc Tryd.prog W 0 (fun _ => true) true n2 3 [v2] = some w0 := by have := hx42 0 _ rfl; simpa [int_size] using this
  have g1 : DataW.trod enc Tryd.prog W 0 (fun _ => true) true n2 3 [v3] = some w1 := by have := hx42 1 _ rfl; simpa [int_size] using this
  have g2 : DataW.trod enc Tryd.prog W 0 (fun _ => true) true n2 3 [v4] = some w2 := by have := hx42 2 _ rfl; simpa [int_size] using this
  have g3 : DataW.trod enc Tryd.prog W 0 (fun _ => true) true n2 3 [v5] = some w3 := by have := hx42 3 _ rfl; simpa [int_size] using this
  have g4 : DataW.trod enc Tryd.prog W 0 (fun _ => true) true n2 3 [v6] = some w4 := by have := hx42 4 _ rfl; simpa [int_size] using this
  have g5 : DataW.trod enc Tryd.prog W 0 (fun _ => true) true n2 95 [v7] = some w5 := by have := hx42 5 _ rfl; simpa [exprs_size] using this
  obtain ⟨z0, e0, _, _⟩ := DataW.trod_int Tryd.underlying3 g0
  obtain ⟨z1, e1, _, _⟩ := DataW.trod_int Tryd.underlying3 g1
  obtain ⟨z2, e2, _, _⟩ := DataW.trod_int Tryd.underlying3 g2
  obtain ⟨z3, e3, _, _⟩ := DataW.trod_int Tryd.underlying3 g3
  obtain ⟨z4, e4, _, _⟩ := DataW.trod_int Tryd.underlying3 g4
  simp only [List.cons.injEq, and_true] at e0 e1 e2 e3 e4
  subst e0 e1 e2 e3 e4
  subst hx12
  obtain ⟨l5, h5⟩ := exprs_trod k n2 (by omega) v7 w5 g5 (fun n hn => hz2 n (weights_field Tryd.underlying97 rfl n hn))
  exact ⟨(s, b, (show PatN (k + 1) from ((z0, z1, z2, z3, z4, l5) : Int × Int × Int × Int × Int × List (PatN k)))), v7, rfl, hs2, h5⟩
set_option maxRecDepth 100000 in
theorem lexs_of {W : World} {k fuel : Nat} (hk : fuel ≤ k) {v : Value} {y : DataW H × List MemPlace} (h : DataW.trod enc Tryd.prog W 0 (fun _ => true) true fuel 22 [v] = some y) (hz : ∀ n ∈ y.1.weights Tryd.prog 22, n ≤ reachBytes) : ∃ r, LexAt W k v r :=
  slice_gen (ByteArray.empty, false, (show PatN (k + 1) from ((0, 0, 0, 0, 0, []) : Int × Int × Int × Int × Int × List (PatN k)))) Tryd.underlying22 8 88 lex_size (by decide) lex_bytes (by decide) (LexEl W k) h hz (fun _ _ _ hm hl hh hz2 => lex_of (by omega) hl hh hz2)
set_option maxRecDepth 100000 in
theorem spec_of {W : World} {k fuel : Nat} (hk : fuel ≤ k) {cs : List Value} {y : DataW H × List MemPlace} (hl : cs.length = 4) (h : DataW.trod enc Tryd.prog W 0 (fun _ => true) true fuel 26 cs = some y) (hz : ∀ n ∈ y.1.weights Tryd.prog 26, n ≤ reachBytes) : ∃ p, SpecEl W k cs p := by
  obtain ⟨xs, n', hn', hx1, _, hx3, hx4⟩ := DataW.trod_struct Tryd.underlying26 h
  obtain ⟨v0, v1, v2, v3, rfl⟩ := four_l hl
  obtain ⟨y0, y1, y2, y3, rfl⟩ := four_l hx3
  have f0 : DataW.trod enc Tryd.prog W 0 (fun _ => true) true n' 22 [v0] = some y0 := by have := hx4 0 _ rfl; simpa [lexs_size] using this
  have f1 : DataW.trod enc Tryd.prog W 0 (fun _ => true) true n' 23 [v1] = some y1 := by have := hx4 1 _ rfl; simpa [nams_size] using this
  have f2 : DataW.trod enc Tryd.prog W 0 (fun _ => true) true n' 3 [v2] = some y2 := by have := hx4 2 _ rfl; simpa [int_size] using this
  have f3 : DataW.trod enc Tryd.prog W 0 (fun _ => true) true n' 24 [v3] = some y3 := by have := hx4 3 _ rfl; simpa [prods_size] using this
  obtain ⟨z2, e2, _, _⟩ := DataW.trod_int Tryd.underlying3 f2
  simp only [List.cons.injEq, and_true] at e2
  subst e2
  subst hx1
  obtain ⟨r0, h0⟩ := lexs_of (k := k) (by omega) f0 (fun n hn => hz n (weights_agg Tryd.underlying26 _ 0 _ y0.1 rfl rfl n hn))
  obtain ⟨r1, h1⟩ := names_of f1 (fun n hn => hz n (weights_agg Tryd.underlying26 _ 1 _ y1.1 rfl rfl n hn))
  obtain ⟨r3, h3⟩ := prods_of f3 (fun n hn => hz n (weights_agg Tryd.underlying26 _ 3 _ y3.1 rfl rfl n hn))
  exact ⟨(r0, r1, z2, r3), v0, v1, v3, rfl, h0, h1, h3⟩
set_option maxRecDepth 100000 in
/-- An argument that is a list of specs. -/
theorem specs_of {W : World} {a : Option Addr} {len cap : Nat} {d : DataW H} {p : List MemPlace} (h : DataW.Trod enc Tryd.prog W 0 (fun _ => true) true 54 (.slice a len cap) d p) (hz : ∀ n ∈ d.weights Tryd.prog 54, n ≤ reachBytes) : ∃ k l, SpecsAt W k (.slice a len cap) l := by
  obtain ⟨fuel, hf⟩ := h
  have hf2 : DataW.trod enc Tryd.prog W 0 (fun _ => true) true fuel 54 [.slice a len cap] = some (d, p) := hf
  exact ⟨fuel, slice_gen ([], [], 0, []) Tryd.underlying54 4 80 spec_size (by decide) spec_bytes (by decide) (SpecEl W fuel) hf2 hz (fun _ _ _ hm hl hh hz2 => spec_of (by omega) hl hh hz2)⟩
end

end Ex
end Go.Proofs.YtggodknnfpegmaaDoor
