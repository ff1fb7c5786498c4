import Derived.Test.YtggodknnfpegmaaDoorMSpArg
import Derived.Test.YtggodknnfpegmaaDoorRows
import Derived.ProofKit
import Derived.LaidMore
import Derived.OpenShut
import Derived.Stop.Joined
import Derived.Lib.TrailingZeros
namespace Go.Proofs.YtggodknnfpegmaaDoor
open Go.RowKit Go.ChangeShapes Go.WideShapes Go.ChangeAt
namespace Ex

section
variable {H : Type} {enc : TypeId × Value → H}
set_option maxRecDepth 100000 in
/-- A list that came in, by what its elements are; with its bytes. -/
theorem slice_sized {α : Type} (dflt : α) {t e : TypeId} (ht : Tryd.prog.underlying t = some (.slice e)) (sz byt : Nat) (hsz : Tryd.prog.cellsOf e = sz) (hpos : 0 < sz) (hby : Tryd.prog.bytesOf e = byt) (hb8 : 8 ≤ byt) (El : List Value → α → Prop) {W : World} {fuel : Nat} {v : Value} {x : DataW H × List MemPlace} (h : DataW.trod enc Tryd.prog W 0 (fun _ => true) true fuel t [v] = some x) (hz : ∀ n ∈ x.1.weights Tryd.prog t, n ≤ reachBytes)
    (hel : ∀ (m : Nat) (cs : List Value) (y : DataW H × List MemPlace), m < fuel → cs.length = sz → DataW.trod enc Tryd.prog W 0 (fun _ => true) true m e cs = some y → (∀ n ∈ y.1.weights Tryd.prog e, n ≤ reachBytes) → ∃ a, El cs a) : ∃ xs, SliceOf W sz El v xs ∧ xs.length * byt ≤ 140737488351232 := by
  rcases DataW.trod_slice ht h with ⟨hcs, _⟩ | ⟨a, len, cap, elems, rest, n, hn, hcs, hx, _, hl, hm, hlen, hall, _, _⟩
  · simp only [List.cons.injEq, and_true] at hcs
    subst hcs
    exact ⟨[], ⟨none, 0, rfl, by simp, by simp, .inl rfl⟩, by simp⟩
  · simp only [List.cons.injEq, and_true] at hcs
    subst hcs hx
    have hb2 : len * byt ≤ 140737488351232 := by
      have := hz _ (by simp only [DataW.weights, ht]; exact List.mem_cons_self)
      rw [hby] at this
      simp only [List.length_map] at this
      rw [hlen] at this
      have h2 : len * byt ≤ (len + rest.length) * byt := Nat.mul_le_mul (Nat.le_add_right _ _) (Nat.le_refl _)
      unfold reachBytes at this
      omega
    have hb : len * 8 ≤ reachBytes := by
      have := hz _ (by simp only [DataW.weights, ht]; exact List.mem_cons_self)
      rw [hby] at this
      simp only [List.length_map] at this
      rw [hlen] at this
      have h2 : len * 8 ≤ (len + rest.length) * byt := Nat.mul_le_mul (Nat.le_add_right _ _) hb8
      omega
    have hle : len ≤ 17592186044416 := by unfold reachBytes at hb; omega
    by_cases h0 : len = 0
    · subst h0
      exact ⟨[], ⟨some a, cap, rfl, by simp, by simp, .inl rfl⟩, by simp⟩
    have hone : ∀ i, i < len → ∃ q : α, ∃ cs : List Value, cs.length = sz ∧ (∀ (j : Nat) (u : Value), cs[j]? = some u → W.cell? ((a.add (i * sz)).add j) = some u) ∧ El cs q := by
      intro i hi
      have hei := hall i hi
      obtain ⟨ei, hei2⟩ : ∃ y, elems[i]? = some y := ⟨_, List.getElem?_eq_getElem (by omega)⟩
      rw [hei2, hsz] at hei
      obtain ⟨cs', hc1, hc2⟩ := Option.bind_eq_some_iff.1 hei
      obtain ⟨_, hc3, hc4⟩ := World.cells?_some hc1
      obtain ⟨q, hq⟩ := hel n cs' ei (by omega) hc3 hc2 (fun m hm2 => hz m (by
        simp only [DataW.weights, ht]
        exact List.mem_cons_of_mem _ (List.mem_append.2 (.inl (weights_all (List.mem_map.2 ⟨ei, List.mem_of_getElem? hei2, rfl⟩) m hm2)))))
      refine ⟨q, cs', hc3, fun j u hj => ?_, hq⟩
      have hjl := (List.getElem?_eq_some_iff.1 hj).1
      rw [hc4 j (by omega)]
      exact hj
    have inh : Inhabited α := ⟨dflt⟩
    obtain ⟨Q, hQ⟩ := Go.Deep.choose_lt hone
    obtain ⟨c1, o1, t1⟩ := a
    have hspot : t1 = none := by
      obtain ⟨cs, g1, g2, _⟩ := hQ 0 (by omega)
      obtain ⟨u, hu⟩ : ∃ u, cs[0]? = some u := ⟨_, List.getElem?_eq_getElem (by omega)⟩
      simpa [Addr.add] using World.cell?_spot (g2 0 u hu)
    subst hspot
    have hc : c1 < W.heap.size := by
      obtain ⟨cs, g1, g2, _⟩ := hQ 0 (by omega)
      obtain ⟨u, hu⟩ : ∃ u, cs[0]? = some u := ⟨_, List.getElem?_eq_getElem (by omega)⟩
      have := g2 0 u hu
      simp only [Addr.add_mid] at this
      exact World.block_lt_of_cell? W _ this
    refine ⟨(List.range len).map Q, ⟨some ⟨c1, o1, none⟩, cap, ?_, ?_, ?_, .inr ⟨c1, o1, rfl, hc, fun i q hq => ?_⟩⟩, by rw [List.length_map, List.length_range]; exact hb2⟩
    · rw [List.length_map, List.length_range]
    · rw [List.length_map, List.length_range]; exact hl
    · rw [List.length_map, List.length_range]; exact hle
    · rw [List.getElem?_map] at hq
      obtain ⟨i', hi', rfl⟩ := Option.map_eq_some_iff.1 hq
      obtain ⟨hi, he⟩ := List.getElem?_eq_some_iff.1 hi'
      rw [List.length_range] at hi
      rw [List.getElem_range] at he
      subst he
      obtain ⟨cs, g1, g2, g3⟩ := hQ i hi
      refine ⟨cs, g1, fun j u hj => ?_, g3⟩
      have := g2 j u hj
      simp only [Addr.add_mid] at this
      exact this
/-- A production, a spec, with how many bytes their lists have. -/
def ProdSz (w : World) (cs : List Value) (p : ProdM) : Prop := ProdEl w cs p ∧ p.2.length * 16 ≤ 140737488351232
def SizedS {k : Nat} (sp : SpecM k) : Prop := sp.1.length * 88 ≤ 140737488351232 ∧ sp.2.1.length * 16 ≤ 140737488351232 ∧ sp.2.2.2.length * 32 ≤ 140737488351232 ∧ ∀ p ∈ sp.2.2.2, p.2.length * 16 ≤ 140737488351232
def SpecSz (w : World) (k : Nat) (cs : List Value) (sp : SpecM k) : Prop := SpecEl w k cs sp ∧ SizedS sp
theorem SpecSz.keep {w w' : World} {k : Nat} {cs : List Value} {sp : SpecM k} (h : SpecSz w k cs sp) (hk : Kept w w') : SpecSz w' k cs sp := ⟨h.1.keep hk, h.2⟩
theorem slice_each {α : Type} {w : World} {sz : Nat} {El El' : List Value → α → Prop} {v : Value} {xs : List α} (h : SliceOf w sz El v xs) (hE : ∀ cs x, El cs x → El' cs x) : SliceOf w sz El' v xs := by
  obtain ⟨a, cap, h1, h2, h3, h4⟩ := h
  refine ⟨a, cap, h1, h2, h3, ?_⟩
  rcases h4 with h4 | ⟨c, o, h5, h6, h7⟩
  · exact .inl h4
  · refine .inr ⟨c, o, h5, h6, fun i x hi => ?_⟩
    obtain ⟨cs, g1, g2, g3⟩ := h7 i x hi
    exact ⟨cs, g1, g2, hE cs x g3⟩
theorem prods_el {w : World} {v : Value} {ps : List ProdM} (h : SliceOf w 2 (ProdSz w) v ps) : ProdsAt w v ps := slice_each h (fun _ _ h => h.1)
theorem prods_rows {w : World} {v : Value} {ps : List ProdM} (h : SliceOf w 2 (ProdSz w) v ps) : ∀ p ∈ ps, p.2.length * 16 ≤ 140737488351232 := by
  obtain ⟨a, cap, h1, h2, h3, h4⟩ := h
  intro p hp
  rcases h4 with h4 | ⟨c, o, h5, h6, h7⟩
  · subst h4; cases hp
  · obtain ⟨i, hi⟩ := List.getElem?_of_mem hp
    obtain ⟨cs, g1, g2, g3⟩ := h7 i p hi
    exact g3.2
set_option maxRecDepth 100000 in
theorem right_sz {W : World} {fuel : Nat} {v : Value} {y : DataW H × List MemPlace} (h : DataW.trod enc Tryd.prog W 0 (fun _ => true) true fuel 38 [v] = some y) (hz : ∀ n ∈ y.1.weights Tryd.prog 38, n ≤ reachBytes) : ∃ r, RightAt W v r ∧ r.length * 16 ≤ 140737488351232 :=
  slice_sized (0, 0) Tryd.underlying38 2 16 sym_size (by decide) sym_bytes (by decide) SymEl h hz (fun _ _ _ _ hl hh _ => sym_of hl hh)
set_option maxRecDepth 100000 in
theorem prod_sz {W : World} {fuel : Nat} {cs : List Value} {y : DataW H × List MemPlace} (hl : cs.length = 2) (h : DataW.trod enc Tryd.prog W 0 (fun _ => true) true fuel 40 cs = some y) (hz : ∀ n ∈ y.1.weights Tryd.prog 40, n ≤ reachBytes) : ∃ p, ProdSz W cs p := by
  obtain ⟨xs, n', hn', hx1, _, hx3, hx4⟩ := DataW.trod_struct Tryd.underlying40 h
  obtain ⟨v0, v1, rfl⟩ := two_l hl
  obtain ⟨y0, y1, rfl⟩ := two_l hx3
  have f0 : DataW.trod enc Tryd.prog W 0 (fun _ => true) true n' 3 [v0] = some y0 := by have := hx4 0 _ rfl; simpa [int_size] using this
  have f1 : DataW.trod enc Tryd.prog W 0 (fun _ => true) true n' 38 [v1] = some y1 := by have := hx4 1 _ rfl; simpa [syms_size] using this
  obtain ⟨z0, e0, _, _⟩ := DataW.trod_int Tryd.underlying3 f0
  simp only [List.cons.injEq, and_true] at e0
  subst e0
  subst hx1
  obtain ⟨r, hr, hs⟩ := right_sz f1 (fun n hn => hz n (weights_agg Tryd.underlying40 _ 1 _ y1.1 rfl rfl n hn))
  exact ⟨(z0, r), ⟨v1, rfl, hr⟩, hs⟩
set_option maxRecDepth 100000 in
theorem prods_sz {W : World} {fuel : Nat} {v : Value} {y : DataW H × List MemPlace} (h : DataW.trod enc Tryd.prog W 0 (fun _ => true) true fuel 24 [v] = some y) (hz : ∀ n ∈ y.1.weights Tryd.prog 24, n ≤ reachBytes) : ∃ r, SliceOf W 2 (ProdSz W) v r ∧ r.length * 32 ≤ 140737488351232 :=
  slice_sized (0, []) Tryd.underlying24 2 32 prod_size (by decide) prod_bytes (by decide) (ProdSz W) h hz (fun _ _ _ _ hl hh hz2 => prod_sz hl hh hz2)
set_option maxRecDepth 100000 in
theorem names_sz {W : World} {fuel : Nat} {v : Value} {y : DataW H × List MemPlace} (h : DataW.trod enc Tryd.prog W 0 (fun _ => true) true fuel 23 [v] = some y) (hz : ∀ n ∈ y.1.weights Tryd.prog 23, n ≤ reachBytes) : ∃ r, NamesAt W v r ∧ r.length * 16 ≤ 140737488351232 :=
  slice_sized ByteArray.empty Tryd.underlying23 1 16 nam_size (by decide) nam_bytes (by decide) StrEl h hz (fun _ _ _ _ _ hh hz2 => str_of hh hz2)
set_option maxRecDepth 100000 in
theorem lexs_sz {W : World} {k fuel : Nat} (hk : fuel ≤ k) {v : Value} {y : DataW H × List MemPlace} (h : DataW.trod enc Tryd.prog W 0 (fun _ => true) true fuel 22 [v] = some y) (hz : ∀ n ∈ y.1.weights Tryd.prog 22, n ≤ reachBytes) : ∃ r, LexAt W k v r ∧ r.length * 88 ≤ 140737488351232 :=
  slice_sized (ByteArray.empty, false, (show PatN (k + 1) from ((0, 0, 0, 0, 0, []) : Int × Int × Int × Int × Int × List (PatN k)))) Tryd.underlying22 8 88 lex_size (by decide) lex_bytes (by decide) (LexEl W k) h hz (fun _ _ _ hm hl hh hz2 => lex_of (by omega) hl hh hz2)
set_option maxRecDepth 100000 in
theorem spec_sz {W : World} {k fuel : Nat} (hk : fuel ≤ k) {cs : List Value} {y : DataW H × List MemPlace} (hl : cs.length = 4) (h : DataW.trod enc Tryd.prog W 0 (fun _ => true) true fuel 26 cs = some y) (hz : ∀ n ∈ y.1.weights Tryd.prog 26, n ≤ reachBytes) : ∃ p, SpecSz W k cs p := by
  obtain ⟨xs, n', hn', hx1, _, hx3, hx4⟩ := DataW.trod_struct Tryd.underlying26 h
  obtain ⟨v0, v1, v2, v3, rfl⟩ := four_l hl
  obtain ⟨y0, y1, y2, y3, rfl⟩ := four_l hx3
  have f0 : DataW.trod enc Tryd.prog W 0 (fun _ => true) true n' 22 [v0] = some y0 := by have := hx4 0 _ rfl; simpa [lexs_size] using this
  have f1 : DataW.trod enc Tryd.prog W 0 (fun _ => true) true n' 23 [v1] = some y1 := by have := hx4 1 _ rfl; simpa [nams_size] using this
  have f2 : DataW.trod enc Tryd.prog W 0 (fun _ => true) true n' 3 [v2] = some y2 := by have := hx4 2 _ rfl; simpa [int_size] using this
  have f3 : DataW.trod enc Tryd.prog W 0 (fun _ => true) true n' 24 [v3] = some y3 := by have := hx4 3 _ rfl; simpa [prods_size] using this
  obtain ⟨z2, e2, _, _⟩ := DataW.trod_int Tryd.underlying3 f2
  simp only [List.cons.injEq, and_true] at e2
  subst e2
  subst hx1
  obtain ⟨r0, h0, s0⟩ := lexs_sz (k := k) (by omega) f0 (fun n hn => hz n (weights_agg Tryd.underlying26 _ 0 _ y0.1 rfl rfl n hn))
  obtain ⟨r1, h1, s1⟩ := names_sz f1 (fun n hn => hz n (weights_agg Tryd.underlying26 _ 1 _ y1.1 rfl rfl n hn))
  obtain ⟨r3, h3, s3⟩ := prods_sz f3 (fun n hn => hz n (weights_agg Tryd.underlying26 _ 3 _ y3.1 rfl rfl n hn))
  exact ⟨(r0, r1, z2, r3), ⟨v0, v1, v3, rfl, h0, h1, prods_el h3⟩, s0, s1, s3, prods_rows h3⟩
set_option maxRecDepth 100000 in
/-- An argument that is a list of specs. -/
theorem specs_sz {W : World} {a : Option Addr} {len cap : Nat} {d : DataW H} {p : List MemPlace} (h : DataW.Trod enc Tryd.prog W 0 (fun _ => true) true 54 (.slice a len cap) d p) (hz : ∀ n ∈ d.weights Tryd.prog 54, n ≤ reachBytes) : ∃ k l, SliceOf W 4 (SpecSz W k) (.slice a len cap) l := by
  obtain ⟨fuel, hf⟩ := h
  have hf2 : DataW.trod enc Tryd.prog W 0 (fun _ => true) true fuel 54 [.slice a len cap] = some (d, p) := hf
  exact ⟨fuel, slice_gen ([], [], 0, []) Tryd.underlying54 4 80 spec_size (by decide) spec_bytes (by decide) (SpecSz W fuel) hf2 hz (fun _ _ _ hm hl hh hz2 => spec_sz (by omega) hl hh hz2)⟩
end

end Ex
end Go.Proofs.YtggodknnfpegmaaDoor
namespace Go.Proofs.YtggodknnfpegmaaDoor
open Go.ChangeShapes Go.WideShapes Go.ChangeAt Go.RowKit
namespace Ex

theorem own : ownKnob Tryd.prog.godebug = none := by kernel_rfl
theorem laidOut : laidOutB Tryd.prog = true := by kernel_rfl
theorem tTab : (Tryd.prog.globals[0]?).map (·.type) = some 151 := by kernel_rfl
theorem u8_one : Tryd.prog.cellsOf 5 = 1 := by kernel_rfl
/-- The door's own heap meets the condition. -/
theorem door_met (os : Os) (args : Array Value) : laidMetH Tryd.prog Rows.setsChecksRow.laid ((World.doorLaid Tryd.prog 4000 os).forCall (fun _ _ => 0) ⟨#[], args, []⟩).memory :=
  laidMetH_of_parts3 (fuel := 8) (laidMet_of_run' 8 (by kernel_rfl) (by kernel_rfl)) (by kernel_rfl) (by kernel_rfl)
theorem tab_datum : (Rows.laid_math_bits_deBruijn64tab : DataW Unit) = .agg (Lib.deBruijn64tab.map fun (n : Nat) => DataW.lit (Lit.int .u8 (n : Int))) := rfl
theorem of_laid {W : World} (h : laidMetH Tryd.prog Rows.setsChecksRow.laid W) : ∀ j, j < 64 → W.cell? ⟨0, j, none⟩ = some (.int .u8 (Lib.deBruijn64tab.getD j 0 : Nat)) := by
  rw [MakeChecks.laidMetH_plain _ _ _ (by kernel_rfl)] at h
  obtain ⟨ps, ⟨g1, t1, cs1, f1, p1, q1, hg1, ht1, hv1, hd1, _, _⟩, _, _⟩ := h
  obtain rfl : g1 = 0 := Option.some.inj (hg1.symm.trans (by kernel_rfl))
  obtain rfl := Option.some.inj (tTab.symm.trans ht1)
  intro j hj
  have hcell := World.var?_cell hg1 hv1 j
  rw [hcell]
  obtain ⟨xs, m1, rfl, hx1, hlen, hn, hel⟩ := DataW.trod_array Tryd.underlying151 hd1
  rw [tab_datum] at hx1
  simp only [Prod.mk.injEq, DataW.agg.injEq] at hx1
  have hj0 := hel j (by simpa using hj)
  obtain ⟨xj, hxj⟩ : ∃ x, xs[j]? = some x := ⟨_, List.getElem?_eq_getElem (by rw [hn]; exact hj)⟩
  rw [hxj, u8_one] at hj0
  obtain ⟨k, e1, e2, _⟩ := DataW.trod_int Tryd.underlying5 hj0
  have hq : (xs.map (·.1))[j]? = some xj.1 := by rw [List.getElem?_map, hxj]; rfl
  rw [← hx1.1, List.getElem?_map] at hq
  obtain ⟨n, hn1, hn2⟩ := Option.map_eq_some_iff.1 hq
  rw [e2] at hn2
  simp only [DataW.lit.injEq, Lit.int.injEq, true_and] at hn2
  have hk : (Lib.deBruijn64tab.getD j 0 : Nat) = n := by rw [List.getD_eq_getElem?_getD, hn1]; rfl
  rw [hk, hn2]
  have e3 : (cs1.toList.drop (j * 1)).take 1 = [.int .u8 k] := e1
  rw [Nat.mul_one] at e3
  have e4 : ((cs1.toList.drop j).take 1)[0]? = some (.int .u8 k) := by rw [e3]; rfl
  rw [List.getElem?_take] at e4
  simpa using e4

end Ex
end Go.Proofs.YtggodknnfpegmaaDoor
