import Derived.Test.YtooelfjceehmmaaDoorMExBase
import Derived.Test.YtooelfjceehmmaaDoorRows
import Derived.ProofKit
import Derived.LaidMore
import Derived.OpenShut
import Derived.Stop.Joined
import Derived.Lib.TrailingZeros
import Derived.Laws.Externs
import Derived.Handy
namespace Go.Proofs.YtooelfjceehmmaaDoor
open Go.RowKit Go.ChangeShapes Go.WideShapes Go.ChangeAt
namespace Ex

section
variable {H : Type} {enc : TypeId × Value → H}
set_option maxRecDepth 100000 in
/-- A list that came in, by what its elements are; with its bytes. -/
theorem slice_sized {α : Type} (dflt : α) {t e : TypeId} (ht : Tryd.prog.underlying t = some (.slice e)) (sz byt : Nat) (hsz : Tryd.prog.cellsOf e = sz) (hpos : 0 < sz) (hby : Tryd.prog.bytesOf e = byt) (hb8 : 8 ≤ byt) (El : List Value → α → Prop) {W : World} {fuel : Nat} {v : Value} {x : DataW H × List MemPlace} (h : DataW.trod enc Tryd.prog W 0 (fun _ => true) true fuel t [v] = some x) (hz : ∀ n ∈ x.1.weights Tryd.prog t, n ≤ reachBytes)
    (hel : ∀ (m : Nat) (cs : List Value) (y : DataW H × List MemPlace), m < fuel → cs.length = sz → DataW.trod enc Tryd.prog W 0 (fun _ => true) true m e cs = some y → (∀ n ∈ y.1.weights Tryd.prog e, n ≤ reachBytes) → ∃ a, El cs a) : ∃ xs, SliceOf W sz El v xs ∧ xs.length * byt ≤ 140737488351232 := by
  rcases DataW.trod_slice ht h with ⟨hcs, _⟩ | ⟨a, len, cap, elems, rest, n, hn, hcs, hx, _, hl, hm, hlen, hall, _, _⟩
  · simp only [List.cons.injEq, and_true] at hcs
    subst hcs
    exact ⟨[], ⟨none, 0, rfl, by simp, by simp, .inl rfl⟩, by simp⟩
  · simp only [List.cons.injEq, and_true] at hcs
    subst hcs hx
    have hb2 : len * byt ≤ 140737488351232 := by
      have := hz _ (by simp only [DataW.weights, ht]; exact List.mem_cons_self)
      rw [hby] at this
      simp only [List.length_map] at this
      rw [hlen] at this
      have h2 : len * byt ≤ (len + rest.length) * byt := Nat.mul_le_mul (Nat.le_add_right _ _) (Nat.le_refl _)
      unfold reachBytes at this
      omega
    have hb : len * 8 ≤ reachBytes := by
      have := hz _ (by simp only [DataW.weights, ht]; exact List.mem_cons_self)
      rw [hby] at this
      simp only [List.length_map] at this
      rw [hlen] at this
      have h2 : len * 8 ≤ (len + rest.length) * byt := Nat.mul_le_mul (Nat.le_add_right _ _) hb8
      omega
    have hle : len ≤ 17592186044416 := by unfold reachBytes at hb; omega
    by_cases h0 : len = 0
    · subst h0
      exact ⟨[], ⟨some a, cap, rfl, by simp, by simp, .inl rfl⟩, by simp⟩
    have hone : ∀ i, i < len → ∃ q : α, ∃ cs : List Value, cs.length = sz ∧ (∀ (j : Nat) (u : Value), cs[j]? = some u → W.cell? ((a.add (i * sz)).add j) = some u) ∧ El cs q := by
      intro i hi
      have hei := hall i hi
      obtain ⟨ei, hei2⟩ : ∃ y, elems[i]? = some y := ⟨_, List.getElem?_eq_getElem (by omega)⟩
      rw [hei2, hsz] at hei
      obtain ⟨cs', hc1, hc2⟩ := Option.bind_eq_some_iff.1 hei
      obtain ⟨_, hc3, hc4⟩ := World.cells?_some hc1
      obtain ⟨q, hq⟩ := hel n cs' ei (by omega) hc3 hc2 (fun m hm2 => hz m (by
        simp only [DataW.weights, ht]
        exact List.mem_cons_of_mem _ (List.mem_append.2 (.inl (weights_all (List.mem_map.2 ⟨ei, List.mem_of_getElem? hei2, rfl⟩) m hm2)))))
      refine ⟨q, cs', hc3, fun j u hj => ?_, hq⟩
      have hjl := (List.getElem?_eq_some_iff.1 hj).1
      rw [hc4 j (by omega)]
      exact hj
    have inh : Inhabited α := ⟨dflt⟩
    obtain ⟨Q, hQ⟩ := Go.Deep.choose_lt hone
    obtain ⟨c1, o1, t1⟩ := a
    have hspot : t1 = none := by
      obtain ⟨cs, g1, g2, _⟩ := hQ 0 (by omega)
      obtain ⟨u, hu⟩ : ∃ u, cs[0]? = some u := ⟨_, List.getElem?_eq_getElem (by omega)⟩
      simpa [Addr.add] using World.cell?_spot (g2 0 u hu)
    subst hspot
    have hc : c1 < W.heap.size := by
      obtain ⟨cs, g1, g2, _⟩ := hQ 0 (by omega)
      obtain ⟨u, hu⟩ : ∃ u, cs[0]? = some u := ⟨_, List.getElem?_eq_getElem (by omega)⟩
      have := g2 0 u hu
      simp only [Addr.add_mid] at this
      exact World.block_lt_of_cell? W _ this
    refine ⟨(List.range len).map Q, ⟨some ⟨c1, o1, none⟩, cap, ?_, ?_, ?_, .inr ⟨c1, o1, rfl, hc, fun i q hq => ?_⟩⟩, by rw [List.length_map, List.length_range]; exact hb2⟩
    · rw [List.length_map, List.length_range]
    · rw [List.length_map, List.length_range]; exact hl
    · rw [List.length_map, List.length_range]; exact hle
    · rw [List.getElem?_map] at hq
      obtain ⟨i', hi', rfl⟩ := Option.map_eq_some_iff.1 hq
      obtain ⟨hi, he⟩ := List.getElem?_eq_some_iff.1 hi'
      rw [List.length_range] at hi
      rw [List.getElem_range] at he
      subst he
      obtain ⟨cs, g1, g2, g3⟩ := hQ i hi
      refine ⟨cs, g1, fun j u hj => ?_, g3⟩
      have := g2 j u hj
      simp only [Addr.add_mid] at this
      exact this
/-- A production, a spec, with how many bytes their lists have. -/
def ProdSz (w : World) (cs : List Value) (p : ProdM) : Prop := ProdEl w cs p ∧ p.2.length * 16 ≤ 140737488351232
def SizedS {k : Nat} (sp : SpecM k) : Prop := sp.1.length * 88 ≤ 140737488351232 ∧ sp.2.1.length * 16 ≤ 140737488351232 ∧ sp.2.2.2.length * 32 ≤ 140737488351232 ∧ ∀ p ∈ sp.2.2.2, p.2.length * 16 ≤ 140737488351232
def SpecSz (w : World) (k : Nat) (cs : List Value) (sp : SpecM k) : Prop := SpecEl w k cs sp ∧ SizedS sp
theorem SpecSz.keep {w w' : World} {k : Nat} {cs : List Value} {sp : SpecM k} (h : SpecSz w k cs sp) (hk : Kept w w') : SpecSz w' k cs sp := ⟨h.1.keep hk, h.2⟩
theorem slice_each {α : Type} {w : World} {sz : Nat} {El El' : List Value → α → Prop} {v : Value} {xs : List α} (h : SliceOf w sz El v xs) (hE : ∀ cs x, El cs x → El' cs x) : SliceOf w sz El' v xs := by
  obtain ⟨a, cap, h1, h2, h3, h4⟩ := h
  refine ⟨a, cap, h1, h2, h3, ?_⟩
  rcases h4 with h4 | ⟨c, o, h5, h6, h7⟩
  · exact .inl h4
  · refine .inr ⟨c, o, h5, h6, fun i x hi => ?_⟩
    obtain ⟨cs, g1, g2, g3⟩ := h7 i x hi
    exact ⟨cs, g1, g2, hE cs x g3⟩
theorem prods_el {w : World} {v : Value} {ps : List ProdM} (h : SliceOf w 2 (ProdSz w) v ps) : ProdsAt w v ps := slice_each h (fun _ _ h => h.1)
theorem prods_rows {w : World} {v : Value} {ps : List ProdM} (h : SliceOf w 2 (ProdSz w) v ps) : ∀ p ∈ ps, p.2.length * 16 ≤ 140737488351232 := by
  obtain ⟨a, cap, h1, h2, h3, h4⟩ := h
  intro p hp
  rcases h4 with h4 | ⟨c, o, h5, h6, h7⟩
  · subst h4; cases hp
  · obtain ⟨i, hi⟩ := List.getElem?_of_mem hp
    obtain ⟨cs, g1, g2, g3⟩ := h7 i p hi
    exact g3.2
set_option maxRecDepth 100000 in
theorem right_sz {W : World} {fuel : Nat} {v : Value} {y : DataW H × List MemPlace} (h : DataW.trod enc Tryd.prog W 0 (fun _ => true) true fuel 38 [v] = some y) (hz : ∀ n ∈ y.1.weights Tryd.prog 38, n ≤ reachBytes) : ∃ r, RightAt W v r ∧ r.length * 16 ≤ 140737488351232 :=
  slice_sized (0, 0) Tryd.underlying38 2 16 sym_size (by decide) sym_bytes (by decide) SymEl h hz (fun _ _ _ _ hl hh _ => sym_of hl hh)
set_option maxRecDepth 100000 in
theorem prod_sz {W : World} {fuel : Nat} {cs : List Value} {y : DataW H × List MemPlace} (hl : cs.length = 2) (h : DataW.trod enc Tryd.prog W 0 (fun _ => true) true fuel 40 cs = some y) (hz : ∀ n ∈ y.1.weights Tryd.prog 40, n ≤ reachBytes) : ∃ p, ProdSz W cs p := by
  obtain ⟨xs, n', hn', hx1, _, hx3, hx4⟩ := DataW.trod_struct Tryd.underlying40 h
  obtain ⟨v0, v1, rfl⟩ := two_l hl
  obtain ⟨y0, y1, rfl⟩ := two_l hx3
  have f0 : DataW.trod enc Tryd.prog W 0 (fun _ => true) true n' 3 [v0] = some y0 := by have := hx4 0 _ rfl; simpa [int_size] using this
  have f1 : DataW.trod enc Tryd.prog W 0 (fun _ => true) true n' 38 [v1] = some y1 := by have := hx4 1 _ rfl; simpa [syms_size] using this
  obtain ⟨z0, e0, _, _⟩ := DataW.trod_int Tryd.underlying3 f0
  simp only [List.cons.injEq, and_true] at e0
  subst e0
  subst hx1
  obtain ⟨r, hr, hs⟩ := right_sz f1 (fun n hn => hz n (weights_agg Tryd.underlying40 _ 1 _ y1.1 rfl rfl n hn))
  exact ⟨(z0, r), ⟨v1, rfl, hr⟩, hs⟩
set_option maxRecDepth 100000 in
theorem prods_sz {W : World} {fuel : Nat} {v : Value} {y : DataW H × List MemPlace} (h : DataW.trod enc Tryd.prog W 0 (fun _ => true) true fuel 24 [v] = some y) (hz : ∀ n ∈ y.1.weights Tryd.prog 24, n ≤ reachBytes) : ∃ r, SliceOf W 2 (ProdSz W) v r ∧ r.length * 32 ≤ 140737488351232 :=
  slice_sized (0, []) Tryd.underlying24 2 32 prod_size (by decide) prod_bytes (by decide) (ProdSz W) h hz (fun _ _ _ _ hl hh hz2 => prod_sz hl hh hz2)
set_option maxRecDepth 100000 in
theorem names_sz {W : World} {fuel : Nat} {v : Value} {y : DataW H × List MemPlace} (h : DataW.trod enc Tryd.prog W 0 (fun _ => true) true fuel 23 [v] = some y) (hz : ∀ n ∈ y.1.weights Tryd.prog 23, n ≤ reachBytes) : ∃ r, NamesAt W v r ∧ r.length * 16 ≤ 140737488351232 :=
  slice_sized ByteArray.empty Tryd.underlying23 1 16 nam_size (by decide) nam_bytes (by decide) StrEl h hz (fun _ _ _ _ _ hh hz2 => str_of hh hz2)
set_option maxRecDepth 100000 in
theorem lexs_sz {W : World} {k fuel : Nat} (hk : fuel ≤ k) {v : Value} {y : DataW H × List MemPlace} (h : DataW.trod enc Tryd.prog W 0 (fun _ => true) true fuel 22 [v] = some y) (hz : ∀ n ∈ y.1.weights Tryd.prog 22, n ≤ reachBytes) : ∃ r, LexAt W k v r ∧ r.length * 88 ≤ 140737488351232 :=
  slice_sized (ByteArray.empty, false, (show PatN (k + 1) from ((0, 0, 0, 0, 0, []) : Int × Int × Int × Int × Int × List (PatN k)))) Tryd.underlying22 8 88 lex_size (by decide) lex_bytes (by decide) (LexEl W k) h hz (fun _ _ _ hm hl hh hz2 => lex_of (by omega) hl hh hz2)
set_option maxRecDepth 100000 in
theorem spec_sz {W : World} {k fuel : Nat} (hk : fuel ≤ k) {cs : List Value} {y : DataW H × List MemPlace} (hl : cs.length = 4) (h : DataW.trod enc Tryd.prog W 0 (fun _ => true) true fuel 26 cs = some y) (hz : ∀ n ∈ y.1.weights Tryd.prog 26, n ≤ reachBytes) : ∃ p, SpecSz W k cs p := by
  obtain ⟨xs, n', hn', hx1, _, hx3, hx4⟩ := DataW.trod_struct Tryd.underlying26 h
  obtain ⟨v0, v1, v2, v3, rfl⟩ := four_l hl
  obtain ⟨y0, y1, y2, y3, rfl⟩ := four_l hx3
  have f0 : DataW.trod enc Tryd.prog W 0 (fun _ => true) true n' 22 [v0] = some y0 := by have := hx4 0 _ rfl; simpa [lexs_size] using this
  have f1 : DataW.trod enc Tryd.prog W 0 (fun _ => true) true n' 23 [v1] = some y1 := by have := hx4 1 _ rfl; simpa [nams_size] using this
  have f2 : DataW.trod enc Tryd.prog W 0 (fun _ => true) true n' 3 [v2] = some y2 := by have := hx4 2 _ rfl; simpa [int_size] using this
  have f3 : DataW.trod enc Tryd.prog W 0 (fun _ => true) true n' 24 [v3] = some y3 := by have := hx4 3 _ rfl; simpa [prods_size] using this
  obtain ⟨z2, e2, _, _⟩ := DataW.trod_int Tryd.underlying3 f2
  simp only [List.cons.injEq, and_true] at e2
  subst e2
  subst hx1
  obtain ⟨r0, h0, s0⟩ := lexs_sz (k := k) (by omega) f0 (fun n hn => hz n (weights_agg Tryd.underlying26 _ 0 _ y0.1 rfl rfl n hn))
  obtain ⟨r1, h1, s1⟩ := names_sz f1 (fun n hn => hz n (weights_agg Tryd.underlying26 _ 1 _ y1.1 rfl rfl n hn))
  obtain ⟨r3, h3, s3⟩ := prods_sz f3 (fun n hn => hz n (weights_agg Tryd.underlying26 _ 3 _ y3.1 rfl rfl n hn))
  exact ⟨(r0, r1, z2, r3), ⟨v0, v1, v3, rfl, h0, h1, prods_el h3⟩, s0, s1, s3, prods_rows h3⟩
end

end Ex
end Go.Proofs.YtooelfjceehmmaaDoor
namespace Go.Proofs.YtooelfjceehmmaaDoor
open Go.ChangeShapes Go.WideShapes Go.ChangeAt Go.RowKit
namespace Ex

theorem own : ownKnob Tryd.prog.godebug = none := by kernel_rfl
theorem laidOut : laidOutB Tryd.prog = true := by kernel_rfl
theorem tTab : (Tryd.prog.globals[0]?).map (·.type) = some 143 := by kernel_rfl
theorem u8_one : Tryd.prog.cellsOf 5 = 1 := by kernel_rfl
/-- The door's own heap meets the condition. -/
theorem door_met (os : Os) (args : Array Value) : laidMetH Tryd.prog Rows.setsBookRow.laid ((World.doorLaid Tryd.prog 4000 os).forCall (fun _ _ => 0) ⟨#[], args, []⟩).memory :=
  laidMetH_of_parts3 (fuel := 8) (laidMet_of_run' 8 (by kernel_rfl) (by kernel_rfl)) (by kernel_rfl) (by kernel_rfl)
theorem tab_datum : (Rows.laid_math_bits_deBruijn64tab : DataW Unit) = .agg (Lib.deBruijn64tab.map fun (n : Nat) => DataW.lit (Lit.int .u8 (n : Int))) := rfl
theorem of_laid {W : World} (h : laidMetH Tryd.prog Rows.setsBookRow.laid W) : ∀ j, j < 64 → W.cell? ⟨0, j, none⟩ = some (.int .u8 (Lib.deBruijn64tab.getD j 0 : Nat)) := by
  rw [MakeChecks.laidMetH_plain _ _ _ (by kernel_rfl)] at h
  obtain ⟨ps, ⟨g1, t1, cs1, f1, p1, q1, hg1, ht1, hv1, hd1, _, _⟩, _, _⟩ := h
  obtain rfl : g1 = 0 := Option.some.inj (hg1.symm.trans (by kernel_rfl))
  obtain rfl := Option.some.inj (tTab.symm.trans ht1)
  intro j hj
  have hcell := World.var?_cell hg1 hv1 j
  rw [hcell]
  obtain ⟨xs, m1, rfl, hx1, hlen, hn, hel⟩ := DataW.trod_array Tryd.underlying143 hd1
  rw [tab_datum] at hx1
  simp only [Prod.mk.injEq, DataW.agg.injEq] at hx1
  have hj0 := hel j (by simpa using hj)
  obtain ⟨xj, hxj⟩ : ∃ x, xs[j]? = some x := ⟨_, List.getElem?_eq_getElem (by rw [hn]; exact hj)⟩
  rw [hxj, u8_one] at hj0
  obtain ⟨k, e1, e2, _⟩ := DataW.trod_int Tryd.underlying5 hj0
  have hq : (xs.map (·.1))[j]? = some xj.1 := by rw [List.getElem?_map, hxj]; rfl
  rw [← hx1.1, List.getElem?_map] at hq
  obtain ⟨n, hn1, hn2⟩ := Option.map_eq_some_iff.1 hq
  rw [e2] at hn2
  simp only [DataW.lit.injEq, Lit.int.injEq, true_and] at hn2
  have hk : (Lib.deBruijn64tab.getD j 0 : Nat) = n := by rw [List.getD_eq_getElem?_getD, hn1]; rfl
  rw [hk, hn2]
  have e3 : (cs1.toList.drop (j * 1)).take 1 = [.int .u8 k] := e1
  rw [Nat.mul_one] at e3
  have e4 : ((cs1.toList.drop j).take 1)[0]? = some (.int .u8 k) := by rw [e3]; rfl
  rw [List.getElem?_take] at e4
  simpa using e4

end Ex
end Go.Proofs.YtooelfjceehmmaaDoor
namespace Go.Proofs.YtooelfjceehmmaaDoor
open Go.RowKit
attribute [local go_sem] Oper.semAt_some
namespace Ex

theorem valOf_eq {n : Nat} (p : PatN (n + 1)) (v : Value) : valOf p v = .agg #[.int .i64 (kind p), .int .i64 (from_ p), .int .i64 (to_ p), .int .i64 (min_ p), .int .i64 (max_ p), v] := rfl

end Ex
end Go.Proofs.YtooelfjceehmmaaDoor
namespace Go.Proofs.YtooelfjceehmmaaDoor
open Go.RowKit
attribute [local go_sem] Oper.semAt_some
namespace Ex

/-- What a walk saw: how many values (none above 4097), how deep. -/
def lookP : (n : Nat) → PatN n → Int → Int × Int → Int × Int
  | 0, _, _, s => s
  | n + 1, p, d, s => (kids p).foldl (fun s q => if 4096 < s.1 then s else lookP n q (d + 1) s) (s.1 + 1, max s.2 d)
/-- All but the block b lies as it lay. -/
def KeptBut (b : Nat) (w w' : World) : Prop :=
  w'.os = w.os ∧ w'.tape = w.tape ∧ w'.output = w.output ∧ w.heap.size ≤ w'.heap.size ∧ ∀ k, k < w.heap.size → k ≠ b → w'.heap[k]? = w.heap[k]?
theorem KeptBut.trans {b : Nat} {u v w : World} (h1 : KeptBut b u v) (h2 : KeptBut b v w) : KeptBut b u w :=
  ⟨h2.1.trans h1.1, h2.2.1.trans h1.2.1, h2.2.2.1.trans h1.2.2.1, Nat.le_trans h1.2.2.2.1 h2.2.2.2.1, fun k hk hn => (h2.2.2.2.2 k (Nat.lt_of_lt_of_le hk h1.2.2.2.1) hn).trans (h1.2.2.2.2 k hk hn)⟩
theorem Kept.but {w w' : World} (h : Kept w w') (b : Nat) : KeptBut b w w' := ⟨h.1, h.2.1, h.2.2.1, h.2.2.2.1, fun k hk _ => h.2.2.2.2 k hk⟩
theorem setCell_but (w : World) (b o : Nat) (v : Value) : KeptBut b w (w.setCell ⟨b, o, none⟩ v) := ⟨rfl, rfl, rfl, by simp [World.setCell], fun k _ hn => Below.heap_setCell _ _ _ _ hn⟩
theorem KeptBut.holds {b : Nat} {w w' : World} (h : KeptBut b w w') {S : Nat → Prop} (hS : ¬ S b) : Holds S w w' := by
  intro k o v hk hc
  have hlt : k < w.heap.size := World.block_lt_of_cell? w _ hc
  rw [← hc]
  exact World.cell?_of_block (a := ⟨k, o, none⟩) (h.2.2.2.2 k hlt (fun e => hS (e ▸ hk)))
def stepL (n : Nat) (d : Int) (s : Int × Int) (q : PatN n) : Int × Int := if 4096 < s.1 then s else lookP n q (d + 1) s
theorem look_eq (n : Nat) (p : PatN (n + 1)) (d : Int) (s : Int × Int) : lookP (n + 1) p d s = (kids p).foldl (stepL n d) (s.1 + 1, max s.2 d) := rfl
theorem fold_stop {n : Nat} {d : Int} : ∀ (L : List (PatN n)) (s : Int × Int), 4096 < s.1 → L.foldl (stepL n d) s = s
  | [], _, _ => rfl
  | q :: L, s, h => by
    have e : stepL n d s q = s := by unfold stepL; rw [if_pos h]
    rw [List.foldl_cons, e]; exact fold_stop L s h
end Ex
end Go.Proofs.YtooelfjceehmmaaDoor
namespace Go.Proofs.YtooelfjceehmmaaDoor
open Go.RowKit
attribute [local go_sem] Oper.semAt_some
namespace Ex

theorem but_set {b : Nat} {w w' : World} (h : KeptBut b w w') (o : Nat) (v : Value) : KeptBut b w (w'.setCell ⟨b, o, none⟩ v) := h.trans (setCell_but _ _ _ _)
theorem but_refl (b : Nat) (w : World) : KeptBut b w w := (Kept.refl w).but b
end Ex
end Go.Proofs.YtooelfjceehmmaaDoor
namespace Go.Proofs.YtooelfjceehmmaaDoor
open Go.RowKit
attribute [local go_sem] Oper.semAt_some
namespace Ex

def IsB (c : Int) : Prop := 0 ≤ c ∧ c ≤ 255
end Ex
end Go.Proofs.YtooelfjceehmmaaDoor
namespace Go.Proofs.YtooelfjceehmmaaDoor
open Go.RowKit
attribute [local go_sem] Oper.semAt_some
namespace Ex

theorem one_flat {S : Nat → Prop} {w : World} {p : Pat} {v' : Value} (h : KidsAt S w p.1 (kids p.2) v') : FlatAt S w [p] (cellsP p v') := FlatAt.snoc (l := []) (xs := []) rfl h
end Ex
end Go.Proofs.YtooelfjceehmmaaDoor
namespace Go.Proofs.YtooelfjceehmmaaDoor
open Go.RowKit
attribute [local go_sem] Oper.semAt_some
namespace Ex

theorem box_full {w : World} {g : Nat} {y0 y1 y2 y3 y4 y5 x0 x1 x2 x3 x4 x5 : Value} (h : w.heap[g]? = some (.cells #[y0, y1, y2, y3, y4, y5] 87 (0, 0))) :
    ((((((w.setCell ⟨g, 0, none⟩ x0).setCell ⟨g, 1, none⟩ x1).setCell ⟨g, 2, none⟩ x2).setCell ⟨g, 3, none⟩ x3).setCell ⟨g, 4, none⟩ x4).setCell ⟨g, 5, none⟩ x5).heap[g]? = some (.cells #[x0, x1, x2, x3, x4, x5] 87 (0, 0)) := by
  have hl : g < w.heap.size := (Array.getElem?_eq_some_iff.1 h).1
  have he : w.heap[g] = Obj.cells #[y0, y1, y2, y3, y4, y5] 87 (0, 0) := by rw [Array.getElem?_eq_getElem hl] at h; exact Option.some.inj h
  simp [World.setCell, Array.getElem_modify, hl, he]
theorem box_returns {fn : Func} {p : Tmp} (h : fn.results = #[.cell p 87]) (tmps : Array Value) (w : World) (g : Nat) (x0 x1 x2 x3 x4 x5 : Value) (hp : tmps.getD p undef = .pointer (some ⟨g, 0, none⟩)) (hg : w.heap[g]? = some (.cells #[x0, x1, x2, x3, x4, x5] 87 (0, 0))) :
    (results fn tmps).run Tryd.prog w = .ok (.agg #[x0, x1, x2, x3, x4, x5]) w :=
  results_cell_row h tmps w g 87 _ (0, 0) _ hp hg Tryd.underlying87 rfl (by kernel_rfl)
end Ex
end Go.Proofs.YtooelfjceehmmaaDoor
namespace Go.Proofs.YtooelfjceehmmaaDoor
open Go.RowKit
attribute [local go_sem] Oper.semAt_some
namespace Ex

/-- A box of six cells. -/
def BoxAt (w : World) (g : Nat) (x0 x1 x2 x3 x4 x5 : Value) : Prop := w.heap[g]? = some (.cells #[x0, x1, x2, x3, x4, x5] 87 (0, 0))
theorem BoxAt.facts {w : World} {g : Nat} {x0 x1 x2 x3 x4 x5 : Value} (h : BoxAt w g x0 x1 x2 x3 x4 x5) :
    (w.cell? ⟨g, 0, none⟩ = some x0 ∧ w.cell? ⟨g, 1, none⟩ = some x1 ∧ w.cell? ⟨g, 2, none⟩ = some x2 ∧ w.cell? ⟨g, 3, none⟩ = some x3 ∧ w.cell? ⟨g, 4, none⟩ = some x4 ∧ w.cell? ⟨g, 5, none⟩ = some x5) ∧
    w.frozen? ⟨g, 0, none⟩ = false ∧ w.frozen? ⟨g, 1, none⟩ = false ∧ w.frozen? ⟨g, 2, none⟩ = false ∧ w.frozen? ⟨g, 3, none⟩ = false ∧ w.frozen? ⟨g, 4, none⟩ = false ∧ w.frozen? ⟨g, 5, none⟩ = false := by
  unfold BoxAt at h
  refine ⟨⟨?_, ?_, ?_, ?_, ?_, ?_⟩, ?_, ?_, ?_, ?_, ?_, ?_⟩ <;> simp [World.cell?, World.frozen?, h]
theorem BoxAt.lt {w : World} {g : Nat} {x0 x1 x2 x3 x4 x5 : Value} (h : BoxAt w g x0 x1 x2 x3 x4 x5) : g < w.heap.size := (Array.getElem?_eq_some_iff.1 h).1
theorem BoxAt.but {b : Nat} {w w' : World} {g : Nat} {x0 x1 x2 x3 x4 x5 : Value} (h : BoxAt w g x0 x1 x2 x3 x4 x5) (hk : KeptBut b w w') (hg : g ≠ b) : BoxAt w' g x0 x1 x2 x3 x4 x5 := (hk.2.2.2.2 g h.lt hg).trans h
theorem BoxAt.keep {w w' : World} {g : Nat} {x0 x1 x2 x3 x4 x5 : Value} (h : BoxAt w g x0 x1 x2 x3 x4 x5) (hk : Kept w w') : BoxAt w' g x0 x1 x2 x3 x4 x5 := (hk.2.2.2.2 g h.lt).trans h
theorem BoxAt.new (w : World) (x0 x1 x2 x3 x4 x5 : Value) : BoxAt (w.alloc (.cells #[x0, x1, x2, x3, x4, x5] 87)) w.heap.size x0 x1 x2 x3 x4 x5 := heap_alloc_new w _
theorem BoxAt.set {W : World} {g : Nat} {y0 y1 y2 y3 y4 y5 x0 x1 x2 x3 x4 x5 : Value} (h : BoxAt W g y0 y1 y2 y3 y4 y5) : BoxAt ((((((W.setCell ⟨g, 0, none⟩ x0).setCell ⟨g, 1, none⟩ x1).setCell ⟨g, 2, none⟩ x2).setCell ⟨g, 3, none⟩ x3).setCell ⟨g, 4, none⟩ x4).setCell ⟨g, 5, none⟩ x5) g x0 x1 x2 x3 x4 x5 := box_full h
theorem set6_other {W : World} {g d : Nat} {x0 x1 x2 x3 x4 x5 : Value} (hd : d ≠ g) : ((((((W.setCell ⟨g, 0, none⟩ x0).setCell ⟨g, 1, none⟩ x1).setCell ⟨g, 2, none⟩ x2).setCell ⟨g, 3, none⟩ x3).setCell ⟨g, 4, none⟩ x4).setCell ⟨g, 5, none⟩ x5).heap[d]? = W.heap[d]? := by
  rw [Below.heap_setCell _ _ _ _ hd, Below.heap_setCell _ _ _ _ hd, Below.heap_setCell _ _ _ _ hd, Below.heap_setCell _ _ _ _ hd, Below.heap_setCell _ _ _ _ hd, Below.heap_setCell _ _ _ _ hd]
theorem BoxAt.other {W : World} {g d : Nat} {y0 y1 y2 y3 y4 y5 x0 x1 x2 x3 x4 x5 : Value} (h : BoxAt W d y0 y1 y2 y3 y4 y5) (hd : d ≠ g) : BoxAt ((((((W.setCell ⟨g, 0, none⟩ x0).setCell ⟨g, 1, none⟩ x1).setCell ⟨g, 2, none⟩ x2).setCell ⟨g, 3, none⟩ x3).setCell ⟨g, 4, none⟩ x4).setCell ⟨g, 5, none⟩ x5) d y0 y1 y2 y3 y4 y5 := (set6_other hd).trans h
theorem set6_holds {S : Nat → Prop} {W : World} {g : Nat} {x0 x1 x2 x3 x4 x5 : Value} (hS : ¬ S g) : Holds S W ((((((W.setCell ⟨g, 0, none⟩ x0).setCell ⟨g, 1, none⟩ x1).setCell ⟨g, 2, none⟩ x2).setCell ⟨g, 3, none⟩ x3).setCell ⟨g, 4, none⟩ x4).setCell ⟨g, 5, none⟩ x5) := by
  intro d o v hd hc
  rw [← hc]
  exact World.cell?_of_block (a := ⟨d, o, none⟩) (set6_other (fun e => hS (e ▸ hd)))

end Ex
end Go.Proofs.YtooelfjceehmmaaDoor
namespace Go.Proofs.YtooelfjceehmmaaDoor
open Go.RowKit
attribute [local go_sem] Oper.semAt_some
namespace Ex

theorem expr_info : (Tryd.prog.info? 87).map (fun i => (i.zero, i.size, i.bytes)) = some (some (.agg #[.int .i64 0, .int .i64 0, .int .i64 0, .int .i64 0, .int .i64 0, .slice none 0 0]), 6, 64) := by kernel_rfl
theorem info_parts {P : Program} {e : TypeId} {z : Value} {s b : Nat} (h : (P.info? e).map (fun i => (i.zero, i.size, i.bytes)) = some (some z, s, b)) : ∃ i, P.info? e = some i ∧ i.zero = some z ∧ i.size = s ∧ i.bytes = b := by
  obtain ⟨i, hi, h2⟩ := Option.map_eq_some_iff.1 h
  simp only [Prod.mk.injEq] at h2
  exact ⟨i, hi, h2.1, h2.2.1, h2.2.2⟩
/-- A list of patterns of the call's own, at v; what they hold lies in S, and not in the list's own block. -/
def PatsOwn (w : World) (base : Nat) (S : Nat → Prop) (v : Value) (l : List Pat) : Prop := ∃ xs, w.ownsRow base 87 6 v l.length xs ∧ FlatAt (fun d => S d ∧ v.ownBlock ≠ some d) w l xs
theorem PatsOwn.nil (w : World) (base : Nat) (S : Nat → Prop) : PatsOwn w base S (.slice none 0 0) [] := ⟨[], World.ownsRow_nil _ _ _ _, rfl⟩
theorem owns_same {w w' : World} {base size n : Nat} {e : TypeId} {v : Value} {xs : List Value} (h : w.ownsRow base e size v n xs) (hh : ∀ g, v.ownBlock = some g → w'.heap[g]? = w.heap[g]?) : w'.ownsRow base e size v n xs := by
  refine ⟨h.1, ?_⟩
  rcases h.2 with h0 | ⟨g, cap, cur, rfl, h1, h2, h3⟩
  · exact .inl h0
  · exact .inr ⟨g, cap, cur, rfl, h1, by rw [hh g rfl]; exact h2, h3⟩
theorem PatsOwn.form {w : World} {base : Nat} {S : Nat → Prop} {v : Value} {l : List Pat} (h : PatsOwn w base S v l) : ∃ a c, v = .slice a l.length c := by
  obtain ⟨xs, h, _⟩ := h
  rcases h.2 with ⟨rfl, h0⟩ | ⟨g, cap, cur, rfl, _⟩
  · exact ⟨none, 0, by rw [h0]⟩
  · exact ⟨_, _, rfl⟩
theorem PatsOwn.but {b base : Nat} {w w' : World} {S : Nat → Prop} {v : Value} {l : List Pat} (h : PatsOwn w base S v l) (hk : KeptBut b w w') (hb : b < base) (hS : ¬ S b) : PatsOwn w' base S v l := by
  obtain ⟨xs, h1, h2⟩ := h
  exact ⟨xs, owns_same h1 (fun g hg => hk.2.2.2.2 g (h1.lt g hg).2 (by have := (h1.lt g hg).1; omega)), h2.mono (hk.holds (fun h => hS h.1)) (fun _ h => h)⟩
theorem PatsOwn.keep {base : Nat} {w w' : World} {S : Nat → Prop} {v : Value} {l : List Pat} (h : PatsOwn w base S v l) (hk : Kept w w') : PatsOwn w' base S v l := by
  obtain ⟨xs, h1, h2⟩ := h
  exact ⟨xs, owns_same h1 (fun g hg => hk.2.2.2.2 g (h1.lt g hg).2), h2.mono (hk.holds _) (fun _ h => h)⟩
theorem PatsOwn.lt {base : Nat} {w : World} {S : Nat → Prop} {v : Value} {l : List Pat} (h : PatsOwn w base S v l) : ∀ g, v.ownBlock = some g → base ≤ g ∧ g < w.heap.size := by
  obtain ⟨xs, h1, _⟩ := h
  exact h1.lt
/-- The list of one. -/
theorem PatsOwn.one {w : World} {base g : Nat} {S : Nat → Prop} {p : Pat} {u : Value} (h : BoxAt w g (.int .i64 (kind p.2)) (.int .i64 (from_ p.2)) (.int .i64 (to_ p.2)) (.int .i64 (min_ p.2)) (.int .i64 (max_ p.2)) u) (hg : base ≤ g) (hk : KidsAt (fun d => S d ∧ d ≠ g) w p.1 (kids p.2) u) :
    PatsOwn w base S (.slice (some ⟨g, 0, none⟩) 1 1) [p] := by
  refine ⟨cellsP p u, ⟨rfl, .inr ⟨g, 1, _, rfl, hg, h, Nat.le_refl _, by unfold maxLen; omega, rfl, rfl⟩⟩, ?_⟩
  exact one_flat (KidsAt.mono (fun _ _ _ _ h => h) (fun d hd => ⟨hd.1, fun e => hd.2 (by simp only [Value.ownBlock, Option.some.injEq] at e; exact e.symm)⟩) _ _ _ hk)
theorem row_cells {w : World} {g n : Nat} {cur : Array Value} {xs : List Value} {t : TypeId} (h : w.heap[g]? = some (.cells cur t (0, 0))) (hx : cur.toList.take n = xs) : ∀ j u, xs[j]? = some u → w.cell? ⟨g, 0 + j, none⟩ = some u := by
  intro j u hj
  rw [← hx, List.getElem?_take] at hj
  split at hj
  · unfold World.cell?
    rw [Nat.zero_add]
    simp only [h]
    simpa using hj
  · cases hj
theorem PatsOwn.kids {base m : Nat} {w : World} {S : Nat → Prop} {v : Value} {l : List Pat} (h : PatsOwn w base S v l) (hS : ∀ d, base ≤ d → S d) (hm : topL l ≤ m) (hl : l.length ≤ 17592186044416) : KidsAt S w m (kidsOf m l) v := by
  obtain ⟨xs, h1, h2⟩ := h
  rcases h1.2 with ⟨rfl, h0⟩ | ⟨g, cap, cur, rfl, hb, hg, hc, _, _, hx⟩
  · have : l = [] := List.length_eq_zero_iff.1 h0
    subst this
    exact kids_nil _ _ _ _ _ _ rfl
  · exact (h2.mono (S' := S) (fun _ _ _ _ h => h) (fun d h => h.1)).kids (row_cells hg hx) (hS g hb) hm hl hc
theorem PatsOwn.first {base : Nat} {w : World} {S : Nat → Prop} {v : Value} {p : Pat} {l : List Pat} (h : PatsOwn w base S v (p :: l)) : ∃ g cap u, v = .slice (some ⟨g, 0, none⟩) (l.length + 1) cap ∧ l.length + 1 ≤ cap ∧ (w.cell? ⟨g, 0, none⟩ = some (.int .i64 (kind p.2)) ∧ w.cell? ⟨g, 1, none⟩ = some (.int .i64 (from_ p.2)) ∧ w.cell? ⟨g, 2, none⟩ = some (.int .i64 (to_ p.2)) ∧ w.cell? ⟨g, 3, none⟩ = some (.int .i64 (min_ p.2)) ∧ w.cell? ⟨g, 4, none⟩ = some (.int .i64 (max_ p.2)) ∧ w.cell? ⟨g, 5, none⟩ = some u) ∧ KidsAt S w p.1 (Ex.kids p.2) u := by
  obtain ⟨xs, h1, h2⟩ := h
  rcases h1.2 with ⟨rfl, h0⟩ | ⟨g, cap, cur, rfl, hb, hg, hc, _, _, hx⟩
  · simp at h0
  · obtain ⟨u, a0, a1, a2, a3, a4, a5, hk⟩ := h2.at (i := 0) (p := p) rfl
    have hh := row_cells hg hx
    refine ⟨g, cap, u, rfl, hc, ⟨?_, ?_, ?_, ?_, ?_, ?_⟩, KidsAt.mono (fun _ _ _ _ h => h) (fun d h => h.1) _ _ _ hk⟩
    · exact hh _ _ a0
    · exact hh _ _ a1
    · exact hh _ _ a2
    · exact hh _ _ a3
    · exact hh _ _ a4
    · exact hh _ _ a5
/-- What an append leaves: all but the list's own block. -/
theorem KeptBut.grown {b base : Nat} {w0 w w' : World} {S : Nat → Prop} {v : Value} {l : List Pat} (h : KeptBut b w0 w) (ho : PatsOwn w base S v l) (hb : w0.heap.size ≤ base) (hg : w.grownBy w' v.ownBlock) : KeptBut b w0 w' :=
  ⟨hg.os.trans h.1, hg.tape.trans h.2.1, hg.output.trans h.2.2.1, Nat.le_trans h.2.2.2.1 hg.size, fun k hk hn => (hg.block k (Nat.lt_of_lt_of_le hk h.2.2.2.1) (fun e => by have := (ho.lt k e.symm).1; omega)).trans (h.2.2.2.2 k hk hn)⟩
end Ex
end Go.Proofs.YtooelfjceehmmaaDoor
