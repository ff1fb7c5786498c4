import Derived.Test.YtbnchnlogikecaaGreatDoorPExFr0
import Derived.OrdersHeld
import Derived.Deep.RegionHeld
namespace Go.Proofs.YtbnchnlogikecaaGreatDoor
open Go.RowKit Go.ChangeShapes Go.WideShapes Go.ChangeAt
set_option maxRecDepth 100000
namespace Ex
section
variable {H : Type} {enc : TypeId × Value → H}
theorem slice_sized {α : Type} (dflt : α) {t e : TypeId} (ht : Tryz.prog.underlying t = some (.slice e)) (sz byt : Nat) (hsz : Tryz.prog.cellsOf e = sz) (hpos : 0 < sz) (hby : Tryz.prog.bytesOf e = byt) (hb8 : 8 ≤ byt) (El : List Value → α → Prop) {W : World} {fuel : Nat} {v : Value} {x : DataW H × List MemPlace} (h : DataW.trod enc Tryz.prog W 0 (fun _ => true) true fuel t [v] = some x) (hz : ∀ n ∈ x.1.weights Tryz.prog t, n ≤ reachBytes)
    (hel : ∀ (m : Nat) (cs : List Value) (y : DataW H × List MemPlace), m < fuel → cs.length = sz → DataW.trod enc Tryz.prog W 0 (fun _ => true) true m e cs = some y → (∀ n ∈ y.1.weights Tryz.prog e, n ≤ reachBytes) → ∃ a, El cs a) : ∃ xs, SliceOf W sz El v xs ∧ xs.length * byt ≤ 140737488351232 := by
  rcases DataW.trod_slice ht h with ⟨hcs, _⟩ | ⟨a, len, cap, elems, rest, n, hn, hcs, hx, _, hl, hm, hlen, hall, _, _⟩
  · simp only [List.cons.injEq, and_true] at hcs
    subst hcs
    exact ⟨[], ⟨none, 0, rfl, by simp, by simp, .inl rfl⟩, by simp⟩
  · simp only [List.cons.injEq, and_true] at hcs
    subst hcs hx
    have hb2 : len * byt ≤ 140737488351232 := by
      have := hz _ (by simp only [DataW.weights, ht]; exact List.mem_cons_self)
      rw [hby] at this
      simp only [List.length_map] at this
      rw [hlen] at this
      have h2 : len * byt ≤ (len + rest.length) * byt := Nat.mul_le_mul (Nat.le_add_right _ _) (Nat.le_refl _)
      unfold reachBytes at this
      omega
    have hb : len * 8 ≤ reachBytes := by
      have := hz _ (by simp only [DataW.weights, ht]; exact List.mem_cons_self)
      rw [hby] at this
      simp only [List.length_map] at this
      rw [hlen] at this
      have h2 : len * 8 ≤ (len + rest.length) * byt := Nat.mul_le_mul (Nat.le_add_right _ _) hb8
      omega
    have hle : len ≤ 17592186044416 := by unfold reachBytes at hb; omega
    by_cases h0 : len = 0
    · subst h0
      exact ⟨[], ⟨some a, cap, rfl, by simp, by simp, .inl rfl⟩, by simp⟩
    have hone : ∀ i, i < len → ∃ q : α, ∃ cs : List Value, cs.length = sz ∧ (∀ (j : Nat) (u : Value), cs[j]? = some u → W.cell? ((a.add (i * sz)).add j) = some u) ∧ El cs q := by
      intro i hi
      have hei := hall i hi
      obtain ⟨ei, hei2⟩ : ∃ y, elems[i]? = some y := ⟨_, List.getElem?_eq_getElem (by omega)⟩
      rw [hei2, hsz] at hei
      obtain ⟨cs', hc1, hc2⟩ := Option.bind_eq_some_iff.1 hei
      obtain ⟨_, hc3, hc4⟩ := World.cells?_some hc1
      obtain ⟨q, hq⟩ := hel n cs' ei (by omega) hc3 hc2 (fun m hm2 => hz m (by
        simp only [DataW.weights, ht]
        exact List.mem_cons_of_mem _ (List.mem_append.2 (.inl (weights_all (List.mem_map.2 ⟨ei, List.mem_of_getElem? hei2, rfl⟩) m hm2)))))
      refine ⟨q, cs', hc3, fun j u hj => ?_, hq⟩
      have hjl := (List.getElem?_eq_some_iff.1 hj).1
      rw [hc4 j (by omega)]
      exact hj
    have inh : Inhabited α := ⟨dflt⟩
    obtain ⟨Q, hQ⟩ := Go.Deep.choose_lt hone
    obtain ⟨c1, o1, t1⟩ := a
    have hspot : t1 = none := by
      obtain ⟨cs, g1, g2, _⟩ := hQ 0 (by omega)
      obtain ⟨u, hu⟩ : ∃ u, cs[0]? = some u := ⟨_, List.getElem?_eq_getElem (by omega)⟩
      simpa [Addr.add] using World.cell?_spot (g2 0 u hu)
    subst hspot
    have hc : c1 < W.heap.size := by
      obtain ⟨cs, g1, g2, _⟩ := hQ 0 (by omega)
      obtain ⟨u, hu⟩ : ∃ u, cs[0]? = some u := ⟨_, List.getElem?_eq_getElem (by omega)⟩
      have := g2 0 u hu
      simp only [Addr.add_mid] at this
      exact World.block_lt_of_cell? W _ this
    refine ⟨(List.range len).map Q, ⟨some ⟨c1, o1, none⟩, cap, ?_, ?_, ?_, .inr ⟨c1, o1, rfl, hc, fun i q hq => ?_⟩⟩, by rw [List.length_map, List.length_range]; exact hb2⟩
    · rw [List.length_map, List.length_range]
    · rw [List.length_map, List.length_range]; exact hl
    · rw [List.length_map, List.length_range]; exact hle
    · rw [List.getElem?_map] at hq
      obtain ⟨i', hi', rfl⟩ := Option.map_eq_some_iff.1 hq
      obtain ⟨hi, he⟩ := List.getElem?_eq_some_iff.1 hi'
      rw [List.length_range] at hi
      rw [List.getElem_range] at he
      subst he
      obtain ⟨cs, g1, g2, g3⟩ := hQ i hi
      refine ⟨cs, g1, fun j u hj => ?_, g3⟩
      have := g2 j u hj
      simp only [Addr.add_mid] at this
      exact this
def ProdSz (w : World) (cs : List Value) (p : ProdM) : Prop := ProdEl w cs p ∧ p.2.length * 16 ≤ 140737488351232
def SizedS {k : Nat} (sp : SpecM k) : Prop := sp.1.length * 88 ≤ 140737488351232 ∧ sp.2.1.length * 16 ≤ 140737488351232 ∧ sp.2.2.2.length * 32 ≤ 140737488351232 ∧ ∀ p ∈ sp.2.2.2, p.2.length * 16 ≤ 140737488351232
def SpecSz (w : World) (k : Nat) (cs : List Value) (sp : SpecM k) : Prop := SpecEl w k cs sp ∧ SizedS sp
theorem slice_each {α : Type} {w : World} {sz : Nat} {El El' : List Value → α → Prop} {v : Value} {xs : List α} (h : SliceOf w sz El v xs) (hE : ∀ cs x, El cs x → El' cs x) : SliceOf w sz El' v xs := by
  obtain ⟨a, cap, h1, h2, h3, h4⟩ := h
  refine ⟨a, cap, h1, h2, h3, ?_⟩
  rcases h4 with h4 | ⟨c, o, h5, h6, h7⟩
  · exact .inl h4
  · refine .inr ⟨c, o, h5, h6, fun i x hi => ?_⟩
    obtain ⟨cs, g1, g2, g3⟩ := h7 i x hi
    exact ⟨cs, g1, g2, hE cs x g3⟩
theorem prods_el {w : World} {v : Value} {ps : List ProdM} (h : SliceOf w 2 (ProdSz w) v ps) : ProdsAt w v ps := slice_each h (fun _ _ h => h.1)
theorem prods_rows {w : World} {v : Value} {ps : List ProdM} (h : SliceOf w 2 (ProdSz w) v ps) : ∀ p ∈ ps, p.2.length * 16 ≤ 140737488351232 := by
  obtain ⟨a, cap, h1, h2, h3, h4⟩ := h
  intro p hp
  rcases h4 with h4 | ⟨c, o, h5, h6, h7⟩
  · subst h4; cases hp
  · obtain ⟨i, hi⟩ := List.getElem?_of_mem hp
    obtain ⟨cs, g1, g2, g3⟩ := h7 i p hi
    exact g3.2
theorem right_sz {W : World} {fuel : Nat} {v : Value} {y : DataW H × List MemPlace} (h : DataW.trod enc Tryz.prog W 0 (fun _ => true) true fuel 64 [v] = some y) (hz : ∀ n ∈ y.1.weights Tryz.prog 64, n ≤ reachBytes) : ∃ r, RightAt W v r ∧ r.length * 16 ≤ 140737488351232 :=
  slice_sized (0, 0) Tryz.underlying64 2 16 sym_size (by decide) sym_bytes (by decide) SymEl h hz (fun _ _ _ _ hl hh _ => sym_of hl hh)
theorem prod_sz {W : World} {fuel : Nat} {cs : List Value} {y : DataW H × List MemPlace} (hl : cs.length = 2) (h : DataW.trod enc Tryz.prog W 0 (fun _ => true) true fuel 66 cs = some y) (hz : ∀ n ∈ y.1.weights Tryz.prog 66, n ≤ reachBytes) : ∃ p, ProdSz W cs p := by
  obtain ⟨xs, n', hn', hx1, _, hx3, hx4⟩ := DataW.trod_struct Tryz.underlying66 h
  obtain ⟨v0, v1, rfl⟩ := two_l hl
  obtain ⟨y0, y1, rfl⟩ := two_l hx3
  have f0 : DataW.trod enc Tryz.prog W 0 (fun _ => true) true n' 3 [v0] = some y0 := by have := hx4 0 _ rfl; simpa [int_size] using this
  have f1 : DataW.trod enc Tryz.prog W 0 (fun _ => true) true n' 64 [v1] = some y1 := by have := hx4 1 _ rfl; simpa [syms_size] using this
  obtain ⟨z0, e0, _, _⟩ := DataW.trod_int Tryz.underlying3 f0
  simp only [List.cons.injEq, and_true] at e0
  subst e0
  subst hx1
  obtain ⟨r, hr, hs⟩ := right_sz f1 (fun n hn => hz n (weights_agg Tryz.underlying66 _ 1 _ y1.1 rfl rfl n hn))
  exact ⟨(z0, r), ⟨v1, rfl, hr⟩, hs⟩
theorem prods_sz {W : World} {fuel : Nat} {v : Value} {y : DataW H × List MemPlace} (h : DataW.trod enc Tryz.prog W 0 (fun _ => true) true fuel 25 [v] = some y) (hz : ∀ n ∈ y.1.weights Tryz.prog 25, n ≤ reachBytes) : ∃ r, SliceOf W 2 (ProdSz W) v r ∧ r.length * 32 ≤ 140737488351232 :=
  slice_sized (0, []) Tryz.underlying25 2 32 prod_size (by decide) prod_bytes (by decide) (ProdSz W) h hz (fun _ _ _ _ hl hh hz2 => prod_sz hl hh hz2)
theorem names_sz {W : World} {fuel : Nat} {v : Value} {y : DataW H × List MemPlace} (h : DataW.trod enc Tryz.prog W 0 (fun _ => true) true fuel 24 [v] = some y) (hz : ∀ n ∈ y.1.weights Tryz.prog 24, n ≤ reachBytes) : ∃ r, NamesAt W v r ∧ r.length * 16 ≤ 140737488351232 :=
  slice_sized ByteArray.empty Tryz.underlying24 1 16 nam_size (by decide) nam_bytes (by decide) StrEl h hz (fun _ _ _ _ _ hh hz2 => str_of hh hz2)
theorem lexs_sz {W : World} {k fuel : Nat} (hk : fuel ≤ k) {v : Value} {y : DataW H × List MemPlace} (h : DataW.trod enc Tryz.prog W 0 (fun _ => true) true fuel 23 [v] = some y) (hz : ∀ n ∈ y.1.weights Tryz.prog 23, n ≤ reachBytes) : ∃ r, LexAt W k v r ∧ r.length * 88 ≤ 140737488351232 :=
  slice_sized (ByteArray.empty, false, (show PatN (k + 1) from ((0, 0, 0, 0, 0, []) : Int × Int × Int × Int × Int × List (PatN k)))) Tryz.underlying23 8 88 lex_size (by decide) lex_bytes (by decide) (LexEl W k) h hz (fun _ _ _ hm hl hh hz2 => lex_of (by omega) hl hh hz2)
theorem spec_sz {W : World} {k fuel : Nat} (hk : fuel ≤ k) {cs : List Value} {y : DataW H × List MemPlace} (hl : cs.length = 4) (h : DataW.trod enc Tryz.prog W 0 (fun _ => true) true fuel 27 cs = some y) (hz : ∀ n ∈ y.1.weights Tryz.prog 27, n ≤ reachBytes) : ∃ p, SpecSz W k cs p := by
  obtain ⟨xs, n', hn', hx1, _, hx3, hx4⟩ := DataW.trod_struct Tryz.underlying27 h
  obtain ⟨v0, v1, v2, v3, rfl⟩ := four_l hl
  obtain ⟨y0, y1, y2, y3, rfl⟩ := four_l hx3
  have f0 : DataW.trod enc Tryz.prog W 0 (fun _ => true) true n' 23 [v0] = some y0 := by have := hx4 0 _ rfl; simpa [lexs_size] using this
  have f1 : DataW.trod enc Tryz.prog W 0 (fun _ => true) true n' 24 [v1] = some y1 := by have := hx4 1 _ rfl; simpa [nams_size] using this
  have f2 : DataW.trod enc Tryz.prog W 0 (fun _ => true) true n' 3 [v2] = some y2 := by have := hx4 2 _ rfl; simpa [int_size] using this
  have f3 : DataW.trod enc Tryz.prog W 0 (fun _ => true) true n' 25 [v3] = some y3 := by have := hx4 3 _ rfl; simpa [prods_size] using this
  obtain ⟨z2, e2, _, _⟩ := DataW.trod_int Tryz.underlying3 f2
  simp only [List.cons.injEq, and_true] at e2
  subst e2
  subst hx1
  obtain ⟨r0, h0, s0⟩ := lexs_sz (k := k) (by omega) f0 (fun n hn => hz n (weights_agg Tryz.underlying27 _ 0 _ y0.1 rfl rfl n hn))
  obtain ⟨r1, h1, s1⟩ := names_sz f1 (fun n hn => hz n (weights_agg Tryz.underlying27 _ 1 _ y1.1 rfl rfl n hn))
  obtain ⟨r3, h3, s3⟩ := prods_sz f3 (fun n hn => hz n (weights_agg Tryz.underlying27 _ 3 _ y3.1 rfl rfl n hn))
  exact ⟨(r0, r1, z2, r3), ⟨v0, v1, v3, rfl, h0, h1, prods_el h3⟩, s0, s1, s3, prods_rows h3⟩
end
end Ex
end Go.Proofs.YtbnchnlogikecaaGreatDoor
namespace Go.Proofs.YtbnchnlogikecaaGreatDoor
open Go Go.RowKit
set_option linter.unusedVariables false
namespace Ex
theorem layS : (∀ (a : Act) (t : Tmp) (v : Value), a.put (some t) v = { a with tmps := a.tmps.setIfInBounds t v }) ∧ (∀ (a : Act) (v : Value), a.put none v = a) ∧
    (∀ {α : Type} {l : List α} {i : Nat} (h : i < l.toArray.size), l.toArray[i]'h = l[i]'(by simpa using h)) ∧ (∀ {α : Type} (x : α) (l : List α) (i : Nat) (h : i + 1 < (x :: l).length), (x :: l)[i + 1]'h = l[i]'(Nat.lt_of_succ_lt_succ h)) ∧ (∀ {α : Type} (x : α) (l : List α) (h : 0 < (x :: l).length), (x :: l)[0]'h = x) ∧
    (∀ {α : Type} (l : List α) (i : Nat) (x : α), l.toArray.setIfInBounds i x = (l.set i x).toArray) ∧ (∀ {α : Type} (y x : α) (l : List α), (y :: l).set 0 x = x :: l) ∧ (∀ {α : Type} (y x : α) (l : List α) (i : Nat), (y :: l).set (i + 1) x = y :: l.set i x) :=
  ⟨fun _ _ _ => rfl, fun _ _ => rfl, fun _ => by simp, fun _ _ _ _ => rfl, fun _ _ _ => rfl, fun _ _ _ => by simp, fun _ _ _ => rfl, fun _ _ _ _ => rfl⟩
section
variable {P : Program} {ops : Array Oper} {Q : Exit → Act → World → Prop} {md : Region.Mode} {S : World → Prop} {fuel : Nat} {listed : Array Bool} {a : Act} {w : World}
theorem tkH (i : Nat) (v : Value) {oi : Oper} (hi : ops[i]? = some oi) (hy : ∀ w', S w' → (execOp a.eval oi).run P w' = .ok (.value v) w') (h : wpAnyH P md ops Q S fuel (listed.setIfInBounds i true) (a.put oi.dst v) w)
    (hs : Region.noSelect ops = true := by kernel_rfl) (hf : Region.free md ops listed i = true := by kernel_rfl) (hr : (Region.ready md ops listed).contains i = true := by kernel_rfl)
    (hQ : ∀ c b w, Q (.panic c) (b.put oi.dst v) w → Q (.panic c) b w := by exact fun _ _ _ h => h) (hw : Region.wanted oi (yielded ops a.tmps) = true := by rfl) (hS : S w := by with_reducible assumption) : wpAnyH P md ops Q S (fuel + 1) listed a w :=
  wpAnyH_take hi hs hf hr hQ (Or.inl ⟨hw, hy⟩) hS h
end
end Ex
end Go.Proofs.YtbnchnlogikecaaGreatDoor
namespace Go.Proofs.YtbnchnlogikecaaGreatDoor
open Go.RowKit
attribute [local go_sem] Oper.semAt_some
set_option maxRecDepth 100000
set_option maxHeartbeats 4000000
namespace Ex
theorem bare_is (k f t mn mx : Int) (v : Value) (w : World) : Calls Tryz.prog 110 #[.agg #[.int .i64 k, .int .i64 f, .int .i64 t, .int .i64 mn, .int .i64 mx, v]] w fun e w' => e = .returned (.bool (bareP f t mn mx)) ∧ Kept w w' := by
  unfold bareP
  go_enter Tryz.func110, Tryz.ntmps110
  go_wp2
  all_goals
    go_ret
    exact ⟨by simp [*], (Kept.refl w).alloc _ _⟩
theorem times_is (mn mx : Int) (w : World) : Calls Tryz.prog 111 #[.int .i64 mn, .int .i64 mx] w fun e w' => e = .returned (.bool (timesP mn mx)) ∧ Kept w w' := by
  unfold timesP
  go_enter Tryz.func111, Tryz.ntmps111
  go_wp2
  all_goals
    go_ret
    refine ⟨?_, Kept.refl w⟩
    simp [*] <;> omega
theorem box_at (w : World) (x0 x1 x2 x3 x4 x5 : Value) (t : TypeId) : (w.alloc (.cells #[x0, x1, x2, x3, x4, x5] t)).cell? ⟨w.heap.size, 0, none⟩ = some x0 ∧ (w.alloc (.cells #[x0, x1, x2, x3, x4, x5] t)).cell? ⟨w.heap.size, 1, none⟩ = some x1 ∧ (w.alloc (.cells #[x0, x1, x2, x3, x4, x5] t)).cell? ⟨w.heap.size, 2, none⟩ = some x2 ∧
    (w.alloc (.cells #[x0, x1, x2, x3, x4, x5] t)).cell? ⟨w.heap.size, 3, none⟩ = some x3 ∧ (w.alloc (.cells #[x0, x1, x2, x3, x4, x5] t)).cell? ⟨w.heap.size, 4, none⟩ = some x4 ∧ (w.alloc (.cells #[x0, x1, x2, x3, x4, x5] t)).cell? ⟨w.heap.size, 5, none⟩ = some x5 := by
  refine ⟨?_, ?_, ?_, ?_, ?_, ?_⟩ <;> simp
theorem top_is (k f t mn mx : Int) (a : Option Addr) (len cap : Nat) (w : World) : Calls Tryz.prog 96 #[.agg #[.int .i64 k, .int .i64 f, .int .i64 t, .int .i64 mn, .int .i64 mx, .slice a len cap]] w fun e w' => e = .returned (.bool (topP k f t mn mx (len : Int))) ∧ Kept w w' := by
  go_enter Tryz.func96, Tryz.ntmps96
  go_wp2_with (first
    | (go_at_call 110; refine (bare_is _ _ _ _ _ _ _).mono ?_; rintro e w5 ⟨rfl, hk5⟩)
    | (go_at_call 111; refine (times_is _ _ _).mono ?_; rintro e w5 ⟨rfl, hk5⟩; have c1 := grown_cell hk5 (box_at _ _ _ _ _ _ _ _).2.1; have c2 := grown_cell hk5 (box_at _ _ _ _ _ _ _ _).2.2.1))
  all_goals
    go_ret
    refine ⟨?_, by first | exact gtrans ((Kept.refl w).alloc _ _) hk5 | exact (Kept.refl w).alloc _ _⟩
    simp_all [topP] <;> (first | omega | (intros; omega) | skip)
theorem all_snoc {α : Type} {L : List α} {j : Nat} {q : α} {f : α → Bool} (hq : L[j]? = some q) (h : (L.take j).all f = true) (hf : f q = true) : (L.take (j + 1)).all f = true := by
  obtain ⟨hj, rfl⟩ := List.getElem?_eq_some_iff.1 hq
  rw [List.take_succ_eq_append_getElem hj, List.all_append, h]
  simp [hf]
theorem all_not {α : Type} {L : List α} {j : Nat} {q : α} {f : α → Bool} (hq : L[j]? = some q) (hf : f q = false) : L.all f = false := by
  by_cases h : L.all f = true
  · have := List.all_eq_true.1 h q (List.mem_of_getElem? hq)
    rw [hf] at this
    cases this
  · simpa using h
theorem valOf_eq {n : Nat} (p : PatN (n + 1)) (v : Value) : valOf p v = .agg #[.int .i64 (kind p), .int .i64 (from_ p), .int .i64 (to_ p), .int .i64 (min_ p), .int .i64 (max_ p), v] := rfl
theorem right_is (S : Nat → Prop) : ∀ (n : Nat) (p : PatN (n + 1)) (v : Value) (w : World), KidsAt S w n (kids p) v →
    Calls Tryz.prog 79 #[valOf p v] w fun e w' => e = .returned (.bool (rightP (n + 1) p)) ∧ Kept w w' := by
  intro n
  induction n with
  | zero =>
    intro p v w h
    obtain ⟨a, cap, rfl⟩ := h.form
    rw [valOf_eq]
    have HRP : Hid (rightP 1 p = (topOf p && (kids p).all (rightP 0))) := rfl
    have HTOP : Hid (topOf p = topP (kind p) (from_ p) (to_ p) (min_ p) (max_ p) ((kids p).length : Int)) := rfl
    rw [none_of (kids p)] at HRP HTOP ⊢
    clear h
    go_enter Tryz.func79, Tryz.ntmps79
    by_cases htop : topP (kind p) (from_ p) (to_ p) (min_ p) (max_ p) 0 = true
    · go_wp2_with (go_at_call 96; refine (top_is _ _ _ _ _ _ _ _ _).mono ?_; rintro e w5 ⟨rfl, hk5⟩; have c5 := grown_cell hk5 (box_at _ _ _ _ _ _ _ _).2.2.2.2.2)
      have HK5 := hide1 (gtrans ((Kept.refl w).alloc _ _) hk5)
      clear hk5 c5
      go_loopw [11] (fun i wr => i = .int .i64 0 ∧ Hid (Kept w wr)) (fun _ _ => 0)
      case atStart => exact ⟨rfl, HK5⟩
      case round =>
        obtain ⟨rfl, HKr⟩ := hrel
        go_wp2_with fail
        go_ret
        have hr : rightP 1 p = true := by rw [HRP.out, HTOP.out]; simpa using htop
        exact ⟨by rw [hr]; rfl, HKr.out⟩
    · have htop' : topP (kind p) (from_ p) (to_ p) (min_ p) (max_ p) 0 = false := by simpa using htop
      clear htop
      go_wp2_with (go_at_call 96; refine (top_is _ _ _ _ _ _ _ _ _).mono ?_; rintro e w5 ⟨rfl, hk5⟩; have c5 := grown_cell hk5 (box_at _ _ _ _ _ _ _ _).2.2.2.2.2)
      go_ret
      have hr : rightP 1 p = false := by rw [HRP.out, HTOP.out]; simpa using htop'
      exact ⟨by rw [hr]; rfl, gtrans ((Kept.refl w).alloc _ _) hk5⟩
  | succ n ih =>
    intro p v w h
    have IH := hide1 ih
    have HK := hide1 h
    obtain ⟨a, cap, rfl⟩ := h.form
    obtain ⟨a', cap', e', hlc, hcm, _⟩ := h
    simp only [Value.slice.injEq] at e'
    obtain ⟨rfl, _, rfl⟩ := e'
    rw [valOf_eq]
    have hrp : rightP (n + 1 + 1) p = (topOf p && (kids p).all (rightP (n + 1))) := rfl
    have HRP := hide1 hrp
    have HTOP : Hid (topOf p = topP (kind p) (from_ p) (to_ p) (min_ p) (max_ p) ((kids p).length : Int)) := rfl
    obtain ⟨L, hL⟩ : ∃ L, kids p = L := ⟨_, rfl⟩
    rw [hL] at hlc hcm HK HRP HTOP
    have gl : (L.length : Int) ≤ 17592186044416 := by omega
    have gc : (L.length : Int) ≤ (cap : Int) := by omega
    rw [hL]
    clear ih hrp hlc hcm hL
    go_enter Tryz.func79, Tryz.ntmps79
    by_cases htop : topP (kind p) (from_ p) (to_ p) (min_ p) (max_ p) (L.length : Int) = true
    · go_wp2_with (go_at_call 96; refine (top_is _ _ _ _ _ _ _ _ _).mono ?_; rintro e w5 ⟨rfl, hk5⟩; have c5 := grown_cell hk5 (box_at _ _ _ _ _ _ _ _).2.2.2.2.2)
      have HK5 := hide1 (gtrans ((Kept.refl w).alloc _ _) hk5)
      clear hk5 c5
      go_loopw [11] (fun i wr => ∃ j : Nat, i = .int .i64 (j : Int) ∧ j ≤ L.length ∧ Hid (Kept w wr) ∧ Hid ((L.take j).all (rightP (n + 1)) = true)) (fun i _ => L.length - (intOf i).toNat)
      case atStart => exact ⟨0, rfl, Nat.zero_le _, HK5, rfl⟩
      case round =>
        clear HK5
        obtain ⟨j, rfl, hj, HKr, HALL⟩ := hrel
        by_cases hlt : (j : Int) < (L.length : Int)
        · obtain ⟨q, hq⟩ : ∃ q, L[j]? = some q := ⟨_, List.getElem?_eq_getElem (by omega)⟩
          obtain ⟨a2, cap2, e2, _, _, h4⟩ := HK.out.kept HKr.out
          simp only [Value.slice.injEq] at e2
          obtain ⟨rfl, _, rfl⟩ := e2
          rcases h4 with h4 | ⟨c, o, rfl, hSc, h7⟩
          · rw [h4] at hq; simp at hq
          · obtain ⟨v', g0, g1, g2, g3, g4, g5, g6⟩ := h7 j q hq
            obtain ⟨a3, cap3, rfl⟩ := g6.form
            have HG6 := hide1 g6
            have HQ := hide1 hq
            clear h7 g6 hq
            by_cases hrq : rightP (n + 1) q = true
            · go_wp2_with (go_at_call 79; refine (IH.out q _ _ (HG6.out.kept ((Kept.refl wr).alloc _ _))).mono ?_; rintro e w6 ⟨rfl, hk6⟩; have HK6 := hide1 (gtrans HKr.out (gtrans ((Kept.refl wr).alloc _ _) hk6)); clear hk6)
              go_roundw
              case rel => exact ⟨j + 1, by go_num, by omega, HK6, all_snoc HQ.out HALL.out hrq⟩
              case measure => simp [intOf]; omega
            · have hrq' : rightP (n + 1) q = false := by simpa using hrq
              clear hrq
              go_wp2_with (go_at_call 79; refine (IH.out q _ _ (HG6.out.kept ((Kept.refl wr).alloc _ _))).mono ?_; rintro e w6 ⟨rfl, hk6⟩; have HK6 := hide1 (gtrans HKr.out (gtrans ((Kept.refl wr).alloc _ _) hk6)); clear hk6)
              go_ret
              exact ⟨by rw [HRP.out, all_not HQ.out hrq']; simp, HK6.out⟩
        · go_wp2_with fail
          go_ret
          have hall : L.all (rightP (n + 1)) = true := by have := HALL.out; rwa [List.take_of_length_le (by omega)] at this
          exact ⟨by rw [HRP.out, HTOP.out, htop, hall]; rfl, HKr.out⟩
    · have htop' : topP (kind p) (from_ p) (to_ p) (min_ p) (max_ p) (L.length : Int) = false := by simpa using htop
      clear htop
      go_wp2_with (go_at_call 96; refine (top_is _ _ _ _ _ _ _ _ _).mono ?_; rintro e w5 ⟨rfl, hk5⟩; have c5 := grown_cell hk5 (box_at _ _ _ _ _ _ _ _).2.2.2.2.2)
      go_ret
      exact ⟨by rw [HRP.out, HTOP.out, htop']; rfl, gtrans ((Kept.refl w).alloc _ _) hk5⟩
end Ex
end Go.Proofs.YtbnchnlogikecaaGreatDoor
