import Derived.Test.YtpbnjdnlgcfiiaaSpArg
import Derived.Test.YtpbnjdnlgcfiiaaTrH8
namespace Go.Proofs.Ytpbnjdnlgcfiiaa
open Go.RowKit Go.ChangeShapes Go.WideShapes Go.ChangeAt
namespace Ex
namespace Tr

theorem bulk_pos {H : Type} (d : DataW H) : 1 ≤ Rows.uptoBulk d := by
  cases d with
  | lit l => cases l <;> simp [Rows.uptoBulk]
  | _ => simp [Rows.uptoBulk]
theorem bulk_len {H : Type} (l : List (DataW H)) : l.length ≤ Rows.uptoBulkAll l := by
  induction l with
  | nil => simp [Rows.uptoBulkAll]
  | cons x r ih =>
    have := bulk_pos x
    simp only [Rows.uptoBulkAll, List.length_cons]
    omega
theorem bulk_mem {H : Type} {d : DataW H} {l : List (DataW H)} (h : d ∈ l) : Rows.uptoBulk d ≤ Rows.uptoBulkAll l := by
  induction l with
  | nil => cases h
  | cons x r ih =>
    simp only [Rows.uptoBulkAll]
    rcases List.mem_cons.1 h with e | e
    · subst e
      omega
    · have := ih e
      omega
theorem bulk_slice {H : Type} (elems spare : List (DataW H)) : elems.length ≤ Rows.uptoBulk (.slice elems spare) := by
  have := bulk_len elems
  simp only [Rows.uptoBulk]
  omega
theorem bulk_elem {H : Type} {d : DataW H} {l : List (DataW H)} (spare : List (DataW H)) (h : d ∈ l) : Rows.uptoBulk d ≤ Rows.uptoBulk (.slice l spare) := by
  have := bulk_mem h
  simp only [Rows.uptoBulk]
  omega
theorem bulk_field {H : Type} {d : DataW H} {l : List (DataW H)} (h : d ∈ l) : Rows.uptoBulk d ≤ Rows.uptoBulk (.agg l) := by
  have := bulk_mem h
  simp only [Rows.uptoBulk]
  omega
section
variable {H : Type} {enc : TypeId × Value → H}
set_option maxRecDepth 100000 in
/-- A list that came in, within the bulk. -/
theorem slice_up {α : Type} (dflt : α) {t e : TypeId} (ht : Try.prog.underlying t = some (.slice e)) (sz : Nat) (hsz : Try.prog.cellsOf e = sz) (hpos : 0 < sz) (El : List Value → α → Prop) {W : World} {fuel : Nat} {v : Value} {x : DataW H × List MemPlace} (h : DataW.trod enc Try.prog W 0 (fun _ => true) true fuel t [v] = some x) (hz : Rows.uptoBulk x.1 ≤ 1048576)
    (hel : ∀ (m : Nat) (cs : List Value) (y : DataW H × List MemPlace), m < fuel → cs.length = sz → DataW.trod enc Try.prog W 0 (fun _ => true) true m e cs = some y → Rows.uptoBulk y.1 ≤ 1048576 → ∃ a, El cs a) : ∃ xs, SliceOf W sz El v xs ∧ xs.length ≤ 1048576 := by
  rcases DataW.trod_slice ht h with ⟨hcs, _⟩ | ⟨a, len, cap, elems, rest, n, hn, hcs, hx, _, hl, hm, hlen, hall, _, _⟩
  · simp only [List.cons.injEq, and_true] at hcs
    subst hcs
    exact ⟨[], ⟨none, 0, rfl, by simp, by simp, .inl rfl⟩, by simp⟩
  · simp only [List.cons.injEq, and_true] at hcs
    subst hcs hx
    have hz2 : Rows.uptoBulk (DataW.slice (elems.map (·.1)) (rest.map (·.1))) ≤ 1048576 := hz
    have hlen2 : len ≤ 1048576 := by
      have h1 := bulk_slice (H := H) (elems.map (·.1)) (rest.map (·.1))
      rw [List.length_map, hlen] at h1
      omega
    have hle : len ≤ 17592186044416 := by omega
    by_cases h0 : len = 0
    · subst h0
      exact ⟨[], ⟨some a, cap, rfl, by simp, by simp, .inl rfl⟩, by simp⟩
    have hone : ∀ i, i < len → ∃ q : α, ∃ cs : List Value, cs.length = sz ∧ (∀ (j : Nat) (u : Value), cs[j]? = some u → W.cell? ((a.add (i * sz)).add j) = some u) ∧ El cs q := by
      intro i hi
      have hei := hall i hi
      obtain ⟨ei, hei2⟩ : ∃ y, elems[i]? = some y := ⟨_, List.getElem?_eq_getElem (by omega)⟩
      rw [hei2, hsz] at hei
      obtain ⟨cs', hc1, hc2⟩ := Option.bind_eq_some_iff.1 hei
      obtain ⟨_, hc3, hc4⟩ := World.cells?_some hc1
      obtain ⟨q, hq⟩ := hel n cs' ei (by omega) hc3 hc2 (by
        have h1 := bulk_elem (H := H) (l := elems.map (·.1)) (rest.map (·.1)) (List.mem_map.2 ⟨ei, List.mem_of_getElem? hei2, rfl⟩)
        omega)
      refine ⟨q, cs', hc3, fun j u hj => ?_, hq⟩
      have hjl := (List.getElem?_eq_some_iff.1 hj).1
      rw [hc4 j (by omega)]
      exact hj
    have inh : Inhabited α := ⟨dflt⟩
    obtain ⟨Q, hQ⟩ := Go.Deep.choose_lt hone
    obtain ⟨c1, o1, t1⟩ := a
    have hspot : t1 = none := by
      obtain ⟨cs, g1, g2, _⟩ := hQ 0 (by omega)
      obtain ⟨u, hu⟩ : ∃ u, cs[0]? = some u := ⟨_, List.getElem?_eq_getElem (by omega)⟩
      simpa [Addr.add] using World.cell?_spot (g2 0 u hu)
    subst hspot
    have hc : c1 < W.heap.size := by
      obtain ⟨cs, g1, g2, _⟩ := hQ 0 (by omega)
      obtain ⟨u, hu⟩ : ∃ u, cs[0]? = some u := ⟨_, List.getElem?_eq_getElem (by omega)⟩
      have := g2 0 u hu
      simp only [Addr.add_mid] at this
      exact World.block_lt_of_cell? W _ this
    refine ⟨(List.range len).map Q, ⟨some ⟨c1, o1, none⟩, cap, ?_, ?_, ?_, .inr ⟨c1, o1, rfl, hc, fun i q hq => ?_⟩⟩, by rw [List.length_map, List.length_range]; exact hlen2⟩
    · rw [List.length_map, List.length_range]
    · rw [List.length_map, List.length_range]; exact hl
    · rw [List.length_map, List.length_range]; exact hle
    · rw [List.getElem?_map] at hq
      obtain ⟨i', hi', rfl⟩ := Option.map_eq_some_iff.1 hq
      obtain ⟨hi, he⟩ := List.getElem?_eq_some_iff.1 hi'
      rw [List.length_range] at hi
      rw [List.getElem_range] at he
      subst he
      obtain ⟨cs, g1, g2, g3⟩ := hQ i hi
      refine ⟨cs, g1, fun j u hj => ?_, g3⟩
      have := g2 j u hj
      simp only [Addr.add_mid] at this
      exact this
theorem int_sizeU : Try.prog.cellsOf 3 = 1 := by kernel_rfl
theorem ints_sizeU : Try.prog.cellsOf 40 = 1 := by kernel_rfl
theorem bool_sizeU : Try.prog.cellsOf 4 = 1 := by kernel_rfl
theorem leaf_sizeU : Try.prog.cellsOf 37 = 4 := by kernel_rfl
theorem step_sizeU : Try.prog.cellsOf 64 = 9 := by kernel_rfl
def IntEl (cs : List Value) (x : Int) : Prop := cs = [.int .i64 x]
theorem one_u {α : Type} : ∀ {l : List α}, l.length = 1 → ∃ a, l = [a]
  | [a], _ => ⟨a, rfl⟩
  | [], h => by simp at h
  | _ :: _ :: _, h => by simp at h
set_option maxRecDepth 100000 in
theorem ints_up {W : World} {fuel : Nat} {v : Value} {y : DataW H × List MemPlace} (h : DataW.trod enc Try.prog W 0 (fun _ => true) true fuel 40 [v] = some y) (hz : Rows.uptoBulk y.1 ≤ 1048576) : ∃ xs, IntsA W.heap.size W v xs := by
  obtain ⟨xs, ⟨a, cap, h1, h2, h3, h4⟩, h5⟩ := slice_up (0 : Int) Try.underlying40 1 int_sizeU (by decide) IntEl h hz (fun _ cs y _ hl hh _ => by
    obtain ⟨z, e, _, _⟩ := DataW.trod_int Try.underlying3 hh
    exact ⟨z, e⟩)
  refine ⟨xs, a, cap, h1, h2, h5, ?_⟩
  rcases h4 with h4 | ⟨c, o, e1, e2, e3⟩
  · exact Or.inl h4
  · refine Or.inr ⟨c, o, e1, e2, fun i x hx => ?_⟩
    obtain ⟨cs, _, q2, q3⟩ := e3 i x hx
    have h9 := q2 0 (.int .i64 x) (by rw [show cs = [.int .i64 x] from q3]; rfl)
    rw [Nat.mul_one, Nat.add_zero] at h9
    exact h9
def StepEl (W : World) (cs : List Value) (x : StepM) : Prop := ∃ kv, cs = stepC x kv ∧ IntsA W.heap.size W kv x.kids
theorem nine_u {α : Type} : ∀ {l : List α}, l.length = 9 → ∃ a b c d e f g h i, l = [a, b, c, d, e, f, g, h, i]
  | [a, b, c, d, e, f, g, h, i], _ => ⟨a, b, c, d, e, f, g, h, i, rfl⟩
theorem six_u {α : Type} : ∀ {l : List α}, l.length = 6 → ∃ a b c d e f, l = [a, b, c, d, e, f]
  | [a, b, c, d, e, f], _ => ⟨a, b, c, d, e, f, rfl⟩
theorem four_u {α : Type} : ∀ {l : List α}, l.length = 4 → ∃ a b c d, l = [a, b, c, d]
  | [a, b, c, d], _ => ⟨a, b, c, d, rfl⟩
set_option maxRecDepth 100000 in
theorem step_up {W : World} {fuel : Nat} {cs : List Value} {y : DataW H × List MemPlace} (hl : cs.length = 9) (h : DataW.trod enc Try.prog W 0 (fun _ => true) true fuel 64 cs = some y) (hz : Rows.uptoBulk y.1 ≤ 1048576) : ∃ p, StepEl W cs p := by
  obtain ⟨xs, n', hn', hx1, _, hx3, hx4⟩ := DataW.trod_struct Try.underlying64 h
  obtain ⟨v0, v1, v2, v3, v4, v5, v6, v7, v8, rfl⟩ := nine_u hl
  obtain ⟨y0, y1, y2, y3, y4, y5, rfl⟩ := six_u hx3
  have f0 : DataW.trod enc Try.prog W 0 (fun _ => true) true n' 3 [v0] = some y0 := by have := hx4 0 _ rfl; simpa [int_sizeU] using this
  have f1 : DataW.trod enc Try.prog W 0 (fun _ => true) true n' 4 [v1] = some y1 := by have := hx4 1 _ rfl; simpa [bool_sizeU] using this
  have f2 : DataW.trod enc Try.prog W 0 (fun _ => true) true n' 37 [v2, v3, v4, v5] = some y2 := by have := hx4 2 _ rfl; simpa [leaf_sizeU] using this
  have f3 : DataW.trod enc Try.prog W 0 (fun _ => true) true n' 3 [v6] = some y3 := by have := hx4 3 _ rfl; simpa [int_sizeU] using this
  have f4 : DataW.trod enc Try.prog W 0 (fun _ => true) true n' 3 [v7] = some y4 := by have := hx4 4 _ rfl; simpa [int_sizeU] using this
  have f5 : DataW.trod enc Try.prog W 0 (fun _ => true) true n' 40 [v8] = some y5 := by have := hx4 5 _ rfl; simpa [ints_sizeU] using this
  obtain ⟨z0, e0, _, _⟩ := DataW.trod_int Try.underlying3 f0
  obtain ⟨b1, e1, _⟩ := DataW.trod_bool Try.underlying4 f1
  obtain ⟨z3, e3, _, _⟩ := DataW.trod_int Try.underlying3 f3
  obtain ⟨z4, e4, _, _⟩ := DataW.trod_int Try.underlying3 f4
  obtain ⟨xs2, n2, hn2, hx12, _, hx32, hx42⟩ := DataW.trod_struct Try.underlying37 f2
  obtain ⟨u0, u1, u2, u3, rfl⟩ := four_u hx32
  have g0 : DataW.trod enc Try.prog W 0 (fun _ => true) true n2 3 [v2] = some u0 := by have := hx42 0 _ rfl; simpa [int_sizeU] using this
  have g1 : DataW.trod enc Try.prog W 0 (fun _ => true) true n2 3 [v3] = some u1 := by have := hx42 1 _ rfl; simpa [int_sizeU] using this
  have g2 : DataW.trod enc Try.prog W 0 (fun _ => true) true n2 3 [v4] = some u2 := by have := hx42 2 _ rfl; simpa [int_sizeU] using this
  have g3 : DataW.trod enc Try.prog W 0 (fun _ => true) true n2 3 [v5] = some u3 := by have := hx42 3 _ rfl; simpa [int_sizeU] using this
  obtain ⟨t0, d0, _, _⟩ := DataW.trod_int Try.underlying3 g0
  obtain ⟨t1, d1, _, _⟩ := DataW.trod_int Try.underlying3 g1
  obtain ⟨t2, d2, _, _⟩ := DataW.trod_int Try.underlying3 g2
  obtain ⟨t3, d3, _, _⟩ := DataW.trod_int Try.underlying3 g3
  simp only [List.cons.injEq, and_true] at e0 e1 e3 e4 d0 d1 d2 d3
  subst e0 e1 e3 e4 d0 d1 d2 d3
  subst hx1
  obtain ⟨r5, h5⟩ := ints_up f5 (by
    have h1 := bulk_field (H := H) (d := y5.1) (l := [y0, y1, y2, y3, y4, y5].map (·.1)) (by simp)
    exact Nat.le_trans h1 hz)
  exact ⟨⟨z0, b1, t0, t1, t2, t3, z3, z4, r5⟩, v8, rfl, h5⟩
set_option maxRecDepth 100000 in
/-- An argument that is a script. -/
theorem script_up {W : World} {a : Option Addr} {len cap : Nat} {d : DataW H} {p : List MemPlace} (h : DataW.Trod enc Try.prog W 0 (fun _ => true) true 22 (.slice a len cap) d p) (hz : Rows.uptoBulk d ≤ 1048576) : ∃ l, ScriptA W.heap.size W (.slice a len cap) l := by
  obtain ⟨fuel, hf⟩ := h
  have hf2 : DataW.trod enc Try.prog W 0 (fun _ => true) true fuel 22 [.slice a len cap] = some (d, p) := hf
  obtain ⟨l, ⟨a, cap, h1, h2, h3, h4⟩, h5⟩ := slice_up (⟨0, false, 0, 0, 0, 0, 0, 0, []⟩ : StepM) Try.underlying22 9 step_sizeU (by decide) (StepEl W) (x := (d, p)) hf2 hz (fun _ cs y _ hl hh hz2 => step_up hl hh hz2)
  refine ⟨l, a, cap, h1, h2, h5, ?_⟩
  rcases h4 with h4 | ⟨c, o, e1, e2, e3⟩
  · exact Or.inl h4
  · refine Or.inr ⟨c, o, e1, e2, fun i x hx => ?_⟩
    obtain ⟨cs, _, q2, kv, q3, q4⟩ := e3 i x hx
    exact ⟨kv, q4, fun j u hu => q2 j u (by rw [q3]; exact hu)⟩
end

end Tr
end Ex
end Go.Proofs.Ytpbnjdnlgcfiiaa
