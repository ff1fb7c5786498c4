import Derived.Test.YtokgmckhnmjdeaaGreatDoorMExBase
import Derived.Deep.Slices
import Derived.SizedLaws
import Derived.ChangeSlices
namespace Go.Proofs.YtokgmckhnmjdeaaGreatDoor
open Go.RowKit Go.ChangeShapes Go.WideShapes Go.ChangeAt
namespace Ex

section
variable {H : Type} {enc : TypeId × Value → H}

theorem weights_all {P : Program} {e : TypeId} : ∀ {ds : List (DataW H)} {d : DataW H}, d ∈ ds → ∀ n ∈ d.weights P e, n ∈ DataW.weightsAll P e ds
  | x :: r, d, hd, n, hn => by
    simp only [DataW.weightsAll, List.mem_append]
    rcases List.mem_cons.1 hd with rfl | hd
    · exact .inl hn
    · exact .inr (weights_all hd n hn)
  | [], _, hd, _, _ => by cases hd
theorem six {α : Type} : ∀ {l : List α}, l.length = 6 → ∃ a b c d e f, l = [a, b, c, d, e, f]
  | [a, b, c, d, e, f], _ => ⟨a, b, c, d, e, f, rfl⟩
  | [], h => by simp at h
  | [_], h => by simp at h
  | [_, _], h => by simp at h
  | [_, _, _], h => by simp at h
  | [_, _, _, _], h => by simp at h
  | [_, _, _, _, _], h => by simp at h
  | _ :: _ :: _ :: _ :: _ :: _ :: _ :: _, h => by simp at h
theorem expr_size : Tryz.prog.cellsOf 24 = 6 := by kernel_rfl
theorem int_size : Tryz.prog.cellsOf 3 = 1 := by kernel_rfl
theorem exprs_size : Tryz.prog.cellsOf 22 = 1 := by kernel_rfl
theorem expr_bytes : Tryz.prog.bytesOf 24 = 64 := by kernel_rfl

theorem weights_field {P : Program} {t : TypeId} {fs : Array Field} (ht : P.underlying t = some (.struct fs)) {y0 y1 y2 y3 y4 y5 : DataW H} {f0 f1 f2 f3 f4 f5 : Field} (hf : fs = #[f0, f1, f2, f3, f4, f5]) : ∀ n ∈ y5.weights P f5.type, n ∈ (DataW.agg [y0, y1, y2, y3, y4, y5]).weights P t := by
  intro n hn
  subst hf
  simp only [DataW.weights, ht]
  simp only [List.map_cons, List.map_nil, DataW.weightsEach, List.mem_append]
  right; right; right; right; right; left
  exact hn

set_option maxRecDepth 100000 in
/-- The lists that are read with so much fuel are lists of patterns of so many levels. -/
theorem exprs_trod {W : World} : ∀ (k fuel : Nat), fuel ≤ 2 * k → ∀ (v : Value) (x : DataW H × List MemPlace), DataW.trod enc Tryz.prog W 0 (fun _ => true) true fuel 22 [v] = some x → (∀ n ∈ x.1.weights Tryz.prog 22, n ≤ reachBytes) →
    ∃ l : List (PatN k), KidsAt (fun b => b < W.heap.size) W k l v := by
  intro k
  induction k with
  | zero =>
    intro fuel hfu v x h
    obtain rfl : fuel = 0 := by omega
    simp [DataW.trod] at h
  | succ k ih =>
    intro fuel hfu v x hf hz
    rcases DataW.trod_slice Tryz.underlying22 hf with ⟨hcs, _⟩ | ⟨a, len, cap, elems, rest, n, hn, hcs, hx, _, hl, hm, hlen, hel, _, _⟩
    · simp only [List.cons.injEq, and_true] at hcs
      subst hcs
      exact ⟨[], kids_nil _ _ _ _ _ _ rfl⟩
    · simp only [List.cons.injEq, and_true] at hcs
      subst hcs hx
      have hb : len * 64 ≤ reachBytes := by
        have := hz _ (by simp only [DataW.weights, Tryz.underlying22]; exact List.mem_cons_self)
        rw [expr_bytes] at this
        simp only [List.length_map] at this
        rw [hlen] at this
        have h2 : len * 64 ≤ (len + rest.length) * 64 := Nat.mul_le_mul_right _ (Nat.le_add_right _ _)
        omega
      have hle : len ≤ 17592186044416 := by unfold reachBytes at hb; omega
      by_cases h0 : len = 0
      · subst h0
        exact ⟨[], kids_nil _ _ _ _ _ _ rfl⟩
      obtain ⟨cc, oo, hx⟩ : ∃ cc oo, a = ⟨cc, oo, none⟩ := by
        have hei := hel 0 (by omega)
        obtain ⟨ei, hei2⟩ : ∃ y, elems[0]? = some y := ⟨_, List.getElem?_eq_getElem (by omega)⟩
        rw [hei2, expr_size] at hei
        obtain ⟨cs', hc1, hc2⟩ := Option.bind_eq_some_iff.1 hei
        obtain ⟨_, hc3, hc4⟩ := World.cells?_some hc1
        obtain ⟨v0, v1, v2, v3, v4, v5, rfl⟩ := six hc3
        have k0 := hc4 0 (by omega)
        simp only [List.getElem?_cons_zero] at k0
        obtain ⟨c1, o1, t1⟩ := a
        have hspot : t1 = none := by simpa [Addr.add] using World.cell?_spot k0
        subst hspot
        exact ⟨c1, o1, rfl⟩
      subst hx
      have hone : ∀ i, i < len → ∃ (q : PatN (k + 1)) (c o : Nat) (v' : Value), (⟨cc, oo, none⟩ : Addr) = ⟨c, o, none⟩ ∧ c < W.heap.size ∧ W.cell? ⟨c, o + i * 6, none⟩ = some (.int .i64 (kind q)) ∧ W.cell? ⟨c, o + i * 6 + 1, none⟩ = some (.int .i64 (from_ q)) ∧ W.cell? ⟨c, o + i * 6 + 2, none⟩ = some (.int .i64 (to_ q)) ∧
          W.cell? ⟨c, o + i * 6 + 3, none⟩ = some (.int .i64 (min_ q)) ∧ W.cell? ⟨c, o + i * 6 + 4, none⟩ = some (.int .i64 (max_ q)) ∧ W.cell? ⟨c, o + i * 6 + 5, none⟩ = some v' ∧ KidsAt (fun b => b < W.heap.size) W k (kids q) v' := by
        intro i hi
        have hei := hel i hi
        obtain ⟨ei, hei2⟩ : ∃ y, elems[i]? = some y := ⟨_, List.getElem?_eq_getElem (by omega)⟩
        rw [hei2, expr_size] at hei
        obtain ⟨cs', hc1, hc2⟩ := Option.bind_eq_some_iff.1 hei
        obtain ⟨_, hc3, hc4⟩ := World.cells?_some hc1
        obtain ⟨xs, n', hn', hx1, _, hx3, hx4⟩ := DataW.trod_struct Tryz.underlying24 hc2
        obtain ⟨v0, v1, v2, v3, v4, v5, rfl⟩ := six hc3
        obtain ⟨y0, y1, y2, y3, y4, y5, rfl⟩ := six hx3
        have f0 : DataW.trod enc Tryz.prog W 0 (fun _ => true) true n' 3 [v0] = some y0 := by have := hx4 0 _ rfl; simpa [int_size] using this
        have f1 : DataW.trod enc Tryz.prog W 0 (fun _ => true) true n' 3 [v1] = some y1 := by have := hx4 1 _ rfl; simpa [int_size] using this
        have f2 : DataW.trod enc Tryz.prog W 0 (fun _ => true) true n' 3 [v2] = some y2 := by have := hx4 2 _ rfl; simpa [int_size] using this
        have f3 : DataW.trod enc Tryz.prog W 0 (fun _ => true) true n' 3 [v3] = some y3 := by have := hx4 3 _ rfl; simpa [int_size] using this
        have f4 : DataW.trod enc Tryz.prog W 0 (fun _ => true) true n' 3 [v4] = some y4 := by have := hx4 4 _ rfl; simpa [int_size] using this
        have f5 : DataW.trod enc Tryz.prog W 0 (fun _ => true) true n' 22 [v5] = some y5 := by have := hx4 5 _ rfl; simpa [exprs_size] using this
        obtain ⟨z0, e0, _, _⟩ := DataW.trod_int Tryz.underlying3 f0
        obtain ⟨z1, e1, _, _⟩ := DataW.trod_int Tryz.underlying3 f1
        obtain ⟨z2, e2, _, _⟩ := DataW.trod_int Tryz.underlying3 f2
        obtain ⟨z3, e3, _, _⟩ := DataW.trod_int Tryz.underlying3 f3
        obtain ⟨z4, e4, _, _⟩ := DataW.trod_int Tryz.underlying3 f4
        simp only [List.cons.injEq, and_true] at e0 e1 e2 e3 e4
        subst e0 e1 e2 e3 e4
        have hw : ∀ m ∈ y5.1.weights Tryz.prog 22, m ≤ reachBytes := by
          intro m hm2
          apply hz
          simp only [DataW.weights, Tryz.underlying22]
          refine List.mem_cons_of_mem _ (List.mem_append.2 (.inl (weights_all (List.mem_map.2 ⟨ei, List.mem_of_getElem? hei2, rfl⟩) m ?_)))
          have hD : ei.1 = .agg [y0.1, y1.1, y2.1, y3.1, y4.1, y5.1] := by have := congrArg Prod.fst hx1; simpa using this
          rw [hD]
          exact weights_field Tryz.underlying24 rfl m hm2
        obtain ⟨l5, g5⟩ := ih n' (by omega) v5 y5 f5 hw
        have k0 := hc4 0 (by omega)
        have k1 := hc4 1 (by omega)
        have k2 := hc4 2 (by omega)
        have k3 := hc4 3 (by omega)
        have k4 := hc4 4 (by omega)
        have k5 := hc4 5 (by omega)
        simp only [List.getElem?_cons_zero, List.getElem?_cons_succ] at k0 k1 k2 k3 k4 k5
        simp only [Addr.add_mid, Nat.add_zero] at k0 k1 k2 k3 k4 k5
        exact ⟨(show PatN (k + 1) from ((z0, z1, z2, z3, z4, l5) : Int × Int × Int × Int × Int × List (PatN k))), cc, oo, v5, rfl, World.block_lt_of_cell? W _ k0, k0, k1, k2, k3, k4, k5, g5⟩
      have inh : Inhabited (PatN (k + 1)) := ⟨(show PatN (k + 1) from ((0, 0, 0, 0, 0, []) : Int × Int × Int × Int × Int × List (PatN k)))⟩
      obtain ⟨Q, hQ⟩ := Go.Deep.choose_lt hone
      obtain ⟨c, o, _, ea, hc, _⟩ := hQ 0 (by omega)
      simp only [Addr.mk.injEq, and_true] at ea
      obtain ⟨rfl, rfl⟩ := ea
      refine ⟨(List.range len).map Q, some ⟨cc, oo, none⟩, cap, ?_, ?_, ?_, Or.inr ⟨cc, oo, rfl, hc, fun i q hq => ?_⟩⟩
      · rw [List.length_map, List.length_range]
      · rw [List.length_map, List.length_range]; exact hl
      · rw [List.length_map, List.length_range]; exact hle
      · rw [List.getElem?_map] at hq
        obtain ⟨i', hi', rfl⟩ := Option.map_eq_some_iff.1 hq
        obtain ⟨hi, he⟩ := List.getElem?_eq_some_iff.1 hi'
        rw [List.length_range] at hi
        rw [List.getElem_range] at he
        subst he
        obtain ⟨c', o', v', e, _, g0, g1, g2, g3, g4, g5, g6⟩ := hQ i hi
        simp only [Addr.mk.injEq, and_true] at e
        obtain ⟨rfl, rfl⟩ := e
        exact ⟨v', g0, g1, g2, g3, g4, g5, g6⟩
/-- An argument that is a list of patterns. -/
theorem exprs_of {W : World} {v : Value} {d : DataW H} {p : List MemPlace} (h : DataW.Trod enc Tryz.prog W 0 (fun _ => true) true 22 v d p) (hz : ∀ n ∈ d.weights Tryz.prog 22, n ≤ reachBytes) (hv : ∃ a l c, v = .slice a l c) :
    ∃ (k : Nat) (l : List (PatN (k + 1))), KidsAt (fun b => b < W.heap.size) W (k + 1) l v := by
  obtain ⟨fuel, hf⟩ := h
  obtain ⟨a, len, cap, rfl⟩ := hv
  have hf' : DataW.trod enc Tryz.prog W 0 (fun _ => true) true fuel 22 [.slice a len cap] = some (d, p) := by simpa [Value.cells] using hf
  obtain ⟨l, hl⟩ := exprs_trod (fuel + 1) fuel (by omega) _ _ hf' hz
  exact ⟨fuel, l, hl⟩
end

end Ex
end Go.Proofs.YtokgmckhnmjdeaaGreatDoor
