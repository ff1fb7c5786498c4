import Derived.Test.YthjagnnbhpfpoaaTabScript
import Derived.Test.YthjagnnbhpfpoaaRopeArg
import Derived.Deep.Slices
import Derived.SizedLaws
import Derived.ChangeSlices
namespace Go.Proofs.Ythjagnnbhpfpoaa
open Go.RowKit Go.ChangeShapes Go.WideShapes Go.ChangeAt
namespace Rope

section
variable {H : Type} {enc : TypeId × Value → H}

theorem weights_all {P : Program} {e : TypeId} : ∀ {ds : List (DataW H)} {d : DataW H}, d ∈ ds → ∀ n ∈ d.weights P e, n ∈ DataW.weightsAll P e ds
  | x :: r, d, hd, n, hn => by
    simp only [DataW.weightsAll, List.mem_append]
    rcases List.mem_cons.1 hd with rfl | hd
    · exact .inl hn
    · exact .inr (weights_all hd n hn)
  | [], _, hd, _, _ => by cases hd

theorem five {α : Type} : ∀ {l : List α}, l.length = 5 → ∃ a b c d e, l = [a, b, c, d, e]
  | [a, b, c, d, e], _ => ⟨a, b, c, d, e, rfl⟩
  | [], h => by simp at h
  | [_], h => by simp at h
  | [_, _], h => by simp at h
  | [_, _, _], h => by simp at h
  | [_, _, _, _], h => by simp at h
  | _ :: _ :: _ :: _ :: _ :: _ :: _, h => by simp at h
theorem step_size : Try.prog.cellsOf 53 = 5 := by kernel_rfl
theorem int_size : Try.prog.cellsOf 3 = 1 := by kernel_rfl
theorem bytes_size : Try.prog.cellsOf 22 = 1 := by kernel_rfl
theorem u8_bytes : Try.prog.bytesOf 5 = 1 := by kernel_rfl
theorem step_bytes : Try.prog.bytesOf 53 = 56 := by kernel_rfl

theorem data_of {W : World} {fuel : Nat} {v : Value} {x : DataW H × List MemPlace} (h : DataW.trod enc Try.prog W 0 (fun _ => true) true fuel 22 [v] = some x) (hz : ∀ n ∈ x.1.weights Try.prog 22, n ≤ reachBytes) :
    ∃ ds, ListAt (fun b => b < W.heap.size) W v ds ∧ ds.length ≤ 140737488351232 := by
  rcases open_ints Try.underlying22 Try.underlying5 (by kernel_rfl) h with ⟨hcs, _⟩ | ⟨a, l, c, zs, hcs, _, hl, hm, hlen, hd, hcell, hwz⟩
  · simp only [List.cons.injEq, and_true] at hcs
    subst hcs
    exact ⟨[], .inl ⟨rfl, _, _, rfl⟩, by simp⟩
  · simp only [List.cons.injEq, and_true] at hcs
    subst hcs
    have hzl : zs.length = c := by simpa using hlen
    obtain ⟨bs, hb1, _, hb3⟩ := bytes_of_row (w := W) (a := some a) (len := l) (cap := c) (zs := zs) (.inr ⟨a, rfl, hl, hm, hzl, hcell, hwz⟩)
    refine ⟨bs, ?_, ?_⟩
    · rw [← hb1] at hb3 ⊢
      exact hb3.tight.mono (Same.refl _ _) (fun _ h => h.2)
    · rw [hd] at hz
      have := hz _ (by simp only [DataW.weights, Try.underlying22]; exact List.mem_cons_self)
      rw [u8_bytes] at this
      simp [lits] at this
      unfold reachBytes at this
      omega

set_option maxRecDepth 100000 in
theorem script_of {W : World} {a : Option Addr} {len cap : Nat} {d : DataW H} {p : List MemPlace} (h : DataW.Trod enc Try.prog W 0 (fun _ => true) true 45 (.slice a len cap) d p) (hz : ∀ n ∈ d.weights Try.prog 45, n ≤ reachBytes) :
    Script W W.heap.size a len ∧ len ≤ 140737488351232 := by
  obtain ⟨fuel, hf⟩ := h
  rcases Go.Deep.open_slice Try.underlying45 hf with ⟨hcs, _⟩ | ⟨x, l, c, m, n, D, Pl, hcs, _, hl, hm, hmm, hd, hel⟩
  · simp [Value.cells] at hcs
    obtain ⟨rfl, rfl, rfl⟩ := hcs
    exact ⟨fun i hi => by omega, by omega⟩
  · simp [Value.cells] at hcs
    obtain ⟨rfl, rfl, rfl⟩ := hcs
    simp only [if_true] at hmm
    subst hmm
    simp only [Prod.mk.injEq] at hd
    obtain ⟨rfl, _⟩ := hd
    constructor
    · intro i hi
      obtain ⟨cs', hc1, hc2⟩ := hel i (by omega)
      rw [step_size] at hc1
      obtain ⟨_, hc3, hc4⟩ := World.cells?_some hc1
      obtain ⟨xs, n', _, hx1, _, hx3, hx4⟩ := DataW.trod_struct Try.underlying53 hc2
      obtain ⟨v0, v1, v2, v3, v4, rfl⟩ := five hc3
      obtain ⟨y0, y1, y2, y3, y4, rfl⟩ := five hx3
      have f0 : DataW.trod enc Try.prog W 0 (fun _ => true) true n' 3 [v0] = some y0 := by have := hx4 0 _ rfl; simpa [int_size] using this
      have f1 : DataW.trod enc Try.prog W 0 (fun _ => true) true n' 3 [v1] = some y1 := by have := hx4 1 _ rfl; simpa [int_size] using this
      have f2 : DataW.trod enc Try.prog W 0 (fun _ => true) true n' 3 [v2] = some y2 := by have := hx4 2 _ rfl; simpa [int_size] using this
      have f3 : DataW.trod enc Try.prog W 0 (fun _ => true) true n' 3 [v3] = some y3 := by have := hx4 3 _ rfl; simpa [int_size] using this
      have f4 : DataW.trod enc Try.prog W 0 (fun _ => true) true n' 22 [v4] = some y4 := by have := hx4 4 _ rfl; simpa [bytes_size] using this
      obtain ⟨kd, e0, _, _⟩ := DataW.trod_int Try.underlying3 f0
      obtain ⟨rr, e1, _, _⟩ := DataW.trod_int Try.underlying3 f1
      obtain ⟨aa, e2, _, _⟩ := DataW.trod_int Try.underlying3 f2
      obtain ⟨bb, e3, _, w3⟩ := DataW.trod_int Try.underlying3 f3
      simp only [List.cons.injEq, and_true] at e0 e1 e2 e3
      subst e0 e1 e2 e3
      have hw : ∀ k ∈ y4.1.weights Try.prog 22, k ≤ reachBytes := by
        intro k hk
        apply hz
        simp only [DataW.weights, Try.underlying45]
        refine List.mem_cons_of_mem _ (List.mem_append.2 (.inl (weights_all (List.mem_map.2 ⟨i, List.mem_range.2 hi, rfl⟩) k ?_)))
        have hD : D i = .agg [y0.1, y1.1, y2.1, y3.1, y4.1] := by have := congrArg Prod.fst hx1; simpa using this
        rw [hD]
        simp only [DataW.weights, Try.underlying53]
        simp only [List.map_cons, List.map_nil, DataW.weightsEach, List.mem_append]
        right; right; right; right; left
        exact hk
      obtain ⟨ds, g1, g2⟩ := data_of f4 hw
      have k0 := hc4 0 (by omega)
      have k1 := hc4 1 (by omega)
      have k2 := hc4 2 (by omega)
      have k3 := hc4 3 (by omega)
      have k4 := hc4 4 (by omega)
      simp only [List.getElem?_cons_zero, List.getElem?_cons_succ] at k0 k1 k2 k3 k4
      obtain ⟨cc, oo, hx⟩ : ∃ cc oo, x = ⟨cc, oo, none⟩ := by
        obtain ⟨cs0, z1, _⟩ := hel 0 (by omega)
        rw [step_size] at z1
        obtain ⟨_, z3, z4⟩ := World.cells?_some z1
        obtain ⟨u0, u1, u2, u3, u4, rfl⟩ := five z3
        have z5 := z4 0 (by omega)
        simp only [List.getElem?_cons_zero] at z5
        obtain ⟨c1, o1, t1⟩ := x
        have hspot : t1 = none := by simpa [Addr.add] using World.cell?_spot z5
        subst hspot
        exact ⟨c1, o1, rfl⟩
      subst hx
      simp only [Addr.add_mid, Nat.add_zero] at k0 k1 k2 k3 k4
      exact ⟨cc, oo, kd, rr, aa, bb, v4, ds, rfl, World.block_lt_of_cell? W _ k0, k0, k1, k2, k3, k4, g1, g2, (bounds_i64 w3).2⟩
    · have := hz _ (by simp only [DataW.weights, Try.underlying45]; exact List.mem_cons_self)
      rw [step_bytes] at this
      simp at this
      unfold reachBytes at this
      omega
end

end Rope
end Go.Proofs.Ythjagnnbhpfpoaa
