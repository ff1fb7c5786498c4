import Derived.Test.YtlgojnodhbmlkaaGreatDoorMExBase
namespace Go.Proofs.YtlgojnodhbmlkaaGreatDoor
open Go.RowKit Go.ChangeShapes Go.WideShapes Go.ChangeAt
namespace Ex

section
variable {H : Type} {enc : TypeId × Value → H}

set_option maxRecDepth 100000 in
/-- A pattern that came in. -/
theorem expr_of {W : World} {v : Value} {d : DataW H} {p : List MemPlace} (hv : ∃ cs, v = .agg cs ∧ cs.size = Tryz.prog.cellsOf 24) (h : DataW.Trod enc Tryz.prog W 0 (fun _ => true) true 24 v d p) (hz : ∀ n ∈ d.weights Tryz.prog 24, n ≤ reachBytes) :
    ∃ (k : Nat) (q : PatN (k + 1)) (v' : Value), v = valOf q v' ∧ KidsAt (fun b => b < W.heap.size) W k (kids q) v' := by
  obtain ⟨cs, rfl, hc⟩ := hv
  rw [expr_size] at hc
  obtain ⟨fuel, hf⟩ := h
  have hf2 : DataW.trod enc Tryz.prog W 0 (fun _ => true) true fuel 24 cs.toList = some (d, p) := hf
  obtain ⟨xs, n', hn', hx1, _, hx3, hx4⟩ := DataW.trod_struct Tryz.underlying24 hf2
  obtain ⟨v0, v1, v2, v3, v4, v5, hcs⟩ := six (l := cs.toList) (by rw [Array.length_toList]; exact hc)
  rw [hcs] at hx4
  obtain ⟨y0, y1, y2, y3, y4, y5, rfl⟩ := six hx3
  have f0 : DataW.trod enc Tryz.prog W 0 (fun _ => true) true n' 3 [v0] = some y0 := by have := hx4 0 _ rfl; simpa [int_size] using this
  have f1 : DataW.trod enc Tryz.prog W 0 (fun _ => true) true n' 3 [v1] = some y1 := by have := hx4 1 _ rfl; simpa [int_size] using this
  have f2 : DataW.trod enc Tryz.prog W 0 (fun _ => true) true n' 3 [v2] = some y2 := by have := hx4 2 _ rfl; simpa [int_size] using this
  have f3 : DataW.trod enc Tryz.prog W 0 (fun _ => true) true n' 3 [v3] = some y3 := by have := hx4 3 _ rfl; simpa [int_size] using this
  have f4 : DataW.trod enc Tryz.prog W 0 (fun _ => true) true n' 3 [v4] = some y4 := by have := hx4 4 _ rfl; simpa [int_size] using this
  have f5 : DataW.trod enc Tryz.prog W 0 (fun _ => true) true n' 22 [v5] = some y5 := by have := hx4 5 _ rfl; simpa [exprs_size] using this
  obtain ⟨z0, e0, _, _⟩ := DataW.trod_int Tryz.underlying3 f0
  obtain ⟨z1, e1, _, _⟩ := DataW.trod_int Tryz.underlying3 f1
  obtain ⟨z2, e2, _, _⟩ := DataW.trod_int Tryz.underlying3 f2
  obtain ⟨z3, e3, _, _⟩ := DataW.trod_int Tryz.underlying3 f3
  obtain ⟨z4, e4, _, _⟩ := DataW.trod_int Tryz.underlying3 f4
  simp only [List.cons.injEq, and_true] at e0 e1 e2 e3 e4
  subst e0 e1 e2 e3 e4
  have hw : ∀ m ∈ y5.1.weights Tryz.prog 22, m ≤ reachBytes := by
    intro m hm2
    apply hz
    have hD : d = .agg [y0.1, y1.1, y2.1, y3.1, y4.1, y5.1] := by have := congrArg Prod.fst hx1; simpa using this
    rw [hD]
    exact weights_field Tryz.underlying24 rfl m hm2
  obtain ⟨l5, g5⟩ := exprs_trod n' n' (by omega) v5 y5 f5 hw
  refine ⟨n', (show PatN (n' + 1) from ((z0, z1, z2, z3, z4, l5) : Int × Int × Int × Int × Int × List (PatN n'))), v5, ?_, g5⟩
  have e : cs = #[.int .i64 z0, .int .i64 z1, .int .i64 z2, .int .i64 z3, .int .i64 z4, v5] := by
    apply Array.toList_inj.1
    rw [hcs]
  rw [e]
  rfl
end

end Ex
end Go.Proofs.YtlgojnodhbmlkaaGreatDoor
