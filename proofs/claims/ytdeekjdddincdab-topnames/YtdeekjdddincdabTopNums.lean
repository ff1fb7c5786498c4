import Derived.Test.YtdeekjdddincdabRows
import Derived.WalkKit
import Derived.ProofKit
import Derived.Deep.DeepCutAuto
import Derived.Deep.WholeRow
namespace Go.Proofs.Ytdeekjdddincdab.TopNums
open Go.RowKit

/-- The document's numbers, in the order of the struct's fields. -/
def nums : List Int := [0, 1, 2, 3, 4, 5, 6, 20, 21, 22, 23, 24, 30, 31, 50, 51, 60, 61, 62, 63, 64, 65, 70, 71, 72, 73, 74, 80, 81, 90, 100, 101, 110, 111, 120, 140, 141, 142, 143, 150, 151, 160, 170, 171, 172, 180, 181, 182, 190, 191, 192, 193, 194, 200, 201, 16777216, 262144, 64, 4096, 1000, 4096, 64, 64, 128, 512, 16, 65536, 2048, 256, 4194304, 4096, 1024, 16777216, 4096, 4096, 1048576, 64, 64, 16, 16, 4096, 67108864, 65536, 512, 1, 2, 3, 4, 1, 2, 3, -1, -2, 1, 2, 3, 4, 5, 0, 1, 2, 3, 1, 2, 3, 1, 2, 3, 4, 5, 1, 2, 3, 4, 5, 6, 7, 8, 9, 10]
def cellsV : Array Value := (nums.map (Value.int .i64)).toArray
def numV : Value := .agg cellsV

theorem wpl_build {P : Program} {ops : Array Oper} {rest : List Oper} {o : Oper} {a : Act} {w : World} {Q : Exit → Act → World → Prop} (hgd : o.guard = none) (ty : TypeId) (ps : Array (Nat × Operand)) (_ : o.op = .build ty ps)
    (v : Value) (hr : (execOp a.eval o).run P w = .ok (.value v) w) (h : wpList P ops Q rest (a.put o.dst v) w) : wpList P ops Q (o :: rest) a w :=
  wpList_plain hgd fun _ hK => by unfold Oper.wp; rw [hr]; exact hK _ _ h

theorem wpl_store {P : Program} {ops : Array Oper} {rest : List Oper} {o : Oper} {a : Act} {w : World} {Q : Exit → Act → World → Prop} (hgd : o.guard = none) (ty : TypeId) (x y : Operand) (ho : o.op = .store ty x y)
    (c c' : Array Value) (hx : a.eval x = .pointer (some ⟨w.heap.size, 0, none⟩)) (hy : a.eval y = .agg c')
    (hi : (P.info? ty).map (·.size) = some c'.size) (hz : c.size = c'.size) (h1 : c'.all (·.oneCell') = true)
    (h : wpList P ops Q rest (a.put o.dst undef) (w.alloc (.cells c' ty))) : wpList P ops Q (o :: rest) a (w.alloc (.cells c ty)) :=
  wpList_plain hgd fun _ hK => by
    unfold Oper.wp execOp
    simp only [ho, hx, hy, Sem.run_bind, run_storeAt_new w ty c c' hi hz h1, Result.andThen_ok, Sem.run_pure]
    exact hK _ _ h

set_option maxRecDepth 100000 in
set_option maxHeartbeats 2000000 in
theorem numbers_any (w : World) :
    Calls Try.prog 18 #[] w fun e w' => e = .returned numV ∧ Grown w w' := by
  go_enter Try.func18, Try.ntmps18
  go_wp2_with (first
    | (refine wpl_build rfl 56 _ rfl numV (by kernel_rfl) ?_)
    | (refine wpl_store rfl 56 (.tmp 0) (.tmp 1) rfl _ cellsV rfl rfl (by kernel_rfl) (by kernel_rfl) (by kernel_rfl) ?_))
  exact bodyPost_ret (v := numV) (results_cell_row Try.results18 _ _ w.heap.size 56 cellsV (0, 0) _ rfl (heap_alloc_last w _) Try.underlying56 rfl (by kernel_rfl)) rfl ⟨rfl, (Grown.refl _).alloc _ _⟩

set_option maxRecDepth 100000 in
set_option maxHeartbeats 2000000 in
theorem given_any (w : World) :
    Calls Try.prog 19 #[] w fun e w' => e = .returned numV ∧ Grown w w' := by
  go_enter Try.func19, Try.ntmps19
  go_wp2_with (first
    | (refine wpl_build rfl 56 _ rfl numV (by kernel_rfl) ?_)
    | (refine wpl_store rfl 56 (.tmp 0) (.tmp 1) rfl _ cellsV rfl rfl (by kernel_rfl) (by kernel_rfl) (by kernel_rfl) ?_))
  exact bodyPost_ret (v := numV) (results_cell_row Try.results19 _ _ w.heap.size 56 cellsV (0, 0) _ rfl (heap_alloc_last w _) Try.underlying56 rfl (by kernel_rfl)) rfl ⟨rfl, (Grown.refl _).alloc _ _⟩

theorem same_eq (w : World) : (binOp .eql 56 numV numV).run Try.prog w = .ok (.bool true) w := by kernel_rfl
theorem same_guard (w : World) : (eqGuard .eql 56 (.tmp 59) (.tmp 60) numV numV).run Try.prog w = .ok () w := by kernel_rfl

end Go.Proofs.Ytdeekjdddincdab.TopNums
