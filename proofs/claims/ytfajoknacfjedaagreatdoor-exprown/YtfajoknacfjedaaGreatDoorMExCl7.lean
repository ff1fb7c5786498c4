import Derived.Test.YtfajoknacfjedaaGreatDoorMExCl6
namespace Go.Proofs.YtfajoknacfjedaaGreatDoor
open Go.RowKit
attribute [local go_sem] Oper.semAt_some
namespace Ex

theorem heap_drew {W : World} {d : Nat} {x : Option Obj} (h : W.heap[d]? = x) : (W.drew).heap[d]? = x := h
def zeroV : Value := .agg #[.int .i64 0, .int .i64 0, .int .i64 0, .int .i64 0, .int .i64 0, .slice none 0 0]
set_option linter.unusedSimpArgs false in
set_option maxRecDepth 100000 in
set_option maxHeartbeats 4000000 in
theorem ParseA_long (T : ByteArray) (w : World) (hT : 4096 < T.size) (hT2 : T.size ≤ 200000000000000) :
    Calls Tryz.prog 4 #[.string T] w fun r w' => r = .returned (.tuple #[zeroV, .agg #[.int .i64 2, .int .i64 0, .string ⟨#[]⟩]]) ∧ Kept w w' := by
  have gT : (4096 : Int) < T.size := by omega
  have gT2 : (T.size : Int) ≤ 200000000000000 := by omega
  unfold zeroV
  clear hT hT2
  go_enter Tryz.func4, Tryz.ntmps4
  go_wp2
  (try simp only [Exit.inBlock, Exit.then])
  refine bodyPost_ret (parse_results rfl _ _ w.heap.size (w.heap.size + 1) _ _ _ _ _ _ _ _ _ rfl ((heap_alloc_old _ _ (by simp)).trans (heap_alloc_new w _)) rfl (heap_alloc2_new w _ _)) rfl ?_
  exact ⟨rfl, ((Kept.refl w).alloc _ _).alloc _ _⟩

end Ex
end Go.Proofs.YtfajoknacfjedaaGreatDoor
namespace Go.Proofs.YtfajoknacfjedaaGreatDoor
open Go.RowKit
attribute [local go_sem] Oper.semAt_some
namespace Ex

/-- What Parse answers: a pattern, a fault's number and its place. -/
def parseM (T : ByteArray) : Pat × Int × Int :=
  if 4096 < T.size then (zeroP, 2, 0)
  else if (wholeA T (0, 0, 0)).2.2.1 ≠ 0 then (zeroP, (wholeA T (0, 0, 0)).2.2.1, (wholeA T (0, 0, 0)).2.2.2)
  else if checkP (wholeA T (0, 0, 0)).1.2 ≠ 0 then (zeroP, checkP (wholeA T (0, 0, 0)).1.2, (wholeA T (0, 0, 0)).2.2.2)
  else ((wholeA T (0, 0, 0)).1, 0, 0)
end Ex
end Go.Proofs.YtfajoknacfjedaaGreatDoor
