import Derived.Test.YtpablgjomgjaiaaTrDp1
namespace Go.Proofs.Ytpablgjomgjaiaa
open Go.RowKit
attribute [local go_sem] Oper.semAt_some
namespace Ex
namespace Tr

theorem node_eq (w : World) (b : Nat) : (binOp .eql 25 (.pointer (some ⟨b, 0, none⟩)) (.pointer (some ⟨b, 0, none⟩))).run Try.prog w = .ok (.bool true) w := by
  obtain ⟨j, h1, _⟩ := node_info
  exact run_eql_ptr_same w _ Try.underlying25 h1
theorem results_bool {fn : Func} {p : Tmp} (h : fn.results = #[.cell p 4]) (tmps : Array Value) (w : World) (g : Nat) (v : Value) (hp : tmps.getD p undef = .pointer (some ⟨g, 0, none⟩)) (hc : w.cell? ⟨g, 0, none⟩ = some v) : (results fn tmps).run Try.prog w = .ok v w := by
  have hp' : tmps[p]?.getD undef = .pointer (some ⟨g, 0, none⟩) := by simpa using hp
  have hl : (loadVar 4 ⟨g, 0, none⟩).run Try.prog w = .ok v w := by
    simp [loadVar, isAgg, run_underlying Try.underlying4, go_sem, hc]
  simp [results, h, hp', asAddr, hl]
/-- The end of a law that stores its answer into a cell. -/
theorem rc_end {w u : World} {rc : Nat} (hk : Kept w u) (hr : w.heap.size ≤ rc) (hc : u.heap[rc]? = some (.cells #[.bool false] 4 (0, 0))) : Kept w (u.setCell ⟨rc, 0, none⟩ (.bool true)) ∧ (u.setCell ⟨rc, 0, none⟩ (.bool true)).heap[rc]? = some (.cells #[.bool true] 4 (0, 0)) := by
  refine ⟨KeptBut.new hk (setCell_but _ _ _ _) hr, ?_⟩
  have hl := (Array.getElem?_eq_some_iff.1 hc).1
  have he := Option.some.inj ((Array.getElem?_eq_getElem hl).symm.trans hc)
  simp [World.setCell, Array.getElem_modify, hl, he]

set_option linter.unusedSimpArgs false in
set_option maxRecDepth 100000 in
set_option maxHeartbeats 4000000 in
theorem law_out (n : Int) (w : World) (h : n < 1 ∨ 1048576 < n) : Calls Try.prog 3 #[.int .i64 n] w fun e w' => e = .returned (.bool true) ∧ Kept w w' := by
  refine (callsIn_wide (n := 3)).1 ?_
  refine callsIn_of_wp_marks Try.func3 rfl trivial ?_ rfl
  simp only [Try.ntmps3, List.size_toArray, List.length_cons, List.length_nil, Nat.reduceAdd, Nat.reduceSub, Array.replicate_succ, Array.replicate_zero, List.push_toArray, List.append_toArray, List.nil_append, List.cons_append]
  refine (wpIn_wide (n := 3)).2 ?_
  have HZ : Hid (Kept w (w.alloc (.cells #[.bool false] 4)) ∧ (w.alloc (.cells #[.bool false] 4)).heap[w.heap.size]? = some (.cells #[.bool false] 4 (0, 0))) := ⟨(Kept.refl w).alloc _ _, World.alloc_heap_new w _⟩
  by_cases h1 : n < 1
  · clear h
    go_wp2_with (go_at_call 4; refine (head_is _).mono ?_; rintro e w1 ⟨rfl, hk1⟩; have HK1 := hide1 hk1; have HB1 := hide1 ((hk1.2.2.2.2 w.heap.size (by simp)).trans HZ.out.2); have c1 : w1.cell? ⟨w.heap.size, 0, none⟩ = some (.bool false) := (by simp [World.cell?, HB1.out]); have f1 : w1.frozen? ⟨w.heap.size, 0, none⟩ = false := (by simp [World.frozen?, HB1.out]); clear hk1)
    obtain ⟨h1, h2⟩ := rc_end (gtrans HZ.out.1 HK1.out) (Nat.le_refl _) HB1.out
    exact ⟨_, results_bool rfl _ _ w.heap.size (.bool true) rfl (by simp [World.cell?, h2]), rfl, h1⟩
  · have h2 : 1048576 < n := by omega
    clear h
    go_wp2_with (go_at_call 4; refine (head_is _).mono ?_; rintro e w1 ⟨rfl, hk1⟩; have HK1 := hide1 hk1; have HB1 := hide1 ((hk1.2.2.2.2 w.heap.size (by simp)).trans HZ.out.2); have c1 : w1.cell? ⟨w.heap.size, 0, none⟩ = some (.bool false) := (by simp [World.cell?, HB1.out]); have f1 : w1.frozen? ⟨w.heap.size, 0, none⟩ = false := (by simp [World.frozen?, HB1.out]); clear hk1)
    obtain ⟨h1, h2⟩ := rc_end (gtrans HZ.out.1 HK1.out) (Nat.le_refl _) HB1.out
    exact ⟨_, results_bool rfl _ _ w.heap.size (.bool true) rfl (by simp [World.cell?, h2]), rfl, h1⟩

end Tr
end Ex
end Go.Proofs.Ytpablgjomgjaiaa
