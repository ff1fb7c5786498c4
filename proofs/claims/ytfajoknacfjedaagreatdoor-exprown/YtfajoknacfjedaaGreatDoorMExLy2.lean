import Derived.Test.YtfajoknacfjedaaGreatDoorMExLy1
namespace Go.Proofs.YtfajoknacfjedaaGreatDoor
open Go.RowKit
attribute [local go_sem] Oper.semAt_some
namespace Ex

theorem taker_end {X : Nat → Prop} {w W w9 : World} {nb g9 c9 m : Nat} {f0 vt vf : Value} {fs : List (Nat × Nat)} {ts' : List (Int × Int × Nat)} (hX : ∀ d, X d → d < w.heap.size ∧ d ≠ nb) (hW : Kept w W)
    (h1 : w.heap[nb]? = some (.cells #[f0, vt, vf] 92 (0, 0))) (h3 : w.ownsRow 0 126 2 vf fs.length (forkC fs)) (h4 : ∀ g, vt.ownBlock = some g → ¬ X g ∧ g ≠ nb) (h5 : ∀ g, vf.ownBlock = some g → ¬ X g ∧ g ≠ nb ∧ vt.ownBlock ≠ some g)
    (hg : W.grownBy w9 vt.ownBlock) (ho : w9.ownsRow 0 116 4 (.slice (some ⟨g9, 0, none⟩) m c9) ts'.length (takerC ts')) (hl : vt.ownBlock = some g9 ∨ g9 = W.heap.size) :
    NetL X (w9.setCell ⟨nb, 1, none⟩ (.slice (some ⟨g9, 0, none⟩) m c9)) nb ts' fs ∧ XKept X w (w9.setCell ⟨nb, 1, none⟩ (.slice (some ⟨g9, 0, none⟩) m c9)) := by
  have hnb : nb < w.heap.size := (Array.getElem?_eq_some_iff.1 h1).1
  have hsz := hW.size
  have same : ∀ k, k < w.heap.size → some k ≠ vt.ownBlock → w9.heap[k]? = w.heap[k]? := fun k hk hne => (hg.block k (by omega) hne).trans (hW.2.2.2.2 k hk)
  have h9 : w9.heap[nb]? = some (.cells #[f0, vt, vf] 92 (0, 0)) := (same nb hnb (fun e => (h4 nb e.symm).2 rfl)).trans h1
  have hset : ∀ k v, k ≠ nb → (w9.setCell ⟨nb, 1, none⟩ v).heap[k]? = w9.heap[k]? := fun k v hk => Below.heap_setCell _ _ _ _ hk
  have hg9 : ¬ X g9 ∧ g9 ≠ nb ∧ vf.ownBlock ≠ some g9 := by
    rcases hl with e | e
    · exact ⟨(h4 g9 e).1, (h4 g9 e).2, fun e2 => (h5 g9 e2).2.2 e⟩
    · refine ⟨fun e2 => by have := (hX g9 e2).1; omega, by omega, fun e2 => by have := (h3.lt g9 e2).2; omega⟩
  refine ⟨⟨f0, _, vf, (net_set h9).2.1, owns_kept ho (fun g hgf => hset g _ (by simp only [Value.ownBlock, Option.some.injEq] at hgf; rw [← hgf]; exact hg9.2.1)), owns_kept h3 (fun g hgf => (hset g _ (h5 g hgf).2.1).trans (same g (h3.lt g hgf).2 (fun e => (h5 g hgf).2.2 e.symm))), fun g hgf => ?_, fun g hgf => ⟨(h5 g hgf).1, (h5 g hgf).2.1, fun e => ?_⟩⟩, ?_⟩
  · simp only [Value.ownBlock, Option.some.injEq] at hgf
    rw [← hgf]
    exact ⟨hg9.1, hg9.2.1⟩
  · simp only [Value.ownBlock, Option.some.injEq] at e
    rw [← e] at hgf
    exact hg9.2.2 hgf
  · refine ⟨hg.os.trans hW.1, hg.tape.trans hW.2.1, hg.output.trans hW.2.2.1, by simpa [World.setCell] using Nat.le_trans hsz hg.size, fun k hk => (hset k _ (hX k hk).2).trans (same k (hX k hk).1 (fun e => (h4 k e.symm).1 hk))⟩
theorem step_taker {ops : Array Oper} {o : Oper} {a : Act} {K : Act → World → Prop} {Q : Exit → Act → World → Prop} {E : Prop} (hgd : o.guard = none) (s x : Operand)
    (ho : o.op = .call { callee := .builtin .append, args := #[s, x], argTypes := #[89, 89] }) (W : World) (v : Value) (l : List (Int × Int × Nat)) (n : Nat) (hn : l.length = n) (hs : a.eval s = v) (hown : W.ownsRow 0 116 4 v l.length (takerC l))
    (lb : Nat) (c : Int × Int × Nat) (hx : a.eval x = .slice (some ⟨lb, 0, none⟩) 1 1) (hbx : W.heap[lb]? = some (.cells #[.int .u8 c.1, .int .u8 c.2.1, .int .i64 (c.2.2 : Int), .slice none 0 0] 116 (0, 0))) (hl : l.length ≤ 400000)
    (h : ∀ g cap w', w'.ownsRow 0 116 4 (.slice (some ⟨g, 0, none⟩) (n + 1) cap) (n + 1) (takerC (l ++ [c])) → W.grownBy w' v.ownBlock → (v.ownBlock = some g ∨ g = W.heap.size) → K (a.put o.dst (.slice (some ⟨g, 0, none⟩) (n + 1) cap)) w') :
    if Region.wanted o (yielded ops a.tmps) = true then Oper.wp Tryz.prog o a W K Q else E := by
  obtain ⟨i0, hi, hz0, hz1, hz2⟩ := info_of taker_info
  subst hn
  refine step_append_lies W hgd s x 89 ho 0 116 i0 _ 4 40 Tryz.underlying89 hi hz0 hz1 hz2 rfl (by decide) v l.length (takerC l) hs hown ⟨lb, 0, none⟩ 1 1 [.int .u8 c.1, .int .u8 c.2.1, .int .i64 (c.2.2 : Int), .slice none 0 0] hx rfl ?_ ?_ (by decide) (by unfold maxLen; omega) (by omega) (Nat.zero_le _) W.heap.size rfl ?_
  · intro j y hj
    have hj6 : j < 4 := (List.getElem?_eq_some_iff.1 hj).1
    match j, hj6 with
    | 0, _ => exact (show W.cell? ⟨lb, 0, none⟩ = _ by simp [World.cell?, hbx]).trans hj
    | 1, _ => exact (show W.cell? ⟨lb, 1, none⟩ = _ by simp [World.cell?, hbx]).trans hj
    | 2, _ => exact (show W.cell? ⟨lb, 2, none⟩ = _ by simp [World.cell?, hbx]).trans hj
    | 3, _ => exact (show W.cell? ⟨lb, 3, none⟩ = _ by simp [World.cell?, hbx]).trans hj
  · intro y hy
    simp only [List.mem_cons, List.not_mem_nil, or_false] at hy
    rcases hy with rfl | rfl | rfl | rfl <;> rfl
  · intro g cap w' h3 h4 h5 h6
    exact h g cap w' (by rw [takerC_snoc]; exact h3) h4 h5

theorem net_same {w w' : World} {o : Obj} {row : Option Nat} {b : Nat} (hg : (w.alloc o).drew.grownBy w' row) (hl : b < w.heap.size) (hb : some b ≠ row) : w'.heap[b]? = w.heap[b]? :=
  (hg.block b (by show b < (w.alloc o).heap.size; simp; omega) hb).trans (heap_alloc_old w o hl)
set_option linter.unusedSimpArgs false in
set_option maxRecDepth 100000 in
set_option maxHeartbeats 4000000 in
theorem lay_range (X : Nat → Prop) (nb : Nat) (ts : List (Int × Int × Nat)) (fs : List (Nat × Nat)) (f t mn mx : Int) (vl : Value) (next : Nat) (w : World) (h : NetL X w nb ts fs) (hX : ∀ d, X d → d < w.heap.size ∧ d ≠ nb) (hl : ts.length ≤ 300000) (hv : ∃ a n c, vl = .slice a n c) :
    Calls Tryz.prog 62 #[.pointer (some ⟨nb, 0, none⟩), .agg #[.int .i64 1, .int .i64 f, .int .i64 t, .int .i64 mn, .int .i64 mx, vl], .int .i64 (next : Int)] w fun e w' => e = .returned (.int .i64 (ts.length : Int)) ∧ NetL X w' nb (ts ++ [(IntKind.u8.wrap f, IntKind.u8.wrap t, next)]) fs ∧ XKept X w w' := by
  have HX := hide1 hX
  obtain ⟨av, nv, cv, rfl⟩ := hv
  obtain ⟨f0, vt, vf, h1, h2, h3, h4, h5⟩ := h
  obtain ⟨⟨c0, c1, c2⟩, z0, z1, z2⟩ := net_cells h1
  obtain ⟨af, cf, rfl⟩ := row_form h2
  have HN1 := hide1 h1
  have HN2 := hide1 h2
  have HN3 := hide1 h3
  have HN4 := hide1 h4
  have HN5 := hide1 h5
  have hnb := World.block_lt_of_cell? w _ c0
  have hlI : (ts.length : Int) ≤ 300000 := by omega
  clear h1 h2 h3 h4 h5 hX
  go_enter Tryz.func62, Tryz.ntmps62
  go_wp2_with fail
  obtain ⟨W0, hW0⟩ : ∃ W0, ((w.alloc (Obj.cells #[Value.pointer (some ⟨nb, 0, none⟩)] 73)).alloc (Obj.cells #[Value.int IntKind.i64 1, Value.int IntKind.i64 f, Value.int IntKind.i64 t, Value.int IntKind.i64 mn, Value.int IntKind.i64 mx, Value.slice av nv cv] 24)).alloc (Obj.cells #[Value.int IntKind.i64 (next : Int)] 3) = W0 := ⟨_, rfl⟩
  have hk0 : Kept w W0 := by rw [← hW0]; exact (((Kept.refl w).alloc _ _).alloc _ _).alloc _ _
  have hs0 : w.heap.size + 3 ≤ W0.heap.size := by rw [← hW0]; simp
  have b0 : W0.heap[w.heap.size]? = some (Obj.cells #[Value.pointer (some ⟨nb, 0, none⟩)] 73 (0, 0)) := by rw [← hW0]; exact (heap_alloc_old _ _ (by simp; omega)).trans ((heap_alloc_old _ _ (by simp)).trans (heap_alloc_new w _))
  have b1 : W0.heap[w.heap.size + 1]? = some (Obj.cells #[Value.int IntKind.i64 1, Value.int IntKind.i64 f, Value.int IntKind.i64 t, Value.int IntKind.i64 mn, Value.int IntKind.i64 mx, Value.slice av nv cv] 24 (0, 0)) := by rw [← hW0]; exact (heap_alloc_old _ _ (by simp)).trans (heap_alloc2_new w _ _)
  have b2 : W0.heap[w.heap.size + 2]? = some (Obj.cells #[Value.int IntKind.i64 (next : Int)] 3 (0, 0)) := by rw [← hW0]; have := heap_alloc_new ((w.alloc (Obj.cells #[Value.pointer (some ⟨nb, 0, none⟩)] 73)).alloc (Obj.cells #[Value.int IntKind.i64 1, Value.int IntKind.i64 f, Value.int IntKind.i64 t, Value.int IntKind.i64 mn, Value.int IntKind.i64 mx, Value.slice av nv cv] 24)) (Obj.cells #[Value.int IntKind.i64 (next : Int)] 3); simpa using this
  rw [hW0]
  clear hW0
  have d1 := grown_cell hk0 c1
  have d1d : W0.drew.cell? ⟨nb, 1, none⟩ = some (.slice af ts.length cf) := d1
  have HK0 := hide1 hk0
  clear hk0
  refine wp_region_held_drew (S := fun w' => w'.heap[w.heap.size]? = W0.heap[w.heap.size]? ∧ w'.heap[w.heap.size + 1]? = W0.heap[w.heap.size + 1]? ∧ w'.heap[w.heap.size + 2]? = W0.heap[w.heap.size + 2]?) (by kernel_rfl) ⟨rfl, rfl, rfl⟩ (fun hHeld => ?_)
  refine wpAnyH_take (i := 0) (v := .pointer (some ⟨nb, 0, none⟩)) rfl (by kernel_rfl) (by kernel_rfl) (by kernel_rfl) (fun _ _ _ h => h) (Or.inl ⟨by rfl, fun w' hSw => ?_⟩) (by with_reducible assumption) ?_
  · obtain ⟨q0, q1, q2⟩ := hSw
    have r0 : w'.cell? ⟨w.heap.size, 0, none⟩ = some (.pointer (some ⟨nb, 0, none⟩)) := cell_of_row _ _ _ _ _ _ (q0.trans b0)
    have r1 : w'.cell? ⟨w.heap.size + 1, 1, none⟩ = some (.int .i64 f) := cell_of_row _ _ _ _ _ _ (q1.trans b1)
    have r2 : w'.cell? ⟨w.heap.size + 1, 2, none⟩ = some (.int .i64 t) := cell_of_row _ _ _ _ _ _ (q1.trans b1)
    have r3 : w'.cell? ⟨w.heap.size + 1 + 1, 0, none⟩ = some (.int .i64 (next : Int)) := cell_of_row _ _ _ _ _ _ (q2.trans b2)
    clear q0 q1 q2
    go_simp
  try simp only [Act.put, List.setIfInBounds_toArray, List.set_cons_zero, List.set_cons_succ]
  refine wpAnyH_take (i := 1) (v := .pointer (some ⟨nb, 0, none⟩)) rfl (by kernel_rfl) (by kernel_rfl) (by kernel_rfl) (fun _ _ _ h => h) (Or.inl ⟨by rfl, fun w' hSw => ?_⟩) (by with_reducible assumption) ?_
  · obtain ⟨q0, q1, q2⟩ := hSw
    have r0 : w'.cell? ⟨w.heap.size, 0, none⟩ = some (.pointer (some ⟨nb, 0, none⟩)) := cell_of_row _ _ _ _ _ _ (q0.trans b0)
    have r1 : w'.cell? ⟨w.heap.size + 1, 1, none⟩ = some (.int .i64 f) := cell_of_row _ _ _ _ _ _ (q1.trans b1)
    have r2 : w'.cell? ⟨w.heap.size + 1, 2, none⟩ = some (.int .i64 t) := cell_of_row _ _ _ _ _ _ (q1.trans b1)
    have r3 : w'.cell? ⟨w.heap.size + 1 + 1, 0, none⟩ = some (.int .i64 (next : Int)) := cell_of_row _ _ _ _ _ _ (q2.trans b2)
    clear q0 q1 q2
    go_simp
  try simp only [Act.put, List.setIfInBounds_toArray, List.set_cons_zero, List.set_cons_succ]
  refine wpAnyH_take (i := 2) (v := .pointer (some ⟨nb, 0, none⟩)) rfl (by kernel_rfl) (by kernel_rfl) (by kernel_rfl) (fun _ _ _ h => h) (Or.inl ⟨by rfl, fun w' hSw => ?_⟩) (by with_reducible assumption) ?_
  · obtain ⟨q0, q1, q2⟩ := hSw
    have r0 : w'.cell? ⟨w.heap.size, 0, none⟩ = some (.pointer (some ⟨nb, 0, none⟩)) := cell_of_row _ _ _ _ _ _ (q0.trans b0)
    have r1 : w'.cell? ⟨w.heap.size + 1, 1, none⟩ = some (.int .i64 f) := cell_of_row _ _ _ _ _ _ (q1.trans b1)
    have r2 : w'.cell? ⟨w.heap.size + 1, 2, none⟩ = some (.int .i64 t) := cell_of_row _ _ _ _ _ _ (q1.trans b1)
    have r3 : w'.cell? ⟨w.heap.size + 1 + 1, 0, none⟩ = some (.int .i64 (next : Int)) := cell_of_row _ _ _ _ _ _ (q2.trans b2)
    clear q0 q1 q2
    go_simp
  try simp only [Act.put, List.setIfInBounds_toArray, List.set_cons_zero, List.set_cons_succ]
  refine wpAnyH_take (i := 3) (v := .pointer (some ⟨nb, 1, none⟩)) rfl (by kernel_rfl) (by kernel_rfl) (by kernel_rfl) (fun _ _ _ h => h) (Or.inl ⟨by rfl, fun w' hSw => ?_⟩) (by with_reducible assumption) ?_
  · obtain ⟨q0, q1, q2⟩ := hSw
    have r0 : w'.cell? ⟨w.heap.size, 0, none⟩ = some (.pointer (some ⟨nb, 0, none⟩)) := cell_of_row _ _ _ _ _ _ (q0.trans b0)
    have r1 : w'.cell? ⟨w.heap.size + 1, 1, none⟩ = some (.int .i64 f) := cell_of_row _ _ _ _ _ _ (q1.trans b1)
    have r2 : w'.cell? ⟨w.heap.size + 1, 2, none⟩ = some (.int .i64 t) := cell_of_row _ _ _ _ _ _ (q1.trans b1)
    have r3 : w'.cell? ⟨w.heap.size + 1 + 1, 0, none⟩ = some (.int .i64 (next : Int)) := cell_of_row _ _ _ _ _ _ (q2.trans b2)
    clear q0 q1 q2
    go_simp
  try simp only [Act.put, List.setIfInBounds_toArray, List.set_cons_zero, List.set_cons_succ]
  refine wpAnyH_take (i := 5) (v := .pointer (some ⟨w.heap.size + 1, 1, none⟩)) rfl (by kernel_rfl) (by kernel_rfl) (by kernel_rfl) (fun _ _ _ h => h) (Or.inl ⟨by rfl, fun w' hSw => ?_⟩) (by with_reducible assumption) ?_
  · obtain ⟨q0, q1, q2⟩ := hSw
    have r0 : w'.cell? ⟨w.heap.size, 0, none⟩ = some (.pointer (some ⟨nb, 0, none⟩)) := cell_of_row _ _ _ _ _ _ (q0.trans b0)
    have r1 : w'.cell? ⟨w.heap.size + 1, 1, none⟩ = some (.int .i64 f) := cell_of_row _ _ _ _ _ _ (q1.trans b1)
    have r2 : w'.cell? ⟨w.heap.size + 1, 2, none⟩ = some (.int .i64 t) := cell_of_row _ _ _ _ _ _ (q1.trans b1)
    have r3 : w'.cell? ⟨w.heap.size + 1 + 1, 0, none⟩ = some (.int .i64 (next : Int)) := cell_of_row _ _ _ _ _ _ (q2.trans b2)
    clear q0 q1 q2
    go_simp
  try simp only [Act.put, List.setIfInBounds_toArray, List.set_cons_zero, List.set_cons_succ]
  refine wpAnyH_take (i := 6) (v := .int .i64 f) rfl (by kernel_rfl) (by kernel_rfl) (by kernel_rfl) (fun _ _ _ h => h) (Or.inl ⟨by rfl, fun w' hSw => ?_⟩) (by with_reducible assumption) ?_
  · obtain ⟨q0, q1, q2⟩ := hSw
    have r0 : w'.cell? ⟨w.heap.size, 0, none⟩ = some (.pointer (some ⟨nb, 0, none⟩)) := cell_of_row _ _ _ _ _ _ (q0.trans b0)
    have r1 : w'.cell? ⟨w.heap.size + 1, 1, none⟩ = some (.int .i64 f) := cell_of_row _ _ _ _ _ _ (q1.trans b1)
    have r2 : w'.cell? ⟨w.heap.size + 1, 2, none⟩ = some (.int .i64 t) := cell_of_row _ _ _ _ _ _ (q1.trans b1)
    have r3 : w'.cell? ⟨w.heap.size + 1 + 1, 0, none⟩ = some (.int .i64 (next : Int)) := cell_of_row _ _ _ _ _ _ (q2.trans b2)
    clear q0 q1 q2
    go_simp
  try simp only [Act.put, List.setIfInBounds_toArray, List.set_cons_zero, List.set_cons_succ]
  refine wpAnyH_take (i := 7) (v := .int .u8 (IntKind.u8.wrap f)) rfl (by kernel_rfl) (by kernel_rfl) (by kernel_rfl) (fun _ _ _ h => h) (Or.inl ⟨by rfl, fun w' hSw => ?_⟩) (by with_reducible assumption) ?_
  · obtain ⟨q0, q1, q2⟩ := hSw
    have r0 : w'.cell? ⟨w.heap.size, 0, none⟩ = some (.pointer (some ⟨nb, 0, none⟩)) := cell_of_row _ _ _ _ _ _ (q0.trans b0)
    have r1 : w'.cell? ⟨w.heap.size + 1, 1, none⟩ = some (.int .i64 f) := cell_of_row _ _ _ _ _ _ (q1.trans b1)
    have r2 : w'.cell? ⟨w.heap.size + 1, 2, none⟩ = some (.int .i64 t) := cell_of_row _ _ _ _ _ _ (q1.trans b1)
    have r3 : w'.cell? ⟨w.heap.size + 1 + 1, 0, none⟩ = some (.int .i64 (next : Int)) := cell_of_row _ _ _ _ _ _ (q2.trans b2)
    clear q0 q1 q2
    go_simp
  try simp only [Act.put, List.setIfInBounds_toArray, List.set_cons_zero, List.set_cons_succ]
  refine wpAnyH_take (i := 8) (v := .pointer (some ⟨w.heap.size + 1, 2, none⟩)) rfl (by kernel_rfl) (by kernel_rfl) (by kernel_rfl) (fun _ _ _ h => h) (Or.inl ⟨by rfl, fun w' hSw => ?_⟩) (by with_reducible assumption) ?_
  · obtain ⟨q0, q1, q2⟩ := hSw
    have r0 : w'.cell? ⟨w.heap.size, 0, none⟩ = some (.pointer (some ⟨nb, 0, none⟩)) := cell_of_row _ _ _ _ _ _ (q0.trans b0)
    have r1 : w'.cell? ⟨w.heap.size + 1, 1, none⟩ = some (.int .i64 f) := cell_of_row _ _ _ _ _ _ (q1.trans b1)
    have r2 : w'.cell? ⟨w.heap.size + 1, 2, none⟩ = some (.int .i64 t) := cell_of_row _ _ _ _ _ _ (q1.trans b1)
    have r3 : w'.cell? ⟨w.heap.size + 1 + 1, 0, none⟩ = some (.int .i64 (next : Int)) := cell_of_row _ _ _ _ _ _ (q2.trans b2)
    clear q0 q1 q2
    go_simp
  try simp only [Act.put, List.setIfInBounds_toArray, List.set_cons_zero, List.set_cons_succ]
  refine wpAnyH_take (i := 9) (v := .int .i64 t) rfl (by kernel_rfl) (by kernel_rfl) (by kernel_rfl) (fun _ _ _ h => h) (Or.inl ⟨by rfl, fun w' hSw => ?_⟩) (by with_reducible assumption) ?_
  · obtain ⟨q0, q1, q2⟩ := hSw
    have r0 : w'.cell? ⟨w.heap.size, 0, none⟩ = some (.pointer (some ⟨nb, 0, none⟩)) := cell_of_row _ _ _ _ _ _ (q0.trans b0)
    have r1 : w'.cell? ⟨w.heap.size + 1, 1, none⟩ = some (.int .i64 f) := cell_of_row _ _ _ _ _ _ (q1.trans b1)
    have r2 : w'.cell? ⟨w.heap.size + 1, 2, none⟩ = some (.int .i64 t) := cell_of_row _ _ _ _ _ _ (q1.trans b1)
    have r3 : w'.cell? ⟨w.heap.size + 1 + 1, 0, none⟩ = some (.int .i64 (next : Int)) := cell_of_row _ _ _ _ _ _ (q2.trans b2)
    clear q0 q1 q2
    go_simp
  try simp only [Act.put, List.setIfInBounds_toArray, List.set_cons_zero, List.set_cons_succ]
  refine wpAnyH_take (i := 10) (v := .int .u8 (IntKind.u8.wrap t)) rfl (by kernel_rfl) (by kernel_rfl) (by kernel_rfl) (fun _ _ _ h => h) (Or.inl ⟨by rfl, fun w' hSw => ?_⟩) (by with_reducible assumption) ?_
  · obtain ⟨q0, q1, q2⟩ := hSw
    have r0 : w'.cell? ⟨w.heap.size, 0, none⟩ = some (.pointer (some ⟨nb, 0, none⟩)) := cell_of_row _ _ _ _ _ _ (q0.trans b0)
    have r1 : w'.cell? ⟨w.heap.size + 1, 1, none⟩ = some (.int .i64 f) := cell_of_row _ _ _ _ _ _ (q1.trans b1)
    have r2 : w'.cell? ⟨w.heap.size + 1, 2, none⟩ = some (.int .i64 t) := cell_of_row _ _ _ _ _ _ (q1.trans b1)
    have r3 : w'.cell? ⟨w.heap.size + 1 + 1, 0, none⟩ = some (.int .i64 (next : Int)) := cell_of_row _ _ _ _ _ _ (q2.trans b2)
    clear q0 q1 q2
    go_simp
  try simp only [Act.put, List.setIfInBounds_toArray, List.set_cons_zero, List.set_cons_succ]
  refine wpAnyH_take (i := 11) (v := .int .i64 (next : Int)) rfl (by kernel_rfl) (by kernel_rfl) (by kernel_rfl) (fun _ _ _ h => h) (Or.inl ⟨by rfl, fun w' hSw => ?_⟩) (by with_reducible assumption) ?_
  · obtain ⟨q0, q1, q2⟩ := hSw
    have r0 : w'.cell? ⟨w.heap.size, 0, none⟩ = some (.pointer (some ⟨nb, 0, none⟩)) := cell_of_row _ _ _ _ _ _ (q0.trans b0)
    have r1 : w'.cell? ⟨w.heap.size + 1, 1, none⟩ = some (.int .i64 f) := cell_of_row _ _ _ _ _ _ (q1.trans b1)
    have r2 : w'.cell? ⟨w.heap.size + 1, 2, none⟩ = some (.int .i64 t) := cell_of_row _ _ _ _ _ _ (q1.trans b1)
    have r3 : w'.cell? ⟨w.heap.size + 1 + 1, 0, none⟩ = some (.int .i64 (next : Int)) := cell_of_row _ _ _ _ _ _ (q2.trans b2)
    clear q0 q1 q2
    go_simp
  try simp only [Act.put, List.setIfInBounds_toArray, List.set_cons_zero, List.set_cons_succ]
  refine wpAnyH_take (i := 12) (v := .agg #[.int .u8 (IntKind.u8.wrap f), .int .u8 (IntKind.u8.wrap t), .int .i64 (next : Int), .slice none 0 0]) rfl (by kernel_rfl) (by kernel_rfl) (by kernel_rfl) (fun _ _ _ h => h) (Or.inl ⟨by rfl, fun w' hSw => ?_⟩) (by with_reducible assumption) ?_
  · obtain ⟨q0, q1, q2⟩ := hSw
    have r0 : w'.cell? ⟨w.heap.size, 0, none⟩ = some (.pointer (some ⟨nb, 0, none⟩)) := cell_of_row _ _ _ _ _ _ (q0.trans b0)
    have r1 : w'.cell? ⟨w.heap.size + 1, 1, none⟩ = some (.int .i64 f) := cell_of_row _ _ _ _ _ _ (q1.trans b1)
    have r2 : w'.cell? ⟨w.heap.size + 1, 2, none⟩ = some (.int .i64 t) := cell_of_row _ _ _ _ _ _ (q1.trans b1)
    have r3 : w'.cell? ⟨w.heap.size + 1 + 1, 0, none⟩ = some (.int .i64 (next : Int)) := cell_of_row _ _ _ _ _ _ (q2.trans b2)
    clear q0 q1 q2
    go_simp
  try simp only [Act.put, List.setIfInBounds_toArray, List.set_cons_zero, List.set_cons_succ]
  refine wpAnyH_ready (rs := [4, 13]) (by kernel_rfl) (by simp) ?_
  refine AllReadyH.cons (i := 4) rfl (fun K hK => ?_) (AllReadyH.cons (i := 13) rfl (fun K hK => ?_) AllReadyH.nil)
  · go_simp
    refine hK.out _ _ ⟨rfl, rfl, rfl⟩ (fun hHeld2 => ?_)
    clear hK K
    try simp only [Act.put, List.setIfInBounds_toArray, List.set_cons_zero, List.set_cons_succ]
    refine wpAnyH_ready (rs := [13]) (by kernel_rfl) (by simp) ?_
    refine AllReadyH.cons (i := 13) rfl (fun K hK => ?_) AllReadyH.nil
    go_simp
    refine hK.out _ _ (by exact ⟨heap_alloc_old W0 _ (by omega), heap_alloc_old W0 _ (by omega), heap_alloc_old W0 _ (by omega)⟩) (fun hHeld3 => ?_)
    clear hK K
    try simp only [Act.put, List.setIfInBounds_toArray, List.set_cons_zero, List.set_cons_succ]
    refine wpAnyH_ready (rs := [14]) (by kernel_rfl) (by simp) ?_
    refine AllReadyH.cons (i := 14) rfl (fun K hK => ?_) AllReadyH.nil
    refine step_taker rfl _ _ rfl _ _ ts ts.length rfl (by rfl) (owns_kept (owns_kept HN2.out (fun d hd => HK0.out.2.2.2.2 d (HN2.out.lt d hd).2)) (fun d hd => heap_alloc_old W0 _ (Nat.lt_of_lt_of_le (HN2.out.lt d hd).2 HK0.out.size))) W0.heap.size (IntKind.u8.wrap f, IntKind.u8.wrap t, next) (by rfl) (heap_alloc_new W0 _) (by omega) ?_
    intro g9 c9 w9 ho9 hg9 hl9
    have hbx : ∀ k, w.heap.size ≤ k → k < w.heap.size + 3 → w9.heap[k]? = W0.heap[k]? := fun k h1 h2 => net_same hg9 (by omega) (fun e => by have := (HN2.out.lt k e.symm).2; omega)
    have e0 := hbx w.heap.size (by omega) (by omega)
    have e1 := hbx (w.heap.size + 1) (by omega) (by omega)
    have e2 := hbx (w.heap.size + 2) (by omega) (by omega)
    refine hK.out _ _ ⟨e0, e1, e2⟩ (fun hHeld9 => ?_)
    clear hK K
    try simp only [Act.put, List.setIfInBounds_toArray, List.set_cons_zero, List.set_cons_succ]
    refine wpAnyH_take (i := 15) (v := .pointer (some ⟨nb, 0, none⟩)) rfl (by kernel_rfl) (by kernel_rfl) (by kernel_rfl) (fun _ _ _ h => h) (Or.inl ⟨by rfl, fun w' hSw => ?_⟩) (by with_reducible assumption) ?_
    · clear hSw
      go_simp
    try simp only [Act.put, List.setIfInBounds_toArray, List.set_cons_zero, List.set_cons_succ]
    refine wpAnyH_take (i := 16) (v := .pointer (some ⟨nb, 1, none⟩)) rfl (by kernel_rfl) (by kernel_rfl) (by kernel_rfl) (fun _ _ _ h => h) (Or.inl ⟨by rfl, fun w' hSw => ?_⟩) (by with_reducible assumption) ?_
    · clear hSw
      go_simp
    try simp only [Act.put, List.setIfInBounds_toArray, List.set_cons_zero, List.set_cons_succ]
    refine wpAnyH_ready (rs := [17]) (by kernel_rfl) (by simp) ?_
    refine AllReadyH.cons (i := 17) rfl (fun K hK => ?_) AllReadyH.nil
    have hn9 := net_same hg9 (show nb < W0.heap.size by omega) (fun e => (HN4.out nb e.symm).2 rfl)
    have hn9b := hn9.trans ((HK0.out.2.2.2.2 nb hnb).trans HN1.out)
    obtain ⟨⟨y0, y1, y2⟩, x0, x1, x2⟩ := net_cells hn9b
    have hnb9 := World.block_lt_of_cell? w9 _ y0
    have HE := hide1 (taker_end (m := ts.length + 1) (ts' := ts ++ [(IntKind.u8.wrap f, IntKind.u8.wrap t, next)]) HX.out (gtrans HK0.out (gtrans ((Kept.refl W0).alloc _ _) (drew_kept _))) HN1.out HN3.out HN4.out HN5.out hg9 (by rw [List.length_append]; exact ho9) hl9)
    have HE0 := hide1 (net_set (v := .slice (some ⟨g9, 0, none⟩) (ts.length + 1) c9) hn9b).2.1
    clear ho9 hg9 hl9 hbx hn9 hn9b
    go_simp
    have hsc : ∀ k, k ≠ nb → (w9.setCell ⟨nb, 1, none⟩ (.slice (some ⟨g9, 0, none⟩) (ts.length + 1) c9)).heap[k]? = w9.heap[k]? := fun k hk => Below.heap_setCell _ _ _ _ hk
    refine hK.out _ _ ⟨(hsc _ (by omega)).trans e0, (hsc _ (by omega)).trans e1, (hsc _ (by omega)).trans e2⟩ (fun hHeld10 => ?_)
    have f0' := cell_of_row _ _ 0 _ _ _ ((hsc w.heap.size (by omega)).trans (e0.trans b0))
    obtain ⟨⟨u0, u1, u2⟩, _⟩ := net_cells HE0.out
    clear hK K hsc
    try simp only [Act.put, List.setIfInBounds_toArray, List.set_cons_zero, List.set_cons_succ]
    refine wpAnyH_done (by kernel_rfl) ?_ _
    generalize w9.setCell ⟨nb, 1, none⟩ (.slice (some ⟨g9, 0, none⟩) (ts.length + 1) c9) = W9 at *
    go_wp2_with fail
    go_ret
    refine ⟨?_, HE.out⟩
    rfl
  · go_simp
    refine hK.out _ _ (by exact ⟨heap_alloc_old W0 _ (by omega), heap_alloc_old W0 _ (by omega), heap_alloc_old W0 _ (by omega)⟩) (fun hHeld2 => ?_)
    clear hK K
    try simp only [Act.put, List.setIfInBounds_toArray, List.set_cons_zero, List.set_cons_succ]
    refine wpAnyH_ready (rs := [4]) (by kernel_rfl) (by simp) ?_
    refine AllReadyH.cons (i := 4) rfl (fun K hK => ?_) AllReadyH.nil
    have hnb0 : nb < W0.heap.size := by omega
    go_simp
    refine hK.out _ _ (by exact ⟨heap_alloc_old W0 _ (by omega), heap_alloc_old W0 _ (by omega), heap_alloc_old W0 _ (by omega)⟩) (fun hHeld3 => ?_)
    clear hK K
    try simp only [Act.put, List.setIfInBounds_toArray, List.set_cons_zero, List.set_cons_succ]
    refine wpAnyH_ready (rs := [14]) (by kernel_rfl) (by simp) ?_
    refine AllReadyH.cons (i := 14) rfl (fun K hK => ?_) AllReadyH.nil
    refine step_taker rfl _ _ rfl _ _ ts ts.length rfl (by rfl) (owns_kept (owns_kept HN2.out (fun d hd => HK0.out.2.2.2.2 d (HN2.out.lt d hd).2)) (fun d hd => heap_alloc_old W0 _ (Nat.lt_of_lt_of_le (HN2.out.lt d hd).2 HK0.out.size))) W0.heap.size (IntKind.u8.wrap f, IntKind.u8.wrap t, next) (by rfl) (heap_alloc_new W0 _) (by omega) ?_
    intro g9 c9 w9 ho9 hg9 hl9
    have hbx : ∀ k, w.heap.size ≤ k → k < w.heap.size + 3 → w9.heap[k]? = W0.heap[k]? := fun k h1 h2 => net_same hg9 (by omega) (fun e => by have := (HN2.out.lt k e.symm).2; omega)
    have e0 := hbx w.heap.size (by omega) (by omega)
    have e1 := hbx (w.heap.size + 1) (by omega) (by omega)
    have e2 := hbx (w.heap.size + 2) (by omega) (by omega)
    refine hK.out _ _ ⟨e0, e1, e2⟩ (fun hHeld9 => ?_)
    clear hK K
    try simp only [Act.put, List.setIfInBounds_toArray, List.set_cons_zero, List.set_cons_succ]
    refine wpAnyH_take (i := 15) (v := .pointer (some ⟨nb, 0, none⟩)) rfl (by kernel_rfl) (by kernel_rfl) (by kernel_rfl) (fun _ _ _ h => h) (Or.inl ⟨by rfl, fun w' hSw => ?_⟩) (by with_reducible assumption) ?_
    · clear hSw
      go_simp
    try simp only [Act.put, List.setIfInBounds_toArray, List.set_cons_zero, List.set_cons_succ]
    refine wpAnyH_take (i := 16) (v := .pointer (some ⟨nb, 1, none⟩)) rfl (by kernel_rfl) (by kernel_rfl) (by kernel_rfl) (fun _ _ _ h => h) (Or.inl ⟨by rfl, fun w' hSw => ?_⟩) (by with_reducible assumption) ?_
    · clear hSw
      go_simp
    try simp only [Act.put, List.setIfInBounds_toArray, List.set_cons_zero, List.set_cons_succ]
    refine wpAnyH_ready (rs := [17]) (by kernel_rfl) (by simp) ?_
    refine AllReadyH.cons (i := 17) rfl (fun K hK => ?_) AllReadyH.nil
    have hn9 := net_same hg9 (show nb < W0.heap.size by omega) (fun e => (HN4.out nb e.symm).2 rfl)
    have hn9b := hn9.trans ((HK0.out.2.2.2.2 nb hnb).trans HN1.out)
    obtain ⟨⟨y0, y1, y2⟩, x0, x1, x2⟩ := net_cells hn9b
    have hnb9 := World.block_lt_of_cell? w9 _ y0
    have HE := hide1 (taker_end (m := ts.length + 1) (ts' := ts ++ [(IntKind.u8.wrap f, IntKind.u8.wrap t, next)]) HX.out (gtrans HK0.out (gtrans ((Kept.refl W0).alloc _ _) (drew_kept _))) HN1.out HN3.out HN4.out HN5.out hg9 (by rw [List.length_append]; exact ho9) hl9)
    have HE0 := hide1 (net_set (v := .slice (some ⟨g9, 0, none⟩) (ts.length + 1) c9) hn9b).2.1
    clear ho9 hg9 hl9 hbx hn9 hn9b
    go_simp
    have hsc : ∀ k, k ≠ nb → (w9.setCell ⟨nb, 1, none⟩ (.slice (some ⟨g9, 0, none⟩) (ts.length + 1) c9)).heap[k]? = w9.heap[k]? := fun k hk => Below.heap_setCell _ _ _ _ hk
    refine hK.out _ _ ⟨(hsc _ (by omega)).trans e0, (hsc _ (by omega)).trans e1, (hsc _ (by omega)).trans e2⟩ (fun hHeld10 => ?_)
    have f0' := cell_of_row _ _ 0 _ _ _ ((hsc w.heap.size (by omega)).trans (e0.trans b0))
    obtain ⟨⟨u0, u1, u2⟩, _⟩ := net_cells HE0.out
    clear hK K hsc
    try simp only [Act.put, List.setIfInBounds_toArray, List.set_cons_zero, List.set_cons_succ]
    refine wpAnyH_done (by kernel_rfl) ?_ _
    generalize w9.setCell ⟨nb, 1, none⟩ (.slice (some ⟨g9, 0, none⟩) (ts.length + 1) c9) = W9 at *
    go_wp2_with fail
    go_ret
    refine ⟨?_, HE.out⟩
    rfl

end Ex
end Go.Proofs.YtfajoknacfjedaaGreatDoor
