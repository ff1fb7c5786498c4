import Derived.Test.YtkkilkojmdeopaaTrWalk
namespace Go.Proofs.Ytkkilkojmdeopaa
open Go.RowKit
attribute [local go_sem] Oper.semAt_some
namespace Ex
namespace Tr

theorem walk_is (b : Nat) (w : World) : Calls Try.prog 44 #[.pointer (some ⟨b, 0, none⟩)] w fun e w' => e = .returned (.func (.func 65) #[] #[.pointer (some ⟨w.heap.size, 0, none⟩)]) ∧ w' = w.alloc (.cells #[.pointer (some ⟨b, 0, none⟩)] 32) := by
  go_enter Try.func44, Try.ntmps44
  go_wp2_with fail
  go_ret
  exact ⟨rfl, rfl⟩
theorem leaves_is (b : Nat) (w : World) : Calls Try.prog 31 #[.pointer (some ⟨b, 0, none⟩)] w fun e w' => e = .returned (.func (.func 57) #[] #[.pointer (some ⟨w.heap.size, 0, none⟩)]) ∧ w' = w.alloc (.cells #[.pointer (some ⟨b, 0, none⟩)] 32) := by
  go_enter Try.func31, Try.ntmps31
  go_wp2_with fail
  go_ret
  exact ⟨rfl, rfl⟩

theorem KeptBut.drew {b : Nat} {u w : World} (h : KeptBut b u w) : KeptBut b u w.drew := h.trans ((drew_kept _).tbut b)
theorem drew_heap (w : World) (g : Nat) : w.drew.heap[g]? = w.heap[g]? := rfl
theorem but6 (g : Nat) (w : World) (x0 x1 x2 x3 x4 x5 : Value) : KeptBut g w ((((((w.setCell ⟨g, 0, none⟩ x0).setCell ⟨g, 1, none⟩ x1).setCell ⟨g, 2, none⟩ x2).setCell ⟨g, 3, none⟩ x3).setCell ⟨g, 4, none⟩ x4).setCell ⟨g, 5, none⟩ x5) :=
  (((((setCell_but _ _ _ _).trans (setCell_but _ _ _ _)).trans (setCell_but _ _ _ _)).trans (setCell_but _ _ _ _)).trans (setCell_but _ _ _ _)).trans (setCell_but _ _ _ _)
theorem set6 {w : World} {g : Nat} {y0 y1 y2 y3 y4 y5 : Value} {t : TypeId} (h : w.heap[g]? = some (.cells #[y0, y1, y2, y3, y4, y5] t (0, 0))) (x0 x1 x2 x3 x4 x5 : Value) : ((((((w.setCell ⟨g, 0, none⟩ x0).setCell ⟨g, 1, none⟩ x1).setCell ⟨g, 2, none⟩ x2).setCell ⟨g, 3, none⟩ x3).setCell ⟨g, 4, none⟩ x4).setCell ⟨g, 5, none⟩ x5).heap[g]? = some (.cells #[x0, x1, x2, x3, x4, x5] t (0, 0)) := by
  have hl := (Array.getElem?_eq_some_iff.1 h).1
  have he := Option.some.inj ((Array.getElem?_eq_getElem hl).symm.trans h)
  simp [World.setCell, Array.getElem_modify, hl, he]
/-- A node's row. -/
def rowL (x : Nd) : List Value := [.int .i64 x.kind, .int .i64 x.n, .int .i64 x.l1, .int .i64 x.l2, .int .i64 (x.kids.length : Int), .int .i64 (x.num : Int)]
theorem box_returns {fn : Func} {p : Tmp} (h : fn.results = #[.cell p 76]) (tmps : Array Value) (w : World) (g : Nat) (x0 x1 x2 x3 x4 x5 : Value) (hp : tmps.getD p undef = .pointer (some ⟨g, 0, none⟩)) (hg : w.heap[g]? = some (.cells #[x0, x1, x2, x3, x4, x5] 76 (0, 0))) :
    (results fn tmps).run Try.prog w = .ok (.agg #[x0, x1, x2, x3, x4, x5]) w :=
  results_cell_row h tmps w g 76 _ (0, 0) _ hp hg Try.underlying76 rfl (by kernel_rfl)
set_option linter.unusedSimpArgs false in
set_option maxRecDepth 100000 in
set_option maxHeartbeats 600000 in
theorem row_is (B b : Nat) (x : Nd) (w : World) (h : NodeAt B w b x) :
    Calls Try.prog 45 #[.pointer (some ⟨b, 0, none⟩)] w fun e w' => e = .returned (.agg (rowL x).toArray) ∧ Kept w w' := by
  obtain ⟨kv, ⟨ka, kc, rfl, hkl, hk4, _⟩, _, _, c1, c2, c3, c4, c5, c6, c7, c8, _⟩ := h.cells
  have hb := h.lt
  have hlI : (x.kids.length : Int) ≤ 4194304 := by omega
  clear h
  go_enter Try.func45, Try.ntmps45
  go_upto_region 1 with fail
  obtain ⟨wB, hwB⟩ : ∃ wB, w.alloc (.cells #[.int .i64 0, .int .i64 0, .int .i64 0, .int .i64 0, .int .i64 0, .int .i64 0] 76) = wB := ⟨_, rfl⟩
  have HKB : Hid (Kept w wB) := by rw [← hwB]; exact (Kept.refl w).alloc _ _
  have hbx : wB.heap[w.heap.size]? = some (.cells #[.int .i64 0, .int .i64 0, .int .i64 0, .int .i64 0, .int .i64 0, .int .i64 0] 76 (0, 0)) := by rw [← hwB]; exact World.alloc_heap_new w _
  obtain ⟨gb, hgb⟩ : ∃ gb, w.heap.size = gb := ⟨_, rfl⟩
  rw [hwB]
  rw [hgb] at hbx ⊢
  have hne : b ≠ gb := by omega
  have q1 := keepsB hne (grown_cell HKB.out c1)
  have q2 := keepsB hne (grown_cell HKB.out c2)
  have q3 := keepsB hne (grown_cell HKB.out c3)
  have q5 := keepsB hne (grown_cell HKB.out c5)
  have q6 := keepsB hne (grown_cell HKB.out c6)
  have q8 := keepsB hne (grown_cell HKB.out c8)
  have hkr : KeptBut gb wB wB := (Kept.refl wB).tbut gb
  have z0 : wB.frozen? ⟨gb, 0, none⟩ = false := by simp [World.frozen?, hbx]
  have b0 : wB.cell? ⟨gb, 0, none⟩ = some (.int .i64 0) := by simp [World.cell?, hbx]
  have z1 : wB.frozen? ⟨gb, 1, none⟩ = false := by simp [World.frozen?, hbx]
  have b1 : wB.cell? ⟨gb, 1, none⟩ = some (.int .i64 0) := by simp [World.cell?, hbx]
  have z2 : wB.frozen? ⟨gb, 2, none⟩ = false := by simp [World.frozen?, hbx]
  have b2 : wB.cell? ⟨gb, 2, none⟩ = some (.int .i64 0) := by simp [World.cell?, hbx]
  have z3 : wB.frozen? ⟨gb, 3, none⟩ = false := by simp [World.frozen?, hbx]
  have b3 : wB.cell? ⟨gb, 3, none⟩ = some (.int .i64 0) := by simp [World.cell?, hbx]
  have z4 : wB.frozen? ⟨gb, 4, none⟩ = false := by simp [World.frozen?, hbx]
  have b4 : wB.cell? ⟨gb, 4, none⟩ = some (.int .i64 0) := by simp [World.cell?, hbx]
  have z5 : wB.frozen? ⟨gb, 5, none⟩ = false := by simp [World.frozen?, hbx]
  have b5 : wB.cell? ⟨gb, 5, none⟩ = some (.int .i64 0) := by simp [World.cell?, hbx]
  have hgl : gb < wB.heap.size := (Array.getElem?_eq_some_iff.1 hbx).1
  have HBX := hide1 hbx
  clear hbx
  obtain ⟨L, hL⟩ : ∃ L, x.kids.length = L := ⟨_, rfl⟩
  rw [hL] at q8 hlI
  have HL := hide1 hL
  clear c1 c2 c3 c4 c5 c6 c7 c8 hwB hL hkl hk4
  refine wp_region_held_drew (S := fun w' => w'.cell? ⟨b, 1, none⟩ = some (.int .i64 (x.num : Int)) ∧ w'.cell? ⟨b, 2, none⟩ = some (.int .i64 x.kind) ∧ w'.cell? ⟨b, 3, none⟩ = some (.int .i64 x.n) ∧ w'.cell? ⟨b, 5, none⟩ = some (.int .i64 x.l1) ∧ w'.cell? ⟨b, 6, none⟩ = some (.int .i64 x.l2) ∧ w'.cell? ⟨b, 8, none⟩ = some (.slice ka L kc)) (by kernel_rfl) ⟨q1 _ hkr, q2 _ hkr, q3 _ hkr, q5 _ hkr, q6 _ hkr, q8 _ hkr⟩ (fun hHeld => ?_)
  refine wpAnyH_take (i := 0) (v := .pointer (some ⟨b, 0, none⟩)) rfl (by kernel_rfl) (by kernel_rfl) (by kernel_rfl) (fun _ _ _ h => h) (Or.inl ⟨by rfl, fun w' hSw => ?_⟩) (by with_reducible assumption) ?_
  · clear hSw
    go_simp
  try simp only [Act.put, List.setIfInBounds_toArray, List.set_cons_zero, List.set_cons_succ]
  refine wpAnyH_take (i := 1) (v := .pointer (some ⟨b, 0, none⟩)) rfl (by kernel_rfl) (by kernel_rfl) (by kernel_rfl) (fun _ _ _ h => h) (Or.inl ⟨by rfl, fun w' hSw => ?_⟩) (by with_reducible assumption) ?_
  · clear hSw
    go_simp
  try simp only [Act.put, List.setIfInBounds_toArray, List.set_cons_zero, List.set_cons_succ]
  refine wpAnyH_take (i := 2) (v := .pointer (some ⟨b, 2, none⟩)) rfl (by kernel_rfl) (by kernel_rfl) (by kernel_rfl) (fun _ _ _ h => h) (Or.inl ⟨by rfl, fun w' hSw => ?_⟩) (by with_reducible assumption) ?_
  · clear hSw
    go_simp
  try simp only [Act.put, List.setIfInBounds_toArray, List.set_cons_zero, List.set_cons_succ]
  refine wpAnyH_take (i := 3) (v := .int .i64 x.kind) rfl (by kernel_rfl) (by kernel_rfl) (by kernel_rfl) (fun _ _ _ h => h) (Or.inl ⟨by rfl, fun w' hSw => ?_⟩) (by with_reducible assumption) ?_
  · obtain ⟨s1, s2, s3, s5, s6, s8⟩ := hSw
    clear s1 s3 s5 s6 s8
    go_simp
  try simp only [Act.put, List.setIfInBounds_toArray, List.set_cons_zero, List.set_cons_succ]
  refine wpAnyH_take (i := 4) (v := .pointer (some ⟨b, 0, none⟩)) rfl (by kernel_rfl) (by kernel_rfl) (by kernel_rfl) (fun _ _ _ h => h) (Or.inl ⟨by rfl, fun w' hSw => ?_⟩) (by with_reducible assumption) ?_
  · clear hSw
    go_simp
  try simp only [Act.put, List.setIfInBounds_toArray, List.set_cons_zero, List.set_cons_succ]
  refine wpAnyH_take (i := 5) (v := .pointer (some ⟨b, 0, none⟩)) rfl (by kernel_rfl) (by kernel_rfl) (by kernel_rfl) (fun _ _ _ h => h) (Or.inl ⟨by rfl, fun w' hSw => ?_⟩) (by with_reducible assumption) ?_
  · clear hSw
    go_simp
  try simp only [Act.put, List.setIfInBounds_toArray, List.set_cons_zero, List.set_cons_succ]
  refine wpAnyH_take (i := 6) (v := .pointer (some ⟨b, 3, none⟩)) rfl (by kernel_rfl) (by kernel_rfl) (by kernel_rfl) (fun _ _ _ h => h) (Or.inl ⟨by rfl, fun w' hSw => ?_⟩) (by with_reducible assumption) ?_
  · clear hSw
    go_simp
  try simp only [Act.put, List.setIfInBounds_toArray, List.set_cons_zero, List.set_cons_succ]
  refine wpAnyH_take (i := 7) (v := .int .i64 x.n) rfl (by kernel_rfl) (by kernel_rfl) (by kernel_rfl) (fun _ _ _ h => h) (Or.inl ⟨by rfl, fun w' hSw => ?_⟩) (by with_reducible assumption) ?_
  · obtain ⟨s1, s2, s3, s5, s6, s8⟩ := hSw
    clear s1 s2 s5 s6 s8
    go_simp
  try simp only [Act.put, List.setIfInBounds_toArray, List.set_cons_zero, List.set_cons_succ]
  refine wpAnyH_take (i := 8) (v := .pointer (some ⟨b, 0, none⟩)) rfl (by kernel_rfl) (by kernel_rfl) (by kernel_rfl) (fun _ _ _ h => h) (Or.inl ⟨by rfl, fun w' hSw => ?_⟩) (by with_reducible assumption) ?_
  · clear hSw
    go_simp
  try simp only [Act.put, List.setIfInBounds_toArray, List.set_cons_zero, List.set_cons_succ]
  refine wpAnyH_take (i := 9) (v := .pointer (some ⟨b, 0, none⟩)) rfl (by kernel_rfl) (by kernel_rfl) (by kernel_rfl) (fun _ _ _ h => h) (Or.inl ⟨by rfl, fun w' hSw => ?_⟩) (by with_reducible assumption) ?_
  · clear hSw
    go_simp
  try simp only [Act.put, List.setIfInBounds_toArray, List.set_cons_zero, List.set_cons_succ]
  refine wpAnyH_take (i := 10) (v := .pointer (some ⟨b, 4, none⟩)) rfl (by kernel_rfl) (by kernel_rfl) (by kernel_rfl) (fun _ _ _ h => h) (Or.inl ⟨by rfl, fun w' hSw => ?_⟩) (by with_reducible assumption) ?_
  · clear hSw
    go_simp
  try simp only [Act.put, List.setIfInBounds_toArray, List.set_cons_zero, List.set_cons_succ]
  refine wpAnyH_take (i := 11) (v := .pointer (some ⟨b, 5, none⟩)) rfl (by kernel_rfl) (by kernel_rfl) (by kernel_rfl) (fun _ _ _ h => h) (Or.inl ⟨by rfl, fun w' hSw => ?_⟩) (by with_reducible assumption) ?_
  · clear hSw
    go_simp
  try simp only [Act.put, List.setIfInBounds_toArray, List.set_cons_zero, List.set_cons_succ]
  refine wpAnyH_take (i := 12) (v := .int .i64 x.l1) rfl (by kernel_rfl) (by kernel_rfl) (by kernel_rfl) (fun _ _ _ h => h) (Or.inl ⟨by rfl, fun w' hSw => ?_⟩) (by with_reducible assumption) ?_
  · obtain ⟨s1, s2, s3, s5, s6, s8⟩ := hSw
    clear s1 s2 s3 s6 s8
    go_simp
  try simp only [Act.put, List.setIfInBounds_toArray, List.set_cons_zero, List.set_cons_succ]
  refine wpAnyH_take (i := 13) (v := .pointer (some ⟨b, 0, none⟩)) rfl (by kernel_rfl) (by kernel_rfl) (by kernel_rfl) (fun _ _ _ h => h) (Or.inl ⟨by rfl, fun w' hSw => ?_⟩) (by with_reducible assumption) ?_
  · clear hSw
    go_simp
  try simp only [Act.put, List.setIfInBounds_toArray, List.set_cons_zero, List.set_cons_succ]
  refine wpAnyH_take (i := 14) (v := .pointer (some ⟨b, 0, none⟩)) rfl (by kernel_rfl) (by kernel_rfl) (by kernel_rfl) (fun _ _ _ h => h) (Or.inl ⟨by rfl, fun w' hSw => ?_⟩) (by with_reducible assumption) ?_
  · clear hSw
    go_simp
  try simp only [Act.put, List.setIfInBounds_toArray, List.set_cons_zero, List.set_cons_succ]
  refine wpAnyH_take (i := 15) (v := .pointer (some ⟨b, 4, none⟩)) rfl (by kernel_rfl) (by kernel_rfl) (by kernel_rfl) (fun _ _ _ h => h) (Or.inl ⟨by rfl, fun w' hSw => ?_⟩) (by with_reducible assumption) ?_
  · clear hSw
    go_simp
  try simp only [Act.put, List.setIfInBounds_toArray, List.set_cons_zero, List.set_cons_succ]
  refine wpAnyH_take (i := 16) (v := .pointer (some ⟨b, 6, none⟩)) rfl (by kernel_rfl) (by kernel_rfl) (by kernel_rfl) (fun _ _ _ h => h) (Or.inl ⟨by rfl, fun w' hSw => ?_⟩) (by with_reducible assumption) ?_
  · clear hSw
    go_simp
  try simp only [Act.put, List.setIfInBounds_toArray, List.set_cons_zero, List.set_cons_succ]
  refine wpAnyH_take (i := 17) (v := .int .i64 x.l2) rfl (by kernel_rfl) (by kernel_rfl) (by kernel_rfl) (fun _ _ _ h => h) (Or.inl ⟨by rfl, fun w' hSw => ?_⟩) (by with_reducible assumption) ?_
  · obtain ⟨s1, s2, s3, s5, s6, s8⟩ := hSw
    clear s1 s2 s3 s5 s8
    go_simp
  try simp only [Act.put, List.setIfInBounds_toArray, List.set_cons_zero, List.set_cons_succ]
  refine wpAnyH_take (i := 18) (v := .pointer (some ⟨b, 0, none⟩)) rfl (by kernel_rfl) (by kernel_rfl) (by kernel_rfl) (fun _ _ _ h => h) (Or.inl ⟨by rfl, fun w' hSw => ?_⟩) (by with_reducible assumption) ?_
  · clear hSw
    go_simp
  try simp only [Act.put, List.setIfInBounds_toArray, List.set_cons_zero, List.set_cons_succ]
  refine wpAnyH_take (i := 19) (v := .pointer (some ⟨b, 0, none⟩)) rfl (by kernel_rfl) (by kernel_rfl) (by kernel_rfl) (fun _ _ _ h => h) (Or.inl ⟨by rfl, fun w' hSw => ?_⟩) (by with_reducible assumption) ?_
  · clear hSw
    go_simp
  try simp only [Act.put, List.setIfInBounds_toArray, List.set_cons_zero, List.set_cons_succ]
  refine wpAnyH_take (i := 20) (v := .pointer (some ⟨b, 8, none⟩)) rfl (by kernel_rfl) (by kernel_rfl) (by kernel_rfl) (fun _ _ _ h => h) (Or.inl ⟨by rfl, fun w' hSw => ?_⟩) (by with_reducible assumption) ?_
  · clear hSw
    go_simp
  try simp only [Act.put, List.setIfInBounds_toArray, List.set_cons_zero, List.set_cons_succ]
  refine wpAnyH_take (i := 21) (v := .slice ka L kc) rfl (by kernel_rfl) (by kernel_rfl) (by kernel_rfl) (fun _ _ _ h => h) (Or.inl ⟨by rfl, fun w' hSw => ?_⟩) (by with_reducible assumption) ?_
  · obtain ⟨s1, s2, s3, s5, s6, s8⟩ := hSw
    clear s1 s2 s3 s5 s6
    go_simp
  try simp only [Act.put, List.setIfInBounds_toArray, List.set_cons_zero, List.set_cons_succ]
  refine wpAnyH_take (i := 22) (v := .int .i64 (L : Int)) rfl (by kernel_rfl) (by kernel_rfl) (by kernel_rfl) (fun _ _ _ h => h) (Or.inl ⟨by rfl, fun w' hSw => ?_⟩) (by with_reducible assumption) ?_
  · clear hSw
    go_simp
  try simp only [Act.put, List.setIfInBounds_toArray, List.set_cons_zero, List.set_cons_succ]
  refine wpAnyH_take (i := 23) (v := .pointer (some ⟨b, 0, none⟩)) rfl (by kernel_rfl) (by kernel_rfl) (by kernel_rfl) (fun _ _ _ h => h) (Or.inl ⟨by rfl, fun w' hSw => ?_⟩) (by with_reducible assumption) ?_
  · clear hSw
    go_simp
  try simp only [Act.put, List.setIfInBounds_toArray, List.set_cons_zero, List.set_cons_succ]
  refine wpAnyH_take (i := 24) (v := .pointer (some ⟨b, 0, none⟩)) rfl (by kernel_rfl) (by kernel_rfl) (by kernel_rfl) (fun _ _ _ h => h) (Or.inl ⟨by rfl, fun w' hSw => ?_⟩) (by with_reducible assumption) ?_
  · clear hSw
    go_simp
  try simp only [Act.put, List.setIfInBounds_toArray, List.set_cons_zero, List.set_cons_succ]
  refine wpAnyH_take (i := 25) (v := .pointer (some ⟨b, 1, none⟩)) rfl (by kernel_rfl) (by kernel_rfl) (by kernel_rfl) (fun _ _ _ h => h) (Or.inl ⟨by rfl, fun w' hSw => ?_⟩) (by with_reducible assumption) ?_
  · clear hSw
    go_simp
  try simp only [Act.put, List.setIfInBounds_toArray, List.set_cons_zero, List.set_cons_succ]
  refine wpAnyH_take (i := 26) (v := .int .i64 (x.num : Int)) rfl (by kernel_rfl) (by kernel_rfl) (by kernel_rfl) (fun _ _ _ h => h) (Or.inl ⟨by rfl, fun w' hSw => ?_⟩) (by with_reducible assumption) ?_
  · obtain ⟨s1, s2, s3, s5, s6, s8⟩ := hSw
    clear s2 s3 s5 s6 s8
    go_simp
  try simp only [Act.put, List.setIfInBounds_toArray, List.set_cons_zero, List.set_cons_succ]
  refine wpAnyH_take (i := 27) (v := .agg #[.int .i64 x.kind, .int .i64 x.n, .int .i64 x.l1, .int .i64 x.l2, .int .i64 (L : Int), .int .i64 (x.num : Int)]) rfl (by kernel_rfl) (by kernel_rfl) (by kernel_rfl) (fun _ _ _ h => h) (Or.inl ⟨by rfl, fun w' hSw => ?_⟩) (by with_reducible assumption) ?_
  · clear hSw
    go_simp
  try simp only [Act.put, List.setIfInBounds_toArray, List.set_cons_zero, List.set_cons_succ]
  refine wpAnyH_ready (rs := [28]) (by kernel_rfl) (by simp) ?_
  refine AllReadyH.cons (i := 28) rfl (fun K hK => ?_) AllReadyH.nil
  go_simp
  generalize hW : ((((((wB.setCell ⟨gb, 0, none⟩ (.int .i64 x.kind)).setCell ⟨gb, 1, none⟩ (.int .i64 x.n)).setCell ⟨gb, 2, none⟩ (.int .i64 x.l1)).setCell ⟨gb, 3, none⟩ (.int .i64 x.l2)).setCell ⟨gb, 4, none⟩ (.int .i64 (L : Int))).setCell ⟨gb, 5, none⟩ (.int .i64 (x.num : Int))).drew = W9
  have hbd : KeptBut gb wB W9 := by
    rw [← hW]
    exact KeptBut.drew (but6 gb wB (.int .i64 x.kind) (.int .i64 x.n) (.int .i64 x.l1) (.int .i64 x.l2) (.int .i64 (L : Int)) (.int .i64 (x.num : Int)))
  have HS7 : Hid (W9.heap[gb]? = some (.cells #[.int .i64 x.kind, .int .i64 x.n, .int .i64 x.l1, .int .i64 x.l2, .int .i64 (L : Int), .int .i64 (x.num : Int)] 76 (0, 0))) := by
    rw [← hW]
    have h6 := set6 HBX.out (.int .i64 x.kind) (.int .i64 x.n) (.int .i64 x.l1) (.int .i64 x.l2) (.int .i64 (L : Int)) (.int .i64 (x.num : Int))
    have h7 := drew_heap ((((((wB.setCell ⟨gb, 0, none⟩ (.int .i64 x.kind)).setCell ⟨gb, 1, none⟩ (.int .i64 x.n)).setCell ⟨gb, 2, none⟩ (.int .i64 x.l1)).setCell ⟨gb, 3, none⟩ (.int .i64 x.l2)).setCell ⟨gb, 4, none⟩ (.int .i64 (L : Int))).setCell ⟨gb, 5, none⟩ (.int .i64 (x.num : Int))) gb
    rw [h7]
    exact h6
  clear hW
  refine hK.out _ _ (by exact ⟨q1 _ hbd, q2 _ hbd, q3 _ hbd, q5 _ hbd, q6 _ hbd, q8 _ hbd⟩) (fun hHeld10 => ?_)
  clear hK K
  try simp only [Act.put, List.setIfInBounds_toArray, List.set_cons_zero, List.set_cons_succ]
  refine wpAnyH_done (by kernel_rfl) ?_ _
  have HBD := hide1 hbd
  clear hbd hHeld hHeld10 b0 b1 b2 b3 b4 b5 z0 z1 z2 z3 z4 z5 q1 q2 q3 q5 q6 q8 HBX
  go_wp2_with fail
  refine bodyPost_ret (box_returns rfl _ _ gb _ _ _ _ _ _ rfl HS7.out) rfl ?_
  refine ⟨by rw [← HL.out]; rfl, ?_⟩
  have h1 := HKB.out
  have h2 := HBD.out
  exact ⟨h2.1.trans h1.1, h2.2.1.trans h1.2.1, h2.2.2.1.trans h1.2.2.1, Nat.le_trans h1.2.2.2.1 h2.2.2.2.1, fun k hk => (h2.2.2.2.2 k (Nat.lt_of_lt_of_le hk h1.2.2.2.1) (by omega)).trans (h1.2.2.2.2 k hk)⟩

end Tr
end Ex
end Go.Proofs.Ytkkilkojmdeopaa
