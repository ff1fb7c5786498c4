import Derived.Test.YthpampfbmpdmoaaTrRows
namespace Go.Proofs.Ythpampfbmpdmoaa
open Go.RowKit
attribute [local go_sem] Oper.semAt_some
namespace Ex
namespace Tr

/-- Stands of a cursor: node, place, which child; as cells. -/
def flatS (l : List (Nat × Nat × Nat)) : List Value := l.flatMap fun q => [.pointer (some ⟨q.1, 0, none⟩), .int .i64 (q.2.1 : Int), .int .i64 (q.2.2 : Int)]
theorem flatS_len (l : List (Nat × Nat × Nat)) : (flatS l).length = l.length * 3 := by
  induction l with
  | nil => rfl
  | cons q l ih => unfold flatS at ih ⊢; simp only [List.flatMap_cons, List.length_append, ih, List.length_cons, List.length_nil]; omega
theorem flatS_app (l : List (Nat × Nat × Nat)) (q : Nat × Nat × Nat) : flatS (l ++ [q]) = flatS l ++ [.pointer (some ⟨q.1, 0, none⟩), .int .i64 (q.2.1 : Int), .int .i64 (q.2.2 : Int)] := by unfold flatS; simp
theorem flatS_at : ∀ (l : List (Nat × Nat × Nat)) (i : Nat) (q : Nat × Nat × Nat), l[i]? = some q → (flatS l)[i * 3]? = some (.pointer (some ⟨q.1, 0, none⟩)) ∧ (flatS l)[i * 3 + 1]? = some (.int .i64 (q.2.1 : Int)) ∧ (flatS l)[i * 3 + 2]? = some (.int .i64 (q.2.2 : Int))
  | [], i, q, h => by simp at h
  | p :: l, 0, q, h => by
    simp only [List.getElem?_cons_zero, Option.some.injEq] at h
    subst h
    exact ⟨rfl, rfl, rfl⟩
  | p :: l, i + 1, q, h => by
    have := flatS_at l i q (by simpa using h)
    have e : flatS (p :: l) = (.pointer (some ⟨p.1, 0, none⟩)) :: (.int .i64 (p.2.1 : Int)) :: (.int .i64 (p.2.2 : Int)) :: flatS l := rfl
    rw [e, show (i + 1) * 3 = i * 3 + 3 by omega]
    exact this
def SOwn (w : World) (base : Nat) (wv : Value) (wy : List (Nat × Nat × Nat)) : Prop := w.ownsRow base 76 3 wv wy.length (flatS wy)
/-- A cursor in memory: its list of stands. -/
def CurAt (w : World) (C : Nat) (wv : Value) : Prop := w.heap[C]? = some (.cells #[wv] 55 (0, 0))
theorem CurAt.lt {w : World} {C : Nat} {wv : Value} (h : CurAt w C wv) : C < w.heap.size := (Array.getElem?_eq_some_iff.1 h).1
theorem CurAt.cells {w : World} {C : Nat} {wv : Value} (h : CurAt w C wv) : w.cell? ⟨C, 0, none⟩ = some wv ∧ w.frozen? ⟨C, 0, none⟩ = false := by
  unfold CurAt at h
  refine ⟨?_, ?_⟩ <;> simp [World.cell?, World.frozen?, h]
theorem CurAt.set {w : World} {C : Nat} {wv : Value} (h : CurAt w C wv) (v : Value) : CurAt (w.setCell ⟨C, 0, none⟩ v) C v := by
  have hl := h.lt
  unfold CurAt at h ⊢
  have he := Option.some.inj ((Array.getElem?_eq_getElem hl).symm.trans h)
  simp [World.setCell, Array.getElem_modify, hl, he]
theorem CurAt.keep {w w' : World} {C : Nat} {wv : Value} (h : CurAt w C wv) (hk : Kept w w') : CurAt w' C wv := (hk.2.2.2.2 C h.lt).trans h
theorem SOwn.keep {w w' : World} {base : Nat} {wv : Value} {wy : List (Nat × Nat × Nat)} (h : SOwn w base wv wy) (hk : Kept w w') : SOwn w' base wv wy := owns_same h (fun d hd => hk.2.2.2.2 d (h.lt d hd).2)
theorem SOwn.cellsAt {w : World} {base : Nat} {wv : Value} {wy : List (Nat × Nat × Nat)} (h : SOwn w base wv wy) {i : Nat} {q : Nat × Nat × Nat} (hq : wy[i]? = some q) : ∃ g cap, wv = .slice (some ⟨g, 0, none⟩) wy.length cap ∧ base ≤ g ∧ g < w.heap.size ∧ wy.length ≤ cap ∧ w.cell? ⟨g, i * 3, none⟩ = some (.pointer (some ⟨q.1, 0, none⟩)) ∧ w.cell? ⟨g, i * 3 + 1, none⟩ = some (.int .i64 (q.2.1 : Int)) ∧ w.cell? ⟨g, i * 3 + 2, none⟩ = some (.int .i64 (q.2.2 : Int)) := by
  rcases h.2 with ⟨rfl, h0⟩ | ⟨g, cap, cur, rfl, hb, hg, hc, _, _, hx⟩
  · have : wy = [] := List.length_eq_zero_iff.1 h0
    subst this
    simp at hq
  · have hr := row_cells hg hx
    have hf := flatS_at wy i q hq
    exact ⟨g, cap, rfl, hb, (Array.getElem?_eq_some_iff.1 hg).1, hc, hr _ _ hf.1, hr _ _ hf.2.1, hr _ _ hf.2.2⟩
theorem SOwn.pop {w : World} {base g cap : Nat} {pre : List (Nat × Nat × Nat)} {q : Nat × Nat × Nat} (h : SOwn w base (.slice (some ⟨g, 0, none⟩) (pre.length + 1) cap) (pre ++ [q])) : SOwn w base (.slice (some ⟨g, 0, none⟩) pre.length cap) pre := by
  rcases h.2 with ⟨h0, _⟩ | ⟨g', cap', cur, he, hb, hg, hc, hm, hsz, hx⟩
  · cases h0
  · injection he with e1 e2 e3
    injection e1 with e1
    injection e1 with e1
    subst e1
    subst e3
    refine ⟨flatS_len pre, .inr ⟨g, cap, cur, rfl, hb, hg, ?_, hm, hsz, ?_⟩⟩
    · rw [List.length_append] at hc
      exact Nat.le_trans (Nat.le_add_right _ _) hc
    · have e : (cur.toList.take ((pre ++ [q]).length * 3)).take (pre.length * 3) = (flatS (pre ++ [q])).take (pre.length * 3) := by rw [hx]
      rw [List.take_take, flatS_app, List.take_append_of_le_length (by rw [flatS_len]; exact Nat.le_refl _), Nat.min_eq_left (by rw [List.length_append]; omega)] at e
      rw [e, ← flatS_len pre, List.take_length]
theorem stand_info : (Try.prog.info? 76).map (fun i => (i.zero, i.size, i.bytes)) = some (some (.agg #[.pointer none, .int .i64 0, .int .i64 0]), 3, 24) := by kernel_rfl

set_option linter.unusedSimpArgs false in
set_option maxRecDepth 100000 in
set_option maxHeartbeats 2000000 in
theorem cursor_is (b : Nat) (w : World) : Calls Try.prog 7 #[.pointer (some ⟨b, 0, none⟩)] w fun e w' => e = .returned (.pointer (some ⟨w.heap.size + 1, 0, none⟩)) ∧ Kept w w' ∧ CurAt w' (w.heap.size + 1) (.slice (some ⟨w.heap.size, 0, none⟩) 1 1) ∧ w'.ownsRow w.heap.size 76 3 (.slice (some ⟨w.heap.size, 0, none⟩) 1 1) 1 (flatS [(b, 0, 0)]) := by
  go_enter Try.func7, Try.ntmps7
  go_wp2_with fail
  go_ret
  have h1 : (w.alloc (.cells #[.pointer (some ⟨b, 0, none⟩), .int .i64 0, .int .i64 0] 76)).heap.size = w.heap.size + 1 := by simp
  refine ⟨rfl, ((Kept.refl w).alloc _ _).alloc _ _, ?_, rfl, .inr ⟨w.heap.size, 1, #[.pointer (some ⟨b, 0, none⟩), .int .i64 0, .int .i64 0], rfl, Nat.le_refl _, ?_, Nat.le_refl _, by unfold maxLen; omega, rfl, rfl⟩⟩
  · have := World.alloc_heap_new (w.alloc (.cells #[.pointer (some ⟨b, 0, none⟩), .int .i64 0, .int .i64 0] 76)) (.cells #[.slice (some ⟨w.heap.size, 0, none⟩) 1 1] 55)
    rw [h1] at this
    exact this
  · exact (heap_alloc_old _ _ (by rw [h1]; omega)).trans (World.alloc_heap_new w _)
set_option linter.unusedSimpArgs false in
set_option maxRecDepth 100000 in
theorem atTop_is (C : Nat) (wa : Option Addr) (n wc : Nat) (w : World) (h : CurAt w C (.slice wa n wc)) (hn : n ≤ 8388608) : Calls Try.prog 47 #[.pointer (some ⟨C, 0, none⟩)] w fun e w' => e = .returned (.bool ((n : Int) == 1)) ∧ w' = w := by
  obtain ⟨c0, _⟩ := h.cells
  have hl := h.lt
  have hnI : (n : Int) ≤ 8388608 := by omega
  clear h hn
  go_enter Try.func47, Try.ntmps47
  go_wp2_with fail
  go_ret
  exact ⟨rfl, rfl⟩
theorem but3 (g : Nat) (w : World) (x0 x1 x2 : Value) : KeptBut g w (((w.setCell ⟨g, 0, none⟩ x0).setCell ⟨g, 1, none⟩ x1).setCell ⟨g, 2, none⟩ x2) :=
  ((setCell_but _ _ _ _).trans (setCell_but _ _ _ _)).trans (setCell_but _ _ _ _)
theorem set3 {w : World} {g : Nat} {y0 y1 y2 : Value} {t : TypeId} (h : w.heap[g]? = some (.cells #[y0, y1, y2] t (0, 0))) (x0 x1 x2 : Value) : (((w.setCell ⟨g, 0, none⟩ x0).setCell ⟨g, 1, none⟩ x1).setCell ⟨g, 2, none⟩ x2).heap[g]? = some (.cells #[x0, x1, x2] t (0, 0)) := by
  have hl := (Array.getElem?_eq_some_iff.1 h).1
  have he := Option.some.inj ((Array.getElem?_eq_getElem hl).symm.trans h)
  simp [World.setCell, Array.getElem_modify, hl, he]
theorem box3_returns {fn : Func} {p : Tmp} (h : fn.results = #[.cell p 76]) (tmps : Array Value) (w : World) (g : Nat) (x0 x1 x2 : Value) (hp : tmps.getD p undef = .pointer (some ⟨g, 0, none⟩)) (hg : w.heap[g]? = some (.cells #[x0, x1, x2] 76 (0, 0))) :
    (results fn tmps).run Try.prog w = .ok (.agg #[x0, x1, x2]) w :=
  results_cell_row h tmps w g 76 _ (0, 0) _ hp hg Try.underlying76 rfl (by kernel_rfl)
/-- A stand as a value. -/
def standV (q : Nat × Nat × Nat) : Value := .agg #[.pointer (some ⟨q.1, 0, none⟩), .int .i64 (q.2.1 : Int), .int .i64 (q.2.2 : Int)]

set_option linter.unusedSimpArgs false in
set_option maxRecDepth 100000 in
set_option maxHeartbeats 2000000 in
theorem here_is (C base : Nat) (wv : Value) (pre : List (Nat × Nat × Nat)) (q : Nat × Nat × Nat) (w : World) (hC : CurAt w C wv) (hO : SOwn w base wv (pre ++ [q])) (hl : pre.length ≤ 4194304) :
    Calls Try.prog 31 #[.pointer (some ⟨C, 0, none⟩)] w fun e w' => e = .returned (.agg #[.pointer (some ⟨q.1, 0, none⟩), .int .i64 (q.2.1 : Int), .int .i64 (q.2.2 : Int)]) ∧ Kept w w' := by
  obtain ⟨g, cap, rfl, hbg, hgl, hcap, s0, s1, s2⟩ := hO.cellsAt (i := pre.length) (q := q) (by simp)
  obtain ⟨c0, _⟩ := hC.cells
  have hCl := hC.lt
  rw [List.length_append] at c0 hcap
  obtain ⟨m, hm⟩ : ∃ m, pre.length = m := ⟨_, rfl⟩
  rw [hm] at c0 s0 s1 s2 hl hcap
  have c0' : w.cell? ⟨C, 0, none⟩ = some (.slice (some ⟨g, 0, none⟩) (m + 1) cap) := c0
  have hmI : (m : Int) ≤ 4194304 := by omega
  obtain ⟨qa, qb, qc⟩ := q
  clear hC hO hm c0
  dsimp only at s0 s1 s2 ⊢
  go_enter Try.func31, Try.ntmps31
  go_upto_region 1 with fail
  obtain ⟨wB, hwB⟩ : ∃ wB, w.alloc (.cells #[.pointer none, .int .i64 0, .int .i64 0] 76) = wB := ⟨_, rfl⟩
  have HKB : Hid (Kept w wB) := by rw [← hwB]; exact (Kept.refl w).alloc _ _
  have hbx : wB.heap[w.heap.size]? = some (.cells #[.pointer none, .int .i64 0, .int .i64 0] 76 (0, 0)) := by rw [← hwB]; exact World.alloc_heap_new w _
  obtain ⟨gb, hgb⟩ : ∃ gb, w.heap.size = gb := ⟨_, rfl⟩
  rw [hwB]
  rw [hgb] at hbx ⊢
  have q0 := keepsB (show C ≠ gb by omega) (grown_cell HKB.out c0')
  have q1 := keepsB (show g ≠ gb by omega) (grown_cell HKB.out s0)
  have q2 := keepsB (show g ≠ gb by omega) (grown_cell HKB.out s1)
  have q3 := keepsB (show g ≠ gb by omega) (grown_cell HKB.out s2)
  have hkr : KeptBut gb wB wB := (Kept.refl wB).tbut gb
  have z0 : wB.frozen? ⟨gb, 0, none⟩ = false := by simp [World.frozen?, hbx]
  have z1 : wB.frozen? ⟨gb, 1, none⟩ = false := by simp [World.frozen?, hbx]
  have z2 : wB.frozen? ⟨gb, 2, none⟩ = false := by simp [World.frozen?, hbx]
  have b0 : wB.cell? ⟨gb, 0, none⟩ = some (.pointer none) := by simp [World.cell?, hbx]
  have b1 : wB.cell? ⟨gb, 1, none⟩ = some (.int .i64 0) := by simp [World.cell?, hbx]
  have b2 : wB.cell? ⟨gb, 2, none⟩ = some (.int .i64 0) := by simp [World.cell?, hbx]
  have hgl2 : gb < wB.heap.size := (Array.getElem?_eq_some_iff.1 hbx).1
  have HBX := hide1 hbx
  clear c0' s0 s1 s2 hwB hbx
  refine wp_region_held_drew (S := fun w' => w'.cell? ⟨C, 0, none⟩ = some (.slice (some ⟨g, 0, none⟩) (m + 1) cap) ∧ w'.cell? ⟨g, m * 3, none⟩ = some (.pointer (some ⟨qa, 0, none⟩)) ∧ w'.cell? ⟨g, m * 3 + 1, none⟩ = some (.int .i64 (qb : Int)) ∧ w'.cell? ⟨g, m * 3 + 2, none⟩ = some (.int .i64 (qc : Int))) (by kernel_rfl) ⟨q0 _ hkr, q1 _ hkr, q2 _ hkr, q3 _ hkr⟩ (fun hHeld => ?_)
  refine wpAnyH_take (i := 0) (v := .pointer (some ⟨C, 0, none⟩)) rfl (by kernel_rfl) (by kernel_rfl) (by kernel_rfl) (fun _ _ _ h => h) (Or.inl ⟨by rfl, fun w' hSw => ?_⟩) (by with_reducible assumption) ?_
  · clear hSw
    go_simp
  try simp only [Act.put, List.setIfInBounds_toArray, List.set_cons_zero, List.set_cons_succ]
  refine wpAnyH_take (i := 1) (v := .pointer (some ⟨C, 0, none⟩)) rfl (by kernel_rfl) (by kernel_rfl) (by kernel_rfl) (fun _ _ _ h => h) (Or.inl ⟨by rfl, fun w' hSw => ?_⟩) (by with_reducible assumption) ?_
  · clear hSw
    go_simp
  try simp only [Act.put, List.setIfInBounds_toArray, List.set_cons_zero, List.set_cons_succ]
  refine wpAnyH_take (i := 2) (v := .pointer (some ⟨C, 0, none⟩)) rfl (by kernel_rfl) (by kernel_rfl) (by kernel_rfl) (fun _ _ _ h => h) (Or.inl ⟨by rfl, fun w' hSw => ?_⟩) (by with_reducible assumption) ?_
  · clear hSw
    go_simp
  try simp only [Act.put, List.setIfInBounds_toArray, List.set_cons_zero, List.set_cons_succ]
  refine wpAnyH_take (i := 3) (v := .slice (some ⟨g, 0, none⟩) (m + 1) cap) rfl (by kernel_rfl) (by kernel_rfl) (by kernel_rfl) (fun _ _ _ h => h) (Or.inl ⟨by rfl, fun w' hSw => ?_⟩) (by with_reducible assumption) ?_
  · obtain ⟨t0, t1, t2, t3⟩ := hSw
    clear t1 t2 t3
    go_simp
  try simp only [Act.put, List.setIfInBounds_toArray, List.set_cons_zero, List.set_cons_succ]
  refine wpAnyH_take (i := 4) (v := .pointer (some ⟨C, 0, none⟩)) rfl (by kernel_rfl) (by kernel_rfl) (by kernel_rfl) (fun _ _ _ h => h) (Or.inl ⟨by rfl, fun w' hSw => ?_⟩) (by with_reducible assumption) ?_
  · clear hSw
    go_simp
  try simp only [Act.put, List.setIfInBounds_toArray, List.set_cons_zero, List.set_cons_succ]
  refine wpAnyH_take (i := 5) (v := .pointer (some ⟨C, 0, none⟩)) rfl (by kernel_rfl) (by kernel_rfl) (by kernel_rfl) (fun _ _ _ h => h) (Or.inl ⟨by rfl, fun w' hSw => ?_⟩) (by with_reducible assumption) ?_
  · clear hSw
    go_simp
  try simp only [Act.put, List.setIfInBounds_toArray, List.set_cons_zero, List.set_cons_succ]
  refine wpAnyH_take (i := 6) (v := .pointer (some ⟨C, 0, none⟩)) rfl (by kernel_rfl) (by kernel_rfl) (by kernel_rfl) (fun _ _ _ h => h) (Or.inl ⟨by rfl, fun w' hSw => ?_⟩) (by with_reducible assumption) ?_
  · clear hSw
    go_simp
  try simp only [Act.put, List.setIfInBounds_toArray, List.set_cons_zero, List.set_cons_succ]
  refine wpAnyH_take (i := 7) (v := .slice (some ⟨g, 0, none⟩) (m + 1) cap) rfl (by kernel_rfl) (by kernel_rfl) (by kernel_rfl) (fun _ _ _ h => h) (Or.inl ⟨by rfl, fun w' hSw => ?_⟩) (by with_reducible assumption) ?_
  · obtain ⟨t0, t1, t2, t3⟩ := hSw
    clear t1 t2 t3
    go_simp
  try simp only [Act.put, List.setIfInBounds_toArray, List.set_cons_zero, List.set_cons_succ]
  refine wpAnyH_take (i := 8) (v := .int .i64 ((m : Int) + 1)) rfl (by kernel_rfl) (by kernel_rfl) (by kernel_rfl) (fun _ _ _ h => h) (Or.inl ⟨by rfl, fun w' hSw => ?_⟩) (by with_reducible assumption) ?_
  · clear hSw
    go_simp
  try simp only [Act.put, List.setIfInBounds_toArray, List.set_cons_zero, List.set_cons_succ]
  refine wpAnyH_take (i := 9) (v := .int .i64 (m : Int)) rfl (by kernel_rfl) (by kernel_rfl) (by kernel_rfl) (fun _ _ _ h => h) (Or.inl ⟨by rfl, fun w' hSw => ?_⟩) (by with_reducible assumption) ?_
  · clear hSw
    go_simp
    exact wrapN (by omega) (by omega)
  try simp only [Act.put, List.setIfInBounds_toArray, List.set_cons_zero, List.set_cons_succ]
  refine wpAnyH_take (i := 10) (v := .pointer (some ⟨g, m * 3, none⟩)) rfl (by kernel_rfl) (by kernel_rfl) (by kernel_rfl) (fun _ _ _ h => h) (Or.inl ⟨by rfl, fun w' hSw => ?_⟩) (by with_reducible assumption) ?_
  · clear hSw
    go_simp
    intro hh
    omega
  try simp only [Act.put, List.setIfInBounds_toArray, List.set_cons_zero, List.set_cons_succ]
  refine wpAnyH_take (i := 11) (v := .agg #[.pointer (some ⟨qa, 0, none⟩), .int .i64 (qb : Int), .int .i64 (qc : Int)]) rfl (by kernel_rfl) (by kernel_rfl) (by kernel_rfl) (fun _ _ _ h => h) (Or.inl ⟨by rfl, fun w' hSw => ?_⟩) (by with_reducible assumption) ?_
  · obtain ⟨t0, t1, t2, t3⟩ := hSw
    clear t0
    go_simp
  try simp only [Act.put, List.setIfInBounds_toArray, List.set_cons_zero, List.set_cons_succ]
  refine wpAnyH_ready (rs := [12]) (by kernel_rfl) (by simp) ?_
  refine AllReadyH.cons (i := 12) rfl (fun K hK => ?_) AllReadyH.nil
  go_simp
  generalize hW : (((wB.setCell ⟨gb, 0, none⟩ (.pointer (some ⟨qa, 0, none⟩))).setCell ⟨gb, 1, none⟩ (.int .i64 (qb : Int))).setCell ⟨gb, 2, none⟩ (.int .i64 (qc : Int))).drew = W9
  have hbd : KeptBut gb wB W9 := by
    rw [← hW]
    exact KeptBut.drew (but3 gb wB (.pointer (some ⟨qa, 0, none⟩)) (.int .i64 (qb : Int)) (.int .i64 (qc : Int)))
  have HS7 : Hid (W9.heap[gb]? = some (.cells #[.pointer (some ⟨qa, 0, none⟩), .int .i64 (qb : Int), .int .i64 (qc : Int)] 76 (0, 0))) := by
    rw [← hW]
    have h6 := set3 HBX.out (.pointer (some ⟨qa, 0, none⟩)) (.int .i64 (qb : Int)) (.int .i64 (qc : Int))
    have h7 := drew_heap (((wB.setCell ⟨gb, 0, none⟩ (.pointer (some ⟨qa, 0, none⟩))).setCell ⟨gb, 1, none⟩ (.int .i64 (qb : Int))).setCell ⟨gb, 2, none⟩ (.int .i64 (qc : Int))) gb
    rw [h7]
    exact h6
  clear hW
  refine hK.out _ _ (by exact ⟨q0 _ hbd, q1 _ hbd, q2 _ hbd, q3 _ hbd⟩) (fun hHeld10 => ?_)
  clear hK K
  try simp only [Act.put, List.setIfInBounds_toArray, List.set_cons_zero, List.set_cons_succ]
  refine wpAnyH_done (by kernel_rfl) ?_ _
  have HBD := hide1 hbd
  clear hbd hHeld hHeld10 b0 b1 b2 z0 z1 z2 q0 q1 q2 q3 HBX
  go_wp2_with fail
  refine bodyPost_ret (box3_returns rfl _ _ gb _ _ _ rfl HS7.out) rfl ?_
  refine ⟨rfl, ?_⟩
  have h1 := HKB.out
  have h2 := HBD.out
  exact ⟨h2.1.trans h1.1, h2.2.1.trans h1.2.1, h2.2.2.1.trans h1.2.2.1, Nat.le_trans h1.2.2.2.1 h2.2.2.2.1, fun k hk => (h2.2.2.2.2 k (Nat.lt_of_lt_of_le hk h1.2.2.2.1) (by omega)).trans (h1.2.2.2.2 k hk)⟩

theorem field0 (x0 x1 x2 : Value) (w : World) : (Instr.field 76 (.agg #[x0, x1, x2]) 0).run Try.prog w = .ok x0 w := by kernel_rfl
theorem field1 (x0 x1 x2 : Value) (w : World) : (Instr.field 76 (.agg #[x0, x1, x2]) 1).run Try.prog w = .ok x1 w := by kernel_rfl
theorem node_is (C base : Nat) (wv : Value) (pre : List (Nat × Nat × Nat)) (q : Nat × Nat × Nat) (w : World) (hC : CurAt w C wv) (hO : SOwn w base wv (pre ++ [q])) (hl : pre.length ≤ 4194304) :
    Calls Try.prog 10 #[.pointer (some ⟨C, 0, none⟩)] w fun e w' => e = .returned (.pointer (some ⟨q.1, 0, none⟩)) ∧ Kept w w' := by
  have HH := hide1 (here_is C base wv pre q w hC hO hl)
  clear hC hO
  go_enter Try.func10, Try.ntmps10
  go_wp2_with (go_at_call 31; refine HH.out.mono ?_; rintro e w6 ⟨rfl, hk6⟩; have HK6 := hide1 hk6; have hf := field0 (.pointer (some ⟨q.1, 0, none⟩)) (.int .i64 (q.2.1 : Int)) (.int .i64 (q.2.2 : Int)) w6; clear hk6)
  go_ret
  exact ⟨rfl, HK6.out⟩
theorem offset_is (C base : Nat) (wv : Value) (pre : List (Nat × Nat × Nat)) (q : Nat × Nat × Nat) (w : World) (hC : CurAt w C wv) (hO : SOwn w base wv (pre ++ [q])) (hl : pre.length ≤ 4194304) :
    Calls Try.prog 11 #[.pointer (some ⟨C, 0, none⟩)] w fun e w' => e = .returned (.int .i64 (q.2.1 : Int)) ∧ Kept w w' := by
  have HH := hide1 (here_is C base wv pre q w hC hO hl)
  clear hC hO
  go_enter Try.func11, Try.ntmps11
  go_wp2_with (go_at_call 31; refine HH.out.mono ?_; rintro e w6 ⟨rfl, hk6⟩; have HK6 := hide1 hk6; have hf := field1 (.pointer (some ⟨q.1, 0, none⟩)) (.int .i64 (q.2.1 : Int)) (.int .i64 (q.2.2 : Int)) w6; clear hk6)
  go_ret
  exact ⟨rfl, HK6.out⟩

end Tr
end Ex
end Go.Proofs.Ythpampfbmpdmoaa
