import Derived.Test.YthjagnnbhpfpoaaTabLook
namespace Go.Proofs.Ythjagnnbhpfpoaa
open Go.RowKit
attribute [local go_sem] Oper.semAt_some
namespace Rope

/-- A step makes a rope, or none. -/
def Goes (L L' : List (List Int)) : Prop := L' = L ∨ (L.length < 300 ∧ ∃ xs, L' = L ++ [xs])
theorem Goes.room {L L' : List (List Int)} (h : Goes L L') (hl : L.length ≤ 300) : L'.length ≤ 300 := by
  rcases h with rfl | ⟨h, xs, rfl⟩
  · exact hl
  · rw [List.length_append]; simp; omega
theorem Goes.some {L L' : List (List Int)} (h : Goes L L') (hl : 0 < L.length) : 0 < L'.length := by
  rcases h with rfl | ⟨h, xs, rfl⟩
  · exact hl
  · rw [List.length_append]; omega

theorem step_cells : (Try.prog.info? 53).map (·.size) = some 5 := by kernel_rfl

set_option maxRecDepth 100000 in
set_option maxHeartbeats 8000000 in
theorem make_full {n0 tb : Nat} {S : Nat → Prop} {w : World} {L : List (List Int)} {vP vR vB : Value} {ps rs cs : List Value} (h : Tab n0 S w tb L L vP vR vB ps rs cs) (hn0 : n0 ≤ w.heap.size) (hL : (300 : Int) ≤ (L.length : Int)) (hcs : cs.length ≤ 281474976710656) (kd rr aa bb : Int) (v : Value) :
    Calls Try.prog 44 #[.pointer (some ⟨tb, 0, none⟩), .agg #[.int .i64 kd, .int .i64 rr, .int .i64 aa, .int .i64 bb, v]] w (Made n0 w tb L) := by
  obtain ⟨W0, hW0⟩ : ∃ W0, w.alloc (.cells #[.int .i64 kd, .int .i64 rr, .int .i64 aa, .int .i64 bb, v] 53) = W0 := ⟨_, rfl⟩
  have hk0 : Kept w W0 := hW0 ▸ (Kept.refl w).alloc _ _
  have HK0 := hide1 hk0
  have HT := hide1 (h.kept hk0)
  have s0 : W0.cell? ⟨w.heap.size, 0, none⟩ = some (.int .i64 kd) := by rw [← hW0]; exact box_cell rfl 0 _ rfl
  have s1 : W0.cell? ⟨w.heap.size, 1, none⟩ = some (.int .i64 rr) := by rw [← hW0]; exact box_cell rfl 1 _ rfl
  have s2 : W0.cell? ⟨w.heap.size, 2, none⟩ = some (.int .i64 aa) := by rw [← hW0]; exact box_cell rfl 2 _ rfl
  have s3 : W0.cell? ⟨w.heap.size, 3, none⟩ = some (.int .i64 bb) := by rw [← hW0]; exact box_cell rfl 3 _ rfl
  have HN := hide1 (Nat.le_trans hn0 hk0.size)
  have HN0 := hide1 hn0
  have HC := hide1 hcs
  have c0 := HT.out.cellP
  obtain ⟨aP, cP, rfl⟩ := owns_form h.ownsP
  have q0 := keeps c0
  have q1 := keeps s1
  have q2 := keeps s2
  have q3 := keeps s3
  have q4 := keeps s0
  clear h hn0 hcs hk0
  go_enter Try.func44, Try.ntmps44
  go_wp2
  go_ret
  exact ⟨rfl, cs, HC.out, HK0.out.low HN0.out, HN.out, _, _, _, _, _, _, HT.out⟩

set_option maxRecDepth 100000 in
set_option maxHeartbeats 8000000 in
theorem make_empty {n0 tb : Nat} {S : Nat → Prop} {w : World} {L : List (List Int)} {vP vR vB : Value} {ps rs cs : List Value} (h : Tab n0 S w tb L L vP vR vB ps rs cs) (hn0 : n0 ≤ w.heap.size) (hL : L.length = 0) (hcs : cs.length ≤ 281474976710656) (kd rr aa bb : Int) (v : Value) (hkd : (kd == 1) = false) :
    Calls Try.prog 44 #[.pointer (some ⟨tb, 0, none⟩), .agg #[.int .i64 kd, .int .i64 rr, .int .i64 aa, .int .i64 bb, v]] w (Made n0 w tb L) := by
  obtain ⟨W0, hW0⟩ : ∃ W0, w.alloc (.cells #[.int .i64 kd, .int .i64 rr, .int .i64 aa, .int .i64 bb, v] 53) = W0 := ⟨_, rfl⟩
  have hk0 : Kept w W0 := hW0 ▸ (Kept.refl w).alloc _ _
  have HK0 := hide1 hk0
  have HT := hide1 (h.kept hk0)
  have s0 : W0.cell? ⟨w.heap.size, 0, none⟩ = some (.int .i64 kd) := by rw [← hW0]; exact box_cell rfl 0 _ rfl
  have s1 : W0.cell? ⟨w.heap.size, 1, none⟩ = some (.int .i64 rr) := by rw [← hW0]; exact box_cell rfl 1 _ rfl
  have s2 : W0.cell? ⟨w.heap.size, 2, none⟩ = some (.int .i64 aa) := by rw [← hW0]; exact box_cell rfl 2 _ rfl
  have s3 : W0.cell? ⟨w.heap.size, 3, none⟩ = some (.int .i64 bb) := by rw [← hW0]; exact box_cell rfl 3 _ rfl
  have HN := hide1 (Nat.le_trans hn0 hk0.size)
  have HN0 := hide1 hn0
  have HC := hide1 hcs
  have c0 := HT.out.cellP
  obtain ⟨aP, cP, rfl⟩ := owns_form h.ownsP
  have q0 := keeps c0
  have q1 := keeps s1
  have q2 := keeps s2
  have q3 := keeps s3
  have q4 := keeps s0
  clear h hn0 hcs hk0
  rw [hL] at c0 q0
  go_enter Try.func44, Try.ntmps44
  go_wp2
  go_ret
  exact ⟨rfl, cs, HC.out, HK0.out.low HN0.out, HN.out, _, _, _, _, _, _, HT.out⟩

theorem make_tab {n0 tb : Nat} {S : Nat → Prop} {w : World} {L : List (List Int)} {vP vR vB : Value} {ps rs cs : List Value} (h : Tab n0 S w tb L L vP vR vB ps rs cs) (hn0 : n0 ≤ w.heap.size) (hcs : cs.length ≤ 281474976710656)
    (S' : Nat → Prop) (kd rr aa bb : Int) (v : Value) (is : List Int) (hv : ListAt S' w v is) (hS' : ∀ b, S' b → b < n0) (hn : is.length ≤ 140737488351232) (h1 : 1 ≤ kd) (h4 : kd ≤ 4) :
    Calls Try.prog 44 #[.pointer (some ⟨tb, 0, none⟩), .agg #[.int .i64 kd, .int .i64 rr, .int .i64 aa, .int .i64 bb, v]] w fun e w' => ∃ L', Goes L L' ∧ Made n0 w tb L' e w' := by
  by_cases hL : (300 : Int) ≤ (L.length : Int)
  · exact (make_full h hn0 hL hcs kd rr aa bb v).mono fun e w' h => ⟨L, .inl rfl, h⟩
  · have hl : (L.length : Int) < 300 := by omega
    by_cases k1 : kd = 1
    · subst k1
      by_cases hx : is.length ≤ 16777216
      · exact (make_new h hn0 hl hcs S' rr aa bb v is hv hS' hx).mono fun e w' h => ⟨_, .inr ⟨by omega, _, rfl⟩, h⟩
      · exact (make_long h hn0 hl hcs S' rr aa bb v is hv hS' hn (by omega)).mono fun e w' h => ⟨L, .inl rfl, h⟩
    · by_cases h0 : L.length = 0
      · exact (make_empty h hn0 h0 hcs kd rr aa bb v (by simpa using k1)).mono fun e w' h => ⟨L, .inl rfl, h⟩
      · have hp : (0 : Int) < (L.length : Int) := by omega
        have conv : ∀ {e w'}, (∃ L', (L' = L ∨ ∃ xs, L' = L ++ [xs]) ∧ Made n0 w tb L' e w') → ∃ L', Goes L L' ∧ Made n0 w tb L' e w' := by
          rintro e w' ⟨L', h1 | ⟨xs, h1⟩, h2⟩
          · exact ⟨L', .inl h1, h2⟩
          · exact ⟨L', .inr ⟨by omega, xs, h1⟩, h2⟩
        by_cases k2 : kd = 2
        · subst k2; exact (make_cut h hn0 hp hl hcs rr aa bb v).mono fun e w' h => conv h
        · by_cases k3 : kd = 3
          · subst k3; exact (make_cat h hn0 hp hl hcs rr aa bb v).mono fun e w' h => conv h
          · obtain rfl : kd = 4 := by omega
            exact (make_splice h hn0 hp hl hcs S' rr aa bb v is hv hS' hn).mono fun e w' h => conv h

set_option maxRecDepth 100000 in
set_option maxHeartbeats 8000000 in
theorem step_make {n0 tb : Nat} {S : Nat → Prop} {w : World} {L : List (List Int)} {vP vR vB : Value} {ps rs cs : List Value} (h : Tab n0 S w tb L L vP vR vB ps rs cs) (hn0 : n0 ≤ w.heap.size) (hcs : cs.length ≤ 281474976710656)
    (S' : Nat → Prop) (kd rr aa bb : Int) (v : Value) (is : List Int) (hv : ListAt S' w v is) (hS' : ∀ b, S' b → b < n0) (hn : is.length ≤ 140737488351232) (h1 : 1 ≤ kd) (h4 : kd ≤ 4) :
    Calls Try.prog 24 #[.pointer (some ⟨tb, 0, none⟩), .agg #[.int .i64 kd, .int .i64 rr, .int .i64 aa, .int .i64 bb, v]] w fun e w' => ∃ L', Goes L L' ∧ Made n0 w tb L' e w' := by
  obtain ⟨a, cap, rfl⟩ := hv.form
  have hvv := hv
  obtain ⟨W0, hW0⟩ : ∃ W0, w.alloc (.cells #[.int .i64 kd, .int .i64 rr, .int .i64 aa, .int .i64 bb, .slice a is.length cap] 53) = W0 := ⟨_, rfl⟩
  have hk0 : Kept w W0 := hW0 ▸ (Kept.refl w).alloc _ _
  have HK0 := hide1 hk0
  have HT := hide1 (h.kept hk0)
  have s0 : W0.cell? ⟨w.heap.size, 0, none⟩ = some (.int .i64 kd) := by rw [← hW0]; exact box_cell rfl 0 _ rfl
  have s1 : W0.cell? ⟨w.heap.size, 1, none⟩ = some (.int .i64 rr) := by rw [← hW0]; exact box_cell rfl 1 _ rfl
  have s2 : W0.cell? ⟨w.heap.size, 2, none⟩ = some (.int .i64 aa) := by rw [← hW0]; exact box_cell rfl 2 _ rfl
  have s3 : W0.cell? ⟨w.heap.size, 3, none⟩ = some (.int .i64 bb) := by rw [← hW0]; exact box_cell rfl 3 _ rfl
  have HN := hide1 (Nat.le_trans hn0 hk0.size)
  have HN0 := hide1 hn0
  have HC := hide1 hcs
  have c0 := HT.out.cellP
  obtain ⟨aP, cP, rfl⟩ := owns_form h.ownsP
  have q0 := keeps c0
  have q1 := keeps s1
  have q2 := keeps s2
  have q3 := keeps s3
  have q4 := keeps s0
  clear h hn0 hcs hk0
  have HV := hide1 (hvv.kept HK0.out)
  have s4 : W0.cell? ⟨w.heap.size, 4, none⟩ = some (.slice a is.length cap) := by rw [← hW0]; exact box_cell rfl 4 _ rfl
  have e1 : decide (1 ≤ kd) = true := decide_eq_true h1
  have e4 : decide (kd ≤ 4) = true := decide_eq_true h4
  clear hv hvv
  go_enter Try.func24, Try.ntmps24
  go_wp2_with fail
  refine (make_tab HT.out HN.out HC.out S' kd rr aa bb _ is HV.out hS' hn h1 h4).mono ?_
  rintro e w1 ⟨L', hg, rfl, cs1, hc1, hgr⟩
  have HG := hide1 hg
  have HGR := hide1 hgr
  have HC1 := hide1 hc1
  clear hg hgr hc1
  go_wp2
  go_ret
  exact ⟨L', HG.out, rfl, cs1, HC1.out, (HK0.out.low HN0.out).trans HGR.out.1, HGR.out.2⟩

set_option maxRecDepth 100000 in
set_option maxHeartbeats 8000000 in
theorem step_none {n0 tb : Nat} {S : Nat → Prop} {w : World} {L : List (List Int)} {vP vR vB : Value} {ps rs cs : List Value} (h : Tab n0 S w tb L L vP vR vB ps rs cs) (hn0 : n0 ≤ w.heap.size) (hL : L.length = 0) (hcs : cs.length ≤ 281474976710656) (kd rr aa bb : Int) (v : Value) (hkd : ¬ (1 ≤ kd ∧ kd ≤ 4)) :
    Calls Try.prog 24 #[.pointer (some ⟨tb, 0, none⟩), .agg #[.int .i64 kd, .int .i64 rr, .int .i64 aa, .int .i64 bb, v]] w (Made n0 w tb L) := by
  obtain ⟨W0, hW0⟩ : ∃ W0, w.alloc (.cells #[.int .i64 kd, .int .i64 rr, .int .i64 aa, .int .i64 bb, v] 53) = W0 := ⟨_, rfl⟩
  have hk0 : Kept w W0 := hW0 ▸ (Kept.refl w).alloc _ _
  have HK0 := hide1 hk0
  have HT := hide1 (h.kept hk0)
  have s0 : W0.cell? ⟨w.heap.size, 0, none⟩ = some (.int .i64 kd) := by rw [← hW0]; exact box_cell rfl 0 _ rfl
  have s1 : W0.cell? ⟨w.heap.size, 1, none⟩ = some (.int .i64 rr) := by rw [← hW0]; exact box_cell rfl 1 _ rfl
  have s2 : W0.cell? ⟨w.heap.size, 2, none⟩ = some (.int .i64 aa) := by rw [← hW0]; exact box_cell rfl 2 _ rfl
  have s3 : W0.cell? ⟨w.heap.size, 3, none⟩ = some (.int .i64 bb) := by rw [← hW0]; exact box_cell rfl 3 _ rfl
  have HN := hide1 (Nat.le_trans hn0 hk0.size)
  have HN0 := hide1 hn0
  have HC := hide1 hcs
  have c0 := HT.out.cellP
  obtain ⟨aP, cP, rfl⟩ := owns_form h.ownsP
  have q0 := keeps c0
  have q1 := keeps s1
  have q2 := keeps s2
  have q3 := keeps s3
  have q4 := keeps s0
  clear h hn0 hcs hk0
  rw [hL] at c0 q0
  by_cases h1 : 1 ≤ kd
  · have e1 : decide (1 ≤ kd) = true := decide_eq_true h1
    have e4 : decide (kd ≤ 4) = false := decide_eq_false (by omega)
    go_enter Try.func24, Try.ntmps24
    go_wp2
    go_ret
    exact ⟨rfl, cs, HC.out, HK0.out.low HN0.out, HN.out, _, _, _, _, _, _, HT.out⟩
  · have e1 : decide (1 ≤ kd) = false := decide_eq_false h1
    go_enter Try.func24, Try.ntmps24
    go_wp2
    go_ret
    exact ⟨rfl, cs, HC.out, HK0.out.low HN0.out, HN.out, _, _, _, _, _, _, HT.out⟩

set_option maxRecDepth 100000 in
set_option maxHeartbeats 8000000 in
theorem step_low {n0 tb : Nat} {S : Nat → Prop} {w : World} {L : List (List Int)} {vP vR vB : Value} {ps rs cs : List Value} (h : Tab n0 S w tb L L vP vR vB ps rs cs) (hn0 : n0 ≤ w.heap.size) (hL0 : (0 : Int) < (L.length : Int)) (hL : (L.length : Int) ≤ 300) (hcs : cs.length ≤ 281474976710656) (kd rr aa bb : Int) (v : Value) (hkd : ¬ 1 ≤ kd) :
    Calls Try.prog 24 #[.pointer (some ⟨tb, 0, none⟩), .agg #[.int .i64 kd, .int .i64 rr, .int .i64 aa, .int .i64 bb, v]] w (Made n0 w tb L) := by
  obtain ⟨W0, hW0⟩ : ∃ W0, w.alloc (.cells #[.int .i64 kd, .int .i64 rr, .int .i64 aa, .int .i64 bb, v] 53) = W0 := ⟨_, rfl⟩
  have hk0 : Kept w W0 := hW0 ▸ (Kept.refl w).alloc _ _
  have HK0 := hide1 hk0
  have HT := hide1 (h.kept hk0)
  have s0 : W0.cell? ⟨w.heap.size, 0, none⟩ = some (.int .i64 kd) := by rw [← hW0]; exact box_cell rfl 0 _ rfl
  have s1 : W0.cell? ⟨w.heap.size, 1, none⟩ = some (.int .i64 rr) := by rw [← hW0]; exact box_cell rfl 1 _ rfl
  have s2 : W0.cell? ⟨w.heap.size, 2, none⟩ = some (.int .i64 aa) := by rw [← hW0]; exact box_cell rfl 2 _ rfl
  have s3 : W0.cell? ⟨w.heap.size, 3, none⟩ = some (.int .i64 bb) := by rw [← hW0]; exact box_cell rfl 3 _ rfl
  have HN := hide1 (Nat.le_trans hn0 hk0.size)
  have HN0 := hide1 hn0
  have HC := hide1 hcs
  have c0 := HT.out.cellP
  obtain ⟨aP, cP, rfl⟩ := owns_form h.ownsP
  have q0 := keeps c0
  have q1 := keeps s1
  have q2 := keeps s2
  have q3 := keeps s3
  have q4 := keeps s0
  clear h hn0 hcs hk0
  have hz : ((L.length : Int) == 0) = false := by rw [beq_eq_false_iff_ne]; omega
  have e1 : decide (1 ≤ kd) = false := decide_eq_false hkd
  have e5 : (kd == 5) = false := by rw [beq_eq_false_iff_ne]; omega
  have e6 : (kd == 6) = false := by rw [beq_eq_false_iff_ne]; omega
  go_enter Try.func24, Try.ntmps24
  go_wp2_with fail
  go_region_held3 (fun w' => Kept W0 w') (first | assumption | exact Kept.refl _ | exact gtrans (by assumption) (by assumption))
    ((first | (go_at_call 18; refine (round_kept rr L.length _ (by omega) (by omega)).mono ?_; rintro e w1 ⟨k, rfl, hkl, hk1⟩)))
  have hk01 : Kept W0 w1 := gtrans (drew_kept W0) hk1
  have r0 := q4 w1 hk01
  have HK1 := hide1 hk01
  clear hk1 hk01 q0 q1 q2 q3 q4 s0 s1 s2 s3 c0 hW0
  go_wp2
  go_ret
  exact ⟨rfl, cs, HC.out, (HK0.out.low HN0.out).trans (HK1.out.low HN.out), Nat.le_trans HN.out HK1.out.size, _, _, _, _, _, _, HT.out.kept HK1.out⟩

set_option maxRecDepth 100000 in
set_option maxHeartbeats 8000000 in
theorem step_high {n0 tb : Nat} {S : Nat → Prop} {w : World} {L : List (List Int)} {vP vR vB : Value} {ps rs cs : List Value} (h : Tab n0 S w tb L L vP vR vB ps rs cs) (hn0 : n0 ≤ w.heap.size) (hL0 : (0 : Int) < (L.length : Int)) (hL : (L.length : Int) ≤ 300) (hcs : cs.length ≤ 281474976710656) (kd rr aa bb : Int) (v : Value) (hkd : 6 < kd) :
    Calls Try.prog 24 #[.pointer (some ⟨tb, 0, none⟩), .agg #[.int .i64 kd, .int .i64 rr, .int .i64 aa, .int .i64 bb, v]] w (Made n0 w tb L) := by
  obtain ⟨W0, hW0⟩ : ∃ W0, w.alloc (.cells #[.int .i64 kd, .int .i64 rr, .int .i64 aa, .int .i64 bb, v] 53) = W0 := ⟨_, rfl⟩
  have hk0 : Kept w W0 := hW0 ▸ (Kept.refl w).alloc _ _
  have HK0 := hide1 hk0
  have HT := hide1 (h.kept hk0)
  have s0 : W0.cell? ⟨w.heap.size, 0, none⟩ = some (.int .i64 kd) := by rw [← hW0]; exact box_cell rfl 0 _ rfl
  have s1 : W0.cell? ⟨w.heap.size, 1, none⟩ = some (.int .i64 rr) := by rw [← hW0]; exact box_cell rfl 1 _ rfl
  have s2 : W0.cell? ⟨w.heap.size, 2, none⟩ = some (.int .i64 aa) := by rw [← hW0]; exact box_cell rfl 2 _ rfl
  have s3 : W0.cell? ⟨w.heap.size, 3, none⟩ = some (.int .i64 bb) := by rw [← hW0]; exact box_cell rfl 3 _ rfl
  have HN := hide1 (Nat.le_trans hn0 hk0.size)
  have HN0 := hide1 hn0
  have HC := hide1 hcs
  have c0 := HT.out.cellP
  obtain ⟨aP, cP, rfl⟩ := owns_form h.ownsP
  have q0 := keeps c0
  have q1 := keeps s1
  have q2 := keeps s2
  have q3 := keeps s3
  have q4 := keeps s0
  clear h hn0 hcs hk0
  have hz : ((L.length : Int) == 0) = false := by rw [beq_eq_false_iff_ne]; omega
  have e1 : decide (1 ≤ kd) = true := decide_eq_true (by omega)
  have e4 : decide (kd ≤ 4) = false := decide_eq_false (by omega)
  have e5 : (kd == 5) = false := by rw [beq_eq_false_iff_ne]; omega
  have e6 : (kd == 6) = false := by rw [beq_eq_false_iff_ne]; omega
  go_enter Try.func24, Try.ntmps24
  go_wp2_with fail
  go_region_held3 (fun w' => Kept W0 w') (first | assumption | exact Kept.refl _ | exact gtrans (by assumption) (by assumption))
    ((first | (go_at_call 18; refine (round_kept rr L.length _ (by omega) (by omega)).mono ?_; rintro e w1 ⟨k, rfl, hkl, hk1⟩)))
  have hk01 : Kept W0 w1 := gtrans (drew_kept W0) hk1
  have r0 := q4 w1 hk01
  have HK1 := hide1 hk01
  clear hk1 hk01 q0 q1 q2 q3 q4 s0 s1 s2 s3 c0 hW0
  go_wp2
  go_ret
  exact ⟨rfl, cs, HC.out, (HK0.out.low HN0.out).trans (HK1.out.low HN.out), Nat.le_trans HN.out HK1.out.size, _, _, _, _, _, _, HT.out.kept HK1.out⟩

set_option maxRecDepth 100000 in
set_option maxHeartbeats 8000000 in
theorem step_look {n0 tb : Nat} {S : Nat → Prop} {w : World} {L : List (List Int)} {vP vR vB : Value} {ps rs cs : List Value} (h : Tab n0 S w tb L L vP vR vB ps rs cs) (hn0 : n0 ≤ w.heap.size) (hL0 : (0 : Int) < (L.length : Int)) (hL : (L.length : Int) ≤ 300) (hcs : cs.length ≤ 281474976710656) (rr aa bb : Int) (v : Value) (hbb : bb ≤ 9223372036854775807) :
    Calls Try.prog 24 #[.pointer (some ⟨tb, 0, none⟩), .agg #[.int .i64 5, .int .i64 rr, .int .i64 aa, .int .i64 bb, v]] w (Made n0 w tb L) := by
  obtain ⟨W0, hW0⟩ : ∃ W0, w.alloc (.cells #[.int .i64 5, .int .i64 rr, .int .i64 aa, .int .i64 bb, v] 53) = W0 := ⟨_, rfl⟩
  have hk0 : Kept w W0 := hW0 ▸ (Kept.refl w).alloc _ _
  have HK0 := hide1 hk0
  have HT := hide1 (h.kept hk0)
  have s0 : W0.cell? ⟨w.heap.size, 0, none⟩ = some (.int .i64 5) := by rw [← hW0]; exact box_cell rfl 0 _ rfl
  have s1 : W0.cell? ⟨w.heap.size, 1, none⟩ = some (.int .i64 rr) := by rw [← hW0]; exact box_cell rfl 1 _ rfl
  have s2 : W0.cell? ⟨w.heap.size, 2, none⟩ = some (.int .i64 aa) := by rw [← hW0]; exact box_cell rfl 2 _ rfl
  have s3 : W0.cell? ⟨w.heap.size, 3, none⟩ = some (.int .i64 bb) := by rw [← hW0]; exact box_cell rfl 3 _ rfl
  have HN := hide1 (Nat.le_trans hn0 hk0.size)
  have HN0 := hide1 hn0
  have HC := hide1 hcs
  have c0 := HT.out.cellP
  obtain ⟨aP, cP, rfl⟩ := owns_form h.ownsP
  have q0 := keeps c0
  have q1 := keeps s1
  have q2 := keeps s2
  have q3 := keeps s3
  have q4 := keeps s0
  clear h hn0 hcs hk0
  have hz : ((L.length : Int) == 0) = false := by rw [beq_eq_false_iff_ne]; omega
  go_enter Try.func24, Try.ntmps24
  go_wp2_with fail
  go_region_held3 (fun w' => Kept W0 w') (first | assumption | exact Kept.refl _ | exact gtrans (by assumption) (by assumption))
    ((first | (go_at_call 18; refine (round_kept rr L.length _ (by omega) (by omega)).mono ?_; rintro e w1 ⟨k, rfl, hkl, hk1⟩)))
  have hk01 : Kept W0 w1 := gtrans (drew_kept W0) hk1
  obtain ⟨xs, hxs⟩ : ∃ xs, L[k]? = some xs := ⟨_, List.getElem?_eq_getElem (by omega)⟩
  have HT1 := hide1 (HT.out.kept hk01)
  obtain ⟨gP, cP', bP, eP, hcP, dP, hrP⟩ := HT1.out.atP hxs
  simp only [Value.slice.injEq] at eP
  obtain ⟨rfl, _, rfl⟩ := eP
  obtain ⟨gR, cR, bR, rfl, hcR, dR, hrR⟩ := HT1.out.atR hxs
  have c01 := HT1.out.cellP
  have c11 := HT1.out.cellR
  have r0 := q4 w1 hk01
  have r2 := q2 w1 hk01
  have r3 := q3 w1 hk01
  have HK1 := hide1 hk01
  have HrP := hide1 hrP
  have HrR := hide1 hrR
  clear hk1 hk01 q0 q1 q2 q3 q4 s0 s1 s2 s3 c0 hW0 hrP hrR hxs HT
  have hkr : Kept w1 w1 := Kept.refl w1
  have q0 := keeps c01
  have q1 := keeps dP
  have q2 := keeps r2
  have q3 := keeps r3
  have q5 := keeps c11
  have q6 := keeps dR
  go_wp2_with fail
  go_region_held3 (fun w' => Kept w1 w') (first | assumption | exact Kept.refl _ | exact gtrans (by assumption) (by assumption))
    ((first | (go_at_call 27; refine (look_any S S bP bR xs aa bb _ (HrP.out.kept (by assumption)) (HrR.out.kept (by assumption)) hbb).mono ?_; rintro e w2 ⟨rfl, hk2⟩)))
  all_goals
    have hk12 : Kept w1 w2 := by assumption
    have HK2 := hide1 (gtrans HK1.out hk12)
    have HT2 := hide1 (HT1.out.kept hk12)
    clear hk2 hk12 q0 q1 q2 q3 q5 q6 hkr
    go_wp2
    go_ret
    exact ⟨rfl, cs, HC.out, (HK0.out.low HN0.out).trans (HK2.out.low HN.out), Nat.le_trans HN.out HK2.out.size, _, _, _, _, _, _, HT2.out⟩

theorem equal_is (r o : Value) (xs ys : List Int) (bq : Bool) (hb : decide (xs = ys) = bq) (w : World) (h1 : RopeAt (fun _ => True) w r xs) (h2 : RopeAt (fun _ => True) w o ys) :
    Calls Try.prog 21 #[r, o] w fun e w' => e = .returned (.bool bq) ∧ Kept w w' := by
  subst hb
  exact equal_any r o xs ys w h1 h2
theorem same_is (S S' : Nat → Prop) (u v : Value) (xs ys : List Int) (bq : Bool) (hb : decide (xs = ys) = bq) (w : World) (h1 : ListAt S w u xs) (h2 : ListAt S' w v ys) (hn1 : xs.length ≤ 1000000000) (hn2 : ys.length ≤ 1000000000) :
    Calls Try.prog 22 #[u, v] w fun e w' => e = .returned (.bool bq) ∧ Kept w w' := by
  subst hb
  exact same_any S S' u v xs ys w h1 h2 hn1 hn2
theorem RefAt.cell {S : Nat → Prop} {w : World} {b : Nat} {xs : List Int} (h : RefAt S w (.pointer (some ⟨b, 0, none⟩)) xs) : ∃ a cap, w.cell? ⟨b, 0, none⟩ = some (.slice a xs.length cap) ∧ ListAt S w (.slice a xs.length cap) xs := by
  obtain ⟨b', v, e, _, hc, hl, _⟩ := h
  injection e with e
  injection e with e
  injection e with e
  subst e
  obtain ⟨a, cap, rfl⟩ := lform hl
  exact ⟨a, cap, hc, hl⟩

set_option maxRecDepth 100000 in
set_option maxHeartbeats 8000000 in
theorem step_equal {n0 tb : Nat} {S : Nat → Prop} {w : World} {L : List (List Int)} {vP vR vB : Value} {ps rs cs : List Value} (h : Tab n0 S w tb L L vP vR vB ps rs cs) (hn0 : n0 ≤ w.heap.size) (hL0 : (0 : Int) < (L.length : Int)) (hL : (L.length : Int) ≤ 300) (hcs : cs.length ≤ 281474976710656) (rr aa bb : Int) (v : Value) :
    Calls Try.prog 24 #[.pointer (some ⟨tb, 0, none⟩), .agg #[.int .i64 6, .int .i64 rr, .int .i64 aa, .int .i64 bb, v]] w (Made n0 w tb L) := by
  obtain ⟨W0, hW0⟩ : ∃ W0, w.alloc (.cells #[.int .i64 6, .int .i64 rr, .int .i64 aa, .int .i64 bb, v] 53) = W0 := ⟨_, rfl⟩
  have hk0 : Kept w W0 := hW0 ▸ (Kept.refl w).alloc _ _
  have HK0 := hide1 hk0
  have HT := hide1 (h.kept hk0)
  have s0 : W0.cell? ⟨w.heap.size, 0, none⟩ = some (.int .i64 6) := by rw [← hW0]; exact box_cell rfl 0 _ rfl
  have s1 : W0.cell? ⟨w.heap.size, 1, none⟩ = some (.int .i64 rr) := by rw [← hW0]; exact box_cell rfl 1 _ rfl
  have s2 : W0.cell? ⟨w.heap.size, 2, none⟩ = some (.int .i64 aa) := by rw [← hW0]; exact box_cell rfl 2 _ rfl
  have s3 : W0.cell? ⟨w.heap.size, 3, none⟩ = some (.int .i64 bb) := by rw [← hW0]; exact box_cell rfl 3 _ rfl
  have HN := hide1 (Nat.le_trans hn0 hk0.size)
  have HN0 := hide1 hn0
  have HC := hide1 hcs
  have c0 := HT.out.cellP
  obtain ⟨aP, cP, rfl⟩ := owns_form h.ownsP
  have q0 := keeps c0
  have q1 := keeps s1
  have q2 := keeps s2
  have q3 := keeps s3
  have q4 := keeps s0
  clear h hn0 hcs hk0
  have hz : ((L.length : Int) == 0) = false := by rw [beq_eq_false_iff_ne]; omega
  go_enter Try.func24, Try.ntmps24
  go_wp2_with fail
  go_region_held3 (fun w' => Kept W0 w') (first | assumption | exact Kept.refl _ | exact gtrans (by assumption) (by assumption))
    ((first | (go_at_call 18; refine (round_kept rr L.length _ (by omega) (by omega)).mono ?_; rintro e w1 ⟨k, rfl, hkl, hk1⟩)))
  have hk01 : Kept W0 w1 := gtrans (drew_kept W0) hk1
  have c01 := q0 w1 hk01
  have r0 := q4 w1 hk01
  have r2 := q2 w1 hk01
  have HK1 := hide1 hk01
  clear hk1 q0 q1 q2 q3 q4 c0 s0 s1 s2 s3 hW0 hk01
  have hkr : Kept w1 w1 := Kept.refl w1
  have q0 := keeps c01
  have q2 := keeps r2
  go_wp2_with fail
  go_region_held3 (fun w' => Kept w1 w') (first | assumption | exact Kept.refl _ | exact gtrans (by assumption) (by assumption))
    ((first | (go_at_call 18; refine (round_kept aa L.length _ (by omega) (by omega)).mono ?_; rintro e w2 ⟨j, rfl, hjl, hk2⟩)))
  have hk12 : Kept w1 w2 := by assumption
  have HK2 := hide1 (gtrans HK1.out hk12)
  obtain ⟨xs, hxs⟩ : ∃ xs, L[k]? = some xs := ⟨_, List.getElem?_eq_getElem (by omega)⟩
  obtain ⟨ys, hys⟩ : ∃ ys, L[j]? = some ys := ⟨_, List.getElem?_eq_getElem (by omega)⟩
  obtain ⟨bq, hbq⟩ : ∃ bq, decide (xs = ys) = bq := ⟨_, rfl⟩
  have HT2 := hide1 (HT.out.kept HK2.out)
  obtain ⟨gP, cP', bP, eP, hcP, dP, hrP⟩ := HT2.out.atP hxs
  simp only [Value.slice.injEq] at eP
  obtain ⟨rfl, _, rfl⟩ := eP
  obtain ⟨gP', cP', bQ, eQ, _, dQ, hrQ⟩ := HT2.out.atP hys
  simp only [Value.slice.injEq, Option.some.injEq, Addr.mk.injEq] at eQ
  obtain ⟨⟨rfl, _⟩, _, _⟩ := eQ
  obtain ⟨gR, cR, bR, rfl, hcR, dR, hsR⟩ := HT2.out.atR hxs
  obtain ⟨gR', cR', bT, eT, _, dT, hsT⟩ := HT2.out.atR hys
  simp only [Value.slice.injEq, Option.some.injEq, Addr.mk.injEq] at eT
  obtain ⟨⟨rfl, _⟩, _, _⟩ := eT
  obtain ⟨a1, p1, y1, z1⟩ := hsR.cell
  obtain ⟨a2, p2, y2, z2⟩ := hsT.cell
  have c02 := HT2.out.cellP
  have c12 := HT2.out.cellR
  have HrP : Hid (RopeAt (fun _ => True) w2 (.pointer (some ⟨bP, 0, none⟩)) xs) := hrP.mono (Same.refl _ _) (fun _ _ => trivial)
  have HrQ : Hid (RopeAt (fun _ => True) w2 (.pointer (some ⟨bQ, 0, none⟩)) ys) := hrQ.mono (Same.refl _ _) (fun _ _ => trivial)
  have HZ1 := hide1 z1
  have HZ2 := hide1 z2
  have HBQ := hide1 hbq
  have HX1 : Hid (xs.length ≤ 1000000000) := Nat.le_trans hrP.len (by decide)
  have HX2 : Hid (ys.length ≤ 1000000000) := Nat.le_trans hrQ.len (by decide)
  clear hk2 hk12 HT q0 q2 c01 r2 r0 hrP hrQ hsR hsT HK1 hxs hys hkr hbq z1 z2
  have hkr : Kept w2 w2 := Kept.refl w2
  have q0 := keeps c02
  have q1 := keeps dP
  have q2 := keeps dQ
  have q5 := keeps c12
  have q6 := keeps dR
  have q7 := keeps dT
  have q8 := keeps y1
  have q9 := keeps y2
  go_wp2_with fail
  go_region_held3 (fun w' => Kept w2 w') (first | assumption | exact Kept.refl _ | exact gtrans (by assumption) (by assumption))
    ((first | (go_at_call 21; refine (equal_is _ _ xs ys bq HBQ.out _ (HrP.out.kept (by assumption)) (HrQ.out.kept (by assumption))).mono ?_; rintro e w3 ⟨rfl, hk3⟩) | (go_at_call 22; refine (same_is S S _ _ xs ys bq HBQ.out _ (HZ1.out.kept (by assumption)) (HZ2.out.kept (by assumption)) HX1.out HX2.out).mono ?_; rintro e w4 ⟨rfl, hk4⟩)))
  all_goals
    have hk24 : Kept w2 w4 := by assumption
    have HK4 := hide1 (gtrans HK2.out hk24)
    have HT4 := hide1 (HT2.out.kept hk24)
    clear hk3 hk4 hk24 q0 q1 q2 q5 q6 q7 q8 q9 hkr
    go_wp2
    go_ret
    exact ⟨rfl, cs, HC.out, (HK0.out.low HN0.out).trans (HK4.out.low HN.out), Nat.le_trans HN.out HK4.out.size, _, _, _, _, _, _, HT4.out⟩

theorem step_any {n0 tb : Nat} {S : Nat → Prop} {w : World} {L : List (List Int)} {vP vR vB : Value} {ps rs cs : List Value} (h : Tab n0 S w tb L L vP vR vB ps rs cs) (hn0 : n0 ≤ w.heap.size) (hL : L.length ≤ 300) (hcs : cs.length ≤ 281474976710656)
    (S' : Nat → Prop) (kd rr aa bb : Int) (v : Value) (is : List Int) (hv : ListAt S' w v is) (hS' : ∀ b, S' b → b < n0) (hn : is.length ≤ 140737488351232) (hbb : bb ≤ 9223372036854775807) :
    Calls Try.prog 24 #[.pointer (some ⟨tb, 0, none⟩), .agg #[.int .i64 kd, .int .i64 rr, .int .i64 aa, .int .i64 bb, v]] w fun e w' => ∃ L', Goes L L' ∧ Made n0 w tb L' e w' := by
  by_cases hk : 1 ≤ kd ∧ kd ≤ 4
  · exact step_make h hn0 hcs S' kd rr aa bb v is hv hS' hn hk.1 hk.2
  · by_cases h0 : L.length = 0
    · exact (step_none h hn0 h0 hcs kd rr aa bb v hk).mono fun e w' h => ⟨L, .inl rfl, h⟩
    · have hp : (0 : Int) < (L.length : Int) := by omega
      have hl : (L.length : Int) ≤ 300 := by omega
      by_cases h1 : 1 ≤ kd
      · by_cases h5 : kd = 5
        · subst h5; exact (step_look h hn0 hp hl hcs rr aa bb v hbb).mono fun e w' h => ⟨L, .inl rfl, h⟩
        · by_cases h6 : kd = 6
          · subst h6; exact (step_equal h hn0 hp hl hcs rr aa bb v).mono fun e w' h => ⟨L, .inl rfl, h⟩
          · exact (step_high h hn0 hp hl hcs kd rr aa bb v (by omega)).mono fun e w' h => ⟨L, .inl rfl, h⟩
      · exact (step_low h hn0 hp hl hcs kd rr aa bb v h1).mono fun e w' h => ⟨L, .inl rfl, h⟩

end Rope
end Go.Proofs.Ythjagnnbhpfpoaa
