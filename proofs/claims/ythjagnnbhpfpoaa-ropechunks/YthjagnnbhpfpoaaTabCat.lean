import Derived.Test.YthjagnnbhpfpoaaTabView
namespace Go.Proofs.Ythjagnnbhpfpoaa
open Go.RowKit
attribute [local go_sem] Oper.semAt_some
namespace Rope

set_option maxRecDepth 100000 in
set_option maxHeartbeats 4000000 in
theorem small_yes (S : Nat → Prop) (r o : Value) (xs ys : List Int) (w : World) (h : RefAt S w r xs) (ho : RefAt S w o ys) (hs : (xs.length : Int) + (ys.length : Int) ≤ 65536) :
    Calls Try.prog 66 #[r, o] w fun e w' => e = .returned (.bool true) ∧ Kept w w' := by
  obtain ⟨b, v, rfl, _, hc, hl, _⟩ := h
  obtain ⟨d, u, rfl, _, hd, hm, _⟩ := ho
  obtain ⟨a, p, rfl⟩ := lform hl
  obtain ⟨a', q, rfl⟩ := lform hm
  clear hl hm
  go_enter Try.func66, Try.ntmps66
  go_wp2_with fail
  go_region
  all_goals
    go_wp2
    go_ret
    exact ⟨rfl, drew_kept w⟩
set_option maxRecDepth 100000 in
set_option maxHeartbeats 4000000 in
theorem small_no (S : Nat → Prop) (r o : Value) (xs ys : List Int) (w : World) (h : RefAt S w r xs) (ho : RefAt S w o ys) (hs : 65536 < (xs.length : Int) + (ys.length : Int)) :
    Calls Try.prog 66 #[r, o] w fun e w' => e = .returned (.bool false) ∧ Kept w w' := by
  have l1 : (xs.length : Int) ≤ 16777216 := by have := h.len; omega
  have l2 : (ys.length : Int) ≤ 16777216 := by have := ho.len; omega
  obtain ⟨b, v, rfl, _, hc, hl, _⟩ := h
  obtain ⟨d, u, rfl, _, hd, hm, _⟩ := ho
  obtain ⟨a, p, rfl⟩ := lform hl
  obtain ⟨a', q, rfl⟩ := lform hm
  have hsd : decide ((xs.length : Int) + (ys.length : Int) ≤ 65536) = false := decide_eq_false (by omega)
  clear hl hm
  go_enter Try.func66, Try.ntmps66
  go_wp2_with fail
  go_region
  all_goals
    go_wp2
    go_ret
    exact ⟨rfl, drew_kept w⟩

set_option maxRecDepth 100000 in
set_option maxHeartbeats 8000000 in
theorem make_cat {n0 tb : Nat} {S : Nat → Prop} {w : World} {L : List (List Int)} {vP vR vB : Value} {ps rs cs : List Value} (h : Tab n0 S w tb L L vP vR vB ps rs cs) (hn0 : n0 ≤ w.heap.size) (hL0 : (0 : Int) < (L.length : Int)) (hL : (L.length : Int) < 300) (hcs : cs.length ≤ 281474976710656)
    (rr aa bb : Int) (v : Value) :
    Calls Try.prog 44 #[.pointer (some ⟨tb, 0, none⟩), .agg #[.int .i64 3, .int .i64 rr, .int .i64 aa, .int .i64 bb, v]] w fun e w' => ∃ L', (L' = L ∨ ∃ xs, L' = L ++ [xs]) ∧ Made n0 w tb L' e w' := by
  obtain ⟨W0, hW0⟩ : ∃ W0, w.alloc (.cells #[.int .i64 3, .int .i64 rr, .int .i64 aa, .int .i64 bb, v] 53) = W0 := ⟨_, rfl⟩
  have hk0 : Kept w W0 := hW0 ▸ (Kept.refl w).alloc _ _
  have HK0 := hide1 hk0
  have HT := hide1 (h.kept hk0)
  have s0 : W0.cell? ⟨w.heap.size, 0, none⟩ = some (.int .i64 3) := by rw [← hW0]; exact box_cell rfl 0 _ rfl
  have s1 : W0.cell? ⟨w.heap.size, 1, none⟩ = some (.int .i64 rr) := by rw [← hW0]; exact box_cell rfl 1 _ rfl
  have s2 : W0.cell? ⟨w.heap.size, 2, none⟩ = some (.int .i64 aa) := by rw [← hW0]; exact box_cell rfl 2 _ rfl
  have HN := hide1 (Nat.le_trans hn0 hk0.size)
  have HN0 := hide1 hn0
  have HC := hide1 hcs
  have c0 := HT.out.cellP
  obtain ⟨aP, cP, rfl⟩ := owns_form h.ownsP
  have q0 := keeps c0
  have q1 := keeps s1
  have q2 := keeps s2
  have q4 := keeps s0
  have hz : ((L.length : Int) == 0) = false := by rw [beq_eq_false_iff_ne]; omega
  clear h hn0 hcs hk0
  go_enter Try.func44, Try.ntmps44
  go_wp2_with fail
  go_region_held3 (fun w' => Kept W0 w') (first | assumption | exact Kept.refl _ | exact gtrans (by assumption) (by assumption))
    ((first | (go_at_call 18; refine (round_kept rr L.length _ (by omega) (by omega)).mono ?_; rintro e w1 ⟨k, rfl, hkl, hk1⟩)))
  have hk01 : Kept W0 w1 := gtrans (drew_kept W0) hk1
  have c01 := q0 w1 hk01
  have r2 := q2 w1 hk01
  have r0 := q4 w1 hk01
  have HK1 := hide1 hk01
  clear hk1 q0 q1 q2 q4 c0 s0 s1 s2 hW0 hk01
  have hkr : Kept w1 w1 := Kept.refl w1
  have q0 := keeps c01
  have q2 := keeps r2
  go_wp2_with fail
  go_region_held3 (fun w' => Kept w1 w') (first | assumption | exact Kept.refl _ | exact gtrans (by assumption) (by assumption))
    ((first | (go_at_call 18; refine (round_kept aa L.length _ (by omega) (by omega)).mono ?_; rintro e w2 ⟨j, rfl, hjl, hk2⟩)))
  have hk12 : Kept w1 w2 := by assumption
  have HK2 := hide1 (gtrans HK1.out hk12)
  obtain ⟨xs, hxs⟩ : ∃ xs, L[k]? = some xs := ⟨_, List.getElem?_eq_getElem (by omega)⟩
  obtain ⟨ys, hys⟩ : ∃ ys, L[j]? = some ys := ⟨_, List.getElem?_eq_getElem (by omega)⟩
  have HT2 := hide1 (HT.out.kept HK2.out)
  obtain ⟨gP, cP', bP, eP, hcP, dP, hrP⟩ := HT2.out.atP hxs
  simp only [Value.slice.injEq] at eP
  obtain ⟨rfl, _, rfl⟩ := eP
  obtain ⟨gP', cP', bQ, eQ, _, dQ, hrQ⟩ := HT2.out.atP hys
  simp only [Value.slice.injEq, Option.some.injEq, Addr.mk.injEq] at eQ
  obtain ⟨⟨rfl, _⟩, _, _⟩ := eQ
  obtain ⟨gR, cR, bR, rfl, hcR, dR, hsR⟩ := HT2.out.atR hxs
  obtain ⟨gR', cR', bT, eT, _, dT, hsT⟩ := HT2.out.atR hys
  simp only [Value.slice.injEq, Option.some.injEq, Addr.mk.injEq] at eT
  obtain ⟨⟨rfl, _⟩, _, _⟩ := eT
  have c02 := HT2.out.cellP
  have c12 := HT2.out.cellR
  have HrP : Hid (RopeAt (Up S w2.heap.size) w2 (.pointer (some ⟨bP, 0, none⟩)) xs) := hrP.mono (Same.refl _ _) Up.in
  have HrQ : Hid (RopeAt (Up S w2.heap.size) w2 (.pointer (some ⟨bQ, 0, none⟩)) ys) := hrQ.mono (Same.refl _ _) Up.in
  have HsR : Hid (RefAt (Up S w2.heap.size) w2 (.pointer (some ⟨bR, 0, none⟩)) xs) := hsR.mono (Same.refl _ _) Up.in
  have HsT : Hid (RefAt (Up S w2.heap.size) w2 (.pointer (some ⟨bT, 0, none⟩)) ys) := hsT.mono (Same.refl _ _) Up.in
  have HO := hide1 (Open.up S w2)
  have HTw := hide1 HT2.out.wide
  have HB2 := hide1 ((HK0.out.low HN0.out).trans (HK2.out.low HN.out))
  have HN2 : Hid (n0 ≤ w2.heap.size) := Nat.le_trans HN0.out HB2.out.size
  clear hk2 hk12 HT q0 q2 c01 r2 r0 hrP hrQ hsR hsT HK0 HK1 HK2 hxs hys hkr
  have hkr : Kept w2 w2 := Kept.refl w2
  have q0 := keeps c02
  have q1 := keeps dP
  have q2 := keeps dQ
  have q5 := keeps c12
  have q6 := keeps dR
  have q7 := keeps dT
  by_cases hsm : (xs.length : Int) + (ys.length : Int) ≤ 65536
  · go_wp2_with fail
    go_region_held3 (fun w' => Kept w2 w') (first | assumption | exact Kept.refl _ | exact gtrans (by assumption) (by assumption))
      ((first | (go_at_call 66; refine (small_yes (Up S w2.heap.size) _ _ xs ys _ (HsR.out.kept (by assumption)) (HsT.out.kept (by assumption)) hsm).mono ?_; rintro e w3 ⟨rfl, hk3⟩)))
    have hk23 : Kept w2 w3 := by assumption
    have HK23 := hide1 hk23
    have f0 := q0 w3 hk23
    have f1 := q1 w3 hk23
    have f2 := q2 w3 hk23
    have f5 := q5 w3 hk23
    have f6 := q6 w3 hk23
    have f7 := q7 w3 hk23
    clear hk3 hk23 q0 q1 q2 q5 q6 q7 c02 c12 dP dQ dR dT hkr
    have hkr : Kept w3 w3 := Kept.refl w3
    have q0 := keeps f0
    have q1 := keeps f1
    have q2 := keeps f2
    have q5 := keeps f5
    have q6 := keeps f6
    have q7 := keeps f7
    go_wp2_with fail
    go_region_held3 (fun w' => Kept w3 w') (first | assumption | exact Kept.refl _ | exact gtrans (by assumption) (by assumption))
      ((first | (go_at_call 15; refine (Cat_in (Up S w2.heap.size) _ _ xs ys _ ((HrP.out.kept HK23.out).kept (by assumption)) ((HrQ.out.kept HK23.out).kept (by assumption)) ((HO.out.grown HK23.out).grown (by assumption)) (by omega)).mono ?_; rintro e w4 ⟨p4, rfl, hk4, hp4⟩; obtain ⟨b4, rfl⟩ := hp4.form)))
    have hk34 : Kept w3 w4 := by assumption
    have HK24 := hide1 (gtrans HK23.out hk34)
    have HP4 := hide1 hp4
    have e5 := q5 w4 hk34
    have e6 := q6 w4 hk34
    have e7 := q7 w4 hk34
    clear hk4 hp4 hk34 q0 q1 q2 q5 q6 q7 f0 f1 f2 f5 f6 f7 hkr
    have hkr : Kept w4 w4 := Kept.refl w4
    have q5 := keeps e5
    have q6 := keeps e6
    have q7 := keeps e7
    go_wp2_with fail
    go_region_held3 (fun w' => Kept w4 w') (first | assumption | exact Kept.refl _ | exact gtrans (by assumption) (by assumption))
      ((first | (go_at_call 67; refine (rcat_in (Up S w2.heap.size) _ _ xs ys _ ((HsR.out.kept HK24.out).kept (by assumption)) ((HsT.out.kept HK24.out).kept (by assumption)) ((HO.out.grown HK24.out).grown (by assumption)) (by omega)).mono ?_; rintro e w5 ⟨b5, rfl, hk5, hq5⟩)))
    have hk45 : Kept w4 w5 := by assumption
    have hk25 := hide1 (gtrans HK24.out hk45)
    have HP5 := hide1 (HP4.out.kept hk45)
    have HQ5 := hide1 hq5
    have HT5 := hide1 (HTw.out.kept hk25.out)
    have HN5 : Hid (n0 ≤ w5.heap.size) := Nat.le_trans HN2.out hk25.out.size
    clear hk5 hq5 q5 q6 q7 e5 e6 e7 hkr hk45 HP4
    go_wp2_with fail
    refine (add_yes HT5.out HN5.out (by omega) b4 b5 (xs ++ ys) HP5.out HQ5.out).mono ?_
    rintro e w6 ⟨rfl, hgrew'⟩
    have hgrew := hide1 hgrew'
    clear hgrew'
    go_wp2
    go_ret
    exact ⟨L ++ [xs ++ ys], .inr ⟨_, rfl⟩, rfl, cs, HC.out, (HB2.out.trans (hk25.out.low HN2.out)).trans hgrew.out.1, hgrew.out.2⟩
  · go_wp2_with fail
    go_region_held3 (fun w' => Kept w2 w') (first | assumption | exact Kept.refl _ | exact gtrans (by assumption) (by assumption))
      ((first | (go_at_call 66; refine (small_no (Up S w2.heap.size) _ _ xs ys _ (HsR.out.kept (by assumption)) (HsT.out.kept (by assumption)) (by omega)).mono ?_; rintro e w3 ⟨rfl, hk3⟩)))
    have hk23 : Kept w2 w3 := by assumption
    have HK23 := hide1 hk23
    clear hk3 hk23 q0 q1 q2 q5 q6 q7 c02 c12 dP dQ dR dT hkr
    go_wp2
    go_ret
    exact ⟨L, .inl rfl, rfl, cs, HC.out, HB2.out.trans (HK23.out.low HN2.out), Nat.le_trans HN2.out HK23.out.size, _, _, _, _, _, _, HTw.out.kept HK23.out⟩

end Rope
end Go.Proofs.Ythjagnnbhpfpoaa
