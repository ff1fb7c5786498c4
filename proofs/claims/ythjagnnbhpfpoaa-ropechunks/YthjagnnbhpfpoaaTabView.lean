import Derived.Test.YthjagnnbhpfpoaaTabMake
namespace Go.Proofs.Ythjagnnbhpfpoaa
open Go.RowKit
attribute [local go_sem] Oper.semAt_some
namespace Rope

section
variable {n0 tb : Nat} {S : Nat → Prop} {w w' : World} {L M : List (List Int)} {vP vR vB : Value} {ps rs cs : List Value} {xs : List Int}
theorem owns_at {base n k : Nat} {e : TypeId} {v p : Value} {ps : List Value} (h : w.ownsRow base e 1 v n ps) (hp : ps[k]? = some p) : ∃ g c, v = .slice (some ⟨g, 0, none⟩) n c ∧ k < n ∧ n ≤ c ∧ w.cell? ⟨g, k, none⟩ = some p := by
  have hl : ps.length = n := by simpa using h.1
  have hk : k < ps.length := (List.getElem?_eq_some_iff.1 hp).1
  rcases h.2 with ⟨_, rfl⟩ | ⟨g, c, cur, rfl, _, h2, h3, _, _, h6⟩
  · omega
  · refine ⟨g, c, rfl, by omega, h3, ?_⟩
    have e1 : (cur.toList.take (n * 1))[k]? = some p := by rw [h6]; exact hp
    rw [List.getElem?_take, if_pos (by omega)] at e1
    unfold World.cell?
    simp [h2]
    simpa using e1
theorem Tab.atP (h : Tab n0 S w tb L M vP vR vB ps rs cs) {k : Nat} (hk : L[k]? = some xs) : ∃ g c b, vP = .slice (some ⟨g, 0, none⟩) L.length c ∧ L.length ≤ c ∧ w.cell? ⟨g, k, none⟩ = some (.pointer (some ⟨b, 0, none⟩)) ∧ RopeAt S w (.pointer (some ⟨b, 0, none⟩)) xs := by
  have h6 := h.ownsP
  obtain ⟨_, _, _, _, _, _, _, _, _, h10, _⟩ := h
  obtain ⟨p, h1, h2⟩ := h10 k xs hk
  obtain ⟨b, rfl⟩ := h2.form
  obtain ⟨g, c, e, _, hc, hcell⟩ := owns_at h6 h1
  exact ⟨g, c, b, e, hc, hcell, h2⟩
theorem RefAt.form (h : RefAt S w vP xs) : ∃ b, vP = .pointer (some ⟨b, 0, none⟩) := by obtain ⟨b, v, rfl, _⟩ := h; exact ⟨b, rfl⟩
theorem Tab.atR (h : Tab n0 S w tb L M vP vR vB ps rs cs) {k : Nat} (hk : M[k]? = some xs) : ∃ g c b, vR = .slice (some ⟨g, 0, none⟩) M.length c ∧ M.length ≤ c ∧ w.cell? ⟨g, k, none⟩ = some (.pointer (some ⟨b, 0, none⟩)) ∧ RefAt S w (.pointer (some ⟨b, 0, none⟩)) xs := by
  have h7 := h.ownsR
  obtain ⟨_, _, _, _, _, _, _, _, _, _, h11⟩ := h
  obtain ⟨p, h1, h2⟩ := h11 k xs hk
  obtain ⟨b, rfl⟩ := h2.form
  obtain ⟨g, c, e, _, hc, hcell⟩ := owns_at h7 h1
  exact ⟨g, c, b, e, hc, hcell, h2⟩
theorem Tab.grew {n1 : Nat} (h : Tab n0 S w tb L L vP vR vB ps rs cs) (hk : Kept w w') (hn : n0 ≤ w.heap.size) (e : n1 = n0) : Grew n1 w tb L cs w' := by
  subst e
  exact ⟨hk.low hn, Nat.le_trans hn hk.size, _, _, _, _, _, _, h.kept hk⟩
end

theorem rcut_out_kept (S : Nat → Prop) (r : Value) (xs : List Int) (f t : Int) (w : World) (h : RefAt S w r xs) (hno : ¬ (0 ≤ f ∧ f ≤ t ∧ t ≤ xs.length)) :
    Calls Try.prog 65 #[r, .int .i64 f, .int .i64 t] w fun e w' => e = .returned (.tuple #[.pointer none, .int .i64 3]) ∧ Kept w w' := by
  refine (rcut_out S r xs f t w h hno).mono ?_
  rintro e w' ⟨rfl, rfl⟩
  exact ⟨rfl, Kept.refl _⟩
theorem round_kept (k : Int) (n : Nat) (w : World) (hn : 0 < n) (hb : n ≤ 1000000000) :
    Calls Try.prog 18 #[.int .i64 k, .int .i64 n] w fun e w' => ∃ m : Nat, e = .returned (.int .i64 m) ∧ (m : Int) < (n : Int) ∧ Kept w w' := by
  refine (round_any k n w hn hb).mono ?_
  rintro e w' ⟨m, rfl, h, rfl⟩
  exact ⟨m, rfl, by omega, Kept.refl _⟩

set_option maxRecDepth 100000 in
set_option maxHeartbeats 8000000 in
theorem make_long {n0 tb : Nat} {S : Nat → Prop} {w : World} {L : List (List Int)} {vP vR vB : Value} {ps rs cs : List Value} (h : Tab n0 S w tb L L vP vR vB ps rs cs) (hn0 : n0 ≤ w.heap.size) (hL : (L.length : Int) < 300) (hcs : cs.length ≤ 281474976710656)
    (S' : Nat → Prop) (rr aa bb : Int) (v : Value) (xs : List Int) (hv : ListAt S' w v xs) (hS' : ∀ b, S' b → b < n0) (hn : xs.length ≤ 140737488351232) (hn2 : (16777216 : Int) < (xs.length : Int)) :
    Calls Try.prog 44 #[.pointer (some ⟨tb, 0, none⟩), .agg #[.int .i64 1, .int .i64 rr, .int .i64 aa, .int .i64 bb, v]] w (Made n0 w tb L) := by
  obtain ⟨a, cap, rfl⟩ := hv.form
  have HT := hide1 h
  have HV := hide1 hv
  have HY := hide1 hv.byt
  have HS' := hide1 hS'
  have HN := hide1 hn0
  have HC := hide1 hcs
  have c0 := h.cellP
  have htl := h.lt
  obtain ⟨aP, cP, rfl⟩ := owns_form h.ownsP
  clear h hv hS' hn0 hcs
  go_enter Try.func44, Try.ntmps44
  go_wp2_with fail
  refine (lend_tab (HT.out.kept ((Kept.refl w).alloc _ _)) S' _ xs (HV.out.kept ((Kept.refl w).alloc _ _)) HS'.out (by omega) (Nat.le_trans HN.out ((Kept.refl w).alloc _ _).size) HC.out).mono ?_
  rintro e w1 ⟨g, m, S1, cs1, rfl, ht1', hr1', hl1', hm1', hroom, hb1', hg, hmx, hgv, hoth⟩
  have hsb := hoth w.heap.size (box_lt w _) (by omega) HT.out.bufNot
  have D4 := box_cell hsb 4 (.slice a xs.length cap) rfl
  have hb1 := hide1 ((Kept.low ((Kept.refl w).alloc _ _) HN.out).trans hb1')
  have hsz : w.heap.size ≤ w1.heap.size := hb1.out.size
  have ht1 := hide1 ht1'
  have hr1 := hide1 hr1'
  have hl1 := hide1 hl1'
  have hm1 := hide1 hm1'
  have HV1 := hide1 (low_list HV.out hb1.out HS'.out)
  have HG := hide1 hg
  clear hoth hsb hgv ht1' hr1' hl1' hm1' hb1' hg
  go_wp2_with fail
  refine (new_long _ _ _ _ hn2).mono ?_
  rintro e w2 ⟨rfl, rfl⟩
  go_wp2_with fail
  refine (rnew_long _ _ _ _ hn2).mono ?_
  rintro e w3 ⟨rfl, rfl⟩
  go_wp2_with fail
  refine (back_any S' g m _ xs cs1 _ hr1.out hl1.out hm1.out HV1.out hroom (by omega)).mono ?_
  rintro e w4 ⟨rfl, hk4, cs4, hr4, hl4⟩
  obtain ⟨ht4', _⟩ := tab_back ht1.out (Kept.refl _) hk4 hr4 hl4 HG.out
  have ht4 := hide1 ht4'
  have hb4 := hide1 (hb1.out.trans (hk4.low HG.out (by have := HN.out; omega)))
  have HL4 := hide1 hl4
  have HN4 : Hid (n0 ≤ w4.heap.size) := Nat.le_trans HN.out hb4.out.size
  clear ht4' hk4 hr4 hl4 ht1 hr1 hl1 hm1 D4 HV1
  go_wp2_with fail
  refine (add_no tb 2 _ rfl).mono ?_
  rintro e w5 ⟨rfl, rfl⟩
  go_wp2
  go_ret
  exact ⟨rfl, cs4, by rw [HL4.out]; omega, hb4.out, HN4.out, _, _, _, _, _, _, ht4.out⟩

set_option maxRecDepth 100000 in
set_option maxHeartbeats 8000000 in
theorem make_cut {n0 tb : Nat} {S : Nat → Prop} {w : World} {L : List (List Int)} {vP vR vB : Value} {ps rs cs : List Value} (h : Tab n0 S w tb L L vP vR vB ps rs cs) (hn0 : n0 ≤ w.heap.size) (hL0 : (0 : Int) < (L.length : Int)) (hL : (L.length : Int) < 300) (hcs : cs.length ≤ 281474976710656)
    (rr aa bb : Int) (v : Value) :
    Calls Try.prog 44 #[.pointer (some ⟨tb, 0, none⟩), .agg #[.int .i64 2, .int .i64 rr, .int .i64 aa, .int .i64 bb, v]] w fun e w' => ∃ L', (L' = L ∨ ∃ xs, L' = L ++ [xs]) ∧ Made n0 w tb L' e w' := by
  obtain ⟨W0, hW0⟩ : ∃ W0, w.alloc (.cells #[.int .i64 2, .int .i64 rr, .int .i64 aa, .int .i64 bb, v] 53) = W0 := ⟨_, rfl⟩
  have hk0 : Kept w W0 := hW0 ▸ (Kept.refl w).alloc _ _
  have HK0 := hide1 hk0
  have HT := hide1 (h.kept hk0)
  have s0 : W0.cell? ⟨w.heap.size, 0, none⟩ = some (.int .i64 2) := by rw [← hW0]; exact box_cell rfl 0 _ rfl
  have s1 : W0.cell? ⟨w.heap.size, 1, none⟩ = some (.int .i64 rr) := by rw [← hW0]; exact box_cell rfl 1 _ rfl
  have s2 : W0.cell? ⟨w.heap.size, 2, none⟩ = some (.int .i64 aa) := by rw [← hW0]; exact box_cell rfl 2 _ rfl
  have s3 : W0.cell? ⟨w.heap.size, 3, none⟩ = some (.int .i64 bb) := by rw [← hW0]; exact box_cell rfl 3 _ rfl
  have HN := hide1 (Nat.le_trans hn0 hk0.size)
  have HN0 := hide1 hn0
  have HC := hide1 hcs
  have c0 := HT.out.cellP
  obtain ⟨aP, cP, rfl⟩ := owns_form h.ownsP
  have q0 := keeps c0
  have q1 := keeps s1
  have q2 := keeps s2
  have q3 := keeps s3
  have q4 := keeps s0
  have hz : ((L.length : Int) == 0) = false := by rw [beq_eq_false_iff_ne]; omega
  clear h hn0 hcs hk0
  go_enter Try.func44, Try.ntmps44
  go_wp2_with fail
  go_region_held3 (fun w' => Kept W0 w') (first | assumption | exact Kept.refl _ | exact gtrans (by assumption) (by assumption))
    ((first | (go_at_call 18; refine (round_kept rr L.length _ (by omega) (by omega)).mono ?_; rintro e w1 ⟨k, rfl, hkl, hk1⟩)))
  have hk01 : Kept W0 w1 := gtrans (drew_kept W0) hk1
  obtain ⟨xs, hxs⟩ : ∃ xs, L[k]? = some xs := ⟨_, List.getElem?_eq_getElem (by omega)⟩
  have HT1 := hide1 (HT.out.kept hk01)
  obtain ⟨gP, cP', bP, eP, hcP, dP, hrP⟩ := HT1.out.atP hxs
  simp only [Value.slice.injEq] at eP
  obtain ⟨rfl, _, rfl⟩ := eP
  obtain ⟨gR, cR, bR, rfl, hcR, dR, hrR⟩ := HT1.out.atR hxs
  have c01 := HT1.out.cellP
  have c11 := HT1.out.cellR
  have r2 := q2 w1 hk01
  have r3 := q3 w1 hk01
  have r0 := q4 w1 hk01
  have HrP : Hid (RopeAt (Up S w1.heap.size) w1 (.pointer (some ⟨bP, 0, none⟩)) xs) := hrP.mono (Same.refl _ _) Up.in
  have HrR : Hid (RefAt (Up S w1.heap.size) w1 (.pointer (some ⟨bR, 0, none⟩)) xs) := hrR.mono (Same.refl _ _) Up.in
  have HO := hide1 (Open.up S w1)
  have HTw := hide1 HT1.out.wide
  have HB1 := hide1 ((HK0.out.low HN0.out).trans (hk01.low HN.out))
  have HN1 : Hid (n0 ≤ w1.heap.size) := Nat.le_trans HN0.out HB1.out.size
  have hln := hrP.len
  clear hk1 hk01 HT q0 q1 q2 q3 q4 c0 s0 s1 s2 s3 hrP hrR hW0 HK0 hxs
  have hkr : Kept w1 w1 := Kept.refl w1
  have q0 := keeps c01
  have q1 := keeps dP
  have q2 := keeps r2
  have q3 := keeps r3
  have q5 := keeps c11
  have q6 := keeps dR
  by_cases hin : 0 ≤ aa ∧ aa ≤ bb ∧ bb ≤ xs.length
  · obtain ⟨h0, h1, h2⟩ := hin
    obtain ⟨i, rfl⟩ : ∃ i : Nat, aa = i := ⟨aa.toNat, by omega⟩
    obtain ⟨j, rfl⟩ : ∃ j : Nat, bb = j := ⟨bb.toNat, by omega⟩
    go_wp2_with fail
    go_region_held3 (fun w' => Kept w1 w') (first | assumption | exact Kept.refl _ | exact gtrans (by assumption) (by assumption))
      ((first | (go_at_call 17; refine (Cut_in (Up S w1.heap.size) _ xs i j _ (HrP.out.kept (by assumption)) (HO.out.grown (by assumption)) (by omega) (by omega) (by omega)).mono ?_; rintro e w2 ⟨p2, rfl, hk2, hp2⟩; obtain ⟨b2, rfl⟩ := hp2.form)))
    have hk12 : Kept w1 w2 := by assumption
    have HP2 := hide1 hp2
    have g5 := q5 w2 hk12
    have g6 := q6 w2 hk12
    have g2 := q2 w2 hk12
    have g3 := q3 w2 hk12
    have HK12 := hide1 hk12
    clear hk2 hp2 q0 q1 q2 q3 q5 q6 c01 c11 dP dR r2 r3 r0 hkr hk12
    have hkr : Kept w2 w2 := Kept.refl w2
    have q5 := keeps g5
    have q6 := keeps g6
    have q2 := keeps g2
    have q3 := keeps g3
    go_wp2_with fail
    go_region_held3 (fun w' => Kept w2 w') (first | assumption | exact Kept.refl _ | exact gtrans (by assumption) (by assumption))
      ((first | (go_at_call 65; refine (rcut_in (Up S w1.heap.size) _ xs i j _ ((HrR.out.kept HK12.out).kept (by assumption)) ((HO.out.grown HK12.out).grown (by assumption)) (by omega) (by omega)).mono ?_; rintro e w3 ⟨b3, rfl, hk3, hq3⟩)))
    have hk23 : Kept w2 w3 := by assumption
    have hk13 := hide1 (gtrans HK12.out hk23)
    have HP3 := hide1 (HP2.out.kept hk23)
    have HQ3 := hide1 hq3
    have HT3 := hide1 (HTw.out.kept hk13.out)
    have HN3 : Hid (n0 ≤ w3.heap.size) := Nat.le_trans HN1.out hk13.out.size
    clear hk3 hq3 q5 q6 q2 q3 g5 g6 g2 g3 hkr hk23 HP2
    go_wp2_with fail
    refine (add_yes HT3.out HN3.out (by omega) b2 b3 (span xs i j) HP3.out HQ3.out).mono ?_
    rintro e w4 ⟨rfl, hgrew'⟩
    have hgrew := hide1 hgrew'
    clear hgrew'
    go_wp2
    go_ret
    exact ⟨L ++ [span xs i j], .inr ⟨_, rfl⟩, rfl, cs, HC.out, (HB1.out.trans (hk13.out.low HN1.out)).trans hgrew.out.1, hgrew.out.2⟩
  · go_wp2_with fail
    go_region_held3 (fun w' => Kept w1 w') (first | assumption | exact Kept.refl _ | exact gtrans (by assumption) (by assumption))
      ((first | (go_at_call 17; refine (Cut_out (Up S w1.heap.size) _ xs aa bb _ (HrP.out.kept (by assumption)) hin).mono ?_; rintro e w2 ⟨rfl, hk2⟩)))
    have hk12 : Kept w1 w2 := by assumption
    have g5 := q5 w2 hk12
    have g6 := q6 w2 hk12
    have g2 := q2 w2 hk12
    have g3 := q3 w2 hk12
    have HK12 := hide1 hk12
    clear hk2 q0 q1 q2 q3 q5 q6 c01 c11 dP dR r2 r3 r0 hkr hk12
    have hkr : Kept w2 w2 := Kept.refl w2
    have q5 := keeps g5
    have q6 := keeps g6
    have q2 := keeps g2
    have q3 := keeps g3
    go_wp2_with fail
    go_region_held3 (fun w' => Kept w2 w') (first | assumption | exact Kept.refl _ | exact gtrans (by assumption) (by assumption))
      ((first | (go_at_call 65; refine (rcut_out_kept (Up S w1.heap.size) _ xs aa bb _ ((HrR.out.kept HK12.out).kept (by assumption)) hin).mono ?_; rintro e w3 ⟨rfl, hk3⟩)))
    have hk23 : Kept w2 w3 := by assumption
    have hk13 := hide1 (gtrans HK12.out hk23)
    have HT3 := hide1 (HTw.out.kept hk13.out)
    have HN3 : Hid (n0 ≤ w3.heap.size) := Nat.le_trans HN1.out hk13.out.size
    clear hk3 q5 q6 q2 q3 g5 g6 g2 g3 hkr hk23
    go_wp2_with fail
    refine (add_no tb 3 _ rfl).mono ?_
    rintro e w4 ⟨rfl, rfl⟩
    go_wp2
    go_ret
    exact ⟨L, .inl rfl, rfl, cs, HC.out, HB1.out.trans (hk13.out.low HN1.out), HN3.out, _, _, _, _, _, _, HT3.out⟩

end Rope
end Go.Proofs.Ythjagnnbhpfpoaa
