import Derived.Test.YthjagnnbhpfpoaaTabCat
namespace Go.Proofs.Ythjagnnbhpfpoaa
open Go.RowKit
attribute [local go_sem] Oper.semAt_some
namespace Rope

theorem rsplice_range_kept (S : Nat → Prop) (r : Value) (va : Option Addr) (vn vcap : Nat) (xs : List Int) (f d : Int) (w : World) (h : RefAt S w r xs) (hno : ¬ (0 ≤ f ∧ 0 ≤ d ∧ f ≤ xs.length ∧ d ≤ xs.length - f)) :
    Calls Try.prog 68 #[r, .int .i64 f, .int .i64 d, .slice va vn vcap] w fun e w' => e = .returned (.tuple #[.pointer none, .int .i64 3]) ∧ Kept w w' := by
  refine (rsplice_range S r va vn vcap xs f d w h hno).mono ?_
  rintro e w' ⟨rfl, rfl⟩
  exact ⟨rfl, Kept.refl _⟩
theorem rsplice_long_kept (S : Nat → Prop) (r : Value) (va : Option Addr) (vn vcap : Nat) (xs : List Int) (i k : Nat) (w : World) (h : RefAt S w r xs) (h2 : i + k ≤ xs.length) (hv : vn ≤ 200000000000000) (hn : 16777216 < (xs.length : Int) - k + vn) :
    Calls Try.prog 68 #[r, .int .i64 i, .int .i64 k, .slice va vn vcap] w fun e w' => e = .returned (.tuple #[.pointer none, .int .i64 2]) ∧ Kept w w' := by
  refine (rsplice_long S r va vn vcap xs i k w h h2 hv hn).mono ?_
  rintro e w' ⟨rfl, rfl⟩
  exact ⟨rfl, Kept.refl _⟩

set_option maxRecDepth 100000 in
set_option maxHeartbeats 8000000 in
theorem make_splice {n0 tb : Nat} {S : Nat → Prop} {w : World} {L : List (List Int)} {vP vR vB : Value} {ps rs cs : List Value} (h : Tab n0 S w tb L L vP vR vB ps rs cs) (hn0 : n0 ≤ w.heap.size) (hL0 : (0 : Int) < (L.length : Int)) (hL : (L.length : Int) < 300) (hcs : cs.length ≤ 281474976710656)
    (S' : Nat → Prop) (rr aa bb : Int) (v : Value) (is : List Int) (hv : ListAt S' w v is) (hS' : ∀ b, S' b → b < n0) (hn : is.length ≤ 140737488351232) :
    Calls Try.prog 44 #[.pointer (some ⟨tb, 0, none⟩), .agg #[.int .i64 4, .int .i64 rr, .int .i64 aa, .int .i64 bb, v]] w fun e w' => ∃ L', (L' = L ∨ ∃ xs, L' = L ++ [xs]) ∧ Made n0 w tb L' e w' := by
  obtain ⟨a, cap, rfl⟩ := hv.form
  obtain ⟨W0, hW0⟩ : ∃ W0, w.alloc (.cells #[.int .i64 4, .int .i64 rr, .int .i64 aa, .int .i64 bb, .slice a is.length cap] 53) = W0 := ⟨_, rfl⟩
  have hk0 : Kept w W0 := hW0 ▸ (Kept.refl w).alloc _ _
  have hlt0 : w.heap.size < W0.heap.size := hW0 ▸ box_lt w _
  have HK0 := hide1 hk0
  have HT := hide1 (h.kept hk0)
  have HBN := hide1 h.bufNot
  have htl := h.lt
  have s0 : W0.cell? ⟨w.heap.size, 0, none⟩ = some (.int .i64 4) := by rw [← hW0]; exact box_cell rfl 0 _ rfl
  have s1 : W0.cell? ⟨w.heap.size, 1, none⟩ = some (.int .i64 rr) := by rw [← hW0]; exact box_cell rfl 1 _ rfl
  have s2 : W0.cell? ⟨w.heap.size, 2, none⟩ = some (.int .i64 aa) := by rw [← hW0]; exact box_cell rfl 2 _ rfl
  have s3 : W0.cell? ⟨w.heap.size, 3, none⟩ = some (.int .i64 bb) := by rw [← hW0]; exact box_cell rfl 3 _ rfl
  have s4 : W0.cell? ⟨w.heap.size, 4, none⟩ = some (.slice a is.length cap) := by rw [← hW0]; exact box_cell rfl 4 _ rfl
  have HN := hide1 (Nat.le_trans hn0 hk0.size)
  have HN0 := hide1 hn0
  have HC := hide1 hcs
  have HV := hide1 (hv.kept hk0)
  have HS' := hide1 hS'
  have HY := hide1 hv.byt
  have c0 := HT.out.cellP
  obtain ⟨aP, cP, rfl⟩ := owns_form h.ownsP
  have q0 := keeps c0
  have q1 := keeps s1
  have q2 := keeps s2
  have q3 := keeps s3
  have q4 := keeps s4
  have q5 := keeps s0
  have hz : ((L.length : Int) == 0) = false := by rw [beq_eq_false_iff_ne]; omega
  clear h hn0 hcs hk0 hv hS'
  go_enter Try.func44, Try.ntmps44
  go_wp2_with fail
  go_region_held3 (fun w' => Kept W0 w') (first | assumption | exact Kept.refl _ | exact gtrans (by assumption) (by assumption))
    ((first | (go_at_call 18; refine (round_kept rr L.length _ (by omega) (by omega)).mono ?_; rintro e w1 ⟨k, rfl, hkl, hk1⟩)))
  have hk01 : Kept W0 w1 := gtrans (drew_kept W0) hk1
  have r0 := q5 w1 hk01
  have r2 := q2 w1 hk01
  have r3 := q3 w1 hk01
  have r4 := q4 w1 hk01
  have hsz1 := hk01.size
  have HK1 := hide1 hk01
  have HT1 := hide1 (HT.out.kept hk01)
  have HV1 := hide1 (HV.out.kept hk01)
  have HN1 : Hid (n0 ≤ w1.heap.size) := Nat.le_trans HN.out hk01.size
  clear hk1 q0 q1 q2 q3 q4 q5 c0 s0 s1 s2 s3 s4 hW0 hk01 HV HT
  go_wp2_with fail
  refine (lend_tab HT1.out S' _ is HV1.out HS'.out (by omega) HN1.out HC.out).mono ?_
  rintro e w2 ⟨g, m, S2, cs2, rfl, ht2', hr2', hl2', hm2', hroom, hb2', hg, hmx, hgv, hoth⟩
  have hsb := hoth w.heap.size (by omega) (by omega) HBN.out
  have D2 : w2.cell? ⟨w.heap.size, 2, none⟩ = some (.int .i64 aa) := by rw [World.cell?_of_block (w := w1) (a := ⟨w.heap.size, 2, none⟩) hsb]; exact r2
  have D3 : w2.cell? ⟨w.heap.size, 3, none⟩ = some (.int .i64 bb) := by rw [World.cell?_of_block (w := w1) (a := ⟨w.heap.size, 3, none⟩) hsb]; exact r3
  have D4 : w2.cell? ⟨w.heap.size, 4, none⟩ = some (.slice a is.length cap) := by rw [World.cell?_of_block (w := w1) (a := ⟨w.heap.size, 4, none⟩) hsb]; exact r4
  have HB2 := hide1 (((HK0.out.low HN0.out).trans (HK1.out.low HN.out)).trans hb2')
  have HN2 : Hid (n0 ≤ w2.heap.size) := Nat.le_trans HN0.out HB2.out.size
  have ht2 := hide1 ht2'
  have hr2 := hide1 hr2'
  have hl2 := hide1 hl2'
  have hm2 := hide1 hm2'
  have HV2 := hide1 (low_list HV1.out hb2' HS'.out)
  have HG := hide1 hg
  obtain ⟨xs, hxs⟩ : ∃ xs, L[k]? = some xs := ⟨_, List.getElem?_eq_getElem (by omega)⟩
  obtain ⟨gP, cP', bP, eP, hcP, dP, hrP⟩ := ht2'.atP hxs
  simp only [Value.slice.injEq] at eP
  obtain ⟨rfl, _, rfl⟩ := eP
  obtain ⟨gR, cR, bR, rfl, hcR, dR, hrR⟩ := ht2'.atR hxs
  have c02 := ht2'.cellP
  have c12 := ht2'.cellR
  have HrP : Hid (RopeAt (Up S2 w2.heap.size) w2 (.pointer (some ⟨bP, 0, none⟩)) xs) := hrP.mono (Same.refl _ _) Up.in
  have HrR : Hid (RefAt (Up S2 w2.heap.size) w2 (.pointer (some ⟨bR, 0, none⟩)) xs) := hrR.mono (Same.refl _ _) Up.in
  have HO := hide1 (Open.up S2 w2)
  have hln := hrP.len
  have HLs := hide1 (hr2'.list hm2'.1 HY.out (by omega : is.length ≤ m))
  clear hoth hsb hgv ht2' hr2' hl2' hm2' hb2' hg HT1 HV1 HK0 HK1 r0 r2 r3 r4 hrP hrR hxs hsz1
  have hkr : Kept w2 w2 := Kept.refl w2
  have q0 := keeps c02
  have q1 := keeps dP
  have q2 := keeps D2
  have q3 := keeps D3
  have q4 := keeps D4
  have q5 := keeps c12
  have q6 := keeps dR
  by_cases hin : 0 ≤ aa ∧ 0 ≤ bb ∧ aa ≤ xs.length ∧ bb ≤ xs.length - aa
  · obtain ⟨h0, h1, h2, h3⟩ := hin
    obtain ⟨i, rfl⟩ : ∃ i : Nat, aa = i := ⟨aa.toNat, by omega⟩
    obtain ⟨d, rfl⟩ : ∃ d : Nat, bb = d := ⟨bb.toNat, by omega⟩
    by_cases hfit : (xs.length : Int) - d + is.length ≤ 16777216
    · go_wp2_with fail
      go_region_held3 (fun w' => Kept w2 w') (first | assumption | exact Kept.refl _ | exact gtrans (by assumption) (by assumption))
        ((first | (go_at_call 20; refine (Splice_in (Up S2 w2.heap.size) (fun b => b = g) _ _ xs is i d _ (HrP.out.kept (by assumption)) (HLs.out.kept (by assumption)) (HO.out.grown (by assumption)) (by omega) (by omega) (by omega) hfit).mono ?_; rintro e w3 ⟨p3, rfl, hk3, hp3⟩; obtain ⟨b3, rfl⟩ := hp3.form)))
      have hk23 : Kept w2 w3 := by assumption
      have HK23 := hide1 hk23
      have HP3 := hide1 hp3
      have f2 := q2 w3 hk23
      have f3 := q3 w3 hk23
      have f4 := q4 w3 hk23
      have f5 := q5 w3 hk23
      have f6 := q6 w3 hk23
      clear hk3 hp3 hk23 q0 q1 q2 q3 q4 q5 q6 c02 c12 dP dR D2 D3 D4 hkr
      have hkr : Kept w3 w3 := Kept.refl w3
      have q2 := keeps f2
      have q3 := keeps f3
      have q4 := keeps f4
      have q5 := keeps f5
      have q6 := keeps f6
      go_wp2_with fail
      go_region_held3 (fun w' => Kept w3 w') (first | assumption | exact Kept.refl _ | exact gtrans (by assumption) (by assumption))
        ((first | (go_at_call 68; refine (rsplice_in (Up S2 w2.heap.size) S' _ _ xs is i d _ ((HrR.out.kept HK23.out).kept (by assumption)) ((HV2.out.kept HK23.out).kept (by assumption)) ((HO.out.grown HK23.out).grown (by assumption)) (by omega) hfit).mono ?_; rintro e w4 ⟨b4, rfl, hk4, hq4⟩)))
      have hk34 : Kept w3 w4 := by assumption
      have hk24 := hide1 (gtrans HK23.out hk34)
      have HP4 := hide1 (HP3.out.kept hk34)
      have HQ4 := hide1 hq4
      have e4 := q4 w4 hk34
      clear hk4 hq4 hk34 HP3 q2 q3 q4 q5 q6 f2 f3 f4 f5 f6 hkr
      go_wp2_with fail
      refine (back_any S' g m _ is cs2 _ (hr2.out.kept hk24.out) hl2.out hm2.out (HV2.out.kept hk24.out) hroom (by omega)).mono ?_
      rintro e w5 ⟨rfl, hk5, cs5, hr5, hl5⟩
      obtain ⟨ht5', hs5⟩ := tab_back ht2.out hk24.out hk5 hr5 hl5 HG.out
      have ht5 := hide1 ht5'
      have hsz4 := hk24.out.size
      have hb5 := hide1 ((HB2.out.trans (hk24.out.low HN2.out)).trans (hk5.low HG.out (by have := HN2.out; omega)))
      have HL5 := hide1 hl5
      have HN5 : Hid (n0 ≤ w5.heap.size) := Nat.le_trans HN0.out hb5.out.size
      have HP5 := hide1 (HP4.out.mono hs5 (fun _ h => h))
      have HQ5 := hide1 (HQ4.out.mono hs5 (fun _ h => h))
      clear ht5' hs5 hk5 hr5 hl5 ht2 hr2 hl2 hm2 e4 HP4 HQ4
      go_wp2_with fail
      refine (add_yes ht5.out HN5.out (by omega) b3 b4 (spliced xs is i d) HP5.out HQ5.out).mono ?_
      rintro e w6 ⟨rfl, hgrew'⟩
      have hgrew := hide1 hgrew'
      clear hgrew'
      go_wp2
      go_ret
      exact ⟨L ++ [spliced xs is i d], .inr ⟨_, rfl⟩, rfl, cs5, by rw [HL5.out]; omega, hb5.out.trans hgrew.out.1, hgrew.out.2⟩
    · go_wp2_with fail
      go_region_held3 (fun w' => Kept w2 w') (first | assumption | exact Kept.refl _ | exact gtrans (by assumption) (by assumption))
        ((first | (go_at_call 20; refine (Splice_long (Up S2 w2.heap.size) _ _ _ _ xs i d _ (HrP.out.kept (by assumption)) (by omega) (by omega) (by omega) (by omega)).mono ?_; rintro e w3 ⟨rfl, hk3⟩)))
      have hk23 : Kept w2 w3 := by assumption
      have HK23 := hide1 hk23
      have f2 := q2 w3 hk23
      have f3 := q3 w3 hk23
      have f4 := q4 w3 hk23
      have f5 := q5 w3 hk23
      have f6 := q6 w3 hk23
      clear hk3 hk23 q0 q1 q2 q3 q4 q5 q6 c02 c12 dP dR D2 D3 D4 hkr
      have hkr : Kept w3 w3 := Kept.refl w3
      have q2 := keeps f2
      have q3 := keeps f3
      have q4 := keeps f4
      have q5 := keeps f5
      have q6 := keeps f6
      go_wp2_with fail
      go_region_held3 (fun w' => Kept w3 w') (first | assumption | exact Kept.refl _ | exact gtrans (by assumption) (by assumption))
        ((first | (go_at_call 68; refine (rsplice_long_kept (Up S2 w2.heap.size) _ _ _ _ xs i d _ ((HrR.out.kept HK23.out).kept (by assumption)) (by omega) (by omega) (by omega)).mono ?_; rintro e w4 ⟨rfl, hk4⟩)))
      have hk34 : Kept w3 w4 := by assumption
      have hk24 := hide1 (gtrans HK23.out hk34)
      have e4 := q4 w4 hk34
      clear hk4 hk34 q2 q3 q4 q5 q6 f2 f3 f4 f5 f6 hkr
      go_wp2_with fail
      refine (back_any S' g m _ is cs2 _ (hr2.out.kept hk24.out) hl2.out hm2.out (HV2.out.kept hk24.out) hroom (by omega)).mono ?_
      rintro e w5 ⟨rfl, hk5, cs5, hr5, hl5⟩
      obtain ⟨ht5', hs5⟩ := tab_back ht2.out hk24.out hk5 hr5 hl5 HG.out
      have ht5 := hide1 ht5'
      have hsz4 := hk24.out.size
      have hb5 := hide1 ((HB2.out.trans (hk24.out.low HN2.out)).trans (hk5.low HG.out (by have := HN2.out; omega)))
      have HL5 := hide1 hl5
      have HN5 : Hid (n0 ≤ w5.heap.size) := Nat.le_trans HN0.out hb5.out.size
      clear ht5' hs5 hk5 hr5 hl5 ht2 hr2 hl2 hm2 e4
      go_wp2_with fail
      refine (add_no tb 2 _ rfl).mono ?_
      rintro e w6 ⟨rfl, rfl⟩
      go_wp2
      go_ret
      exact ⟨L, .inl rfl, rfl, cs5, by rw [HL5.out]; omega, hb5.out, HN5.out, _, _, _, _, _, _, ht5.out⟩
  · go_wp2_with fail
    go_region_held3 (fun w' => Kept w2 w') (first | assumption | exact Kept.refl _ | exact gtrans (by assumption) (by assumption))
      ((first | (go_at_call 20; refine (Splice_range (Up S2 w2.heap.size) _ _ _ _ xs aa bb _ (HrP.out.kept (by assumption)) hin).mono ?_; rintro e w3 ⟨rfl, hk3⟩)))
    have hk23 : Kept w2 w3 := by assumption
    have HK23 := hide1 hk23
    have f2 := q2 w3 hk23
    have f3 := q3 w3 hk23
    have f4 := q4 w3 hk23
    have f5 := q5 w3 hk23
    have f6 := q6 w3 hk23
    clear hk3 hk23 q0 q1 q2 q3 q4 q5 q6 c02 c12 dP dR D2 D3 D4 hkr
    have hkr : Kept w3 w3 := Kept.refl w3
    have q2 := keeps f2
    have q3 := keeps f3
    have q4 := keeps f4
    have q5 := keeps f5
    have q6 := keeps f6
    go_wp2_with fail
    go_region_held3 (fun w' => Kept w3 w') (first | assumption | exact Kept.refl _ | exact gtrans (by assumption) (by assumption))
      ((first | (go_at_call 68; refine (rsplice_range_kept (Up S2 w2.heap.size) _ _ _ _ xs aa bb _ ((HrR.out.kept HK23.out).kept (by assumption)) hin).mono ?_; rintro e w4 ⟨rfl, hk4⟩)))
    have hk34 : Kept w3 w4 := by assumption
    have hk24 := hide1 (gtrans HK23.out hk34)
    have e4 := q4 w4 hk34
    clear hk4 hk34 q2 q3 q4 q5 q6 f2 f3 f4 f5 f6 hkr
    go_wp2_with fail
    refine (back_any S' g m _ is cs2 _ (hr2.out.kept hk24.out) hl2.out hm2.out (HV2.out.kept hk24.out) hroom (by omega)).mono ?_
    rintro e w5 ⟨rfl, hk5, cs5, hr5, hl5⟩
    obtain ⟨ht5', hs5⟩ := tab_back ht2.out hk24.out hk5 hr5 hl5 HG.out
    have ht5 := hide1 ht5'
    have hsz4 := hk24.out.size
    have hb5 := hide1 ((HB2.out.trans (hk24.out.low HN2.out)).trans (hk5.low HG.out (by have := HN2.out; omega)))
    have HL5 := hide1 hl5
    have HN5 : Hid (n0 ≤ w5.heap.size) := Nat.le_trans HN0.out hb5.out.size
    clear ht5' hs5 hk5 hr5 hl5 ht2 hr2 hl2 hm2 e4
    go_wp2_with fail
    refine (add_no tb 3 _ rfl).mono ?_
    rintro e w6 ⟨rfl, rfl⟩
    go_wp2
    go_ret
    exact ⟨L, .inl rfl, rfl, cs5, by rw [HL5.out]; omega, hb5.out, HN5.out, _, _, _, _, _, _, ht5.out⟩
end Rope
end Go.Proofs.Ythjagnnbhpfpoaa
