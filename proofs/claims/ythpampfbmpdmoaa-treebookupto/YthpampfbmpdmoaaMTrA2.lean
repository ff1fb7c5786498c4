import Derived.Test.YthpampfbmpdmoaaTrA1
namespace Go.Proofs.Ythpampfbmpdmoaa
open Go.RowKit
attribute [local go_sem] Oper.semAt_some
namespace Ex
namespace Tr

theorem new3k {u W w2 : World} {x0 x1 x2 : Value} {t : TypeId} (hu : W.heap.size = u.heap.size) (hk : Kept (W.alloc (.cells #[x0, x1, x2] t)) w2) : w2.cell? ⟨u.heap.size, 0, none⟩ = some x0 ∧ w2.cell? ⟨u.heap.size, 1, none⟩ = some x1 ∧ w2.cell? ⟨u.heap.size, 2, none⟩ = some x2 ∧ w2.frozen? ⟨u.heap.size, 0, none⟩ = false ∧ w2.frozen? ⟨u.heap.size, 1, none⟩ = false ∧ w2.frozen? ⟨u.heap.size, 2, none⟩ = false ∧ u.heap.size < w2.heap.size := by
  have h := World.alloc_heap_new W (.cells #[x0, x1, x2] t)
  have hl : W.heap.size < (W.alloc (.cells #[x0, x1, x2] t)).heap.size := by simp
  have h2 := (hk.2.2.2.2 W.heap.size hl).trans h
  rw [hu] at h2
  refine ⟨?_, ?_, ?_, ?_, ?_, ?_, (Array.getElem?_eq_some_iff.1 h2).1⟩
  · simp [World.cell?, h2]
  · simp [World.cell?, h2]
  · simp [World.cell?, h2]
  · simp [World.frozen?, h2]
  · simp [World.frozen?, h2]
  · simp [World.frozen?, h2]
-- NEW
theorem new3h {u W w2 : World} {x0 x1 x2 : Value} {t : TypeId} (hu : W.heap.size = u.heap.size) (hk : Kept (W.alloc (.cells #[x0, x1, x2] t)) w2) : w2.heap[u.heap.size]? = some (.cells #[x0, x1, x2] t (0, 0)) := by
  have h := World.alloc_heap_new W (.cells #[x0, x1, x2] t)
  have hl : W.heap.size < (W.alloc (.cells #[x0, x1, x2] t)).heap.size := by simp
  have h2 := (hk.2.2.2.2 W.heap.size hl).trans h
  rw [hu] at h2
  exact h2
theorem but3o (g o : Nat) (w : World) (x0 x1 x2 : Value) : KeptBut g w (((w.setCell ⟨g, o, none⟩ x0).setCell ⟨g, o + 1, none⟩ x1).setCell ⟨g, o + 2, none⟩ x2) :=
  ((setCell_but _ _ _ _).trans (setCell_but _ _ _ _)).trans (setCell_but _ _ _ _)
theorem setCell_row {w : World} {g : Nat} {cur : Array Value} {t : TypeId} (h : w.heap[g]? = some (.cells cur t (0, 0))) (o : Nat) (v : Value) : (w.setCell ⟨g, o, none⟩ v).heap[g]? = some (.cells (cur.setIfInBounds o v) t (0, 0)) := by
  have hl := (Array.getElem?_eq_some_iff.1 h).1
  have he := Option.some.inj ((Array.getElem?_eq_getElem hl).symm.trans h)
  simp [World.setCell, Array.getElem_modify, hl, he]
theorem stand_cells {w : World} {base g n cap t : Nat} {wy : List (Nat × Nat × Nat)} (h : SOwn w base (.slice (some ⟨g, 0, none⟩) n cap) wy) (ht : t < wy.length) : ∃ v0 v1 v2, w.cell? ⟨g, t * 3, none⟩ = some v0 ∧ w.cell? ⟨g, t * 3 + 1, none⟩ = some v1 ∧ w.cell? ⟨g, t * 3 + 2, none⟩ = some v2 ∧ w.frozen? ⟨g, t * 3, none⟩ = false ∧ w.frozen? ⟨g, t * 3 + 1, none⟩ = false ∧ w.frozen? ⟨g, t * 3 + 2, none⟩ = false := by
  rcases h.2 with ⟨e, _⟩ | ⟨g', cap', cur, e, hb, hg, hc, hm, hsz, hx⟩
  · cases e
  · injection e with e1 e2 e3
    injection e1 with e1
    injection e1 with e1
    subst e1 e3
    have hl : t * 3 + 2 < cur.size := by omega
    refine ⟨cur[t * 3], cur[t * 3 + 1], cur[t * 3 + 2], ?_, ?_, ?_, ?_, ?_, ?_⟩
    · simp only [World.cell?, hg]
      exact Array.getElem?_eq_getElem (by omega)
    · simp only [World.cell?, hg]
      exact Array.getElem?_eq_getElem (by omega)
    · simp only [World.cell?, hg]
      exact Array.getElem?_eq_getElem (by omega)
    · simp [World.frozen?, hg]
    · simp [World.frozen?, hg]
    · simp [World.frozen?, hg]
theorem SOwn.turn {w : World} {base g n cap t : Nat} {pre : List (Nat × Nat × Nat)} {q q' : Nat × Nat × Nat} (ht : pre.length = t) (h : SOwn w base (.slice (some ⟨g, 0, none⟩) n cap) (pre ++ [q])) : SOwn (((w.setCell ⟨g, t * 3, none⟩ (.pointer (some ⟨q'.1, 0, none⟩))).setCell ⟨g, t * 3 + 1, none⟩ (.int .i64 (q'.2.1 : Int))).setCell ⟨g, t * 3 + 2, none⟩ (.int .i64 (q'.2.2 : Int))) base (.slice (some ⟨g, 0, none⟩) n cap) (pre ++ [q']) := by
  rcases h.2 with ⟨e, _⟩ | ⟨g', cap', cur, e, hb, hg, hc, hm, hsz, hx⟩
  · cases e
  · injection e with e1 e2 e3
    injection e1 with e1
    injection e1 with e1
    subst e1 e3
    have h3 := setCell_row (setCell_row (setCell_row hg (t * 3) (.pointer (some ⟨q'.1, 0, none⟩))) (t * 3 + 1) (.int .i64 (q'.2.1 : Int))) (t * 3 + 2) (.int .i64 (q'.2.2 : Int))
    have hlen : (pre ++ [q]).length = t + 1 := by simp [ht]
    have hlen' : (pre ++ [q']).length = t + 1 := by simp [ht]
    rw [hlen] at hx hc e2
    refine ⟨by rw [flatS_len], Or.inr ⟨g, cap, _, by rw [hlen', e2], hb, h3, by rw [hlen']; exact hc, hm, by simpa using hsz, ?_⟩⟩
    · rw [hlen', flatS_app]
      rw [flatS_app] at hx
      have hfl : (flatS pre).length = t * 3 := by rw [flatS_len, ht]
      have hcl : (t + 1) * 3 ≤ cur.toList.length := by rw [Array.length_toList]; omega
      have hpre : cur.toList.take (t * 3) = flatS pre := by
        have h1 := congrArg (List.take (t * 3)) hx
        rw [List.take_take, Nat.min_eq_left (by omega), ← hfl, List.take_left'] at h1
        · rw [hfl] at h1
          exact h1
        · rfl
      simp only [Array.toList_setIfInBounds]
      refine List.ext_getElem? fun k => ?_
      rw [List.getElem?_take]
      by_cases hk : k < (t + 1) * 3
      · rw [if_pos hk]
        by_cases hk1 : k < t * 3
        · rw [List.getElem?_set_ne (by omega), List.getElem?_set_ne (by omega), List.getElem?_set_ne (by omega), List.getElem?_append_left (by rw [hfl]; exact hk1), ← hpre, List.getElem?_take, if_pos hk1]
        · rw [List.getElem?_append_right (by rw [hfl]; omega), hfl]
          rcases (by omega : k = t * 3 ∨ k = t * 3 + 1 ∨ k = t * 3 + 2) with rfl | rfl | rfl
          · rw [List.getElem?_set_ne (by omega), List.getElem?_set_ne (by omega), List.getElem?_set_self (by omega)]
            simp
          · rw [List.getElem?_set_ne (by omega), List.getElem?_set_self (by simp; omega)]
            simp
          · rw [List.getElem?_set_self (by simp; omega)]
            simp
      · rw [if_neg hk, List.getElem?_eq_none (by rw [List.length_append, hfl]; simp; omega)]
-- WEN
set_option linter.unusedSimpArgs false in
set_option maxRecDepth 100000 in
set_option maxHeartbeats 4000000 in
theorem aside_no (B C base : Nat) (wv : Value) (pre : List (Nat × Nat × Nat)) (p q : Nat × Nat × Nat) (x : Nd) (by_ : Int) (w : World) (hC : CurAt w C wv) (hO : SOwn w base wv (pre ++ [p, q])) (hl : pre.length ≤ 4194303) (hN : NodeAt B w p.1 x) (hb : by_ = 1 ∨ by_ = -1) (hq : q.2.2 ≤ 4194304) (hi : (q.2.2 : Int) + by_ < 0 ∨ (x.kids.length : Int) ≤ (q.2.2 : Int) + by_) :
    Calls Try.prog 48 #[.pointer (some ⟨C, 0, none⟩), .int .i64 by_] w fun e w' => e = .returned (.bool false) ∧ Kept w w' := by
  obtain ⟨m, hm⟩ : ∃ m, pre.length = m := ⟨_, rfl⟩
  have hlen : (pre ++ [p, q]).length = m + 1 + 1 := by simp [hm]
  obtain ⟨g, cap, hwv, hbg, hgl, hcap, p0, p1, p2⟩ := hO.cellsAt (i := m) (q := p) (by rw [← hm]; simp)
  obtain ⟨g', cap', hwv', _, _, _, q0, q1, q2⟩ := hO.cellsAt (i := m + 1) (q := q) (by rw [← hm]; simp)
  rw [hwv'] at hwv
  injection hwv with e1 e2 e3
  injection e1 with e1
  injection e1 with e1
  subst e1 e3
  rw [hlen] at hwv' hcap
  subst hwv'
  clear e2
  obtain ⟨c0, cz⟩ := hC.cells
  have HAT := hide1 (atTop_is C (some ⟨g', 0, none⟩) (m + 1 + 1) cap' w hC (by omega))
  have HCH := hide1 (fun w hN => child_no B p x ((q.2.2 : Int) + by_) w hN hi)
  have HN := hide1 hN
  have hmI : (m : Int) ≤ 4194303 := by omega
  have hcI : (m : Int) + 2 ≤ (cap' : Int) := by omega
  have hqI : (q.2.2 : Int) ≤ 4194304 := by omega
  have hbI : by_ ≤ 1 := by omega
  have hbI2 : -1 ≤ by_ := by omega
  obtain ⟨t, ht⟩ : ∃ t, m + 1 = t := ⟨_, rfl⟩
  rw [ht] at HAT c0 hcap q0 q1 q2
  have HTE := hide1 ht
  have hm' : m < t := by omega
  have ht4 : t ≤ 4194304 := by omega
  obtain ⟨pa, pb, pc⟩ := p
  obtain ⟨qa, qb, qc⟩ := q
  dsimp only at HCH HN p0 p1 p2 q0 q1 q2 hqI hi ⊢
  have e0 : (((t + 1 : Nat) : Int) == 1) = false := by simp; omega
  rw [e0] at HAT
  have htI : (t : Int) ≤ 4194304 := by omega
  have hx5 : IntKind.i64.wrap ((t : Int) - 1) = (m : Int) := by rw [IntKind.wrap_i64]; omega
  have hx6 : IntKind.i64.wrap ((qc : Int) + by_) = (qc : Int) + by_ := by rw [IntKind.wrap_i64]; omega
  have hmt : (m : Int) < (t : Int) + 1 := by omega
  have hmt2 : (m : Int) < (t : Int) := by omega
  have hmt3 : (t : Int) < (t : Int) + 1 := by omega
  clear hC hO hN hlen hm e0 ht
  go_enter Try.func48, Try.ntmps48
  go_wp2_with (go_at_call 47; refine HAT.out.mono ?_; rintro e w1 ⟨rfl, hw1⟩; have hw1 := hw1.symm; subst hw1)
  have k0 := keeps c0
  have k1 := keeps p0
  have k2 := keeps p1
  have k3 := keeps p2
  have k4 := keeps q2
  clear c0 p0 p1 p2 q0 q1 q2 cz
  have HCA := hide1 (HCH.out (w.drew.alloc (.cells #[.pointer none, .int .i64 0, .int .i64 0] 76)) (HN.out.keep ((drew_kept _).alloc _ _)))
  have HCB := hide1 (HCH.out w.drew (HN.out.keep (drew_kept _)))
  go_region_held3 (fun W => Kept w W) (first | assumption | exact Kept.refl _ | exact drew_kept _ | exact gtrans (by assumption) (drew_kept _) | exact (Kept.refl _).alloc _ _ | exact (drew_kept _).alloc _ _ | exact Kept.alloc (by assumption) _ _ | exact KeptBut.new (by assumption) (but3 _ _ _ _ _) (Nat.le_refl _) | exact KeptBut.new (by assumption) (but3 _ _ _ _ _) (Kept.size (by assumption)))
    ((first
      | (go_at_call 45; refine HCA.out.mono ?_; rintro e w2 ⟨rfl, hk2⟩; have kk2 : Kept w w2 := gtrans ((drew_kept _).alloc _ _) hk2; have yy := new3k (u := w) rfl hk2; obtain ⟨y0, y1, y2, y3, y4, y5, y6⟩ := yy)
      | (go_at_call 45; refine HCB.out.mono ?_; rintro e w2 ⟨rfl, hk2⟩; have kk2 : Kept w w2 := gtrans (drew_kept _) hk2)))
  all_goals
    have HKF := hide1 (show Kept w _ by assumption)
    go_wp2_with fail
    go_ret
    exact ⟨rfl, by assumption⟩


end Tr
end Ex
end Go.Proofs.Ythpampfbmpdmoaa
namespace Go.Proofs.Ythpampfbmpdmoaa
open Go.RowKit
attribute [local go_sem] Oper.semAt_some
namespace Ex
namespace Tr

set_option linter.unusedSimpArgs false in
set_option maxRecDepth 100000 in
set_option maxHeartbeats 4000000 in
theorem aside_yes (B C base : Nat) (wv : Value) (pre : List (Nat × Nat × Nat)) (p q : Nat × Nat × Nat) (x : Nd) (by_ : Int) (w : World) (hC : CurAt w C wv) (hO : SOwn w base wv (pre ++ [p, q])) (hl : pre.length ≤ 4194303) (hN : NodeAt B w p.1 x) (hb : by_ = 1 ∨ by_ = -1) (hq : q.2.2 ≤ 4194304) (i : Nat) (k : Nat × Nat) (hie : (q.2.2 : Int) + by_ = (i : Int)) (hi : x.kids[i]? = some k) (hCb : ∀ d, wv.ownBlock = some d → d ≠ C) (hpb : p.2.1 ≤ 2305843009213693952) (hkb : k.2 ≤ 2305843009213693952) :
    Calls Try.prog 48 #[.pointer (some ⟨C, 0, none⟩), .int .i64 by_] w fun e w' => e = .returned (.bool true) ∧ CurAt w' C wv ∧ SOwn w' base wv (pre ++ [p, (k.1, p.2.1 + k.2, i)]) ∧ TK C wv.ownBlock w w' := by
  obtain ⟨m, hm⟩ : ∃ m, pre.length = m := ⟨_, rfl⟩
  have hlen : (pre ++ [p, q]).length = m + 1 + 1 := by simp [hm]
  obtain ⟨g, cap, hwv, hbg, hgl, hcap, p0, p1, p2⟩ := hO.cellsAt (i := m) (q := p) (by rw [← hm]; simp)
  obtain ⟨g', cap', hwv', _, _, _, q0, q1, q2⟩ := hO.cellsAt (i := m + 1) (q := q) (by rw [← hm]; simp)
  rw [hwv'] at hwv
  injection hwv with e1 e2 e3
  injection e1 with e1
  injection e1 with e1
  subst e1 e3
  rw [hlen] at hwv' hcap
  subst hwv'
  clear e2
  obtain ⟨c0, cz⟩ := hC.cells
  have HAT := hide1 (atTop_is C (some ⟨g', 0, none⟩) (m + 1 + 1) cap' w hC (by omega))
  have HCH := hide1 (fun w hN => child_is B p x i k w hN hi hpb hkb)
  have HN := hide1 hN
  have hmI : (m : Int) ≤ 4194303 := by omega
  have hcI : (m : Int) + 2 ≤ (cap' : Int) := by omega
  have hqI : (q.2.2 : Int) ≤ 4194304 := by omega
  have hbI : by_ ≤ 1 := by omega
  have hbI2 : -1 ≤ by_ := by omega
  obtain ⟨t, ht⟩ : ∃ t, m + 1 = t := ⟨_, rfl⟩
  rw [ht] at HAT c0 hcap q0 q1 q2
  have HTE := hide1 ht
  have hm' : m < t := by omega
  have ht4 : t ≤ 4194304 := by omega
  obtain ⟨pa, pb, pc⟩ := p
  obtain ⟨qa, qb, qc⟩ := q
  obtain ⟨ka, kb⟩ := k
  have HOO := hide1 hO
  have HCC := hide1 hC
  obtain ⟨na, hna⟩ : ∃ na, pb + kb = na := ⟨_, rfl⟩
  dsimp only at HCH HN p0 p1 p2 q0 q1 q2 hqI hi hie HOO ⊢
  simp only [hna] at HCH ⊢
  rw [ht] at HOO HCC ⊢
  have e0 : (((t + 1 : Nat) : Int) == 1) = false := by simp; omega
  rw [e0] at HAT
  have htI : (t : Int) ≤ 4194304 := by omega
  have hx5 : IntKind.i64.wrap ((t : Int) - 1) = (m : Int) := by rw [IntKind.wrap_i64]; omega
  have hx6 : IntKind.i64.wrap ((qc : Int) + by_) = (i : Int) := by rw [IntKind.wrap_i64]; omega
  have hmt : (m : Int) < (t : Int) + 1 := by omega
  have hmt2 : (m : Int) < (t : Int) := by omega
  have hmt3 : (t : Int) < (t : Int) + 1 := by omega
  have hCl := hC.lt
  have hCg : C ≠ g' := fun e => hCb g' rfl e.symm
  have HM := hide1 hm
  clear hC hO hN hlen hm e0 ht hna hie hi hpb hkb
  go_enter Try.func48, Try.ntmps48
  go_wp2_with (go_at_call 47; refine HAT.out.mono ?_; rintro e w1 ⟨rfl, hw1⟩; have hw1 := hw1.symm; subst hw1)
  have HC0 := hide1 c0
  have k0 := keeps c0
  have k1 := keeps p0
  have k2 := keeps p1
  have k3 := keeps p2
  have k4 := keeps q2
  clear c0 p0 p1 p2 q0 q1 q2 cz
  have HCA := hide1 (HCH.out (w.drew.alloc (.cells #[.pointer none, .int .i64 0, .int .i64 0] 76)) (HN.out.keep ((drew_kept _).alloc _ _)))
  have HCB := hide1 (HCH.out w.drew (HN.out.keep (drew_kept _)))
  go_region_held3 (fun W => Kept w W) (first | assumption | exact Kept.refl _ | exact drew_kept _ | exact gtrans (by assumption) (drew_kept _) | exact (Kept.refl _).alloc _ _ | exact (drew_kept _).alloc _ _ | exact Kept.alloc (by assumption) _ _ | exact KeptBut.new (by assumption) (but3 _ _ _ _ _) (Nat.le_refl _) | exact KeptBut.new (by assumption) (but3 _ _ _ _ _) (Kept.size (by assumption)))
    ((first
      | (go_at_call 45; refine HCA.out.mono ?_; rintro e w2 ⟨rfl, hk2⟩; have kk2 : Kept w w2 := gtrans ((drew_kept _).alloc _ _) hk2; have yy := new3k (u := w) rfl hk2; obtain ⟨y0, y1, y2, y3, y4, y5, y6⟩ := yy; have yh := new3h (u := w) rfl hk2)
      | (go_at_call 45; refine HCB.out.mono ?_; rintro e w2 ⟨rfl, hk2⟩; have kk2 : Kept w w2 := gtrans (drew_kept _) hk2)))
  · obtain ⟨W9, hW9⟩ : ∃ W9, w2.alloc (.cells #[.pointer (some ⟨ka, 0, none⟩), .int .i64 (na : Int), .int .i64 (i : Int)] 76) = W9 := ⟨_, rfl⟩
    have HK9 : Hid (Kept w W9) := by rw [← hW9]; assumption
    have HX9 : Hid (W9.heap[w2.heap.size]? = some (.cells #[.pointer (some ⟨ka, 0, none⟩), .int .i64 (na : Int), .int .i64 (i : Int)] 76 (0, 0))) := by
      rw [← hW9]
      exact World.alloc_heap_new w2 _
    have HSB : Hid (w.heap.size ≤ w2.heap.size) := (show Kept w w2 by assumption).size
    obtain ⟨sb, hsb⟩ : ∃ sb, w2.heap.size = sb := ⟨_, rfl⟩
    rw [hsb] at HX9 HSB
    rw [hW9, hsb]
    have s0 : W9.cell? ⟨sb, 0, none⟩ = some (.pointer (some ⟨ka, 0, none⟩)) := by simp [World.cell?, HX9.out]
    have s1 : W9.cell? ⟨sb, 1, none⟩ = some (.int .i64 (na : Int)) := by simp [World.cell?, HX9.out]
    have s2 : W9.cell? ⟨sb, 2, none⟩ = some (.int .i64 (i : Int)) := by simp [World.cell?, HX9.out]
    have c9 := grown_cell HK9.out HC0.out
    have HO9 := hide1 (HOO.out.keep HK9.out)
    obtain ⟨v0, v1, v2, t0, t1, t2, z0, z1, z2⟩ := stand_cells HO9.out (t := t) (by have := HTE.out; have := HM.out; simp; omega)
    have hgl9 : g' < W9.heap.size := Nat.lt_of_lt_of_le hgl HK9.out.size
    have hsg : sb ≠ g' := by have := HSB.out; omega
    have j0 := keepsB hCg c9
    have j1 := keepsB hsg s0
    have j2 := keepsB hsg s1
    have j3 := keepsB hsg s2
    have hkr : KeptBut g' W9 W9 := (Kept.refl W9).tbut g'
    clear k0 k1 k2 k3 k4 HCA HCB hW9 hsb s0 s1 s2 c9
    go_upto_region 6 with fail
    go_region_held3 (fun W => KeptBut g' W9 W) (first | assumption | exact KeptBut.drew (by assumption) | exact (but3o _ _ _ _ _ _).drew | exact but3o _ _ _ _ _ _) (fail)
    generalize hWE : (((W9.setCell ⟨g', t * 3, none⟩ (.pointer (some ⟨ka, 0, none⟩))).setCell ⟨g', t * 3 + 1, none⟩ (.int .i64 (na : Int))).setCell ⟨g', t * 3 + 2, none⟩ (.int .i64 (i : Int))).drew = WE at *
    have hbd : KeptBut g' W9 WE := by
      rw [← hWE]
      exact KeptBut.drew (but3o g' (t * 3) W9 (.pointer (some ⟨ka, 0, none⟩)) (.int .i64 (na : Int)) (.int .i64 (i : Int)))
    have hO' : SOwn WE base (.slice (some ⟨g', 0, none⟩) (t + 1) cap') (pre ++ [(pa, pb, pc)] ++ [(ka, na, i)]) := by
      rw [← hWE]
      have h5 := SOwn.turn (t := t) (pre := pre ++ [(pa, pb, pc)]) (q := (qa, qb, qc)) (q' := (ka, na, i)) (by have := HTE.out; have := HM.out; simp; omega) (by simpa using HO9.out)
      exact h5.keep (drew_kept _)
    have HBD := hide1 hbd
    have HO2 := hide1 hO'
    clear hWE hbd hO' hkr j0 j1 j2 j3 t0 t1 t2 z0 z1 z2
    go_wp2_with fail
    go_ret
    refine ⟨rfl, ?_, ?_, ?_⟩
    · exact (HBD.out.2.2.2.2 C (Nat.lt_of_lt_of_le hCl HK9.out.size) hCg).trans (HCC.out.keep HK9.out)
    · have h6 := HO2.out
      rw [List.append_assoc] at h6
      exact h6
    · have h1 := HK9.out
      have h2 := HBD.out
      refine ⟨h2.1.trans h1.1, h2.2.1.trans h1.2.1, h2.2.2.1.trans h1.2.2.1, Nat.le_trans h1.size h2.2.2.2.1, fun d hd h3 h4 => ?_⟩
      have hdg : d ≠ g' := fun e => h4 (by rw [e]; rfl)
      exact (h2.2.2.2.2 d (Nat.lt_of_lt_of_le hd h1.size) hdg).trans (h1.2.2.2.2 d hd)
  · obtain ⟨W9, hW9⟩ : ∃ W9, ((w2.setCell ⟨w.heap.size, 0, none⟩ (.pointer (some ⟨ka, 0, none⟩))).setCell ⟨w.heap.size, 1, none⟩ (.int .i64 (na : Int))).setCell ⟨w.heap.size, 2, none⟩ (.int .i64 (i : Int)) = W9 := ⟨_, rfl⟩
    have HK9 : Hid (Kept w W9) := by rw [← hW9]; assumption
    have HX9 : Hid (W9.heap[w.heap.size]? = some (.cells #[.pointer (some ⟨ka, 0, none⟩), .int .i64 (na : Int), .int .i64 (i : Int)] 76 (0, 0))) := by
      rw [← hW9]
      exact set3 yh (.pointer (some ⟨ka, 0, none⟩)) (.int .i64 (na : Int)) (.int .i64 (i : Int))
    have HSB : Hid (w.heap.size ≤ w.heap.size) := Nat.le_refl _
    obtain ⟨sb, hsb⟩ : ∃ sb, w.heap.size = sb := ⟨_, rfl⟩
    rw [hsb] at HX9 HSB
    rw [hW9, hsb]
    have s0 : W9.cell? ⟨sb, 0, none⟩ = some (.pointer (some ⟨ka, 0, none⟩)) := by simp [World.cell?, HX9.out]
    have s1 : W9.cell? ⟨sb, 1, none⟩ = some (.int .i64 (na : Int)) := by simp [World.cell?, HX9.out]
    have s2 : W9.cell? ⟨sb, 2, none⟩ = some (.int .i64 (i : Int)) := by simp [World.cell?, HX9.out]
    have c9 := grown_cell HK9.out HC0.out
    have HO9 := hide1 (HOO.out.keep HK9.out)
    obtain ⟨v0, v1, v2, t0, t1, t2, z0, z1, z2⟩ := stand_cells HO9.out (t := t) (by have := HTE.out; have := HM.out; simp; omega)
    have hgl9 : g' < W9.heap.size := Nat.lt_of_lt_of_le hgl HK9.out.size
    have hsg : sb ≠ g' := by have := HSB.out; omega
    have j0 := keepsB hCg c9
    have j1 := keepsB hsg s0
    have j2 := keepsB hsg s1
    have j3 := keepsB hsg s2
    have hkr : KeptBut g' W9 W9 := (Kept.refl W9).tbut g'
    clear k0 k1 k2 k3 k4 HCA HCB hW9 hsb s0 s1 s2 c9
    go_upto_region 6 with fail
    go_region_held3 (fun W => KeptBut g' W9 W) (first | assumption | exact KeptBut.drew (by assumption) | exact (but3o _ _ _ _ _ _).drew | exact but3o _ _ _ _ _ _) (fail)
    generalize hWE : (((W9.setCell ⟨g', t * 3, none⟩ (.pointer (some ⟨ka, 0, none⟩))).setCell ⟨g', t * 3 + 1, none⟩ (.int .i64 (na : Int))).setCell ⟨g', t * 3 + 2, none⟩ (.int .i64 (i : Int))).drew = WE at *
    have hbd : KeptBut g' W9 WE := by
      rw [← hWE]
      exact KeptBut.drew (but3o g' (t * 3) W9 (.pointer (some ⟨ka, 0, none⟩)) (.int .i64 (na : Int)) (.int .i64 (i : Int)))
    have hO' : SOwn WE base (.slice (some ⟨g', 0, none⟩) (t + 1) cap') (pre ++ [(pa, pb, pc)] ++ [(ka, na, i)]) := by
      rw [← hWE]
      have h5 := SOwn.turn (t := t) (pre := pre ++ [(pa, pb, pc)]) (q := (qa, qb, qc)) (q' := (ka, na, i)) (by have := HTE.out; have := HM.out; simp; omega) (by simpa using HO9.out)
      exact h5.keep (drew_kept _)
    have HBD := hide1 hbd
    have HO2 := hide1 hO'
    clear hWE hbd hO' hkr j0 j1 j2 j3 t0 t1 t2 z0 z1 z2
    go_wp2_with fail
    go_ret
    refine ⟨rfl, ?_, ?_, ?_⟩
    · exact (HBD.out.2.2.2.2 C (Nat.lt_of_lt_of_le hCl HK9.out.size) hCg).trans (HCC.out.keep HK9.out)
    · have h6 := HO2.out
      rw [List.append_assoc] at h6
      exact h6
    · have h1 := HK9.out
      have h2 := HBD.out
      refine ⟨h2.1.trans h1.1, h2.2.1.trans h1.2.1, h2.2.2.1.trans h1.2.2.1, Nat.le_trans h1.size h2.2.2.2.1, fun d hd h3 h4 => ?_⟩
      have hdg : d ≠ g' := fun e => h4 (by rw [e]; rfl)
      exact (h2.2.2.2.2 d (Nat.lt_of_lt_of_le hd h1.size) hdg).trans (h1.2.2.2.2 d hd)

end Tr
end Ex
end Go.Proofs.Ythpampfbmpdmoaa
