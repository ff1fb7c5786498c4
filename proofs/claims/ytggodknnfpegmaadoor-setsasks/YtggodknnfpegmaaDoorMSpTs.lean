import Derived.Test.YtggodknnfpegmaaDoorMSpTe
namespace Go.Proofs.YtggodknnfpegmaaDoor
open Go.RowKit
attribute [local go_sem] Oper.semAt_some
namespace Ex

/-- A list of bools to be read. -/
def BoolsR (w : World) (v : Value) (l : List Bool) : Prop := SliceOf w 1 (fun cs x => cs = [.bool x]) v l
theorem BoolsR.keep {w w' : World} {v : Value} {l : List Bool} (h : BoolsR w v l) (hk : Kept w w') : BoolsR w' v l := SliceOf.mono h hk (fun _ _ h => h)
theorem BoolsR.at_ {w : World} {a : Option Addr} {n c : Nat} {l : List Bool} (h : BoolsR w (.slice a n c) l) {i : Nat} {x : Bool} (hx : l[i]? = some x) : ∃ g o, a = some ⟨g, o, none⟩ ∧ w.cell? ⟨g, o + i, none⟩ = some (.bool x) := by
  obtain ⟨g, o, cs, h1, _, _, h4, h5⟩ := SliceOf.el h hx
  have h5 : cs = [.bool x] := h5
  subst h5
  have h6 := h4 0 _ rfl
  rw [Nat.mul_one, Nat.add_zero] at h6
  exact ⟨g, o, h1, h6⟩
theorem bool_two {l1 l2 : List Bool} {j : Nat} (hn : l1.length = l2.length) (h : l1.take j = l2.take j) {x y : Bool} (hx : l1[j]? = some x) (hy : l2[j]? = some y) : (x = y → l1.take (j + 1) = l2.take (j + 1)) ∧ (x ≠ y → l1 ≠ l2) := by
  have _ := hn
  obtain ⟨h1, e1⟩ := List.getElem?_eq_some_iff.1 hx
  obtain ⟨h2, e2⟩ := List.getElem?_eq_some_iff.1 hy
  refine ⟨fun e => ?_, fun e e3 => ?_⟩
  · rw [List.take_succ_eq_append_getElem h1, List.take_succ_eq_append_getElem h2, h, e1, e2, e]
  · subst e3
    rw [hx] at hy
    injection hy with hy
    exact e hy
def SbI (l1 l2 : List Bool) (W : World) (vi : Value) (wr : World) : Prop := ∃ j : Nat, vi = .int .i64 (j : Int) ∧ j ≤ l1.length ∧ Hid (l1.take j = l2.take j) ∧ Hid (Kept W wr)
set_option linter.unusedSimpArgs false in
set_option maxRecDepth 100000 in
set_option maxHeartbeats 4000000 in
theorem sameBoolsS_is (a1 a2 : Option Addr) (n1 c1 n2 c2 : Nat) (l1 l2 : List Bool) (w : World) (e1 : l1.length = n1) (e2 : l2.length = n2) (h1 : BoolsR w (.slice a1 n1 c1) l1) (h2 : BoolsR w (.slice a2 n2 c2) l2) :
    Calls Tryd.prog 27 #[.slice a1 n1 c1, .slice a2 n2 c2] w fun e w' => e = .returned (.bool (decide (l1 = l2))) ∧ Kept w w' := by
  obtain ⟨_, _, q1, hc1, hn1⟩ := SliceOf.len h1
  obtain ⟨_, _, q2, hc2, hn2⟩ := SliceOf.len h2
  simp only [Value.slice.injEq] at q1 q2
  obtain ⟨rfl, en1, rfl⟩ := q1
  obtain ⟨rfl, en2, rfl⟩ := q2
  clear en1 en2
  rw [e1] at hc1 hn1
  rw [e2] at hc2 hn2
  have g1 : (n1 : Int) ≤ 17592186044416 := by omega
  have g2 : (n2 : Int) ≤ 17592186044416 := by omega
  have H1 := hide1 h1
  have H2 := hide1 h2
  have E1 := hide1 e1
  have E2 := hide1 e2
  clear h1 h2 e1 e2
  go_enter Tryd.func27, Tryd.ntmps27
  by_cases hn : n1 = n2
  · subst hn
    have HLL : Hid (l1.length = l2.length) := by show _ = _; rw [E1.out, E2.out]
    have hb0 : ((n1 : Int) != (n1 : Int)) = false := by simp
    go_wp2_with fail
    go_loopw [5] (SbI l1 l2 w) (fun i _ => n1 - (intOf i).toNat)
    case atStart => exact ⟨0, rfl, Nat.zero_le _, rfl, Kept.refl w⟩
    case round =>
      obtain ⟨j, rfl, hj, HT, HKr⟩ := hrel
      rw [E1.out] at hj
      by_cases hlt : (j : Int) < (n1 : Int)
      · obtain ⟨x, hx⟩ : ∃ x, l1[j]? = some x := ⟨_, List.getElem?_eq_getElem (by have := E1.out; omega)⟩
        obtain ⟨y, hy⟩ : ∃ y, l2[j]? = some y := ⟨_, List.getElem?_eq_getElem (by have := E2.out; omega)⟩
        obtain ⟨b1, o1, ea1, k1⟩ := (H1.out.keep HKr.out).at_ hx
        obtain ⟨b2, o2, ea2, k2⟩ := (H2.out.keep HKr.out).at_ hy
        obtain ⟨h5, h6⟩ := bool_two HLL.out HT.out hx hy
        have H5 := hide1 h5
        have H6 := hide1 h6
        subst ea1 ea2
        have gj1 : (j : Int) < (c1 : Int) := by omega
        have gj2 : (j : Int) < (c2 : Int) := by omega
        clear hx hy h5 h6
        rcases Bool.eq_false_or_eq_true x with hx1 | hx1 <;> rcases Bool.eq_false_or_eq_true y with hy1 | hy1 <;> subst hx1 <;> subst hy1
        · have HT2 := hide1 (H5.out rfl)
          go_upto_region 6 with fail
          go_quiet (fail)
          go_wp2_with fail
          go_roundw
          case rel => exact ⟨j + 1, by go_num, by rw [E1.out]; omega, HT2, gtrans HKr.out (drewN_kept _ _)⟩
          case measure => simp [intOf]; omega
        · have HT2 := hide1 (H6.out (by decide))
          go_upto_region 6 with fail
          go_quiet (fail)
          go_wp2_with fail
          go_ret
          exact ⟨by rw [decide_eq_false HT2.out]; rfl, gtrans HKr.out (drewN_kept _ _)⟩
        · have HT2 := hide1 (H6.out (by decide))
          go_upto_region 6 with fail
          go_quiet (fail)
          go_wp2_with fail
          go_ret
          exact ⟨by rw [decide_eq_false HT2.out]; rfl, gtrans HKr.out (drewN_kept _ _)⟩
        · have HT2 := hide1 (H5.out rfl)
          go_upto_region 6 with fail
          go_quiet (fail)
          go_wp2_with fail
          go_roundw
          case rel => exact ⟨j + 1, by go_num, by rw [E1.out]; omega, HT2, gtrans HKr.out (drewN_kept _ _)⟩
          case measure => simp [intOf]; omega
      · have HE : Hid (l1 = l2) := by
          have h := HT.out
          rw [List.take_of_length_le (by have := E1.out; omega), List.take_of_length_le (by have := E2.out; omega)] at h
          exact h
        go_wp2_with fail
        go_ret
        exact ⟨by rw [decide_eq_true HE.out]; rfl, HKr.out⟩
  · have hb0 : ((n1 : Int) != (n2 : Int)) = true := by simp; omega
    have HNE : Hid (l1 ≠ l2) := fun e => hn (by rw [← E1.out, ← E2.out, e])
    go_wp2_with fail
    go_ret
    exact ⟨by rw [decide_eq_false HNE.out]; rfl, Kept.refl w⟩
theorem BoolsO.read {w : World} {base : Nat} {v : Value} {l : List Bool} (h : BoolsO w base v l) (hl : l.length ≤ 17592186044416) : BoolsR w v l := by
  obtain ⟨g, rfl, _, h4⟩ := h
  refine ⟨some ⟨g, 0, none⟩, l.length, rfl, Nat.le_refl _, hl, .inr ⟨g, 0, rfl, h4.blk.lt, fun i x hx => ⟨[.bool x], rfl, fun j y hy => ?_, rfl⟩⟩⟩
  have hj : j = 0 := by
    have := (List.getElem?_eq_some_iff.1 hy).1
    simp at this
    exact this
  subst hj
  have hy : Value.bool x = y := by simpa using hy
  subst hy
  rw [Nat.zero_add, Nat.mul_one, Nat.add_zero]
  exact h4.blk.cell (by rw [List.getElem?_map, hx]; rfl)
theorem td_two (w : World) (c1 c2 : Array Value) : Kept w ((w.alloc (.cells c1 30)).alloc (.cells c2 30)) := ((Kept.refl w).alloc _ _).alloc _ _
set_option linter.unusedSimpArgs false in
set_option maxRecDepth 100000 in
set_option maxHeartbeats 4000000 in
/-- The same is told of both. -/
theorem sameTold_is (a1 a2 a3 a4 b1 b2 b3 b4 : Option Addr) (n1 n2 n3 n4 m1 m2 m3 m4 : Nat) (f : Bool) (es : List Bool) (l2 l3 l4 : List (List Int)) (w : World)
    (p1 : es.length = n1) (p2 : l2.length = n2) (p3 : l3.length = n3) (p4 : l4.length = n4) (q1 : es.length = m1) (q2 : l2.length = m2) (q3 : l3.length = m3) (q4 : l4.length = m4)
    (h1 : BoolsR w (.slice a1 n1 n1) es) (h2 : RowsR w (.slice a2 n2 n2) l2) (h3 : RowsR w (.slice a3 n3 n3) l3) (h4 : RowsR w (.slice a4 n4 n4) l4)
    (k1 : BoolsR w (.slice b1 m1 m1) es) (k2 : RowsR w (.slice b2 m2 m2) l2) (k3 : RowsR w (.slice b3 m3 m3) l3) (k4 : RowsR w (.slice b4 m4 m4) l4) :
    Calls Tryd.prog 10 #[.agg #[.slice a1 n1 n1, .slice a2 n2 n2, .slice a3 n3 n3, .slice a4 n4 n4, .bool f], .agg #[.slice b1 m1 m1, .slice b2 m2 m2, .slice b3 m3 m3, .slice b4 m4 m4, .bool f]] w fun e w' => e = .returned (.bool true) ∧ Kept w w' := by
  have HB1 : Hid (TdBox ((w.alloc (.cells #[.slice a1 n1 n1, .slice a2 n2 n2, .slice a3 n3 n3, .slice a4 n4 n4, .bool f] 30)).alloc (.cells #[.slice b1 m1 m1, .slice b2 m2 m2, .slice b3 m3 m3, .slice b4 m4 m4, .bool f] 30)) w.heap.size (.slice a1 n1 n1) (.slice a2 n2 n2) (.slice a3 n3 n3) (.slice a4 n4 n4) f) := hp_keep (heap_alloc_new w _) ((Kept.refl _).alloc _ _)
  have HB2 : Hid (TdBox ((w.alloc (.cells #[.slice a1 n1 n1, .slice a2 n2 n2, .slice a3 n3 n3, .slice a4 n4 n4, .bool f] 30)).alloc (.cells #[.slice b1 m1 m1, .slice b2 m2 m2, .slice b3 m3 m3, .slice b4 m4 m4, .bool f] 30)) (w.heap.size + 1) (.slice b1 m1 m1) (.slice b2 m2 m2) (.slice b3 m3 m3) (.slice b4 m4 m4) f) := by
    have h := heap_alloc_new (w.alloc (.cells #[.slice a1 n1 n1, .slice a2 n2 n2, .slice a3 n3 n3, .slice a4 n4 n4, .bool f] 30)) (.cells #[.slice b1 m1 m1, .slice b2 m2 m2, .slice b3 m3 m3, .slice b4 m4 m4, .bool f] 30)
    rw [World.size_alloc] at h
    exact h
  have HK := hide1 (td_two w #[.slice a1 n1 n1, .slice a2 n2 n2, .slice a3 n3 n3, .slice a4 n4 n4, .bool f] #[.slice b1 m1 m1, .slice b2 m2 m2, .slice b3 m3 m3, .slice b4 m4 m4, .bool f])
  have P1 := hide1 p1
  have P2 := hide1 p2
  have P3 := hide1 p3
  have P4 := hide1 p4
  have Q1 := hide1 q1
  have Q2 := hide1 q2
  have Q3 := hide1 q3
  have Q4 := hide1 q4
  have H1 := hide1 h1
  have H2 := hide1 h2
  have H3 := hide1 h3
  have H4 := hide1 h4
  have K1 := hide1 k1
  have K2 := hide1 k2
  have K3 := hide1 k3
  have K4 := hide1 k4
  clear p1 p2 p3 p4 q1 q2 q3 q4 h1 h2 h3 h4 k1 k2 k3 k4
  go_enter Tryd.func10, Tryd.ntmps10
  go_upto_region 1 with fail
  obtain ⟨W, hW⟩ : ∃ W, (w.alloc (.cells #[.slice a1 n1 n1, .slice a2 n2 n2, .slice a3 n3 n3, .slice a4 n4 n4, .bool f] 30)).alloc (.cells #[.slice b1 m1 m1, .slice b2 m2 m2, .slice b3 m3 m3, .slice b4 m4 m4, .bool f] 30) = W := ⟨_, rfl⟩
  rw [hW] at HB1 HB2 HK ⊢
  clear hW
  have hf : (f == f) = true := by simp
  obtain ⟨⟨c0, c1, c2, c3, c4⟩, _⟩ := HB1.out.cells
  obtain ⟨⟨d0, d1, d2, d3, d4⟩, _⟩ := HB2.out.cells
  go_wp2_with fail
  refine (sameBoolsS_is _ _ _ _ _ _ es es _ P1.out Q1.out (H1.out.keep HK.out) (K1.out.keep HK.out)).mono ?_
  rintro e w1 ⟨rfl, hk1⟩
  rw [show decide (es = es) = true from by simp]
  have HK1 := hide1 (gtrans HK.out hk1)
  clear c0 c1 c2 c3 c4 d0 d1 d2 d3 d4
  obtain ⟨⟨c0, c1, c2, c3, c4⟩, _⟩ := (HB1.out.keep hk1).cells
  obtain ⟨⟨d0, d1, d2, d3, d4⟩, _⟩ := (HB2.out.keep hk1).cells
  have HW1 := hide1 hk1
  clear hk1
  go_wp2_with fail
  refine (sameRowsS_is _ _ _ _ _ _ l2 l2 _ P2.out Q2.out (H2.out.keep HK1.out) (K2.out.keep HK1.out)).mono ?_
  rintro e w2 ⟨rfl, hk2⟩
  rw [show decide (l2 = l2) = true from by simp]
  have HK2 := hide1 (gtrans HK1.out hk2)
  have HW2 := hide1 (gtrans HW1.out hk2)
  clear hk2 c0 c1 c2 c3 c4 d0 d1 d2 d3 d4
  obtain ⟨⟨c0, c1, c2, c3, c4⟩, _⟩ := (HB1.out.keep HW2.out).cells
  obtain ⟨⟨d0, d1, d2, d3, d4⟩, _⟩ := (HB2.out.keep HW2.out).cells
  go_wp2_with fail
  refine (sameRowsS_is _ _ _ _ _ _ l3 l3 _ P3.out Q3.out (H3.out.keep HK2.out) (K3.out.keep HK2.out)).mono ?_
  rintro e w3 ⟨rfl, hk3⟩
  rw [show decide (l3 = l3) = true from by simp]
  have HK3 := hide1 (gtrans HK2.out hk3)
  have HW3 := hide1 (gtrans HW2.out hk3)
  clear hk3 c0 c1 c2 c3 c4 d0 d1 d2 d3 d4
  obtain ⟨⟨c0, c1, c2, c3, c4⟩, _⟩ := (HB1.out.keep HW3.out).cells
  obtain ⟨⟨d0, d1, d2, d3, d4⟩, _⟩ := (HB2.out.keep HW3.out).cells
  go_wp2_with fail
  refine (sameRowsS_is _ _ _ _ _ _ l4 l4 _ P4.out Q4.out (H4.out.keep HK3.out) (K4.out.keep HK3.out)).mono ?_
  rintro e w4 ⟨rfl, hk4⟩
  rw [show decide (l4 = l4) = true from by simp]
  have HK4 := hide1 (gtrans HK3.out hk4)
  clear hk4
  go_wp2_with fail
  go_ret
  exact ⟨rfl, HK4.out⟩

end Ex
end Go.Proofs.YtggodknnfpegmaaDoor
