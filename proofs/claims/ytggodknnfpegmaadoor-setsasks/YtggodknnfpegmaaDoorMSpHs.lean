import Derived.Test.YtggodknnfpegmaaDoorMSpQy
import Derived.Test.YtggodknnfpegmaaDoorMSpSp
namespace Go.Proofs.YtggodknnfpegmaaDoor
open Go.RowKit
attribute [local go_sem] Oper.semAt_some
namespace Ex

/-- A list of ints to be read. -/
def IntsR (w : World) (v : Value) (l : List Int) : Prop := SliceOf w 1 (fun cs x => cs = [.int .i64 x]) v l
theorem IntsR.keep {w w' : World} {v : Value} {l : List Int} (h : IntsR w v l) (hk : Kept w w') : IntsR w' v l := SliceOf.mono h hk (fun _ _ h => h)
theorem IntsR.at_ {w : World} {a : Option Addr} {n c : Nat} {l : List Int} (h : IntsR w (.slice a n c) l) {i : Nat} {x : Int} (hx : l[i]? = some x) : ∃ g o, a = some ⟨g, o, none⟩ ∧ w.cell? ⟨g, o + i, none⟩ = some (.int .i64 x) := by
  obtain ⟨g, o, cs, h1, _, _, h4, h5⟩ := SliceOf.el h hx
  have h5 : cs = [.int .i64 x] := h5
  subst h5
  have h6 := h4 0 _ rfl
  rw [Nat.mul_one, Nat.add_zero] at h6
  exact ⟨g, o, h1, h6⟩
theorem IntsO.read {w : World} {base : Nat} {v : Value} {l : List Int} (h : IntsO w base v l) (hl : l.length ≤ 17592186044416) : IntsR w v l := by
  have h2 : w.ownsRow base 3 1 v l.length (flatS l) := h
  rcases h2.2 with ⟨rfl, h0⟩ | ⟨g, cap, cur, rfl, _, hg, hc, _, hs, ht⟩
  · have e : l = [] := List.length_eq_zero_iff.1 h0
    subst e
    exact ⟨none, 0, rfl, Nat.le_refl _, by simp, .inl rfl⟩
  · refine ⟨some ⟨g, 0, none⟩, cap, rfl, hc, hl, .inr ⟨g, 0, rfl, (Array.getElem?_eq_some_iff.1 hg).1, fun i x hx => ⟨[.int .i64 x], rfl, fun j u hu => ?_, rfl⟩⟩⟩
    have hj : j = 0 := by
      have := (List.getElem?_eq_some_iff.1 hu).1
      simp at this
      exact this
    subst hj
    have hu : Value.int .i64 x = u := by simpa using hu
    subst hu
    have hf : (flatS l)[i]? = some (.int .i64 x) := by unfold flatS; rw [List.getElem?_map, hx]; rfl
    rw [← ht, List.getElem?_take] at hf
    split at hf
    · simp only [World.cell?, hg]
      simpa using hf
    · cases hf
theorem int_two {l1 l2 : List Int} {j : Nat} (hn : l1.length = l2.length) (h : l1.take j = l2.take j) {x y : Int} (hx : l1[j]? = some x) (hy : l2[j]? = some y) : (x = y → l1.take (j + 1) = l2.take (j + 1)) ∧ (x ≠ y → l1 ≠ l2) := by
  obtain ⟨h1, e1⟩ := List.getElem?_eq_some_iff.1 hx
  obtain ⟨h2, e2⟩ := List.getElem?_eq_some_iff.1 hy
  refine ⟨fun e => ?_, fun e e3 => ?_⟩
  · rw [List.take_succ_eq_append_getElem h1, List.take_succ_eq_append_getElem h2, h, e1, e2, e]
  · subst e3
    rw [hx] at hy
    injection hy with hy
    exact e hy
def SiI (l1 l2 : List Int) (W : World) (vi : Value) (wr : World) : Prop := ∃ j : Nat, vi = .int .i64 (j : Int) ∧ j ≤ l1.length ∧ Hid (l1.take j = l2.take j) ∧ Hid (Kept W wr)
set_option linter.unusedSimpArgs false in
set_option maxRecDepth 100000 in
set_option maxHeartbeats 4000000 in
theorem sameIntsS_is (a1 a2 : Option Addr) (n1 c1 n2 c2 : Nat) (l1 l2 : List Int) (w : World) (e1 : l1.length = n1) (e2 : l2.length = n2) (h1 : IntsR w (.slice a1 n1 c1) l1) (h2 : IntsR w (.slice a2 n2 c2) l2) :
    Calls Tryd.prog 12 #[.slice a1 n1 c1, .slice a2 n2 c2] w fun e w' => e = .returned (.bool (decide (l1 = l2))) ∧ Kept w w' := by
  obtain ⟨_, _, q1, hc1, hn1⟩ := SliceOf.len h1
  obtain ⟨_, _, q2, hc2, hn2⟩ := SliceOf.len h2
  simp only [Value.slice.injEq] at q1 q2
  obtain ⟨rfl, en1, rfl⟩ := q1
  obtain ⟨rfl, en2, rfl⟩ := q2
  clear en1 en2
  rw [e1] at hc1 hn1
  rw [e2] at hc2 hn2
  have g1 : (n1 : Int) ≤ 17592186044416 := by omega
  have g2 : (n2 : Int) ≤ 17592186044416 := by omega
  have H1 := hide1 h1
  have H2 := hide1 h2
  have E1 := hide1 e1
  have E2 := hide1 e2
  clear h1 h2 e1 e2
  go_enter Tryd.func12, Tryd.ntmps12
  by_cases hn : n1 = n2
  · subst hn
    have HLL : Hid (l1.length = l2.length) := by show _ = _; rw [E1.out, E2.out]
    have hb0 : ((n1 : Int) != (n1 : Int)) = false := by simp
    go_wp2_with fail
    go_loopw [5] (SiI l1 l2 w) (fun i _ => n1 - (intOf i).toNat)
    case atStart => exact ⟨0, rfl, Nat.zero_le _, rfl, Kept.refl w⟩
    case round =>
      obtain ⟨j, rfl, hj, HT, HKr⟩ := hrel
      rw [E1.out] at hj
      by_cases hlt : (j : Int) < (n1 : Int)
      · obtain ⟨x, hx⟩ : ∃ x, l1[j]? = some x := ⟨_, List.getElem?_eq_getElem (by have := E1.out; omega)⟩
        obtain ⟨y, hy⟩ : ∃ y, l2[j]? = some y := ⟨_, List.getElem?_eq_getElem (by have := E2.out; omega)⟩
        obtain ⟨b1, o1, ea1, k1⟩ := (H1.out.keep HKr.out).at_ hx
        obtain ⟨b2, o2, ea2, k2⟩ := (H2.out.keep HKr.out).at_ hy
        obtain ⟨h5, h6⟩ := int_two HLL.out HT.out hx hy
        have H5 := hide1 h5
        have H6 := hide1 h6
        subst ea1 ea2
        have gj1 : (j : Int) < (c1 : Int) := by omega
        have gj2 : (j : Int) < (c2 : Int) := by omega
        clear hx hy h5 h6
        by_cases hxy : x = y
        · have hb : (x != y) = false := by simp [hxy]
          have HT2 := hide1 (H5.out hxy)
          clear hxy
          go_upto_region 6 with fail
          go_quiet (fail)
          go_wp2_with fail
          go_roundw
          case rel => exact ⟨j + 1, by go_num, by rw [E1.out]; omega, HT2, gtrans HKr.out (drewN_kept _ _)⟩
          case measure => simp [intOf]; omega
        · have hb : (x != y) = true := by simpa using hxy
          have HT2 := hide1 (H6.out hxy)
          clear hxy
          go_upto_region 6 with fail
          go_quiet (fail)
          go_wp2_with fail
          go_ret
          exact ⟨by rw [decide_eq_false HT2.out]; rfl, gtrans HKr.out (drewN_kept _ _)⟩
      · have HE : Hid (l1 = l2) := by
          have h := HT.out
          rw [List.take_of_length_le (by have := E1.out; omega), List.take_of_length_le (by have := E2.out; omega)] at h
          exact h
        go_wp2_with fail
        go_ret
        exact ⟨by rw [decide_eq_true HE.out]; rfl, HKr.out⟩
  · have hb0 : ((n1 : Int) != (n2 : Int)) = true := by simp; omega
    have HNE : Hid (l1 ≠ l2) := fun e => hn (by rw [← E1.out, ← E2.out, e])
    go_wp2_with fail
    go_ret
    exact ⟨by rw [decide_eq_false HNE.out]; rfl, Kept.refl w⟩
/-- A list of lists of ints to be read. -/
def RowsR (w : World) (v : Value) (ls : List (List Int)) : Prop := SliceOf w 1 (fun cs l => ∃ u, cs = [u] ∧ IntsR w u l) v ls
theorem RowsR.keep {w w' : World} {v : Value} {l : List (List Int)} (h : RowsR w v l) (hk : Kept w w') : RowsR w' v l := SliceOf.mono h hk (fun _ _ ⟨u, h1, h2⟩ => ⟨u, h1, h2.keep hk⟩)
theorem RowsR.at_ {w : World} {a : Option Addr} {n c : Nat} {l : List (List Int)} (h : RowsR w (.slice a n c) l) {i : Nat} {x : List Int} (hx : l[i]? = some x) : ∃ g o u, a = some ⟨g, o, none⟩ ∧ w.cell? ⟨g, o + i, none⟩ = some u ∧ IntsR w u x := by
  obtain ⟨g, o, cs, h1, _, _, h4, u, h5, h6⟩ := SliceOf.el h hx
  subst h5
  have h7 := h4 0 _ rfl
  rw [Nat.mul_one, Nat.add_zero] at h7
  exact ⟨g, o, u, h1, h7, h6⟩
theorem RowsO.read {w : World} {base : Nat} {v : Value} {ls : List (List Int)} (h : RowsO w base v ls) (hn : ls.length ≤ 17592186044416) (hl : ∀ l ∈ ls, l.length ≤ 17592186044416) : RowsR w v ls := by
  obtain ⟨g, vs, B, rfl, _, _, h4, h5⟩ := h
  refine ⟨some ⟨g, 0, none⟩, ls.length, rfl, Nat.le_refl _, hn, .inr ⟨g, 0, rfl, h4.lt, fun i x hx => ?_⟩⟩
  obtain ⟨u, hu⟩ : ∃ u, vs[i]? = some u := ⟨_, List.getElem?_eq_getElem (by rw [h5.len]; exact (List.getElem?_eq_some_iff.1 hx).1)⟩
  refine ⟨[u], rfl, fun j y hy => ?_, u, rfl, (h5.each i u x hu hx).1.read (hl x (List.mem_of_getElem? hx))⟩
  have hj : j = 0 := by
    have := (List.getElem?_eq_some_iff.1 hy).1
    simp at this
    exact this
  subst hj
  have hy : u = y := by simpa using hy
  subst hy
  have := h4.cell hu
  rw [Nat.zero_add, Nat.mul_one, Nat.add_zero]
  exact this
def SrI (l1 l2 : List (List Int)) (W : World) (vi : Value) (wr : World) : Prop := ∃ j : Nat, vi = .int .i64 (j : Int) ∧ j ≤ l1.length ∧ Hid (l1.take j = l2.take j) ∧ Hid (Kept W wr)
theorem row_two {l1 l2 : List (List Int)} {j : Nat} (h : l1.take j = l2.take j) {x y : List Int} (hx : l1[j]? = some x) (hy : l2[j]? = some y) : (x = y → l1.take (j + 1) = l2.take (j + 1)) ∧ (x ≠ y → l1 ≠ l2) := by
  obtain ⟨h1, e1⟩ := List.getElem?_eq_some_iff.1 hx
  obtain ⟨h2, e2⟩ := List.getElem?_eq_some_iff.1 hy
  refine ⟨fun e => ?_, fun e e3 => ?_⟩
  · rw [List.take_succ_eq_append_getElem h1, List.take_succ_eq_append_getElem h2, h, e1, e2, e]
  · subst e3
    rw [hx] at hy
    injection hy with hy
    exact e hy
set_option linter.unusedSimpArgs false in
set_option maxRecDepth 100000 in
set_option maxHeartbeats 4000000 in
theorem sameRowsS_is (a1 a2 : Option Addr) (n1 c1 n2 c2 : Nat) (l1 l2 : List (List Int)) (w : World) (e1 : l1.length = n1) (e2 : l2.length = n2) (h1 : RowsR w (.slice a1 n1 c1) l1) (h2 : RowsR w (.slice a2 n2 c2) l2) :
    Calls Tryd.prog 32 #[.slice a1 n1 c1, .slice a2 n2 c2] w fun e w' => e = .returned (.bool (decide (l1 = l2))) ∧ Kept w w' := by
  obtain ⟨_, _, q1, hc1, hn1⟩ := SliceOf.len h1
  obtain ⟨_, _, q2, hc2, hn2⟩ := SliceOf.len h2
  simp only [Value.slice.injEq] at q1 q2
  obtain ⟨rfl, en1, rfl⟩ := q1
  obtain ⟨rfl, en2, rfl⟩ := q2
  clear en1 en2
  rw [e1] at hc1 hn1
  rw [e2] at hc2 hn2
  have g1 : (n1 : Int) ≤ 17592186044416 := by omega
  have g2 : (n2 : Int) ≤ 17592186044416 := by omega
  have H1 := hide1 h1
  have H2 := hide1 h2
  have E1 := hide1 e1
  have E2 := hide1 e2
  clear h1 h2 e1 e2
  go_enter Tryd.func32, Tryd.ntmps32
  by_cases hn : n1 = n2
  · subst hn
    have hb0 : ((n1 : Int) != (n1 : Int)) = false := by simp
    go_wp2_with fail
    go_loopw [5] (SrI l1 l2 w) (fun i _ => n1 - (intOf i).toNat)
    case atStart => exact ⟨0, rfl, Nat.zero_le _, rfl, Kept.refl w⟩
    case round =>
      obtain ⟨j, rfl, hj, HT, HKr⟩ := hrel
      rw [E1.out] at hj
      by_cases hlt : (j : Int) < (n1 : Int)
      · obtain ⟨x, hx⟩ : ∃ x, l1[j]? = some x := ⟨_, List.getElem?_eq_getElem (by have := E1.out; omega)⟩
        obtain ⟨y, hy⟩ : ∃ y, l2[j]? = some y := ⟨_, List.getElem?_eq_getElem (by have := E2.out; omega)⟩
        obtain ⟨b1, o1, u1, ea1, k1, r1⟩ := (H1.out.keep HKr.out).at_ hx
        obtain ⟨b2, o2, u2, ea2, k2, r2⟩ := (H2.out.keep HKr.out).at_ hy
        obtain ⟨h5, h6⟩ := row_two HT.out hx hy
        have H5 := hide1 h5
        have H6 := hide1 h6
        subst ea1 ea2
        obtain ⟨m1, hm1⟩ : ∃ m1, x.length = m1 := ⟨_, rfl⟩
        obtain ⟨m2, hm2⟩ : ∃ m2, y.length = m2 := ⟨_, rfl⟩
        obtain ⟨a3, c3, rfl, en3, en4⟩ := SliceOf.len r1
        obtain ⟨a4, c4, rfl, en5, en6⟩ := SliceOf.len r2
        clear en3 en4 en5 en6
        rw [hm1] at r1 k1
        rw [hm2] at r2 k2
        have R1 := hide1 r1
        have R2 := hide1 r2
        have M1 := hide1 hm1
        have M2 := hide1 hm2
        have gj1 : (j : Int) < (c1 : Int) := by omega
        have gj2 : (j : Int) < (c2 : Int) := by omega
        obtain ⟨bv, hbv⟩ : ∃ bv, decide (x = y) = bv := ⟨_, rfl⟩
        have HBV := hide1 hbv
        clear hx hy h5 h6 r1 r2 hm1 hm2 hbv
        go_upto_region 6 with fail
        have q1 := keeps k1
        have q2 := keeps k2
        have hkr : Kept wr wr := Kept.refl wr
        go_region_held3 (fun w' => Kept wr w') (first | assumption | exact Kept.refl _ | exact gtrans (by assumption) (by assumption))
          ((go_at_call 12; refine (sameIntsS_is a3 a4 m1 c3 m2 c4 x y _ M1.out M2.out (R1.out.keep (by assumption)) (R2.out.keep (by assumption))).mono ?_; rintro e w11 ⟨rfl, hk11⟩; rw [HBV.out]; have k11 : Kept wr w11 := gtrans (by assumption) hk11))
        have HK11 := hide1 k11
        clear q1 q2 hkr hk11 k11 k1 k2
        cases bv
        · have HT2 := hide1 (H6.out (of_decide_eq_false HBV.out))
          go_wp2_with fail
          go_ret
          exact ⟨by rw [decide_eq_false HT2.out]; rfl, gtrans HKr.out HK11.out⟩
        · have HT2 := hide1 (H5.out (of_decide_eq_true HBV.out))
          go_wp2_with fail
          go_roundw
          case rel => exact ⟨j + 1, by go_num, by rw [E1.out]; omega, HT2, gtrans HKr.out HK11.out⟩
          case measure => simp [intOf]; omega
      · have HE : Hid (l1 = l2) := by
          have h := HT.out
          rw [List.take_of_length_le (by have := E1.out; omega), List.take_of_length_le (by have := E2.out; omega)] at h
          exact h
        go_wp2_with fail
        go_ret
        exact ⟨by rw [decide_eq_true HE.out]; rfl, HKr.out⟩
  · have hb0 : ((n1 : Int) != (n2 : Int)) = true := by simp; omega
    have HNE : Hid (l1 ≠ l2) := fun e => hn (by rw [← E1.out, ← E2.out, e])
    go_wp2_with fail
    go_ret
    exact ⟨by rw [decide_eq_false HNE.out]; rfl, Kept.refl w⟩

end Ex
end Go.Proofs.YtggodknnfpegmaaDoor
namespace Go.Proofs.YtggodknnfpegmaaDoor
open Go.RowKit
attribute [local go_sem] Oper.semAt_some
namespace Ex

theorem XBox.fill {w : World} {b : Nat} {k n : Int} (h : XBox w b k n) (k2 n2 : Int) : XBox ((w.setCell ⟨b, 0, none⟩ (.int .i64 k2)).setCell ⟨b, 1, none⟩ (.int .i64 n2)) b k2 n2 := by
  unfold XBox at h ⊢
  have hl : b < w.heap.size := (Array.getElem?_eq_some_iff.1 h).1
  have he : w.heap[b] = Obj.cells #[.int .i64 k, .int .i64 n] 68 (0, 0) := by rw [Array.getElem?_eq_getElem hl] at h; exact Option.some.inj h
  simp [World.setCell, Array.getElem_modify, hl, he]
theorem sym2_size (k n : Int) : (Tryd.prog.info? 68).map (·.size) = some (#[Value.int .i64 k, Value.int .i64 n]).size := by
  show _ = some 2
  kernel_rfl
set_option linter.unusedSimpArgs false in
set_option maxRecDepth 100000 in
set_option maxHeartbeats 2000000 in
theorem small1_is (n : Int) (w : World) : Calls Tryd.prog 62 #[.int .i64 n] w fun e w' => e = .returned (.agg #[.int .i64 1, .int .i64 n]) ∧ Kept w w' := by
  have HB : Hid (XBox (w.alloc (.cells #[.int .i64 0, .int .i64 0] 68)) w.heap.size 0 0) := heap_alloc_new w _
  have HK : Hid (Kept w (w.alloc (.cells #[.int .i64 0, .int .i64 0] 68))) := (Kept.refl w).alloc _ _
  go_enter Tryd.func62, Tryd.ntmps62
  go_upto_region 1 with fail
  obtain ⟨W, hW⟩ : ∃ W, w.alloc (.cells #[.int .i64 0, .int .i64 0] 68) = W := ⟨_, rfl⟩
  rw [hW] at HB HK ⊢
  clear hW
  obtain ⟨c0, c1⟩ := HB.out.cells
  have z0 : W.frozen? ⟨w.heap.size, 0, none⟩ = false := by have h := HB.out; unfold XBox at h; simp [World.frozen?, h]
  have z1 : W.frozen? ⟨w.heap.size, 1, none⟩ = false := by have h := HB.out; unfold XBox at h; simp [World.frozen?, h]
  go_wp2_with fail
  refine bodyPost_ret (results_cell_row rfl _ _ w.heap.size 68 _ (0, 0) _ rfl (HB.out.fill 1 n) Tryd.underlying68 rfl (sym2_size _ _)) rfl ?_
  exact ⟨rfl, keepB (keepB HK.out (Nat.le_refl _)) (Nat.le_refl _)⟩
set_option linter.unusedSimpArgs false in
set_option maxRecDepth 100000 in
set_option maxHeartbeats 2000000 in
theorem small2_is (n : Int) (w : World) : Calls Tryd.prog 63 #[.int .i64 n] w fun e w' => e = .returned (.agg #[.int .i64 3, .int .i64 n]) ∧ Kept w w' := by
  have HB : Hid (XBox (w.alloc (.cells #[.int .i64 0, .int .i64 0] 68)) w.heap.size 0 0) := heap_alloc_new w _
  have HK : Hid (Kept w (w.alloc (.cells #[.int .i64 0, .int .i64 0] 68))) := (Kept.refl w).alloc _ _
  go_enter Tryd.func63, Tryd.ntmps63
  go_upto_region 1 with fail
  obtain ⟨W, hW⟩ : ∃ W, w.alloc (.cells #[.int .i64 0, .int .i64 0] 68) = W := ⟨_, rfl⟩
  rw [hW] at HB HK ⊢
  clear hW
  obtain ⟨c0, c1⟩ := HB.out.cells
  have z0 : W.frozen? ⟨w.heap.size, 0, none⟩ = false := by have h := HB.out; unfold XBox at h; simp [World.frozen?, h]
  have z1 : W.frozen? ⟨w.heap.size, 1, none⟩ = false := by have h := HB.out; unfold XBox at h; simp [World.frozen?, h]
  go_wp2_with fail
  refine bodyPost_ret (results_cell_row rfl _ _ w.heap.size 68 _ (0, 0) _ rfl (HB.out.fill 3 n) Tryd.underlying68 rfl (sym2_size _ _)) rfl ?_
  exact ⟨rfl, keepB (keepB HK.out (Nat.le_refl _)) (Nat.le_refl _)⟩
theorem flat_at {sz : Nat} : ∀ (cells : List (List Value)) (i j : Nat) (cs : List Value), (∀ c ∈ cells, c.length = sz) → cells[i]? = some cs → j < sz → cells.flatten[i * sz + j]? = cs[j]?
  | [], i, _, _, _, h, _ => by simp at h
  | c :: rest, 0, j, cs, hl, h, hj => by
    have e : c = cs := by simpa using h
    subst e
    rw [Nat.zero_mul, Nat.zero_add, List.flatten_cons, List.getElem?_append_left (by rw [hl c List.mem_cons_self]; exact hj)]
  | c :: rest, i + 1, j, cs, hl, h, hj => by
    have h2 : rest[i]? = some cs := by simpa using h
    have hc := hl c List.mem_cons_self
    rw [List.flatten_cons, List.getElem?_append_right (by rw [hc, Nat.add_mul]; omega), hc, show (i + 1) * sz + j - sz = i * sz + j by rw [Nat.add_mul]; omega]
    exact flat_at rest i j cs (fun c hc => hl c (List.mem_cons_of_mem _ hc)) h2 hj
/-- A block whose cells are the elements of a list, one behind the other. -/
theorem slice_blk {α : Type} {w : World} {g sz : Nat} {t : TypeId} {El : List Value → α → Prop} {cells : List (List Value)} {xs : List α} (h : Blk w g cells.flatten t) (hl : ∀ c ∈ cells, c.length = sz) (hn : cells.length = xs.length) (hx : xs.length ≤ 17592186044416) (hE : ∀ (i : Nat) (cs : List Value) (x : α), cells[i]? = some cs → xs[i]? = some x → El cs x) {n : Nat} (hnn : xs.length = n) : SliceOf w sz El (.slice (some ⟨g, 0, none⟩) n n) xs := by
  subst hnn
  refine ⟨some ⟨g, 0, none⟩, xs.length, rfl, Nat.le_refl _, hx, .inr ⟨g, 0, rfl, h.lt, fun i x hi => ?_⟩⟩
  obtain ⟨cs, hcs⟩ : ∃ cs, cells[i]? = some cs := ⟨_, List.getElem?_eq_getElem (by rw [hn]; exact (List.getElem?_eq_some_iff.1 hi).1)⟩
  refine ⟨cs, hl cs (List.mem_of_getElem? hcs), fun j u hu => ?_, hE i cs x hcs hi⟩
  have hj : j < sz := by rw [← hl cs (List.mem_of_getElem? hcs)]; exact (List.getElem?_eq_some_iff.1 hu).1
  rw [Nat.zero_add]
  exact h.cell ((flat_at cells i j cs hl hcs hj).trans hu)
def symC (row : List SymM) : List (List Value) := row.map fun x => [.int .i64 x.1, .int .i64 x.2]
theorem right_blk {w : World} {g : Nat} {t : TypeId} {row : List SymM} (h : Blk w g (symC row).flatten t) (hn : row.length ≤ 1000) {n : Nat} (hnn : row.length = n) : RightAt w (.slice (some ⟨g, 0, none⟩) n n) row := by
  refine slice_blk h (fun c hc => ?_) (by unfold symC; rw [List.length_map]) (by omega) (fun i cs x h1 h2 => ?_) hnn
  · obtain ⟨x, _, rfl⟩ := List.mem_map.1 hc
    rfl
  · unfold symC at h1
    rw [List.getElem?_map, h2] at h1
    have e : cs = [.int .i64 x.1, .int .i64 x.2] := by simpa using h1.symm
    exact e
def lexZ (s : ByteArray) (t : Bool) : List Value := [.string s, .bool t, .int .i64 0, .int .i64 0, .int .i64 0, .int .i64 0, .int .i64 0, .slice none 0 0]
theorem lex_blk {w : World} {g : Nat} (h : Blk w g [lexZ ⟨#[97]⟩ false, lexZ ⟨#[98]⟩ false, lexZ ⟨#[119]⟩ true, lexZ ⟨#[99]⟩ false].flatten 99) : LexAt w 0 (.slice (some ⟨g, 0, none⟩) 4 4) lexS := by
  have hk : KidsAt (fun d => d < w.heap.size) w 0 (kids patZ) (.slice none 0 0) := ⟨none, 0, rfl⟩
  refine slice_blk (sz := 8) (xs := lexS) h (fun c hc => ?_) rfl (by decide) (fun i cs x h1 h2 => ?_) rfl
  · simp only [List.mem_cons, List.not_mem_nil, or_false] at hc
    rcases hc with rfl | rfl | rfl | rfl <;> rfl
  · match i, h1, h2 with
    | 0, h1, h2 =>
      have e1 : lexZ ⟨#[97]⟩ false = cs := by simpa using h1
      have e2 : (⟨#[97]⟩, false, patZ) = x := by simpa [lexS] using h2
      subst e1 e2
      exact ⟨_, rfl, by decide, hk⟩
    | 1, h1, h2 =>
      have e1 : lexZ ⟨#[98]⟩ false = cs := by simpa using h1
      have e2 : (⟨#[98]⟩, false, patZ) = x := by simpa [lexS] using h2
      subst e1 e2
      exact ⟨_, rfl, by decide, hk⟩
    | 2, h1, h2 =>
      have e1 : lexZ ⟨#[119]⟩ true = cs := by simpa using h1
      have e2 : (⟨#[119]⟩, true, patZ) = x := by simpa [lexS] using h2
      subst e1 e2
      exact ⟨_, rfl, by decide, hk⟩
    | 3, h1, h2 =>
      have e1 : lexZ ⟨#[99]⟩ false = cs := by simpa using h1
      have e2 : (⟨#[99]⟩, false, patZ) = x := by simpa [lexS] using h2
      subst e1 e2
      exact ⟨_, rfl, by decide, hk⟩
    | i + 4, h1, _ => simp at h1
theorem prods_blk {w : World} {g : Nat} {v0 v1 v2 v4 v5 : Value} (h : Blk w g [[.int .i64 0, v0], [.int .i64 0, v1], [.int .i64 1, v2], [.int .i64 1, .slice none 0 0], [.int .i64 2, v4], [.int .i64 2, v5]].flatten 40) (h0 : RightAt w v0 [(3, 1), (3, 2), (1, 3)]) (h1 : RightAt w v1 [(2, 0)]) (h2 : RightAt w v2 [(1, 0), (3, 1)]) (h4 : RightAt w v4 [(1, 1)]) (h5 : RightAt w v5 [(3, 1)]) : ProdsAt w (.slice (some ⟨g, 0, none⟩) 6 6) psS := by
  have h3 : RightAt w (.slice none 0 0) [] := ⟨none, 0, rfl, Nat.le_refl _, by simp, .inl rfl⟩
  refine slice_blk (sz := 2) (xs := psS) h (fun c hc => ?_) rfl (by decide) (fun i cs x q1 q2 => ?_) rfl
  · simp only [List.mem_cons, List.not_mem_nil, or_false] at hc
    rcases hc with rfl | rfl | rfl | rfl | rfl | rfl <;> rfl
  · match i, q1, q2 with
    | 0, q1, q2 =>
      have e1 : [Value.int .i64 0, v0] = cs := by simpa using q1
      have e2 : (0, [(3, 1), (3, 2), (1, 3)]) = x := by simpa [psS] using q2
      subst e1 e2
      exact ⟨_, rfl, h0⟩
    | 1, q1, q2 =>
      have e1 : [Value.int .i64 0, v1] = cs := by simpa using q1
      have e2 : (0, [(2, 0)]) = x := by simpa [psS] using q2
      subst e1 e2
      exact ⟨_, rfl, h1⟩
    | 2, q1, q2 =>
      have e1 : [Value.int .i64 1, v2] = cs := by simpa using q1
      have e2 : (1, [(1, 0), (3, 1)]) = x := by simpa [psS] using q2
      subst e1 e2
      exact ⟨_, rfl, h2⟩
    | 3, q1, q2 =>
      have e1 : [Value.int .i64 1, .slice none 0 0] = cs := by simpa using q1
      have e2 : (1, []) = x := by simpa [psS] using q2
      subst e1 e2
      exact ⟨_, rfl, h3⟩
    | 4, q1, q2 =>
      have e1 : [Value.int .i64 2, v4] = cs := by simpa using q1
      have e2 : (2, [(1, 1)]) = x := by simpa [psS] using q2
      subst e1 e2
      exact ⟨_, rfl, h4⟩
    | 5, q1, q2 =>
      have e1 : [Value.int .i64 2, v5] = cs := by simpa using q1
      have e2 : (2, [(3, 1)]) = x := by simpa [psS] using q2
      subst e1 e2
      exact ⟨_, rfl, h5⟩
    | i + 6, q1, _ => simp at q1
/-- The fixed spec. -/
def SmR (w : World) (e : Ending) (w' : World) : Prop := ∃ g1 g2 g3, e = .returned (.agg #[.slice (some ⟨g1, 0, none⟩) 4 4, .slice (some ⟨g2, 0, none⟩) 3 3, .int .i64 0, .slice (some ⟨g3, 0, none⟩) 6 6]) ∧ LexAt w' 0 (.slice (some ⟨g1, 0, none⟩) 4 4) lexS ∧ ProdsAt w' (.slice (some ⟨g3, 0, none⟩) 6 6) psS ∧ Kept w w'
theorem spec4_size (x0 x1 x2 x3 : Value) : (Tryd.prog.info? 26).map (·.size) = some (#[x0, x1, x2, x3]).size := by
  show _ = some 4
  kernel_rfl
theorem hp_keep {w w' : World} {b : Nat} {o : Obj} (h : w.heap[b]? = some o) (hk : Kept w w') : w'.heap[b]? = some o := (hk.2.2.2.2 b (Array.getElem?_eq_some_iff.1 h).1).trans h
theorem SBox.fill {w : World} {b : Nat} {x0 x1 x2 x3 : Value} (h : SBox w b x0 x1 x2 x3) (y0 y1 y2 y3 : Value) : SBox ((((w.setCell ⟨b, 0, none⟩ y0).setCell ⟨b, 1, none⟩ y1).setCell ⟨b, 2, none⟩ y2).setCell ⟨b, 3, none⟩ y3) b y0 y1 y2 y3 := by
  unfold SBox at h ⊢
  have hl : b < w.heap.size := (Array.getElem?_eq_some_iff.1 h).1
  have he : w.heap[b] = Obj.cells #[x0, x1, x2, x3] 26 (0, 0) := by rw [Array.getElem?_eq_getElem hl] at h; exact Option.some.inj h
  simp [World.setCell, Array.getElem_modify, hl, he]
set_option linter.unusedSimpArgs false in
set_option maxRecDepth 100000 in
set_option maxHeartbeats 4000000 in
theorem sSmall_is (w : World) : Calls Tryd.prog 33 #[] w (SmR w) := by
  have hef1 : ∀ args w, (callFunc 62 args).run Tryd.prog w = .ok (.enter 62 args) w := enters_of (P := Tryd.prog) Tryd.func62 (by kernel_rfl) rfl
  have hef2 : ∀ args w, (callFunc 63 args).run Tryd.prog w = .ok (.enter 63 args) w := enters_of (P := Tryd.prog) Tryd.func63 (by kernel_rfl) rfl
  go_enter Tryd.func33, Tryd.ntmps33
  go_wp2_with fail
  refine (small2_is _ _).mono ?_
  rintro e w1 ⟨rfl, hk1⟩
  obtain ⟨b, hb⟩ : ∃ b, w.heap.size = b := ⟨_, rfl⟩
  have HR1 : Hid (w1.heap[b]? = some (.cells #[.slice none 0 0, .slice none 0 0, .int .i64 0, .slice none 0 0] 26 (0, 0))) := hb ▸ hp_keep (hp_keep (hp_keep (heap_alloc_new w _) ((Kept.refl _).alloc _ _)) ((Kept.refl _).alloc _ _)) hk1
  have HL1 : Hid (Blk w1 (b + 1) [lexZ ⟨#[97]⟩ false, lexZ ⟨#[98]⟩ false, lexZ ⟨#[119]⟩ true, lexZ ⟨#[99]⟩ false].flatten 99) := by
    have h := hp_keep (hp_keep (heap_alloc_new (w.alloc (.cells #[.slice none 0 0, .slice none 0 0, .int .i64 0, .slice none 0 0] 26)) _) ((Kept.refl _).alloc _ _)) hk1
    rw [World.size_alloc, hb] at h
    exact h
  have HK1 : Hid (Kept w w1) := gtrans ((((Kept.refl w).alloc _ _).alloc _ _).alloc _ _) hk1
  have HBW := hide1 hb
  rw [hb]
  clear hb hk1
  go_wp2_with fail
  refine (small2_is _ _).mono ?_
  rintro e w2 ⟨rfl, hk2⟩
  go_wp2_with fail
  refine (small1_is _ _).mono ?_
  rintro e w3 ⟨rfl, hk3⟩
  have HK3 := hide1 (gtrans HK1.out (gtrans hk2 hk3))
  have HR3 := hide1 (hp_keep HR1.out (gtrans hk2 hk3))
  have HL3 := hide1 (HL1.out.keep (gtrans hk2 hk3))
  clear hk2 hk3
  go_wp2_with fail
  refine (small1_is _ _).mono ?_
  rintro e w4 ⟨rfl, hk4⟩
  obtain ⟨r0, hr0⟩ : ∃ r0, w3.heap.size = r0 := ⟨_, rfl⟩
  have HA0 : Hid (Blk w4 r0 (symC [(3, 1), (3, 2), (1, 3)]).flatten 68) := by
    have h := hp_keep (hp_keep (heap_alloc_new w3 _) ((Kept.refl _).alloc _ _)) hk4
    rw [hr0] at h
    exact h
  have HA1 : Hid (Blk w4 (r0 + 1) (symC [(2, 0)]).flatten 68) := by
    have h := hp_keep (heap_alloc_new (w3.alloc (.cells #[.int .i64 3, .int .i64 1, .int .i64 3, .int .i64 2, .int .i64 1, .int .i64 3] 68)) _) hk4
    rw [World.size_alloc, hr0] at h
    exact h
  have HK34 : Hid (Kept w3 w4) := gtrans (((Kept.refl w3).alloc _ _).alloc _ _) hk4
  have HR4 := hide1 (hp_keep HR3.out HK34.out)
  have HL4 := hide1 (HL3.out.keep HK34.out)
  rw [hr0]
  clear hr0 hk4
  go_wp2_with fail
  refine (small2_is _ _).mono ?_
  rintro e w5 ⟨rfl, hk5⟩
  have HK5 := hide1 hk5
  clear hk5
  go_wp2_with fail
  refine (small1_is _ _).mono ?_
  rintro e w6 ⟨rfl, hk6⟩
  obtain ⟨r2, hr2⟩ : ∃ r2, w5.heap.size = r2 := ⟨_, rfl⟩
  have HA2 : Hid (Blk w6 r2 (symC [(1, 0), (3, 1)]).flatten 68) := by
    have h := hp_keep (heap_alloc_new w5 _) hk6
    rw [hr2] at h
    exact h
  have HK56 : Hid (Kept w5 w6) := gtrans ((Kept.refl w5).alloc _ _) hk6
  rw [hr2]
  clear hr2 hk6
  go_wp2_with fail
  refine (small2_is _ _).mono ?_
  rintro e w7 ⟨rfl, hk7⟩
  obtain ⟨r4, hr4⟩ : ∃ r4, w6.heap.size = r4 := ⟨_, rfl⟩
  have HA4 : Hid (Blk w7 r4 (symC [(1, 1)]).flatten 68) := by
    have h := hp_keep (heap_alloc_new w6 _) hk7
    rw [hr4] at h
    exact h
  have HK67 : Hid (Kept w6 w7) := gtrans ((Kept.refl w6).alloc _ _) hk7
  rw [hr4]
  clear hr4 hk7
  have HK47 := hide1 (gtrans HK5.out (gtrans HK56.out HK67.out))
  have HR7 := hide1 (hp_keep HR4.out HK47.out)
  have HQ : Hid (∀ c1 t1 c2 t2, ((w7.alloc (.cells c1 t1)).alloc (.cells c2 t2)).heap[b]? = some (.cells #[.slice none 0 0, .slice none 0 0, .int .i64 0, .slice none 0 0] 26 (0, 0))) := fun _ _ _ _ => hp_keep HR7.out (((Kept.refl w7).alloc _ _).alloc _ _)
  have q0 : ∀ c1 t1 c2 t2, ((w7.alloc (.cells c1 t1)).alloc (.cells c2 t2)).cell? ⟨b, 0, none⟩ = some (.slice none 0 0) := fun c1 t1 c2 t2 => by simp only [World.cell?, HQ.out c1 t1 c2 t2]; rfl
  have q1 : ∀ c1 t1 c2 t2, ((w7.alloc (.cells c1 t1)).alloc (.cells c2 t2)).cell? ⟨b, 1, none⟩ = some (.slice none 0 0) := fun c1 t1 c2 t2 => by simp only [World.cell?, HQ.out c1 t1 c2 t2]; rfl
  have q2 : ∀ c1 t1 c2 t2, ((w7.alloc (.cells c1 t1)).alloc (.cells c2 t2)).cell? ⟨b, 2, none⟩ = some (.int .i64 0) := fun c1 t1 c2 t2 => by simp only [World.cell?, HQ.out c1 t1 c2 t2]; rfl
  have q3 : ∀ c1 t1 c2 t2, ((w7.alloc (.cells c1 t1)).alloc (.cells c2 t2)).cell? ⟨b, 3, none⟩ = some (.slice none 0 0) := fun c1 t1 c2 t2 => by simp only [World.cell?, HQ.out c1 t1 c2 t2]; rfl
  have z0 : ∀ c1 t1 c2 t2, ((w7.alloc (.cells c1 t1)).alloc (.cells c2 t2)).frozen? ⟨b, 0, none⟩ = false := fun c1 t1 c2 t2 => by simp [World.frozen?, HQ.out c1 t1 c2 t2]
  have z1 : ∀ c1 t1 c2 t2, ((w7.alloc (.cells c1 t1)).alloc (.cells c2 t2)).frozen? ⟨b, 1, none⟩ = false := fun c1 t1 c2 t2 => by simp [World.frozen?, HQ.out c1 t1 c2 t2]
  have z2 : ∀ c1 t1 c2 t2, ((w7.alloc (.cells c1 t1)).alloc (.cells c2 t2)).frozen? ⟨b, 2, none⟩ = false := fun c1 t1 c2 t2 => by simp [World.frozen?, HQ.out c1 t1 c2 t2]
  have z3 : ∀ c1 t1 c2 t2, ((w7.alloc (.cells c1 t1)).alloc (.cells c2 t2)).frozen? ⟨b, 3, none⟩ = false := fun c1 t1 c2 t2 => by simp [World.frozen?, HQ.out c1 t1 c2 t2]
  go_wp2_with fail
  clear q0 q1 q2 q3 z0 z1 z2 z3
  have HA5 : Hid (Blk ((w7.alloc (.cells #[.int .i64 3, .int .i64 1] 68)).alloc (.cells #[.int .i64 0, .slice (some ⟨r0, 0, none⟩) 3 3, .int .i64 0, .slice (some ⟨r0 + 1, 0, none⟩) 1 1, .int .i64 1, .slice (some ⟨r2, 0, none⟩) 2 2, .int .i64 1, .slice none 0 0, .int .i64 2, .slice (some ⟨r4, 0, none⟩) 1 1, .int .i64 2, .slice (some ⟨w7.heap.size, 0, none⟩) 1 1] 40)) w7.heap.size (symC [(3, 1)]).flatten 68) := hp_keep (heap_alloc_new w7 _) ((Kept.refl _).alloc _ _)
  have HPR : Hid (Blk ((w7.alloc (.cells #[.int .i64 3, .int .i64 1] 68)).alloc (.cells #[.int .i64 0, .slice (some ⟨r0, 0, none⟩) 3 3, .int .i64 0, .slice (some ⟨r0 + 1, 0, none⟩) 1 1, .int .i64 1, .slice (some ⟨r2, 0, none⟩) 2 2, .int .i64 1, .slice none 0 0, .int .i64 2, .slice (some ⟨r4, 0, none⟩) 1 1, .int .i64 2, .slice (some ⟨w7.heap.size, 0, none⟩) 1 1] 40)) (w7.heap.size + 1) [[.int .i64 0, .slice (some ⟨r0, 0, none⟩) 3 3], [.int .i64 0, .slice (some ⟨r0 + 1, 0, none⟩) 1 1], [.int .i64 1, .slice (some ⟨r2, 0, none⟩) 2 2], [.int .i64 1, .slice none 0 0], [.int .i64 2, .slice (some ⟨r4, 0, none⟩) 1 1], [.int .i64 2, .slice (some ⟨w7.heap.size, 0, none⟩) 1 1]].flatten 40) := by
    have h := heap_alloc_new (w7.alloc (.cells #[.int .i64 3, .int .i64 1] 68)) (.cells #[.int .i64 0, .slice (some ⟨r0, 0, none⟩) 3 3, .int .i64 0, .slice (some ⟨r0 + 1, 0, none⟩) 1 1, .int .i64 1, .slice (some ⟨r2, 0, none⟩) 2 2, .int .i64 1, .slice none 0 0, .int .i64 2, .slice (some ⟨r4, 0, none⟩) 1 1, .int .i64 2, .slice (some ⟨w7.heap.size, 0, none⟩) 1 1] 40)
    rw [World.size_alloc] at h
    exact h
  have HK8 : Hid (Kept w7 ((w7.alloc (.cells #[.int .i64 3, .int .i64 1] 68)).alloc (.cells #[.int .i64 0, .slice (some ⟨r0, 0, none⟩) 3 3, .int .i64 0, .slice (some ⟨r0 + 1, 0, none⟩) 1 1, .int .i64 1, .slice (some ⟨r2, 0, none⟩) 2 2, .int .i64 1, .slice none 0 0, .int .i64 2, .slice (some ⟨r4, 0, none⟩) 1 1, .int .i64 2, .slice (some ⟨w7.heap.size, 0, none⟩) 1 1] 40))) := ((Kept.refl w7).alloc _ _).alloc _ _
  have HSB : Hid (SBox ((w7.alloc (.cells #[.int .i64 3, .int .i64 1] 68)).alloc (.cells #[.int .i64 0, .slice (some ⟨r0, 0, none⟩) 3 3, .int .i64 0, .slice (some ⟨r0 + 1, 0, none⟩) 1 1, .int .i64 1, .slice (some ⟨r2, 0, none⟩) 2 2, .int .i64 1, .slice none 0 0, .int .i64 2, .slice (some ⟨r4, 0, none⟩) 1 1, .int .i64 2, .slice (some ⟨w7.heap.size, 0, none⟩) 1 1] 40)) b (.slice none 0 0) (.slice none 0 0) (.int .i64 0) (.slice none 0 0)) := HQ.out _ _ _ _
  obtain ⟨W8, hW8⟩ : ∃ W8, (w7.alloc (.cells #[.int .i64 3, .int .i64 1] 68)).alloc (.cells #[.int .i64 0, .slice (some ⟨r0, 0, none⟩) 3 3, .int .i64 0, .slice (some ⟨r0 + 1, 0, none⟩) 1 1, .int .i64 1, .slice (some ⟨r2, 0, none⟩) 2 2, .int .i64 1, .slice none 0 0, .int .i64 2, .slice (some ⟨r4, 0, none⟩) 1 1, .int .i64 2, .slice (some ⟨w7.heap.size, 0, none⟩) 1 1] 40) = W8 := ⟨_, rfl⟩
  rw [hW8] at HA5 HPR HK8 HSB ⊢
  clear hW8 HQ
  refine bodyPost_ret (results_cell_row rfl _ _ b 26 _ (0, 0) _ rfl (HSB.out.fill _ _ _ _) Tryd.underlying26 rfl (spec4_size _ _ _ _)) rfl ?_
  have HBU : Hid (KeptBut b W8 ((((W8.setCell ⟨b, 0, none⟩ (.slice (some ⟨b + 1, 0, none⟩) 4 4)).setCell ⟨b, 1, none⟩ (.slice (some ⟨b + 1 + 1, 0, none⟩) 3 3)).setCell ⟨b, 2, none⟩ (.int .i64 0)).setCell ⟨b, 3, none⟩ (.slice (some ⟨w7.heap.size + 1, 0, none⟩) 6 6))) := but_set (but_set (but_set (but_set (but_refl b W8) _ _) _ _) _ _) _ _
  have b8 : ∀ {g : Nat} {L : List Value} {t : TypeId}, Blk W8 g L t → t ≠ 26 → Blk ((((W8.setCell ⟨b, 0, none⟩ (.slice (some ⟨b + 1, 0, none⟩) 4 4)).setCell ⟨b, 1, none⟩ (.slice (some ⟨b + 1 + 1, 0, none⟩) 3 3)).setCell ⟨b, 2, none⟩ (.int .i64 0)).setCell ⟨b, 3, none⟩ (.slice (some ⟨w7.heap.size + 1, 0, none⟩) 6 6)) g L t := fun h ht => h.but HBU.out (fun e => by
    subst e
    have h1 := HSB.out
    unfold SBox at h1
    unfold Blk at h
    rw [h1] at h
    injection h with h
    injection h with _ h _
    exact ht h.symm)
  have k48 := gtrans HK47.out HK8.out
  refine ⟨b + 1, b + 1 + 1, w7.heap.size + 1, rfl, lex_blk (b8 (HL4.out.keep k48) (by decide)), prods_blk (b8 HPR.out (by decide)) (right_blk (b8 (HA0.out.keep k48) (by decide)) (by decide) rfl) (right_blk (b8 (HA1.out.keep k48) (by decide)) (by decide) rfl) (right_blk (b8 (HA2.out.keep (gtrans HK67.out HK8.out)) (by decide)) (by decide) rfl) (right_blk (b8 (HA4.out.keep HK8.out) (by decide)) (by decide) rfl) (right_blk (b8 HA5.out (by decide)) (by decide) rfl), ?_⟩
  exact KeptBut.up (gtrans HK3.out (gtrans HK34.out k48)) (Nat.le_of_eq HBW.out) HBU.out

end Ex
end Go.Proofs.YtggodknnfpegmaaDoor
