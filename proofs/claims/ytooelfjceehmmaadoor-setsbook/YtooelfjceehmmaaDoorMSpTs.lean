import Derived.Test.YtooelfjceehmmaaDoorMSpTe
import Derived.Test.YtooelfjceehmmaaDoorMSpYt
import Derived.Test.YtooelfjceehmmaaDoorMSpQu
namespace Go.Proofs.YtooelfjceehmmaaDoor
open Go.RowKit
attribute [local go_sem] Oper.semAt_some
namespace Ex

/-- A list of bools to be read. -/
def BoolsR (w : World) (v : Value) (l : List Bool) : Prop := SliceOf w 1 (fun cs x => cs = [.bool x]) v l
theorem BoolsR.keep {w w' : World} {v : Value} {l : List Bool} (h : BoolsR w v l) (hk : Kept w w') : BoolsR w' v l := SliceOf.mono h hk (fun _ _ h => h)
theorem BoolsR.at_ {w : World} {a : Option Addr} {n c : Nat} {l : List Bool} (h : BoolsR w (.slice a n c) l) {i : Nat} {x : Bool} (hx : l[i]? = some x) : ∃ g o, a = some ⟨g, o, none⟩ ∧ w.cell? ⟨g, o + i, none⟩ = some (.bool x) := by
  obtain ⟨g, o, cs, h1, _, _, h4, h5⟩ := SliceOf.el h hx
  have h5 : cs = [.bool x] := h5
  subst h5
  have h6 := h4 0 _ rfl
  rw [Nat.mul_one, Nat.add_zero] at h6
  exact ⟨g, o, h1, h6⟩
theorem bool_two {l1 l2 : List Bool} {j : Nat} (hn : l1.length = l2.length) (h : l1.take j = l2.take j) {x y : Bool} (hx : l1[j]? = some x) (hy : l2[j]? = some y) : (x = y → l1.take (j + 1) = l2.take (j + 1)) ∧ (x ≠ y → l1 ≠ l2) := by
  have _ := hn
  obtain ⟨h1, e1⟩ := List.getElem?_eq_some_iff.1 hx
  obtain ⟨h2, e2⟩ := List.getElem?_eq_some_iff.1 hy
  refine ⟨fun e => ?_, fun e e3 => ?_⟩
  · rw [List.take_succ_eq_append_getElem h1, List.take_succ_eq_append_getElem h2, h, e1, e2, e]
  · subst e3
    rw [hx] at hy
    injection hy with hy
    exact e hy
def SbI (l1 l2 : List Bool) (W : World) (vi : Value) (wr : World) : Prop := ∃ j : Nat, vi = .int .i64 (j : Int) ∧ j ≤ l1.length ∧ Hid (l1.take j = l2.take j) ∧ Hid (Kept W wr)
set_option linter.unusedSimpArgs false in
set_option maxRecDepth 100000 in
set_option maxHeartbeats 4000000 in
theorem sameBoolsS_is (a1 a2 : Option Addr) (n1 c1 n2 c2 : Nat) (l1 l2 : List Bool) (w : World) (e1 : l1.length = n1) (e2 : l2.length = n2) (h1 : BoolsR w (.slice a1 n1 c1) l1) (h2 : BoolsR w (.slice a2 n2 c2) l2) :
    Calls Tryd.prog 26 #[.slice a1 n1 c1, .slice a2 n2 c2] w fun e w' => e = .returned (.bool (decide (l1 = l2))) ∧ Kept w w' := by
  obtain ⟨_, _, q1, hc1, hn1⟩ := SliceOf.len h1
  obtain ⟨_, _, q2, hc2, hn2⟩ := SliceOf.len h2
  simp only [Value.slice.injEq] at q1 q2
  obtain ⟨rfl, en1, rfl⟩ := q1
  obtain ⟨rfl, en2, rfl⟩ := q2
  clear en1 en2
  rw [e1] at hc1 hn1
  rw [e2] at hc2 hn2
  have g1 : (n1 : Int) ≤ 17592186044416 := by omega
  have g2 : (n2 : Int) ≤ 17592186044416 := by omega
  have H1 := hide1 h1
  have H2 := hide1 h2
  have E1 := hide1 e1
  have E2 := hide1 e2
  clear h1 h2 e1 e2
  go_enter Tryd.func26, Tryd.ntmps26
  by_cases hn : n1 = n2
  · subst hn
    have HLL : Hid (l1.length = l2.length) := by show _ = _; rw [E1.out, E2.out]
    have hb0 : ((n1 : Int) != (n1 : Int)) = false := by simp
    go_wp2_with fail
    go_loopw [5] (SbI l1 l2 w) (fun i _ => n1 - (intOf i).toNat)
    case atStart => exact ⟨0, rfl, Nat.zero_le _, rfl, Kept.refl w⟩
    case round =>
      obtain ⟨j, rfl, hj, HT, HKr⟩ := hrel
      rw [E1.out] at hj
      by_cases hlt : (j : Int) < (n1 : Int)
      · obtain ⟨x, hx⟩ : ∃ x, l1[j]? = some x := ⟨_, List.getElem?_eq_getElem (by have := E1.out; omega)⟩
        obtain ⟨y, hy⟩ : ∃ y, l2[j]? = some y := ⟨_, List.getElem?_eq_getElem (by have := E2.out; omega)⟩
        obtain ⟨b1, o1, ea1, k1⟩ := (H1.out.keep HKr.out).at_ hx
        obtain ⟨b2, o2, ea2, k2⟩ := (H2.out.keep HKr.out).at_ hy
        obtain ⟨h5, h6⟩ := bool_two HLL.out HT.out hx hy
        have H5 := hide1 h5
        have H6 := hide1 h6
        subst ea1 ea2
        have gj1 : (j : Int) < (c1 : Int) := by omega
        have gj2 : (j : Int) < (c2 : Int) := by omega
        clear hx hy h5 h6
        rcases Bool.eq_false_or_eq_true x with hx1 | hx1 <;> rcases Bool.eq_false_or_eq_true y with hy1 | hy1 <;> subst hx1 <;> subst hy1
        · have HT2 := hide1 (H5.out rfl)
          go_upto_region 6 with fail
          go_quiet (fail)
          go_wp2_with fail
          go_roundw
          case rel => exact ⟨j + 1, by go_num, by rw [E1.out]; omega, HT2, gtrans HKr.out (drewN_kept _ _)⟩
          case measure => simp [intOf]; omega
        · have HT2 := hide1 (H6.out (by decide))
          go_upto_region 6 with fail
          go_quiet (fail)
          go_wp2_with fail
          go_ret
          exact ⟨by rw [decide_eq_false HT2.out]; rfl, gtrans HKr.out (drewN_kept _ _)⟩
        · have HT2 := hide1 (H6.out (by decide))
          go_upto_region 6 with fail
          go_quiet (fail)
          go_wp2_with fail
          go_ret
          exact ⟨by rw [decide_eq_false HT2.out]; rfl, gtrans HKr.out (drewN_kept _ _)⟩
        · have HT2 := hide1 (H5.out rfl)
          go_upto_region 6 with fail
          go_quiet (fail)
          go_wp2_with fail
          go_roundw
          case rel => exact ⟨j + 1, by go_num, by rw [E1.out]; omega, HT2, gtrans HKr.out (drewN_kept _ _)⟩
          case measure => simp [intOf]; omega
      · have HE : Hid (l1 = l2) := by
          have h := HT.out
          rw [List.take_of_length_le (by have := E1.out; omega), List.take_of_length_le (by have := E2.out; omega)] at h
          exact h
        go_wp2_with fail
        go_ret
        exact ⟨by rw [decide_eq_true HE.out]; rfl, HKr.out⟩
  · have hb0 : ((n1 : Int) != (n2 : Int)) = true := by simp; omega
    have HNE : Hid (l1 ≠ l2) := fun e => hn (by rw [← E1.out, ← E2.out, e])
    go_wp2_with fail
    go_ret
    exact ⟨by rw [decide_eq_false HNE.out]; rfl, Kept.refl w⟩
theorem BoolsO.read {w : World} {base : Nat} {v : Value} {l : List Bool} (h : BoolsO w base v l) (hl : l.length ≤ 17592186044416) : BoolsR w v l := by
  obtain ⟨g, rfl, _, h4⟩ := h
  refine ⟨some ⟨g, 0, none⟩, l.length, rfl, Nat.le_refl _, hl, .inr ⟨g, 0, rfl, h4.blk.lt, fun i x hx => ⟨[.bool x], rfl, fun j y hy => ?_, rfl⟩⟩⟩
  have hj : j = 0 := by
    have := (List.getElem?_eq_some_iff.1 hy).1
    simp at this
    exact this
  subst hj
  have hy : Value.bool x = y := by simpa using hy
  subst hy
  rw [Nat.zero_add, Nat.mul_one, Nat.add_zero]
  exact h4.blk.cell (by rw [List.getElem?_map, hx]; rfl)
theorem td_two (w : World) (c1 c2 : Array Value) : Kept w ((w.alloc (.cells c1 30)).alloc (.cells c2 30)) := ((Kept.refl w).alloc _ _).alloc _ _
end Ex
end Go.Proofs.YtooelfjceehmmaaDoor
namespace Go.Proofs.YtooelfjceehmmaaDoor
open Go.RowKit
namespace Ex

theorem miss_none {P : Nat → Prop} {n : Nat} {err : Int} {x : Int × Int} (h : FirstMiss P n err x) (he : err ≠ 0) (hx : x.1 = 0) : ∀ k, k < n → P k := by
  rcases h with ⟨i, _, _, _, rfl⟩ | ⟨h, _⟩
  · exact absurd hx he
  · exact h
end Ex
end Go.Proofs.YtooelfjceehmmaaDoor
namespace Go.Proofs.YtooelfjceehmmaaDoor
open Go.RowKit
attribute [local go_sem] Oper.semAt_some
namespace Ex

theorem SBox.set3 {w : World} {b : Nat} {x0 x1 x2 x3 : Value} (h : SBox w b x0 x1 x2 x3) (y : Value) : SBox (w.setCell ⟨b, 3, none⟩ y) b x0 x1 x2 y := by
  unfold SBox at h ⊢
  have hl : b < w.heap.size := (Array.getElem?_eq_some_iff.1 h).1
  have he : w.heap[b] = Obj.cells #[x0, x1, x2, x3] 26 (0, 0) := by rw [Array.getElem?_eq_getElem hl] at h; exact Option.some.inj h
  simp [World.setCell, Array.getElem_modify, hl, he]
theorem SBox.free {w : World} {b : Nat} {x0 x1 x2 x3 : Value} (h : SBox w b x0 x1 x2 x3) : w.frozen? ⟨b, 3, none⟩ = false := by simp [World.frozen?, show w.heap[b]? = _ from h]
end Ex
end Go.Proofs.YtooelfjceehmmaaDoor
namespace Go.Proofs.YtooelfjceehmmaaDoor
open Go.RowKit
attribute [local go_sem] Oper.semAt_some
namespace Ex

theorem IntsO.low {w : World} {base b : Nat} {v : Value} {l : List Int} (h : IntsO w base v l) (hb : b ≤ base) : IntsO w b v l := by
  have h2 : w.ownsRow base 3 1 v l.length (flatS l) := h
  refine ⟨h2.1, ?_⟩
  rcases h2.2 with ⟨e, h0⟩ | ⟨g, cap, cur, e, hg0, rest⟩
  · exact .inl ⟨e, h0⟩
  · exact .inr ⟨g, cap, cur, e, Nat.le_trans hb hg0, rest⟩
end Ex
end Go.Proofs.YtooelfjceehmmaaDoor
