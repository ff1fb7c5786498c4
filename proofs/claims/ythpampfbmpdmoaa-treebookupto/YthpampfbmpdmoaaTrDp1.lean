import Derived.Test.YthpampfbmpdmoaaTrDp0
namespace Go.Proofs.Ythpampfbmpdmoaa
open Go.RowKit
attribute [local go_sem] Oper.semAt_some
namespace Ex
namespace Tr

/-- A cursor that was made behind W, and what it stands on. -/
def CurP (W w : World) (C : Nat) (wy : List (Nat × Nat × Nat)) : Prop :=
  Kept W w ∧ W.heap.size ≤ C ∧ ∃ wv, CurAt w C wv ∧ SOwn w W.heap.size wv wy ∧ ∀ d, wv.ownBlock = some d → d ≠ C
theorem CurP.keep {W w w' : World} {C : Nat} {wy : List (Nat × Nat × Nat)} (h : CurP W w C wy) (hk : Kept w w') : CurP W w' C wy := by
  obtain ⟨h1, h2, wv, h3, h4, h5⟩ := h
  exact ⟨gtrans h1 hk, h2, wv, h3.keep hk, h4.keep hk, h5⟩
theorem path_one {R : Nat → Prop} {N : Nat → Nd} {top : Nat} (h : R top) : PathOk R N top [(top, 0, 0)] := by
  refine ⟨rfl, ?_, ?_⟩
  · intro q hq
    rw [List.mem_singleton.1 hq]
    exact h
  · intro i q q' _ h2
    simp at h2
theorem CurP.to {R : Nat → Prop} {N : Nat → Nd} {B C top at_ : Nat} {W w : World} {wy : List (Nat × Nat × Nat)} (h : CurP W w C wy) (hF : Forest R N B W) (hW : FWid R N) (hP : PathOk R N top wy) (hat : at_ < (N top).width) (hB : B ≤ W.heap.size) :
    Calls Try.prog 28 #[.pointer (some ⟨C, 0, none⟩), .int .i64 (at_ : Int)] w fun e w' => e = .returned (.bool true) ∧ ∃ pre q, PathOk R N top (pre ++ [q]) ∧ (N q.1).kind = 1 ∧ holdsB q (N q.1).width at_ = true ∧ CurP W w' C (pre ++ [q]) := by
  obtain ⟨h1, h2, wv, h3, h4, h5⟩ := h
  have hl := World.ownsRow.lt h4
  refine (to_is R N B C W.heap.size top wv wy at_ w (hF.kb (h1.kb hB)) hW hP hat h3 h4 hB (Nat.le_trans hB h2) h1.size h5).mono ?_
  rintro e w' ⟨rfl, pre, q, g1, g2, g3, wv', k1, k2, k3, k4, k5⟩
  refine ⟨rfl, pre, q, g1, g2, g3, ⟨k4.1.trans h1.1, k4.2.1.trans h1.2.1, k4.2.2.1.trans h1.2.2.1, Nat.le_trans h1.size k4.2.2.2.1, fun d hd => ?_⟩, h2, wv', k1, k2, k5⟩
  exact (k4.2.2.2.2 d (Nat.lt_of_lt_of_le hd h1.size) (by omega) (fun e => by have := (hl d e.symm).1; omega)).trans (h1.2.2.2.2 d hd)
theorem CurP.node {C : Nat} {W w : World} {pre : List (Nat × Nat × Nat)} {q : Nat × Nat × Nat} (h : CurP W w C (pre ++ [q])) (hl : pre.length ≤ 4194304) :
    Calls Try.prog 10 #[.pointer (some ⟨C, 0, none⟩)] w fun e w' => e = .returned (.pointer (some ⟨q.1, 0, none⟩)) ∧ Kept w w' := by
  obtain ⟨h1, h2, wv, h3, h4, h5⟩ := h
  exact node_is C _ wv pre q w h3 h4 hl
theorem CurP.offset {C : Nat} {W w : World} {pre : List (Nat × Nat × Nat)} {q : Nat × Nat × Nat} (h : CurP W w C (pre ++ [q])) (hl : pre.length ≤ 4194304) :
    Calls Try.prog 11 #[.pointer (some ⟨C, 0, none⟩)] w fun e w' => e = .returned (.int .i64 (q.2.1 : Int)) ∧ Kept w w' := by
  obtain ⟨h1, h2, wv, h3, h4, h5⟩ := h
  exact offset_is C _ wv pre q w h3 h4 hl
theorem CurP.path {C m : Nat} {W w : World} {pre : List (Nat × Nat × Nat)} {q : Nat × Nat × Nat} (h : CurP W w C (pre ++ [q])) (hm : pre.length = m) (h1m : 1 ≤ m) (hl : m ≤ 4194304) :
    Calls Try.prog 13 #[.pointer (some ⟨C, 0, none⟩)] w fun e w' => (∃ a c, e = .returned (.slice a m c)) ∧ Kept w w' := by
  obtain ⟨h1, h2, wv, h3, h4, h5⟩ := h
  obtain ⟨q0, ys, hy⟩ : ∃ q0 ys, pre ++ [q] = q0 :: ys := by
    cases pre with
    | nil => exact ⟨_, _, rfl⟩
    | cons a l => exact ⟨_, _, rfl⟩
  have hyl : ys.length = m := by
    have := congrArg List.length hy
    simp only [List.length_append, List.length_cons, List.length_nil] at this
    omega
  rw [hy] at h4
  refine (path_is C _ wv q0 ys w h3 h4 (by omega)).mono ?_
  rintro e w' ⟨⟨v, rfl, hv⟩, hk⟩
  refine ⟨?_, hk⟩
  have hvl : (ys.map fun q => q.2.2).length = m := by rw [List.length_map, hyl]
  rcases hv.2 with ⟨_, h0⟩ | ⟨gg, cc, cur, h0, _⟩
  · rw [hvl] at h0
    omega
  · rw [hvl] at h0
    exact ⟨_, _, by rw [h0]⟩
theorem CurP.up {C : Nat} {W w : World} {pre : List (Nat × Nat × Nat)} {q : Nat × Nat × Nat} (h : CurP W w C (pre ++ [q])) (h1m : 1 ≤ pre.length) (hl : pre.length ≤ 4194304) :
    Calls Try.prog 23 #[.pointer (some ⟨C, 0, none⟩)] w fun e w' => e = .returned (.bool true) ∧ CurP W w' C pre := by
  obtain ⟨h1, h2, wv, h3, h4, h5⟩ := h
  obtain ⟨g, cap, rfl, hbg, hgl, hcap, _⟩ := h4.cellsAt (i := pre.length) (q := q) (by simp)
  have hL : (pre ++ [q]).length = pre.length + 1 := by simp
  rw [hL] at h3 h4 hcap h5
  have hg : g ≠ C := h5 g rfl
  refine (up_yes C g pre.length cap w h3 h1m hl hcap).mono ?_
  rintro e w' ⟨rfl, hk, hc⟩
  refine ⟨rfl, ⟨hk.1.trans h1.1, hk.2.1.trans h1.2.1, hk.2.2.1.trans h1.2.2.1, Nat.le_trans h1.size hk.2.2.2.1, fun d hd => (hk.2.2.2.2 d (Nat.lt_of_lt_of_le hd h1.size) (by omega)).trans (h1.2.2.2.2 d hd)⟩, h2, _, hc, ?_, ?_⟩
  · refine owns_same h4.pop (fun d hd => ?_)
    have e : g = d := by injection hd
    subst e
    exact hk.2.2.2.2 g hgl hg
  · intro d hd
    have e : g = d := by injection hd
    subst e
    exact hg
theorem CurP.top {C : Nat} {W w : World} {q : Nat × Nat × Nat} (h : CurP W w C [q]) :
    Calls Try.prog 23 #[.pointer (some ⟨C, 0, none⟩)] w fun e w' => e = .returned (.bool false) ∧ w' = w := by
  obtain ⟨h1, h2, wv, h3, h4, h5⟩ := h
  obtain ⟨g, cap, rfl, _⟩ := h4.cellsAt (i := 0) (q := q) rfl
  exact up_no C _ cap w h3
/-- The cursor on the leaf at 0, at_ of a chain. -/
def AtLeaf (R : Nat → Prop) (N : Nat → Nd) (W w : World) (C top ba m at_ : Nat) : Prop := ∃ pre q, PathOk R N top (pre ++ [q]) ∧ q.1 = ba ∧ q.2.1 = at_ ∧ pre.length = m ∧ CurP W w C (pre ++ [q])
theorem CurP.zero {R : Nat → Prop} {N : Nat → Nd} {B C top ba n : Nat} {W w : World} (h : CurP W w C [(top, 0, 0)]) (hF : Forest R N B W) (hW : FWid R N) (hR : R top) (ha : OneLeaf N ba) (hc : ChainN N ba n top) (hB : B ≤ W.heap.size) :
    Calls Try.prog 28 #[.pointer (some ⟨C, 0, none⟩), .int .i64 0] w fun e w' => e = .returned (.bool true) ∧ AtLeaf R N W w' C top ba n 0 := by
  have hw := (hc.sums ha).1
  refine (CurP.to (at_ := 0) h hF hW (path_one hR) (by omega) hB).mono ?_
  rintro e w' ⟨rfl, pre, q, h1, h2, h3, h4⟩
  obtain ⟨g1, g2, g3, _⟩ := chain_end ha h1 hc h2 h3
  refine ⟨rfl, pre, q, h1, g1, g2, ?_, h4⟩
  rcases g3 rfl with h | h
  · exact h
  · exact h.2.elim
theorem CurP.last {R : Nat → Prop} {N : Nat → Nd} {B C top ba n : Nat} {W w : World} (h : CurP W w C [(top, 0, 0)]) (hF : Forest R N B W) (hW : FWid R N) (hR : R top) (ha : OneLeaf N ba) (hc : ChainN N ba n top) (hB : B ≤ W.heap.size) (hn : 1 ≤ n) :
    Calls Try.prog 28 #[.pointer (some ⟨C, 0, none⟩), .int .i64 (n : Int)] w fun e w' => e = .returned (.bool true) ∧ AtLeaf R N W w' C top ba 1 n := by
  have hw := (hc.sums ha).1
  refine (CurP.to (at_ := n) h hF hW (path_one hR) (by omega) hB).mono ?_
  rintro e w' ⟨rfl, pre, q, h1, h2, h3, h4⟩
  obtain ⟨g1, g2, _, g3⟩ := chain_end ha h1 hc h2 h3
  exact ⟨rfl, pre, q, h1, g1, g2, by have := g3 hn; omega, h4⟩
section
variable {R : Nat → Prop} {N : Nat → Nd} {C top ba m at_ : Nat} {W w w' : World}
theorem AtLeaf.kept (h : AtLeaf R N W w C top ba m at_) : Kept W w := by
  obtain ⟨_, _, _, _, _, _, h⟩ := h
  exact h.1
theorem AtLeaf.keep (h : AtLeaf R N W w C top ba m at_) (hk : Kept w w') : AtLeaf R N W w' C top ba m at_ := by
  obtain ⟨pre, q, h1, h2, h3, h4, h5⟩ := h
  exact ⟨pre, q, h1, h2, h3, h4, h5.keep hk⟩
theorem AtLeaf.node (h : AtLeaf R N W w C top ba m at_) (hm : m ≤ 4194304) : Calls Try.prog 10 #[.pointer (some ⟨C, 0, none⟩)] w fun e w' => e = .returned (.pointer (some ⟨ba, 0, none⟩)) ∧ Kept w w' := by
  obtain ⟨pre, q, h1, h2, h3, h4, h5⟩ := h
  rw [← h2]
  exact h5.node (by omega)
theorem AtLeaf.offset (h : AtLeaf R N W w C top ba m 0) (hm : m ≤ 4194304) : Calls Try.prog 11 #[.pointer (some ⟨C, 0, none⟩)] w fun e w' => e = .returned (.int .i64 0) ∧ Kept w w' := by
  obtain ⟨pre, q, h1, h2, h3, h4, h5⟩ := h
  have h := h5.offset (by omega)
  rw [h3] at h
  exact h
theorem AtLeaf.path (h : AtLeaf R N W w C top ba m at_) (h1m : 1 ≤ m) (hm : m ≤ 4194304) : Calls Try.prog 13 #[.pointer (some ⟨C, 0, none⟩)] w fun e w' => (∃ a c, e = .returned (.slice a m c)) ∧ Kept w w' := by
  obtain ⟨pre, q, h1, h2, h3, h4, h5⟩ := h
  exact h5.path h4 h1m hm
/-- While the cursor goes up: so many steps are left. -/
def UpSt (R : Nat → Prop) (N : Nat → Nd) (W w : World) (C top m : Nat) : Prop := ∃ wy, PathOk R N top wy ∧ wy.length = m + 1 ∧ CurP W w C wy
theorem AtLeaf.ups (h : AtLeaf R N W w C top ba m at_) : UpSt R N W w C top m := by
  obtain ⟨pre, q, h1, h2, h3, h4, h5⟩ := h
  exact ⟨_, h1, by simp [h4], h5⟩
theorem UpSt.up (h : UpSt R N W w C top (m + 1)) (hm : m ≤ 1048576) : Calls Try.prog 23 #[.pointer (some ⟨C, 0, none⟩)] w fun e w' => e = .returned (.bool true) ∧ UpSt R N W w' C top m := by
  obtain ⟨wy, h1, h2, h3⟩ := h
  obtain ⟨pre, q, rfl⟩ : ∃ pre q, wy = pre ++ [q] := by
    have hne : wy ≠ [] := by intro e; rw [e] at h2; simp at h2
    exact ⟨wy.dropLast, wy.getLast hne, (List.dropLast_concat_getLast hne).symm⟩
  have hl : pre.length = m + 1 := by simpa using h2
  refine (h3.up (by omega) (by omega)).mono ?_
  rintro e w' ⟨rfl, h4⟩
  exact ⟨rfl, pre, h1.front (by intro e; rw [e] at hl; simp at hl), hl, h4⟩
theorem UpSt.none (h : UpSt R N W w C top 0) : CurP W w C [(top, 0, 0)] := by
  obtain ⟨wy, h1, h2, h3⟩ := h
  obtain ⟨q, rfl⟩ := List.length_eq_one_iff.1 h2
  have e := h1.1
  simp only [List.head?_cons, Option.some.injEq] at e
  rw [← e]
  exact h3
theorem UpSt.kept (h : UpSt R N W w C top m) : Kept W w := by
  obtain ⟨wy, h1, h2, h3⟩ := h
  exact h3.1
end

end Tr
end Ex
end Go.Proofs.Ythpampfbmpdmoaa
