import Derived.Test.YthjagnnbhpfpoaaRopeBuild
namespace Go.Proofs.Ythjagnnbhpfpoaa
open Go.RowKit
namespace Rope

/-- The bytes from .. to-1. -/
def span (xs : List Int) (f t : Int) : List Int := (xs.take t.toNat).drop f.toNat
theorem span_nil {xs : List Int} {f t : Int} (h0 : 0 ≤ f) (h : t ≤ f) : span xs f t = [] := by
  unfold span
  apply List.drop_eq_nil_of_le
  simp; omega
theorem span_all {xs : List Int} : span xs 0 xs.length = xs := by unfold span; simp
theorem span_len {xs : List Int} {f t : Int} (h0 : 0 ≤ f) (h1 : f ≤ t) (h : t ≤ xs.length) : ((span xs f t).length : Int) = t - f := by
  unfold span; simp; omega
theorem span_le (xs : List Int) (f t : Int) : (span xs f t).length ≤ xs.length := by
  unfold span; simp; omega
theorem span_append (a b : List Int) (f t : Int) (h0 : 0 ≤ f) :
    span (a ++ b) f t = span a f (min t a.length) ++ span b (max (f - a.length) 0) (t - a.length) := by
  unfold span
  rw [List.take_append, List.drop_append]
  have e1 : (min t (a.length : Int)).toNat = min t.toNat a.length := by omega
  have e2 : a.take (min t.toNat a.length) = a.take t.toNat := by
    rcases Nat.le_total t.toNat a.length with h | h
    · rw [Nat.min_eq_left h]
    · rw [Nat.min_eq_right h, List.take_of_length_le (Nat.le_refl _), List.take_of_length_le h]
  rw [e1, e2]
  congr 1
  have e3 : (t - (a.length : Int)).toNat = t.toNat - a.length := by omega
  rw [e3]
  by_cases h : f ≤ a.length
  · have e4 : (max (f - (a.length : Int)) 0).toNat = 0 := by omega
    rw [e4]
    by_cases ht : a.length ≤ t.toNat
    · have : f.toNat - (a.take t.toNat).length = 0 := by simp; omega
      rw [this]
    · have e5 : b.take (t.toNat - a.length) = [] := by
        have : t.toNat - a.length = 0 := by omega
        rw [this]; rfl
      rw [e5]; simp
  · have e4 : (max (f - (a.length : Int)) 0).toNat = f.toNat - a.length := by omega
    rw [e4]
    by_cases ht : a.length ≤ t.toNat
    · have : f.toNat - (a.take t.toNat).length = f.toNat - a.length := by simp; omega
      rw [this]
    · have e5 : b.take (t.toNat - a.length) = [] := by
        have : t.toNat - a.length = 0 := by omega
        rw [this]; rfl
      rw [e5]; simp

theorem wrap_mid (x : Int) (h0 : -4000000000 ≤ x) (h1 : x ≤ 4000000000) : IntKind.i64.wrap x = x := by
  rw [IntKind.wrap_i64]; omega

set_option maxHeartbeats 400000 in
theorem cut_none (p : Value) (f t : Int) (w : World) (h : t ≤ f) : Calls Try.prog 38 #[p, .int .i64 f, .int .i64 t] w fun e w' => e = .returned (.pointer none) ∧ w' = w := by
  go_enter Try.func38, Try.ntmps38
  go_wp2
  go_ret
  exact ⟨rfl, rfl⟩

set_option maxHeartbeats 400000 in
theorem cut_whole (a : Nat) (t : Int) (w : World) (h : 0 < t) (a4 : w.cell? ⟨a, 4, none⟩ = some (.int .i64 t)) :
    Calls Try.prog 38 #[at_ a, .int .i64 0, .int .i64 t] w fun e w' => e = .returned (at_ a) ∧ w' = w := by
  unfold at_
  go_enter Try.func38, Try.ntmps38
  go_wp2
  go_ret
  exact ⟨rfl, rfl⟩

set_option maxRecDepth 100000 in
set_option maxHeartbeats 2000000 in
theorem cut_piece (S S' : Nat → Prop) (a c o cap : Nat) (f t : Nat) (N : Int) (bs : List Int) (w : World) (hS : Open S w) (a0 : w.cell? ⟨a, 0, none⟩ = some (.pointer none)) (a2 : w.cell? ⟨a, 2, none⟩ = some (.slice (some ⟨c, o, none⟩) bs.length cap))
    (a4 : w.cell? ⟨a, 4, none⟩ = some (.int .i64 N)) (hv : SliceAt S' w (.slice (some ⟨c, o, none⟩) bs.length cap) bs) (h1 : (f : Int) < (t : Int)) (h2 : t ≤ bs.length) (hn : bs.length ≤ 100000000)
    (hw : ((f : Int) == 0 && (t : Int) == N) = false) :
    Calls Try.prog 38 #[at_ a, .int .i64 f, .int .i64 t] w fun e w' => ∃ d, e = .returned (at_ d) ∧ Kept w w' ∧ IsPart S w' d 0 (span bs f t) := by
  obtain ⟨_, hcap, _, _, _⟩ := hv.parts
  have ht := (hv.take t (by omega)).drop f (by omega)
  have e1 : span bs f t = (bs.take t).drop f := by unfold span; simp
  rw [e1]
  have hne : (bs.take t).drop f ≠ [] := by apply List.ne_nil_of_length_pos; simp; omega
  have hle : ((bs.take t).drop f).length ≤ 100000000 := by simp; omega
  have g1 : (t : Int) ≤ (cap : Int) := by omega
  have g0 : (0 : Int) ≤ (f : Int) := by omega
  have g2 : (f : Int) ≤ (t : Int) := by omega
  unfold at_
  by_cases hf : ((f : Int) == 0) = true
  · have hn2 : ((t : Int) == N) = false := by simpa [hf] using hw
    clear hw
    go_enter Try.func38, Try.ntmps38
    go_wp2_with (first
      | (go_at_call 52; go_must (refine (isPiece_cells _ _ _ a0).mono ?_; rintro e w1 ⟨rfl, hw1⟩; subst hw1))
      | (go_at_call 51; go_must (refine (onePiece_leaf S _ _ _ hS S' ht hne hle).mono ?_; rintro e w2 ⟨d, rfl, hk, hp⟩)))
    go_ret
    exact ⟨d, rfl, hk, hp⟩
  · have hf' : ((f : Int) == 0) = false := by simpa using hf
    clear hw hf
    go_enter Try.func38, Try.ntmps38
    go_wp2_with (first
      | (go_at_call 52; go_must (refine (isPiece_cells _ _ _ a0).mono ?_; rintro e w1 ⟨rfl, hw1⟩; subst hw1))
      | (go_at_call 51; go_must (refine (onePiece_leaf S _ _ _ hS S' ht hne hle).mono ?_; rintro e w2 ⟨d, rfl, hk, hp⟩)))
    go_ret
    exact ⟨d, rfl, hk, hp⟩

def CutUpto (S : Nat → Prop) (n : Nat) : Prop :=
  ∀ (b h : Nat) (f t : Int) (xs : List Int) (w : World), IsPart S w b h xs → h < n → 0 ≤ f → t ≤ xs.length → xs.length ≤ 50000000 → Open S w →
    Calls Try.prog 38 #[at_ b, .int .i64 f, .int .i64 t] w fun e w' => ∃ v, e = .returned v ∧ Kept w w' ∧ TreeAt S w' v (span xs f t)

set_option maxRecDepth 100000 in
set_option maxHeartbeats 4000000 in
theorem cut_node (S : Nat → Prop) (n a l r hl hr : Nat) (f t M N : Int) (bl br : List Int) (w : World) (ih : CutUpto S n) (hS : Open S w) (dl : hl < n) (dr : hr < n) (pl : IsPart S w l hl bl) (pr : IsPart S w r hr br)
    (a0 : w.cell? ⟨a, 0, none⟩ = some (.pointer (some ⟨l, 0, none⟩))) (a1 : w.cell? ⟨a, 1, none⟩ = some (.pointer (some ⟨r, 0, none⟩))) (a4 : w.cell? ⟨a, 4, none⟩ = some (.int .i64 N)) (l4 : w.cell? ⟨l, 4, none⟩ = some (.int .i64 M))
    (hM : Hid (M = bl.length)) (hM0 : 0 ≤ M) (h0 : 0 ≤ f) (h1 : f < t) (h2 : t ≤ M + br.length) (hn1 : M + br.length ≤ 50000000) (hw : (f == 0 && t == N) = false) :
    Calls Try.prog 38 #[at_ a, .int .i64 f, .int .i64 t] w fun e w' => ∃ v, e = .returned v ∧ Kept w w' ∧ TreeAt S w' v (span bl f (min t M) ++ span br (max (f - M) 0) (t - M)) := by
  have b1 := pr.high
  have hsum : ∀ (x y : Int) (x' y' : Int), (span bl x y).length + (span br x' y').length ≤ 100000000 := fun x y x' y' => by
    have e1 := span_le bl x y
    have e2 := span_le br x' y'
    have := hM.out
    omega
  have HS : Hid (∀ (x y : Int) (x' y' : Int), (span bl x y).length + (span br x' y').length ≤ 100000000) := hsum
  clear hsum
  have k0 := keeps a0
  have k1 := keeps a1
  unfold at_
  have hcond : ((f == 0) = true ∧ (t == N) = false) ∨ (f == 0) = false := by
    cases hf : (f == 0)
    · exact Or.inr rfl
    · exact Or.inl ⟨rfl, by simpa [hf] using hw⟩
  clear hw
  have w1 : IntKind.i64.wrap (t - M) = t - M := wrap_mid _ (by omega) (by omega)
  have w2 : IntKind.i64.wrap (f - M) = f - M := wrap_mid _ (by omega) (by omega)
  rcases hcond with ⟨hc1, hc2⟩ | hc1
  all_goals
    go_enter Try.func38, Try.ntmps38
    go_wp2_with (go_at_call 52; go_must (refine (isPiece_cells _ _ _ a0).mono ?_; rintro e w1 ⟨rfl, hw1⟩; subst hw1))
    go_region_held3 (fun w' => Kept w1 w') (first | assumption | exact Kept.refl _ | exact gtrans (by assumption) (by assumption))
      ((first | (go_at_call 38; go_must (refine (ih _ _ _ _ _ _ (by first | exact pl.grown (by assumption) | exact pr.grown (by assumption)) (by assumption) (by omega) (by first | (rw [← hM.out]; omega) | omega) (by first | (have := hM.out; omega) | omega) (hS.grown (by assumption))).mono ?_; rintro e w2 ⟨v2, rfl, hk2, hp2⟩)) | (go_at_call 37; refine (join_tree S _ _ _ _ _ (hS.grown (by assumption)) (by first | assumption | exact TreeAt.grown (by assumption) (by assumption)) (by first | assumption | exact TreeAt.grown (by assumption) (by assumption)) (HS.out _ _ _ _)).mono ?_; rintro e w3 ⟨v3, rfl, hk3, hp3⟩)))
    all_goals
      go_wp2
      go_ret
      exact ⟨v3, rfl, by assumption, by assumption⟩

theorem cut_upto (S : Nat → Prop) : ∀ n, CutUpto S n := by
  intro n
  induction n with
  | zero => intro b h f t xs w _ h; omega
  | succ n ih =>
    intro b h f t xs w hp hh h0 h1 hn hS
    by_cases hlt : t ≤ f
    · refine (cut_none (at_ b) f t w hlt).mono ?_
      rintro e w' ⟨rfl, rfl⟩
      exact ⟨_, rfl, Kept.refl _, Or.inl ⟨rfl, span_nil h0 hlt⟩⟩
    · by_cases hall : f = 0 ∧ t = xs.length
      · obtain ⟨rfl, rfl⟩ := hall
        obtain ⟨_, l, r, v, hc⟩ := hp.cells
        refine (cut_whole b xs.length w (by omega) hc.2.2.2.2.1).mono ?_
        rintro e w' ⟨rfl, rfl⟩
        exact ⟨_, rfl, Kept.refl _, Or.inr ⟨b, h, rfl, by rw [span_all]; exact hp⟩⟩
      · have hw : (f == 0 && t == (xs.length : Int)) = false := by
          rw [Bool.eq_false_iff]
          intro hq
          simp only [Bool.and_eq_true, beq_iff_eq] at hq
          exact hall hq
        rcases hp.cases with ⟨rfl, _, _, v, hc, hv⟩ | ⟨l, r, hl, hr, bl, br, _, rfl, rfl, hc, pl, pr⟩
        · have hv' := hv
          obtain ⟨c, o, cap, rfl, _⟩ := hv'
          obtain ⟨f, rfl⟩ := Int.eq_ofNat_of_zero_le h0
          obtain ⟨t, rfl⟩ := Int.eq_ofNat_of_zero_le (show 0 ≤ t by omega)
          refine (cut_piece S S b c o cap f t xs.length xs w hS hc.1 hc.2.2.1 hc.2.2.2.2.1 hv (by omega) (by omega) (by omega) hw).mono ?_
          rintro e w' ⟨d, rfl, hk, hq⟩
          exact ⟨_, rfl, hk, Or.inr ⟨d, 0, rfl, hq⟩⟩
        · obtain ⟨_, _, _, _, cl⟩ := pl.cells
          rw [span_append bl br f t h0]
          simp only [List.length_append] at hn h1 hw hc
          exact cut_node S n b l r hl hr f t bl.length (bl.length + br.length : Nat) bl br w ih hS (by omega) (by omega) pl pr hc.1 hc.2.1 hc.2.2.2.2.1 cl.2.2.2.2.1 rfl (by omega) h0 (by omega) (by omega) (by omega) hw

theorem cut_tree (S : Nat → Prop) (p : Value) (f t : Int) (xs : List Int) (w : World) (hp : TreeAt S w p xs) (h0 : 0 ≤ f) (h1 : t ≤ xs.length) (hn : xs.length ≤ 50000000) (hS : Open S w) :
    Calls Try.prog 38 #[p, .int .i64 f, .int .i64 t] w fun e w' => ∃ v, e = .returned v ∧ Kept w w' ∧ TreeAt S w' v (span xs f t) := by
  rcases hp with ⟨rfl, rfl⟩ | ⟨b, h, rfl, hp⟩
  · refine (cut_none _ f t w (by simp at h1; omega)).mono ?_
    rintro e w' ⟨rfl, rfl⟩
    exact ⟨_, rfl, Kept.refl _, Or.inl ⟨rfl, by unfold span; simp⟩⟩
  · exact cut_upto S (h + 1) b h f t xs w hp (by omega) h0 h1 hn hS
end Rope
end Go.Proofs.Ythjagnnbhpfpoaa
