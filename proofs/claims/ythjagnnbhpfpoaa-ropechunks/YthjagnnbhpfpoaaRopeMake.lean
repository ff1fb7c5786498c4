import Derived.Test.YthjagnnbhpfpoaaRopeAsk
namespace Go.Proofs.Ythjagnnbhpfpoaa
open Go.RowKit
namespace Rope

set_option maxRecDepth 100000 in
set_option maxHeartbeats 1000000 in
theorem Cut_in (S : Nat → Prop) (r : Value) (xs : List Int) (f t : Int) (w : World) (h : RopeAt S w r xs) (hS : Open S w) (h0 : 0 ≤ f) (h1 : f ≤ t) (h2 : t ≤ xs.length) :
    Calls Try.prog 17 #[r, .int .i64 f, .int .i64 t] w fun e w' => ∃ r', e = .returned (.tuple #[r', .int .i64 0]) ∧ Kept w w' ∧ RopeAt S w' r' (span xs f t) := by
  have HE := hide1 h
  obtain ⟨b, p, rfl, _, c0, hp, hl⟩ := h
  have k0 := keeps c0
  have hsl := span_le xs f t
  go_enter Try.func17, Try.ntmps17
  go_wp2_with fail
  refine (spans_yes S _ xs f t _ HE.out h0 h1 h2).mono ?_
  rintro e w1 ⟨rfl, hk1⟩
  have c1 := k0 w1 hk1
  go_wp2_with fail
  refine (cut_tree S p f t xs _ (hp.grown hk1) h0 h2 (by omega) (hS.grown hk1)).mono ?_
  rintro e w2 ⟨q, rfl, hk2, hq⟩
  obtain ⟨q, rfl⟩ := hq.form
  go_wp2
  go_ret2
  exact ⟨_, rfl, (gtrans hk1 hk2).alloc _ _, w2.heap.size, .pointer q, rfl, hS _ (gtrans hk1 hk2).size, by simp, hq.grown ((Kept.refl w2).alloc _ _), by omega⟩

set_option maxHeartbeats 1000000 in
theorem Cut_out (S : Nat → Prop) (r : Value) (xs : List Int) (f t : Int) (w : World) (h : RopeAt S w r xs) (hno : ¬ (0 ≤ f ∧ f ≤ t ∧ t ≤ xs.length)) :
    Calls Try.prog 17 #[r, .int .i64 f, .int .i64 t] w fun e w' => e = .returned (.tuple #[.pointer none, .int .i64 3]) ∧ Kept w w' := by
  have HE := hide1 h
  clear h
  go_enter Try.func17, Try.ntmps17
  go_wp2_with fail
  refine (spans_no S _ xs f t _ HE.out hno).mono ?_
  rintro e w1 ⟨rfl, hk1⟩
  go_wp2
  go_ret2
  exact ⟨rfl, hk1⟩

set_option maxRecDepth 100000 in
set_option maxHeartbeats 4000000 in
theorem Cat_in (S : Nat → Prop) (r o : Value) (xs ys : List Int) (w : World) (h : RopeAt S w r xs) (ho : RopeAt S w o ys) (hS : Open S w) (hn : xs.length + ys.length ≤ 16777216) :
    Calls Try.prog 15 #[r, o] w fun e w' => ∃ r', e = .returned (.tuple #[r', .int .i64 0]) ∧ Kept w w' ∧ RopeAt S w' r' (xs ++ ys) := by
  have HE := hide1 h
  have HO := hide1 ho
  obtain ⟨b, p, rfl, _, c0, hp, hl⟩ := h
  obtain ⟨d, q, rfl, _, d0, hq, _⟩ := ho
  obtain ⟨p, rfl⟩ := hp.form
  obtain ⟨q, rfl⟩ := hq.form
  have g : (xs.length : Int) + (ys.length : Int) ≤ 16777216 := by omega
  have k0 := keeps c0
  have k1 := keeps d0
  go_enter Try.func15, Try.ntmps15
  go_wp2_with fail
  refine (len_any S _ xs _ HE.out).mono ?_
  rintro e w1 ⟨rfl, hk1⟩
  go_wp2_with fail
  refine (len_any S _ ys _ (HO.out.kept hk1)).mono ?_
  rintro e w2 ⟨rfl, hk2⟩
  have hk12 : Kept w w2 := gtrans hk1 hk2
  clear hk1 hk2
  go_wp2_with fail
  go_region_held3 (fun w' => Kept w w') (first | assumption | exact Kept.refl _ | exact gtrans (by assumption) (by assumption) | exact Kept.alloc (by assumption) _ _)
    ((first | (go_at_call 37; refine (join_tree S _ _ xs ys _ (hS.grown (by assumption)) (hp.grown (by assumption)) (hq.grown (by assumption)) (by omega)).mono ?_; rintro e w3 ⟨v3, rfl, hk3, hp3⟩; obtain ⟨v3, rfl⟩ := hp3.form)))
  all_goals
    go_wp2
    go_ret2
    refine ⟨_, rfl, by assumption, w3.heap.size, .pointer v3, rfl, hS _ ?_, by simp, hp3.grown ((Kept.refl w3).alloc _ _), by simp; omega⟩
    have h1 := hk12.size
    have h2 := hk3.size
    exact Nat.le_trans h1 h2

set_option maxHeartbeats 1000000 in
theorem Cat_long (S : Nat → Prop) (r o : Value) (xs ys : List Int) (w : World) (h : RopeAt S w r xs) (ho : RopeAt S w o ys) (hn : 16777216 < xs.length + ys.length) :
    Calls Try.prog 15 #[r, o] w fun e w' => e = .returned (.tuple #[.pointer none, .int .i64 2]) ∧ Kept w w' := by
  have l1 := h.len
  have l2 := ho.len
  have HE := hide1 h
  have HO := hide1 ho
  clear h ho
  have g : 16777216 < (xs.length : Int) + (ys.length : Int) := by omega
  go_enter Try.func15, Try.ntmps15
  go_wp2_with fail
  refine (len_any S _ xs _ HE.out).mono ?_
  rintro e w1 ⟨rfl, hk1⟩
  go_wp2_with fail
  refine (len_any S _ ys _ (HO.out.kept hk1)).mono ?_
  rintro e w2 ⟨rfl, hk2⟩
  go_wp2
  go_ret2
  exact ⟨rfl, gtrans hk1 hk2⟩

theorem ListAt.mono {S S' : Nat → Prop} {w w' : World} {v : Value} {bs : List Int} (h : ListAt S w v bs) (hs : Same S w w') (hS : ∀ b, S b → S' b) : ListAt S' w' v bs := by
  rcases h with h | h
  · exact Or.inl h
  · exact Or.inr (h.mono hs hS)
theorem ListAt.kept {S : Nat → Prop} {w w' : World} {v : Value} {bs : List Int} (h : ListAt S w v bs) (hk : Kept w w') : ListAt S w' v bs := h.mono (Kept.same hk S) (fun _ h => h)

/-- What Splice makes. -/
def spliced (xs ins : List Int) (f d : Int) : List Int := (xs.take f.toNat ++ ins) ++ xs.drop (f + d).toNat
theorem span_front (xs : List Int) (t : Int) : span xs 0 t = xs.take t.toNat := by unfold span; simp
theorem span_rest (xs : List Int) (f : Int) : span xs f xs.length = xs.drop f.toNat := by unfold span; simp

set_option maxRecDepth 100000 in
set_option maxHeartbeats 4000000 in
theorem Splice_in (S S' : Nat → Prop) (r v : Value) (xs ins : List Int) (f d : Int) (w : World) (h : RopeAt S w r xs) (hv : ListAt S' w v ins) (hS : Open S w) (h0 : 0 ≤ f) (h1 : 0 ≤ d) (h2 : f + d ≤ xs.length) (hn : (xs.length : Int) - d + ins.length ≤ 16777216) :
    Calls Try.prog 20 #[r, .int .i64 f, .int .i64 d, v] w fun e w' => ∃ r', e = .returned (.tuple #[r', .int .i64 0]) ∧ Kept w w' ∧ RopeAt S w' r' (spliced xs ins f d) := by
  obtain ⟨va, vcap, rfl⟩ := hv.form
  have HV := hide1 hv
  clear hv
  have HE := hide1 h
  obtain ⟨b, p, rfl, _, c0, hp, hl⟩ := h
  obtain ⟨p, rfl⟩ := hp.form
  have k0 := keeps c0
  have hl' : (xs.length : Int) ≤ 16777216 := by omega
  have g1 : d ≤ (xs.length : Int) - f := by omega
  have g2 : (ins.length : Int) ≤ 16777216 - ((xs.length : Int) - d) := by omega
  have hd0 : decide (d < 0) = false := decide_eq_false (by omega)
  have hd1 : decide ((xs.length : Int) - f < d) = false := decide_eq_false (by omega)
  have e1 := span_front xs f
  have e2 := span_rest xs (f + d)
  have HS1 := hide1 e1
  have HS2 := hide1 e2
  clear e1 e2
  have b1 : (xs.take f.toNat).length ≤ xs.length := by simp; omega
  have b2 : (xs.drop (f + d).toNat).length ≤ xs.length := by simp
  have b3 : ((xs.take f.toNat).length : Int) + (xs.drop (f + d).toNat).length = (xs.length : Int) - d := by simp; omega
  have HB1 := hide1 b1
  have HB2 := hide1 b2
  have HB3 := hide1 b3
  clear b1 b2 b3
  have w1 : IntKind.i64.wrap (f + d) = f + d := wrap_mid _ (by omega) (by omega)
  go_enter Try.func20, Try.ntmps20
  go_wp2_with fail
  refine (len_any S _ xs _ HE.out).mono ?_
  rintro e w1 ⟨rfl, hk1⟩
  go_wp2_with fail
  refine (spans_yes S _ xs f xs.length _ (HE.out.kept hk1) h0 (by omega) (by omega)).mono ?_
  rintro e w2 ⟨rfl, hk2⟩
  replace hk2 := gtrans hk1 hk2
  clear hk1
  go_wp2_with fail
  refine (len_any S _ xs _ (HE.out.kept hk2)).mono ?_
  rintro e w3 ⟨rfl, hk3⟩
  replace hk3 := gtrans hk2 hk3
  clear hk2
  go_wp2_with fail
  refine (len_any S _ xs _ (HE.out.kept hk3)).mono ?_
  rintro e w4 ⟨rfl, hk4⟩
  replace hk4 := gtrans hk3 hk4
  clear hk3
  have c4 := k0 w4 hk4
  go_wp2_with fail
  refine (cut_tree S _ 0 f xs _ (hp.grown hk4) (by omega) (by omega) (by omega) (hS.grown hk4)).mono ?_
  rintro e w5 ⟨q5, rfl, hk5', hq5⟩
  have hk5 := gtrans hk4 hk5'
  clear hk5' c4 hk4
  obtain ⟨q5, rfl⟩ := hq5.form
  rw [HS1.out] at hq5
  have k5 := keeps (k0 w5 hk5)
  clear k0
  go_wp2_with fail
  go_region_held3 (fun w' => Kept w5 w') (first | assumption | exact Kept.refl _ | exact gtrans (by assumption) (by assumption) | exact Kept.alloc (by assumption) _ _)
    ((first | (go_at_call 16; refine (len_any S _ xs _ (HE.out.kept (gtrans hk5 (by assumption)))).mono ?_; rintro e w6 ⟨rfl, hk6⟩) | (go_at_call 38; refine (cut_tree S _ (f + d) xs.length xs _ (hp.grown (gtrans hk5 (by assumption))) (by omega) (by omega) (by omega) (hS.grown (gtrans hk5 (by assumption)))).mono ?_; rintro e w7 ⟨q7, rfl, hk7, hq7⟩; obtain ⟨q7, rfl⟩ := hq7.form)))
  all_goals
    have hk57 : Kept w5 w7 := by assumption
    rw [HS2.out] at hq7
    go_wp2_with fail
    refine (build_list S S' _ ins _ (ListAt.kept HV.out (gtrans hk5 hk57)) (by omega) (hS.grown (gtrans hk5 hk57))).mono ?_
    rintro e w8 ⟨q8, rfl, hk8, hq8⟩
    obtain ⟨q8, rfl⟩ := hq8.form
    go_wp2_with fail
    refine (join_tree S _ _ _ _ _ (hS.grown (gtrans (gtrans hk5 hk57) hk8)) (hq5.grown (gtrans hk57 hk8)) hq8 (by have := HB1.out; omega)).mono ?_
    rintro e w9 ⟨q9, rfl, hk9, hq9⟩
    obtain ⟨q9, rfl⟩ := hq9.form
    go_wp2_with fail
    refine (join_tree S _ _ _ _ _ (hS.grown (gtrans (gtrans (gtrans hk5 hk57) hk8) hk9)) hq9 (hq7.grown (gtrans hk8 hk9)) (by have := HB1.out; have := HB2.out; rw [List.length_append]; omega)).mono ?_
    rintro e w10 ⟨q10, rfl, hk10, hq10⟩
    obtain ⟨q10, rfl⟩ := hq10.form
    have hkall : Kept w w10 := gtrans (gtrans (gtrans (gtrans hk5 hk57) hk8) hk9) hk10
    go_wp2
    go_ret2
    refine ⟨_, rfl, hkall.alloc _ _, w10.heap.size, .pointer q10, rfl, hS _ hkall.size, by simp, hq10.grown ((Kept.refl w10).alloc _ _), ?_⟩
    have h3 := HB3.out
    unfold spliced
    rw [List.length_append, List.length_append]
    omega

set_option maxRecDepth 100000 in
set_option maxHeartbeats 2000000 in
theorem Splice_range (S : Nat → Prop) (r : Value) (va : Option Addr) (vn vcap : Nat) (xs : List Int) (f d : Int) (w : World) (h : RopeAt S w r xs) (hno : ¬ (0 ≤ f ∧ 0 ≤ d ∧ f ≤ xs.length ∧ d ≤ xs.length - f)) :
    Calls Try.prog 20 #[r, .int .i64 f, .int .i64 d, .slice va vn vcap] w fun e w' => e = .returned (.tuple #[.pointer none, .int .i64 3]) ∧ Kept w w' := by
  have hl := h.len
  have hl' : (xs.length : Int) ≤ 16777216 := by omega
  have HE := hide1 h
  clear h
  by_cases hf : 0 ≤ f ∧ f ≤ xs.length
  · obtain ⟨f0, f1⟩ := hf
    by_cases hd : d < 0
    · clear hno
      go_enter Try.func20, Try.ntmps20
      go_wp2_with fail
      refine (len_any S _ xs _ HE.out).mono ?_
      rintro e w1 ⟨rfl, hk1⟩
      go_wp2_with fail
      refine (spans_yes S _ xs f xs.length _ (HE.out.kept hk1) f0 f1 (by omega)).mono ?_
      rintro e w2 ⟨rfl, hk2⟩
      go_wp2
      go_ret2
      exact ⟨rfl, gtrans hk1 hk2⟩
    · have hd0 : decide (d < 0) = false := decide_eq_false hd
      have g : (xs.length : Int) - f < d := by omega
      clear hno
      go_enter Try.func20, Try.ntmps20
      go_wp2_with fail
      refine (len_any S _ xs _ HE.out).mono ?_
      rintro e w1 ⟨rfl, hk1⟩
      go_wp2_with fail
      refine (spans_yes S _ xs f xs.length _ (HE.out.kept hk1) f0 f1 (by omega)).mono ?_
      rintro e w2 ⟨rfl, hk2⟩
      go_wp2_with fail
      refine (len_any S _ xs _ (HE.out.kept (gtrans hk1 hk2))).mono ?_
      rintro e w3 ⟨rfl, hk3⟩
      go_wp2
      go_ret2
      exact ⟨rfl, gtrans (gtrans hk1 hk2) hk3⟩
  · clear hno
    go_enter Try.func20, Try.ntmps20
    go_wp2_with fail
    refine (len_any S _ xs _ HE.out).mono ?_
    rintro e w1 ⟨rfl, hk1⟩
    go_wp2_with fail
    refine (spans_no S _ xs f xs.length _ (HE.out.kept hk1) (by omega)).mono ?_
    rintro e w2 ⟨rfl, hk2⟩
    go_wp2
    go_ret2
    exact ⟨rfl, gtrans hk1 hk2⟩

set_option maxRecDepth 100000 in
set_option maxHeartbeats 2000000 in
theorem Splice_long (S : Nat → Prop) (r : Value) (va : Option Addr) (vn vcap : Nat) (xs : List Int) (f d : Int) (w : World) (h : RopeAt S w r xs) (h0 : 0 ≤ f) (h1 : 0 ≤ d) (h2 : f + d ≤ xs.length) (hn : 16777216 < (xs.length : Int) - d + vn) :
    Calls Try.prog 20 #[r, .int .i64 f, .int .i64 d, .slice va vn vcap] w fun e w' => e = .returned (.tuple #[.pointer none, .int .i64 2]) ∧ Kept w w' := by
  have hl := h.len
  have hl' : (xs.length : Int) ≤ 16777216 := by omega
  have HE := hide1 h
  clear h
  have g1 : d ≤ (xs.length : Int) - f := by omega
  have g2 : 16777216 - ((xs.length : Int) - d) < (vn : Int) := by omega
  have hd0 : decide (d < 0) = false := decide_eq_false (by omega)
  have hd1 : decide ((xs.length : Int) - f < d) = false := decide_eq_false (by omega)
  go_enter Try.func20, Try.ntmps20
  go_wp2_with fail
  refine (len_any S _ xs _ HE.out).mono ?_
  rintro e w1 ⟨rfl, hk1⟩
  go_wp2_with fail
  refine (spans_yes S _ xs f xs.length _ (HE.out.kept hk1) h0 (by omega) (by omega)).mono ?_
  rintro e w2 ⟨rfl, hk2⟩
  replace hk2 := gtrans hk1 hk2
  clear hk1
  go_wp2_with fail
  refine (len_any S _ xs _ (HE.out.kept hk2)).mono ?_
  rintro e w3 ⟨rfl, hk3⟩
  replace hk3 := gtrans hk2 hk3
  clear hk2
  go_wp2_with fail
  refine (len_any S _ xs _ (HE.out.kept hk3)).mono ?_
  rintro e w4 ⟨rfl, hk4⟩
  go_wp2
  go_ret2
  exact ⟨rfl, gtrans hk3 hk4⟩

end Rope
end Go.Proofs.Ythjagnnbhpfpoaa
