import Derived.Test.YthjagnnbhpfpoaaRopeBehind
import Derived.Test.YthjagnnbhpfpoaaRopeCut
namespace Go.Proofs.Ythjagnnbhpfpoaa
open Go.RowKit
namespace Rope

/-- r is a rope of the bytes xs. -/
def RopeAt (S : Nat → Prop) (w : World) (r : Value) (xs : List Int) : Prop :=
  ∃ b p, r = .pointer (some ⟨b, 0, none⟩) ∧ S b ∧ w.cell? ⟨b, 0, none⟩ = some p ∧ TreeAt S w p xs ∧ xs.length ≤ 16777216
theorem RopeAt.mono {S S' : Nat → Prop} {w w' : World} {r : Value} {xs : List Int} (h : RopeAt S w r xs) (hs : Same S w w') (hS : ∀ b, S b → S' b) : RopeAt S' w' r xs := by
  obtain ⟨b, p, h1, h2, h3, h4, h5⟩ := h
  exact ⟨b, p, h1, hS b h2, hs.1 _ _ _ h2 h3, h4.mono hs hS, h5⟩
theorem RopeAt.kept {S : Nat → Prop} {w w' : World} {r : Value} {xs : List Int} (h : RopeAt S w r xs) (hk : Kept w w') : RopeAt S w' r xs :=
  h.mono (Kept.same hk S) (fun _ h => h)
theorem RopeAt.len {S : Nat → Prop} {w : World} {r : Value} {xs : List Int} (h : RopeAt S w r xs) : xs.length ≤ 16777216 := by
  obtain ⟨_, _, _, _, _, _, h⟩ := h; exact h
theorem TreeAt.form {S : Nat → Prop} {w : World} {p : Value} {bs : List Int} (hp : TreeAt S w p bs) : ∃ q, p = .pointer q := by
  rcases hp with ⟨rfl, _⟩ | ⟨b, _, rfl, _⟩
  · exact ⟨_, rfl⟩
  · exact ⟨_, rfl⟩
theorem TreeAt.byt {S : Nat → Prop} {w : World} {p : Value} {xs : List Int} (h : TreeAt S w p xs) : Byt xs := by
  rcases h with ⟨_, rfl⟩ | ⟨_, _, _, h⟩
  · intro x hx; cases hx
  · exact h.byt
theorem RopeAt.byt {S : Nat → Prop} {w : World} {r : Value} {xs : List Int} (h : RopeAt S w r xs) : Byt xs := by
  obtain ⟨_, _, _, _, _, h, _⟩ := h; exact h.byt

set_option maxHeartbeats 1000000 in
theorem len_any (S : Nat → Prop) (r : Value) (xs : List Int) (w : World) (h : RopeAt S w r xs) :
    Calls Try.prog 16 #[r] w fun e w' => e = .returned (.int .i64 xs.length) ∧ Kept w w' := by
  obtain ⟨b, p, rfl, _, c0, hp, _⟩ := h
  have hf0 := field0
  have hf1 := field1
  go_enter Try.func16, Try.ntmps16
  go_wp2_with (go_at_call 33; go_must (refine (tell_tree S p xs _ hp).mono ?_; rintro e w1 ⟨rfl, hk1⟩))
  go_ret
  exact ⟨rfl, hk1⟩

set_option maxHeartbeats 1000000 in
theorem rows_any (S : Nat → Prop) (r : Value) (xs : List Int) (w : World) (h : RopeAt S w r xs) :
    Calls Try.prog 12 #[r] w fun e w' => e = .returned (.int .i64 ((ends xs : Int) + 1)) ∧ Kept w w' := by
  obtain ⟨b, p, rfl, _, c0, hp, hl⟩ := h
  have hf0 := field0
  have hf1 := field1
  have he := ends_le xs
  go_enter Try.func12, Try.ntmps12
  go_wp2_with (go_at_call 33; go_must (refine (tell_tree S p xs _ hp).mono ?_; rintro e w1 ⟨rfl, hk1⟩))
  go_ret
  exact ⟨rfl, hk1⟩

set_option maxHeartbeats 1000000 in
theorem spans_yes (S : Nat → Prop) (r : Value) (xs : List Int) (f t : Int) (w : World) (h : RopeAt S w r xs) (h0 : 0 ≤ f) (h1 : f ≤ t) (h2 : t ≤ xs.length) :
    Calls Try.prog 35 #[r, .int .i64 f, .int .i64 t] w fun e w' => e = .returned (.bool true) ∧ Kept w w' := by
  have HE := hide1 h
  clear h
  go_enter Try.func35, Try.ntmps35
  go_wp2_with (go_at_call 16; go_must (refine (len_any S r xs _ HE.out).mono ?_; rintro e w1 ⟨rfl, hk1⟩))
  go_ret
  exact ⟨rfl, hk1⟩

set_option maxHeartbeats 1000000 in
theorem spans_no (S : Nat → Prop) (r : Value) (xs : List Int) (f t : Int) (w : World) (h : RopeAt S w r xs) (hno : ¬ (0 ≤ f ∧ f ≤ t ∧ t ≤ xs.length)) :
    Calls Try.prog 35 #[r, .int .i64 f, .int .i64 t] w fun e w' => e = .returned (.bool false) ∧ Kept w w' := by
  have HE := hide1 h
  clear h
  by_cases h0 : 0 ≤ f
  · by_cases h1 : f ≤ t
    · have h2 : decide (t ≤ (xs.length : Int)) = false := decide_eq_false (by omega)
      clear hno
      go_enter Try.func35, Try.ntmps35
      go_wp2_with (go_at_call 16; go_must (refine (len_any S r xs _ HE.out).mono ?_; rintro e w1 ⟨rfl, hk1⟩))
      go_ret
      exact ⟨rfl, hk1⟩
    · have h1' : decide (f ≤ t) = false := decide_eq_false h1
      clear hno
      go_enter Try.func35, Try.ntmps35
      go_wp2
      go_ret
      exact ⟨rfl, Kept.refl _⟩
  · have h0' : decide (0 ≤ f) = false := decide_eq_false h0
    clear hno
    go_enter Try.func35, Try.ntmps35
    go_wp2
    go_ret
    exact ⟨rfl, Kept.refl _⟩

theorem ListAt.form {S : Nat → Prop} {w : World} {v : Value} {bs : List Int} (h : ListAt S w v bs) : ∃ a cap, v = .slice a bs.length cap := by
  rcases h with ⟨rfl, a, cap, rfl⟩ | ⟨c, o, cap, rfl, _⟩
  · exact ⟨a, cap, rfl⟩
  · exact ⟨_, cap, rfl⟩

set_option maxHeartbeats 1000000 in
theorem new_any (S S' : Nat → Prop) (v : Value) (bs : List Int) (w : World) (hv : ListAt S' w v bs) (hS : Open S w) (hn : bs.length ≤ 16777216) :
    Calls Try.prog 10 #[v] w fun e w' => ∃ r, e = .returned (.tuple #[r, .int .i64 0]) ∧ Kept w w' ∧ RopeAt S w' r bs := by
  obtain ⟨a, cap, rfl⟩ := hv.form
  have HV := hide1 hv
  clear hv
  have g : (bs.length : Int) ≤ 16777216 := by omega
  go_enter Try.func10, Try.ntmps10
  go_wp2_with (go_at_call 32; go_must (refine (build_list S S' _ bs _ HV.out (by omega) hS).mono ?_; rintro e w1 ⟨p, rfl, hk1, hp⟩; obtain ⟨q, rfl⟩ := hp.form))
  go_ret2
  refine ⟨_, rfl, hk1.alloc _ _, w1.heap.size, .pointer q, rfl, hS _ hk1.size, by simp, hp.grown ((Kept.refl w1).alloc _ _), hn⟩

set_option maxHeartbeats 1000000 in
theorem new_long (a : Option Addr) (n cap : Nat) (w : World) (hn : (16777216 : Int) < (n : Int)) :
    Calls Try.prog 10 #[.slice a n cap] w fun e w' => e = .returned (.tuple #[.pointer none, .int .i64 2]) ∧ w' = w := by
  go_enter Try.func10, Try.ntmps10
  go_wp2
  go_ret2
  exact ⟨rfl, rfl⟩

set_option maxRecDepth 100000 in
set_option maxHeartbeats 1000000 in
theorem at_in (S : Nat → Prop) (r : Value) (xs : List Int) (i : Nat) (x : Int) (w : World) (h : RopeAt S w r xs) (hi : xs[i]? = some x) :
    Calls Try.prog 19 #[r, .int .i64 i] w fun e w' => e = .returned (.tuple #[.int .u8 x, .bool true]) ∧ Kept w w' := by
  have hlt : i < xs.length := (List.getElem?_eq_some_iff.1 hi).1
  have HE := hide1 h
  have HI := hide1 hi
  obtain ⟨b, p, rfl, _, c0, hp, hl⟩ := h
  rcases hp with ⟨_, rfl⟩ | ⟨a, ha, rfl, hp⟩
  · cases hi
  · clear hi
    have g : (i : Int) < (xs.length : Int) := by omega
    unfold at_ at c0
    have k0 := keeps c0
    go_enter Try.func19, Try.ntmps19
    go_wp2_with fail
    refine (len_any S _ xs _ HE.out).mono ?_
    rintro e w1 ⟨rfl, hk1⟩
    have c01 := k0 w1 hk1
    go_wp2_with fail
    refine (find_any S a ha i xs _ (hp.grown hk1) hlt (by omega)).mono ?_
    rintro e w2 ⟨y, j, ys, rfl, rfl, ly, hj, hjx⟩
    obtain ⟨_, _, v, cy, c, o, cap, rfl, hcap, _, hcells, _⟩ := ly
    have y2 := cy.2.2.1
    have hcell : w2.cell? ⟨c, o + j, none⟩ = some (.int .u8 x) := hcells j x (by rw [hjx]; exact HI.out)
    clear cy hcells
    have g2 : (j : Int) < (ys.length : Int) := by omega
    unfold at_
    go_wp2
    go_ret2
    exact ⟨rfl, hk1⟩

set_option maxHeartbeats 1000000 in
theorem at_out (S : Nat → Prop) (r : Value) (xs : List Int) (i : Int) (w : World) (h : RopeAt S w r xs) (hi : i < 0 ∨ xs.length ≤ i) :
    Calls Try.prog 19 #[r, .int .i64 i] w fun e w' => e = .returned (.tuple #[.int .u8 0, .bool false]) ∧ Kept w w' := by
  have HE := hide1 h
  clear h
  by_cases h0 : i < 0
  · clear hi
    go_enter Try.func19, Try.ntmps19
    go_wp2
    go_ret2
    exact ⟨rfl, Kept.refl _⟩
  · have hge : (xs.length : Int) ≤ i := by omega
    have h0' : decide (i < 0) = false := decide_eq_false h0
    clear hi
    go_enter Try.func19, Try.ntmps19
    go_wp2_with (go_at_call 16; go_must (refine (len_any S r xs _ HE.out).mono ?_; rintro e w1 ⟨rfl, hk1⟩))
    go_ret2
    exact ⟨rfl, hk1⟩

theorem behind_upto (xs : List Int) (i : Nat) : behind xs (ends (xs.take i)) ≤ i := by
  induction xs generalizing i with
  | nil => cases i <;> simp [behind, ends]
  | cons x r ih =>
    cases i with
    | zero => simp [behind, ends]
    | succ i =>
      rw [List.take_succ_cons, ends_cons]
      by_cases hx : x = 10
      · rw [if_pos hx]; simp only [behind]; rw [if_pos hx]; have := ih i; omega
      · rw [if_neg hx, Nat.add_zero]
        cases hk : ends (r.take i) with
        | zero => rw [behind_zero]; omega
        | succ k => simp only [behind]; rw [if_neg hx]; have := ih i; rw [hk] at this; omega

theorem ends_take_le (xs : List Int) (i : Nat) : ends (xs.take i) ≤ ends xs := by
  have := ends_append (xs.take i) (xs.drop i)
  rw [List.take_append_drop] at this
  omega

theorem behindEnd_tree (S : Nat → Prop) (p : Value) (k : Nat) (xs : List Int) (w : World) (hp : TreeAt S w p xs) (hk : k ≤ ends xs) (hn : xs.length ≤ 100000000) :
    Calls Try.prog 34 #[p, .int .i64 k] w fun e w' => e = .returned (.int .i64 (behind xs k)) ∧ w' = w := by
  by_cases h0 : k = 0
  · subst h0
    rw [behind_zero]
    exact behindEnd_zero p w
  · rcases hp with ⟨_, rfl⟩ | ⟨b, h, rfl, hp⟩
    · rw [ends_nil] at hk; omega
    · exact behindEnd_in S b h k xs w hp (by omega) hk hn

theorem endsAhead_tree (S : Nat → Prop) (p : Value) (i : Nat) (xs : List Int) (w : World) (hp : TreeAt S w p xs) (hi : i ≤ xs.length) (hn : xs.length ≤ 100000000) :
    Calls Try.prog 36 #[p, .int .i64 i] w fun e w' => e = .returned (.int .i64 (ends (xs.take i))) ∧ Kept w w' := by
  by_cases h : i = xs.length
  · subst h
    rw [List.take_of_length_le (Nat.le_refl _)]
    exact endsAhead_all S p xs w hp
  · rcases hp with ⟨_, rfl⟩ | ⟨b, hh, rfl, hp⟩
    · simp at hi; simp at h; omega
    · exact endsAhead_in S b hh i xs w hp (by omega) hn

set_option maxHeartbeats 1000000 in
theorem start_in (S : Nat → Prop) (r : Value) (xs : List Int) (k : Nat) (w : World) (h : RopeAt S w r xs) (hk : k ≤ ends xs) :
    Calls Try.prog 13 #[r, .int .i64 k] w fun e w' => e = .returned (.tuple #[.int .i64 (behind xs k), .int .i64 0]) ∧ Kept w w' := by
  have HE := hide1 h
  obtain ⟨b, p, rfl, _, c0, hp, hl⟩ := h
  have k0 := keeps c0
  have g : (k : Int) < (ends xs : Int) + 1 := by omega
  go_enter Try.func13, Try.ntmps13
  go_wp2_with fail
  refine (rows_any S _ xs _ HE.out).mono ?_
  rintro e w1 ⟨rfl, hk1⟩
  have c1 := k0 w1 hk1
  go_wp2_with (go_at_call 34; go_must (refine (behindEnd_tree S p k xs _ (hp.grown hk1) hk (by omega)).mono ?_; rintro e w2 ⟨rfl, hw2⟩; subst hw2))
  go_ret2
  exact ⟨rfl, hk1⟩

set_option maxHeartbeats 1000000 in
theorem start_out (S : Nat → Prop) (r : Value) (xs : List Int) (k : Int) (w : World) (h : RopeAt S w r xs) (hk : k < 0 ∨ (ends xs : Int) + 1 ≤ k) :
    Calls Try.prog 13 #[r, .int .i64 k] w fun e w' => e = .returned (.tuple #[.int .i64 0, .int .i64 3]) ∧ Kept w w' := by
  have HE := hide1 h
  clear h
  by_cases h0 : k < 0
  · clear hk
    go_enter Try.func13, Try.ntmps13
    go_wp2
    go_ret2
    exact ⟨rfl, Kept.refl _⟩
  · have hge : (ends xs : Int) + 1 ≤ k := by omega
    have h0' : decide (k < 0) = false := decide_eq_false h0
    clear hk
    go_enter Try.func13, Try.ntmps13
    go_wp2_with (go_at_call 12; go_must (refine (rows_any S r xs _ HE.out).mono ?_; rintro e w1 ⟨rfl, hk1⟩))
    go_ret2
    exact ⟨rfl, hk1⟩

theorem ret_three {a b c a' b' c' : Value} (h1 : a = a') (h2 : b = b') (h3 : c = c') : Ending.returned (.tuple #[a, b, c]) = .returned (.tuple #[a', b', c']) := by rw [h1, h2, h3]

set_option maxRecDepth 100000 in
set_option maxHeartbeats 1000000 in
theorem row_in (S : Nat → Prop) (r : Value) (xs : List Int) (i : Nat) (w : World) (h : RopeAt S w r xs) (hi : i ≤ xs.length) :
    Calls Try.prog 14 #[r, .int .i64 i] w fun e w' => e = .returned (.tuple #[.int .i64 (ends (xs.take i)), .int .i64 ((i : Int) - behind xs (ends (xs.take i))), .int .i64 0]) ∧ Kept w w' := by
  have HE := hide1 h
  obtain ⟨b, p, rfl, _, c0, hp, hl⟩ := h
  have k0 := keeps c0
  have g1 := ends_take_le xs i
  have g2 := behind_upto xs i
  have g3 := ends_le xs
  go_enter Try.func14, Try.ntmps14
  go_wp2_with fail
  refine (len_any S _ xs _ HE.out).mono ?_
  rintro e w1 ⟨rfl, hk1⟩
  go_wp2_with fail
  refine (spans_yes S _ xs i xs.length _ (HE.out.kept hk1) (by omega) (by omega) (by omega)).mono ?_
  rintro e w2 ⟨rfl, hk2⟩
  have c2 := k0 w2 (gtrans hk1 hk2)
  go_wp2_with fail
  refine (endsAhead_tree S p i xs _ (hp.grown (gtrans hk1 hk2)) hi (by omega)).mono ?_
  rintro e w3 ⟨rfl, hk3⟩
  have c3 := k0 w3 (gtrans (gtrans hk1 hk2) hk3)
  go_wp2_with fail
  refine (behindEnd_tree S p _ xs _ (hp.grown (gtrans (gtrans hk1 hk2) hk3)) g1 (by omega)).mono ?_
  rintro e w4 ⟨rfl, hw4⟩
  subst hw4
  go_wp2
  go_ret3
  exact ⟨rfl, gtrans (gtrans hk1 hk2) hk3⟩

set_option maxHeartbeats 1000000 in
theorem row_out (S : Nat → Prop) (r : Value) (xs : List Int) (i : Int) (w : World) (h : RopeAt S w r xs) (hi : i < 0 ∨ xs.length < i) :
    Calls Try.prog 14 #[r, .int .i64 i] w fun e w' => e = .returned (.tuple #[.int .i64 0, .int .i64 0, .int .i64 3]) ∧ Kept w w' := by
  have HE := hide1 h
  clear h
  go_enter Try.func14, Try.ntmps14
  go_wp2_with fail
  refine (len_any S _ xs _ HE.out).mono ?_
  rintro e w1 ⟨rfl, hk1⟩
  go_wp2_with fail
  refine (spans_no S _ xs i xs.length _ (HE.out.kept hk1) (by omega)).mono ?_
  rintro e w2 ⟨rfl, hk2⟩
  go_wp2
  go_ret3
  exact ⟨rfl, gtrans hk1 hk2⟩

end Rope
end Go.Proofs.Ythjagnnbhpfpoaa
