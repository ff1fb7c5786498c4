import Derived.Test.YthjagnnbhpfpoaaRopeGlue
namespace Go.Proofs.Ythjagnnbhpfpoaa
open Go.RowKit
namespace Rope

set_option maxHeartbeats 400000 in
theorem join_nil_left (q : Option Addr) (w : World) : Calls Try.prog 37 #[.pointer none, .pointer q] w fun e w' => e = .returned (.pointer q) ∧ w' = w := by
  go_enter Try.func37, Try.ntmps37
  go_wp2
  go_ret
  exact ⟨rfl, rfl⟩

set_option maxHeartbeats 400000 in
theorem join_nil_right (b : Nat) (w : World) : Calls Try.prog 37 #[at_ b, .pointer none] w fun e w' => e = .returned (at_ b) ∧ w' = w := by
  unfold at_
  go_enter Try.func37, Try.ntmps37
  go_wp2
  go_ret
  exact ⟨rfl, rfl⟩

set_option maxRecDepth 100000 in
set_option maxHeartbeats 4000000 in
theorem join_big (S : Nat → Prop) (n m a b ha hb x y : Nat) (pre bl cl post : List Int) (cx ox px cy oy py : Nat) (w : World) (hS : Open S w)
    (pa : IsPart S w a ha (pre ++ bl)) (pb : IsPart S w b hb (cl ++ post)) (la : LastP S w n a pre x bl) (fb : FirstP S w m b y cl post)
    (x2 : w.cell? ⟨x, 2, none⟩ = some (.slice (some ⟨cx, ox, none⟩) bl.length px)) (y2 : w.cell? ⟨y, 2, none⟩ = some (.slice (some ⟨cy, oy, none⟩) cl.length py))
    (hn : pre.length + bl.length + cl.length + post.length ≤ 100000000) (hbig : 1024 < (bl.length : Int) + (cl.length : Int)) :
    Calls Try.prog 37 #[at_ a, at_ b] w fun e w' => ∃ c h, e = .returned (at_ c) ∧ Kept w w' ∧ IsPart S w' c h ((pre ++ bl) ++ (cl ++ post)) := by
  have e1 := last_any S n a x pre bl w la
  have e2 := first_any S m b y cl post w fb
  have HE1 : Hid (Calls Try.prog 55 #[at_ a] w fun e w' => e = .returned (at_ x) ∧ w' = w) := e1
  have HE2 : Hid (Calls Try.prog 56 #[at_ b] w fun e w' => e = .returned (at_ y) ∧ w' = w) := e2
  clear e1 e2 la fb
  unfold at_ at HE1 HE2 ⊢
  go_enter Try.func37, Try.ntmps37
  go_wp2_with (first
    | (go_at_call 55; go_must (refine (HE1.out).mono ?_; rintro e w1 ⟨rfl, hw1⟩; subst hw1))
    | (go_at_call 56; go_must (refine (HE2.out).mono ?_; rintro e w2 ⟨rfl, hw2⟩; subst hw2)))
  go_quiet (fail)
  go_wp2_with (go_at_call 57; go_must (refine (link_open S a b ha hb _ _ _ (hS.grown (grown_drewN _ _)) (pa.grown (grown_drewN _ _)) (pb.grown (grown_drewN _ _)) (by simp; omega)).mono ?_; rintro e w3 ⟨c3, h3, rfl, hg3, hp3⟩))
  go_ret
  exact ⟨c3, h3, rfl, hg3, hp3⟩

set_option maxRecDepth 100000 in
set_option maxHeartbeats 4000000 in
theorem join_small (S : Nat → Prop) (n m a b ha hb x y : Nat) (pre bl cl post : List Int) (cx ox px cy oy py : Nat) (w : World) (hS : Open S w)
    (pa : IsPart S w a ha (pre ++ bl)) (pb : IsPart S w b hb (cl ++ post)) (la : LastP S w n a pre x bl) (fb : FirstP S w m b y cl post)
    (x2 : w.cell? ⟨x, 2, none⟩ = some (.slice (some ⟨cx, ox, none⟩) bl.length px)) (y2 : w.cell? ⟨y, 2, none⟩ = some (.slice (some ⟨cy, oy, none⟩) cl.length py))
    (hn : pre.length + bl.length + cl.length + post.length ≤ 100000000) (hbig : (bl.length : Int) + (cl.length : Int) ≤ 1024) :
    Calls Try.prog 37 #[at_ a, at_ b] w fun e w' => ∃ v, e = .returned v ∧ Kept w w' ∧ TreeAt S w' v ((pre ++ (bl ++ cl)) ++ post) := by
  have HE1 : Hid (Calls Try.prog 55 #[at_ a] w fun e w' => e = .returned (at_ x) ∧ w' = w) := last_any S n a x pre bl w la
  have HE2 : Hid (Calls Try.prog 56 #[at_ b] w fun e w' => e = .returned (at_ y) ∧ w' = w) := first_any S m b y cl post w fb
  have lx := la.leaf
  have ly := fb.leaf
  unfold at_ at HE1 HE2 ⊢
  go_enter Try.func37, Try.ntmps37
  go_wp2_with (first
    | (go_at_call 55; go_must (refine (HE1.out).mono ?_; rintro e w1 ⟨rfl, hw1⟩; subst hw1))
    | (go_at_call 56; go_must (refine (HE2.out).mono ?_; rintro e w2 ⟨rfl, hw2⟩; subst hw2)))
  go_quiet (fail)
  go_wp2_with (first
    | (go_at_call 59; go_must (refine (glue_leaf S x y bl cl _ (hS.grown (grown_drewN _ _)) (lx.mono (Kept.same (grown_drewN _ _) S) (fun _ h => h)) (ly.mono (Kept.same (grown_drewN _ _) S) (fun _ h => h)) (by omega)).mono ?_; rintro e w3 ⟨c3, rfl, hg3', hp3⟩; have hg3 : Kept w2 w3 := hg3'; clear hg3'))
    | (go_at_call 58; go_must (refine (withLast_upto S n a x _ _ pre bl (bl ++ cl) _ (la.grown hg3) (hS.grown hg3) hp3 (by simp; omega)).mono ?_; rintro e w4 ⟨c4, h4, rfl, hg4, hp4⟩))
    | (go_at_call 60; go_must (refine (withoutFirst_upto S m b y cl post _ (fb.grown (gtrans hg3 hg4)) (hS.grown (gtrans hg3 hg4)) (by omega)).mono ?_; rintro e w5 ⟨v5, rfl, hg5, hp5⟩))
    | (go_at_call 57; go_must (refine (link_tree S _ _ _ _ _ (hS.grown (gtrans (gtrans hg3 hg4) hg5)) (Or.inr ⟨_, _, rfl, hp4.grown hg5⟩) hp5 (by simp; omega)).mono ?_; rintro e w6 ⟨v6, rfl, hg6, hp6⟩)))
  go_ret
  exact ⟨v6, rfl, gtrans (gtrans (gtrans hg3 hg4) hg5) hg6, hp6⟩

theorem join_tree (S : Nat → Prop) (p q : Value) (xs ys : List Int) (w : World) (hS : Open S w) (pa : TreeAt S w p xs) (pb : TreeAt S w q ys) (hn : xs.length + ys.length ≤ 100000000) :
    Calls Try.prog 37 #[p, q] w fun e w' => ∃ v, e = .returned v ∧ Kept w w' ∧ TreeAt S w' v (xs ++ ys) := by
  rcases pa with ⟨rfl, rfl⟩ | ⟨a, ha, rfl, pa⟩
  · rcases pb with ⟨rfl, rfl⟩ | ⟨b, hb, rfl, pb⟩
    · refine (join_nil_left none w).mono ?_
      rintro e w' ⟨rfl, rfl⟩
      exact ⟨_, rfl, Kept.refl _, Or.inl ⟨rfl, rfl⟩⟩
    · refine (join_nil_left (some ⟨b, 0, none⟩) w).mono ?_
      rintro e w' ⟨rfl, rfl⟩
      exact ⟨_, rfl, Kept.refl _, Or.inr ⟨b, hb, rfl, pb⟩⟩
  · rcases pb with ⟨rfl, rfl⟩ | ⟨b, hb, rfl, pb⟩
    · refine (join_nil_right a w).mono ?_
      rintro e w' ⟨rfl, rfl⟩
      exact ⟨_, rfl, Kept.refl _, Or.inr ⟨a, ha, rfl, by rw [List.append_nil]; exact pa⟩⟩
    · obtain ⟨n, x, pre, bl, la, rfl⟩ := pa.lastP
      obtain ⟨m, y, cl, post, fb, rfl⟩ := pb.firstP
      obtain ⟨_, _, v, cx, cx', ox, px, rfl, _⟩ := la.leaf
      obtain ⟨_, _, u, cy, cy', oy, py, rfl, _⟩ := fb.leaf
      simp only [List.length_append] at hn
      by_cases hbig : 1024 < (bl.length : Int) + (cl.length : Int)
      · refine (join_big S n m a b ha hb x y pre bl cl post cx' ox px cy' oy py w hS pa pb la fb cx.2.2.1 cy.2.2.1 (by omega) hbig).mono ?_
        rintro e w' ⟨c, h, rfl, hg, hp⟩
        exact ⟨_, rfl, hg, Or.inr ⟨c, h, rfl, hp⟩⟩
      · have e : pre ++ bl ++ (cl ++ post) = (pre ++ (bl ++ cl)) ++ post := by simp
        rw [e]
        exact join_small S n m a b ha hb x y pre bl cl post cx' ox px cy' oy py w hS pa pb la fb cx.2.2.1 cy.2.2.1 (by omega) (by omega)

end Rope
end Go.Proofs.Ythjagnnbhpfpoaa
