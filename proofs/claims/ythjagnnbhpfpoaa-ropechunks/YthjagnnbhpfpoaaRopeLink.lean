import Derived.Test.YthjagnnbhpfpoaaRopeLevel
namespace Go.Proofs.Ythjagnnbhpfpoaa
open Go.RowKit
namespace Rope

set_option maxHeartbeats 400000 in
theorem link_nil_left (q : Option Addr) (w : World) : Calls Try.prog 57 #[.pointer none, .pointer q] w fun e w' => e = .returned (.pointer q) ∧ w' = w := by
  go_enter Try.func57, Try.ntmps57
  go_wp2
  go_ret
  exact ⟨rfl, rfl⟩

set_option maxHeartbeats 400000 in
theorem link_nil_right (b : Nat) (w : World) : Calls Try.prog 57 #[at_ b, .pointer none] w fun e w' => e = .returned (at_ b) ∧ w' = w := by
  unfold at_
  go_enter Try.func57, Try.ntmps57
  go_wp2
  go_ret
  exact ⟨rfl, rfl⟩

/-- What link does with two parts of heights that together are below n. -/
def LinkUpto (S : Nat → Prop) (n : Nat) : Prop :=
  ∀ (a b ha hb : Nat) (xs ys : List Int) (w : World), ha + hb < n → Open S w → IsPart S w a ha xs → IsPart S w b hb ys → xs.length + ys.length ≤ 100000000 →
    Calls Try.prog 57 #[at_ a, at_ b] w fun e w' => ∃ c h, e = .returned (at_ c) ∧ Kept w w' ∧ IsPart S w' c h (xs ++ ys)

set_option maxRecDepth 100000 in
set_option maxHeartbeats 4000000 in
theorem link_1 (S : Nat → Prop) (n a b l r hl hr hb : Nat) (xl xr ys : List Int) (A B : Int) (w : World) (ih : LinkUpto S n) (hm : hr + hb < n) (hS : Open S w)
    (pl : IsPart S w l hl xl) (pr : IsPart S w r hr xr) (pb : IsPart S w b hb ys) (hn : xl.length + xr.length + ys.length ≤ 100000000)
    (ca0 : w.cell? ⟨a, 0, none⟩ = some (.pointer (some ⟨l, 0, none⟩))) (ca1 : w.cell? ⟨a, 1, none⟩ = some (.pointer (some ⟨r, 0, none⟩))) (ca3 : w.cell? ⟨a, 3, none⟩ = some (.int .i64 A)) (cb3 : w.cell? ⟨b, 3, none⟩ = some (.int .i64 B))
    (hB0 : 0 ≤ B) (hB1 : B ≤ 1000000000) (hab : B + 1 < A) :
    Calls Try.prog 57 #[at_ a, at_ b] w fun e w' => ∃ c h, e = .returned (at_ c) ∧ Kept w w' ∧ IsPart S w' c h (xl ++ (xr ++ ys)) := by
  unfold at_
  go_enter Try.func57, Try.ntmps57
  go_wp2
  go_quiet (fail)
  go_wp2
  have k0 := keeps ca0
  have k1 := keeps ca1
  go_region_held3 (fun w' => Kept w w') (first | assumption | exact Kept.refl _ | exact gtrans (by assumption) (by assumption))
    ((first | (go_at_call 57; refine (ih _ _ _ _ _ _ _ hm (hS.grown (by assumption)) (by exact pr.grown (by assumption)) (by exact pb.grown (by assumption)) (by omega)).mono ?_; rintro e w1 ⟨c1, hc1, rfl, hg1, hp1⟩) | (go_at_call 71; refine (level_open S _ _ _ _ _ _ _ (hS.grown (by assumption)) (by exact pl.grown (by assumption)) (by assumption) (by (try simp only [List.length_append]); omega)).mono ?_; rintro e w2 ⟨c2, hc2, rfl, hg2, hp2⟩)))
  all_goals
    go_wp2
    go_ret
    exact ⟨_, _, rfl, by assumption, by assumption⟩

set_option maxRecDepth 100000 in
set_option maxHeartbeats 4000000 in
theorem link_2 (S : Nat → Prop) (n a b l r hl hr ha : Nat) (xl xr ys : List Int) (A B : Int) (w : World) (ih : LinkUpto S n) (hm : ha + hl < n) (hS : Open S w)
    (pl : IsPart S w l hl xl) (pr : IsPart S w r hr xr) (pa : IsPart S w a ha ys) (hn : xl.length + xr.length + ys.length ≤ 100000000)
    (cb0 : w.cell? ⟨b, 0, none⟩ = some (.pointer (some ⟨l, 0, none⟩))) (cb1 : w.cell? ⟨b, 1, none⟩ = some (.pointer (some ⟨r, 0, none⟩))) (ca3 : w.cell? ⟨a, 3, none⟩ = some (.int .i64 A)) (cb3 : w.cell? ⟨b, 3, none⟩ = some (.int .i64 B))
    (hA0 : 0 ≤ A) (hA1 : A ≤ 1000000000) (hB0 : 0 ≤ B) (hB1 : B ≤ 1000000000) (hab : A + 1 < B) :
    Calls Try.prog 57 #[at_ a, at_ b] w fun e w' => ∃ c h, e = .returned (at_ c) ∧ Kept w w' ∧ IsPart S w' c h ((ys ++ xl) ++ xr) := by
  unfold at_
  have hd : decide (B + 1 < A) = false := decide_eq_false (by omega)
  go_enter Try.func57, Try.ntmps57
  go_wp2
  go_quiet (fail)
  go_wp2
  go_quiet (fail)
  go_wp2
  have k0 := keeps cb0
  have k1 := keeps cb1
  go_region_held3 (fun w' => Kept w w') (first | assumption | exact Kept.refl _ | exact gtrans (by assumption) (by assumption))
    ((first | (go_at_call 57; refine (ih _ _ _ _ _ _ _ hm (hS.grown (by assumption)) (by exact pa.grown (by assumption)) (by exact pl.grown (by assumption)) (by omega)).mono ?_; rintro e w1 ⟨c1, hc1, rfl, hg1, hp1⟩) | (go_at_call 71; refine (level_open S _ _ _ _ _ _ _ (hS.grown (by assumption)) (by assumption) (by exact pr.grown (by assumption)) (by (try simp only [List.length_append]); omega)).mono ?_; rintro e w2 ⟨c2, hc2, rfl, hg2, hp2⟩)))
  all_goals
    go_wp2
    go_ret
    exact ⟨_, _, rfl, by assumption, by assumption⟩

set_option maxRecDepth 100000 in
set_option maxHeartbeats 4000000 in
theorem link_3 (S : Nat → Prop) (a b ha hb : Nat) (xs ys : List Int) (A B : Int) (w : World) (hS : Open S w)
    (pa : IsPart S w a ha xs) (pb : IsPart S w b hb ys) (hn : xs.length + ys.length ≤ 100000000)
    (ca3 : w.cell? ⟨a, 3, none⟩ = some (.int .i64 A)) (cb3 : w.cell? ⟨b, 3, none⟩ = some (.int .i64 B))
    (hA0 : 0 ≤ A) (hA1 : A ≤ 1000000000) (hB0 : 0 ≤ B) (hB1 : B ≤ 1000000000) (hab : A ≤ B + 1) (hba : B ≤ A + 1) :
    Calls Try.prog 57 #[at_ a, at_ b] w fun e w' => ∃ c h, e = .returned (at_ c) ∧ Kept w w' ∧ IsPart S w' c h (xs ++ ys) := by
  unfold at_
  have hd : decide (B + 1 < A) = false := decide_eq_false (by omega)
  have hd2 : decide (A + 1 < B) = false := decide_eq_false (by omega)
  go_enter Try.func57, Try.ntmps57
  go_wp2
  go_quiet (fail)
  go_wp2
  go_quiet (fail)
  go_wp2_with (go_at_call 72; refine (pair_open S _ _ _ _ _ _ _ (hS.grown (grown_drewN w _)) (pa.grown (grown_drewN w _)) (pb.grown (grown_drewN w _)) hn).mono ?_; rintro e w1 ⟨c1, rfl, hg1, hp1⟩)
  go_ret
  exact ⟨_, _, rfl, hg1, hp1⟩

theorem link_upto (S : Nat → Prop) : ∀ n, LinkUpto S n := by
  intro n
  induction n with
  | zero => intro a b ha hb xs ys w h; omega
  | succ n ih =>
    intro a b ha hb xs ys w hm hS pa pb hn
    have h1 := pa.high
    have h2 := pb.high
    obtain ⟨_, _, _, _, ca⟩ := pa.cells
    obtain ⟨_, _, _, _, cb⟩ := pb.cells
    by_cases hab : hb + 1 < ha
    · rcases pa.cases with ⟨h0, _⟩ | ⟨l, r, hl, hr, xl, xr, _, rfl, hh, da, pl, pr⟩
      · omega
      · rw [List.length_append] at hn
        rw [List.append_assoc]
        exact link_1 S n a b l r hl hr hb xl xr ys ha hb w ih (by omega) hS pl pr pb (by omega) da.1 da.2.1 da.2.2.2.1 cb.2.2.2.1 (by omega) (by omega) (by omega)
    · by_cases hba : ha + 1 < hb
      · rcases pb.cases with ⟨h0, _⟩ | ⟨l, r, hl, hr, xl, xr, _, rfl, hh, db, pl, pr⟩
        · omega
        · rw [List.length_append] at hn
          rw [← List.append_assoc]
          exact link_2 S n a b l r hl hr ha xl xr xs ha hb w ih (by omega) hS pl pr pa (by omega) db.1 db.2.1 ca.2.2.2.1 db.2.2.2.1 (by omega) (by omega) (by omega) (by simp at h2; omega) (by omega)
      · exact link_3 S a b ha hb xs ys ha hb w hS pa pb hn ca.2.2.2.1 cb.2.2.2.1 (by omega) (by omega) (by omega) (by omega) (by omega) (by omega)

theorem link_open (S : Nat → Prop) (a b ha hb : Nat) (xs ys : List Int) (w : World) (hS : Open S w) (pa : IsPart S w a ha xs) (pb : IsPart S w b hb ys) (hn : xs.length + ys.length ≤ 100000000) :
    Calls Try.prog 57 #[at_ a, at_ b] w fun e w' => ∃ c h, e = .returned (at_ c) ∧ Kept w w' ∧ IsPart S w' c h (xs ++ ys) :=
  link_upto S (ha + hb + 1) a b ha hb xs ys w (by omega) hS pa pb hn

theorem link_tree (S : Nat → Prop) (p q : Value) (xs ys : List Int) (w : World) (hS : Open S w) (pa : TreeAt S w p xs) (pb : TreeAt S w q ys) (hn : xs.length + ys.length ≤ 100000000) :
    Calls Try.prog 57 #[p, q] w fun e w' => ∃ v, e = .returned v ∧ Kept w w' ∧ TreeAt S w' v (xs ++ ys) := by
  rcases pa with ⟨rfl, rfl⟩ | ⟨a, ha, rfl, pa⟩
  · rcases pb with ⟨rfl, rfl⟩ | ⟨b, hb, rfl, pb⟩
    · refine (link_nil_left none w).mono ?_
      rintro e w' ⟨rfl, rfl⟩
      exact ⟨_, rfl, Kept.refl _, Or.inl ⟨rfl, rfl⟩⟩
    · refine (link_nil_left (some ⟨b, 0, none⟩) w).mono ?_
      rintro e w' ⟨rfl, rfl⟩
      exact ⟨_, rfl, Kept.refl _, Or.inr ⟨b, hb, rfl, pb⟩⟩
  · rcases pb with ⟨rfl, rfl⟩ | ⟨b, hb, rfl, pb⟩
    · refine (link_nil_right a w).mono ?_
      rintro e w' ⟨rfl, rfl⟩
      exact ⟨_, rfl, Kept.refl _, Or.inr ⟨a, ha, rfl, by rw [List.append_nil]; exact pa⟩⟩
    · refine (link_open S a b ha hb xs ys w hS pa pb hn).mono ?_
      rintro e w' ⟨c, h, rfl, hg, hp⟩
      exact ⟨_, rfl, hg, Or.inr ⟨c, h, rfl, hp⟩⟩

end Rope
end Go.Proofs.Ythjagnnbhpfpoaa
