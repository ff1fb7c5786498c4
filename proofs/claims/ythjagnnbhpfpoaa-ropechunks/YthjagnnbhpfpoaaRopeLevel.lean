import Derived.Test.YthjagnnbhpfpoaaRopePair
namespace Go.Proofs.Ythjagnnbhpfpoaa
open Go.RowKit
namespace Rope

theorem keeps {w : World} {a o : Nat} {v : Value} (h : w.cell? ⟨a, o, none⟩ = some v) : ∀ W, Kept w W → W.cell? ⟨a, o, none⟩ = some v := fun _ hg => grown_cell hg h

theorem grown_drewN (w : World) (n : Nat) : Kept w (w.drewN n) := Kept.refl w

set_option maxRecDepth 100000 in
set_option maxHeartbeats 4000000 in
theorem level_1 (S : Nat → Prop) (a b l r hl hr hb : Nat) (xl xr ys : List Int) (A B L R : Int) (w : World) (hS : Open S w)
    (pl : IsPart S w l hl xl) (pr : IsPart S w r hr xr) (pb : IsPart S w b hb ys) (hn : xl.length + xr.length + ys.length ≤ 100000000)
    (ca0 : w.cell? ⟨a, 0, none⟩ = some (.pointer (some ⟨l, 0, none⟩))) (ca1 : w.cell? ⟨a, 1, none⟩ = some (.pointer (some ⟨r, 0, none⟩))) (ca3 : w.cell? ⟨a, 3, none⟩ = some (.int .i64 A)) (cb3 : w.cell? ⟨b, 3, none⟩ = some (.int .i64 B)) (cl3 : w.cell? ⟨l, 3, none⟩ = some (.int .i64 L)) (cr3 : w.cell? ⟨r, 3, none⟩ = some (.int .i64 R))
    (hB0 : 0 ≤ B) (hB1 : B ≤ 1000000000) (hab : B + 1 < A) (hlr : R ≤ L) :
    Calls Try.prog 71 #[at_ a, at_ b] w fun e w' => ∃ c h, e = .returned (at_ c) ∧ Kept w w' ∧ IsPart S w' c h (xl ++ (xr ++ ys)) := by
  unfold at_
  go_enter Try.func71, Try.ntmps71
  go_wp2
  go_quiet (fail)
  go_wp2
  have k0 := keeps ca0
  have k1 := keeps ca1
  go_region_held3 (fun w' => Kept w w') (first | assumption | exact Kept.refl _ | exact gtrans (by assumption) (by assumption))
    ((go_at_call 72; refine (pair_open S _ _ _ _ _ _ _ (hS.grown (by assumption)) (by first | exact pr.grown (by assumption) | exact pl.grown (by assumption) | exact pb.grown (by assumption) | assumption | exact IsPart.grown (by assumption) (by assumption)) (by first | exact pr.grown (by assumption) | exact pl.grown (by assumption) | exact pb.grown (by assumption) | assumption | exact IsPart.grown (by assumption) (by assumption)) (by (try simp only [List.length_append]); omega)).mono ?_; rintro e w1 ⟨c1, rfl, hg1, hp1⟩))
  all_goals
    go_wp2
    go_ret
    exact ⟨_, _, rfl, by assumption, by assumption⟩

set_option maxRecDepth 100000 in
set_option maxHeartbeats 4000000 in
theorem level_2 (S : Nat → Prop) (a b l r s t hl hs ht hb : Nat) (xl xs xt ys : List Int) (A B L R : Int) (w : World) (hS : Open S w)
    (pl : IsPart S w l hl xl) (ps : IsPart S w s hs xs) (pt : IsPart S w t ht xt) (pb : IsPart S w b hb ys) (hn : xl.length + xs.length + xt.length + ys.length ≤ 100000000)
    (ca0 : w.cell? ⟨a, 0, none⟩ = some (.pointer (some ⟨l, 0, none⟩))) (ca1 : w.cell? ⟨a, 1, none⟩ = some (.pointer (some ⟨r, 0, none⟩))) (ca3 : w.cell? ⟨a, 3, none⟩ = some (.int .i64 A)) (cb3 : w.cell? ⟨b, 3, none⟩ = some (.int .i64 B)) (cl3 : w.cell? ⟨l, 3, none⟩ = some (.int .i64 L)) (cr3 : w.cell? ⟨r, 3, none⟩ = some (.int .i64 R)) (cr0 : w.cell? ⟨r, 0, none⟩ = some (.pointer (some ⟨s, 0, none⟩))) (cr1 : w.cell? ⟨r, 1, none⟩ = some (.pointer (some ⟨t, 0, none⟩)))
    (hB0 : 0 ≤ B) (hB1 : B ≤ 1000000000) (hab : B + 1 < A) (hlr : L < R) :
    Calls Try.prog 71 #[at_ a, at_ b] w fun e w' => ∃ c h, e = .returned (at_ c) ∧ Kept w w' ∧ IsPart S w' c h ((xl ++ xs) ++ (xt ++ ys)) := by
  unfold at_
  have hd : decide (R ≤ L) = false := decide_eq_false (by omega)
  go_enter Try.func71, Try.ntmps71
  go_wp2
  go_quiet (fail)
  go_wp2
  go_quiet (fail)
  go_wp2
  have k0 := keeps ca0
  have k1 := keeps ca1
  have k2 := keeps cr0
  have k3 := keeps cr1
  go_region_held3 (fun w' => Kept w w') (first | assumption | exact Kept.refl _ | exact gtrans (by assumption) (by assumption))
    ((go_at_call 72; refine (pair_open S _ _ _ _ _ _ _ (hS.grown (by assumption)) (by first | exact pl.grown (by assumption) | exact ps.grown (by assumption) | exact pt.grown (by assumption) | exact pb.grown (by assumption) | assumption | exact IsPart.grown (by assumption) (by assumption)) (by first | exact pl.grown (by assumption) | exact ps.grown (by assumption) | exact pt.grown (by assumption) | exact pb.grown (by assumption) | assumption | exact IsPart.grown (by assumption) (by assumption)) (by (try simp only [List.length_append]); omega)).mono ?_; rintro e w1 ⟨c1, rfl, hg1, hp1⟩))
  all_goals
    go_wp2
    go_ret
    exact ⟨_, _, rfl, by assumption, by assumption⟩

set_option maxRecDepth 100000 in
set_option maxHeartbeats 4000000 in
theorem level_3 (S : Nat → Prop) (a b l r hl hr ha : Nat) (xl xr ys : List Int) (A B L R : Int) (w : World) (hS : Open S w)
    (pl : IsPart S w l hl xl) (pr : IsPart S w r hr xr) (pa : IsPart S w a ha ys) (hn : xl.length + xr.length + ys.length ≤ 100000000)
    (cb0 : w.cell? ⟨b, 0, none⟩ = some (.pointer (some ⟨l, 0, none⟩))) (cb1 : w.cell? ⟨b, 1, none⟩ = some (.pointer (some ⟨r, 0, none⟩))) (ca3 : w.cell? ⟨a, 3, none⟩ = some (.int .i64 A)) (cb3 : w.cell? ⟨b, 3, none⟩ = some (.int .i64 B)) (cl3 : w.cell? ⟨l, 3, none⟩ = some (.int .i64 L)) (cr3 : w.cell? ⟨r, 3, none⟩ = some (.int .i64 R))
    (hA0 : 0 ≤ A) (hA1 : A ≤ 1000000000) (hB0 : 0 ≤ B) (hB1 : B ≤ 1000000000) (hab : A + 1 < B) (hlr : L ≤ R) :
    Calls Try.prog 71 #[at_ a, at_ b] w fun e w' => ∃ c h, e = .returned (at_ c) ∧ Kept w w' ∧ IsPart S w' c h ((ys ++ xl) ++ xr) := by
  unfold at_
  have hd : decide (B + 1 < A) = false := decide_eq_false (by omega)
  go_enter Try.func71, Try.ntmps71
  go_wp2
  go_quiet (fail)
  go_wp2
  go_quiet (fail)
  go_wp2
  go_quiet (fail)
  go_wp2
  have k0 := keeps cb0
  have k1 := keeps cb1
  go_region_held3 (fun w' => Kept w w') (first | assumption | exact Kept.refl _ | exact gtrans (by assumption) (by assumption))
    ((go_at_call 72; refine (pair_open S _ _ _ _ _ _ _ (hS.grown (by assumption)) (by first | exact pr.grown (by assumption) | exact pl.grown (by assumption) | exact pa.grown (by assumption) | assumption | exact IsPart.grown (by assumption) (by assumption)) (by first | exact pr.grown (by assumption) | exact pl.grown (by assumption) | exact pa.grown (by assumption) | assumption | exact IsPart.grown (by assumption) (by assumption)) (by (try simp only [List.length_append]); omega)).mono ?_; rintro e w1 ⟨c1, rfl, hg1, hp1⟩))
  all_goals
    go_wp2
    go_ret
    exact ⟨_, _, rfl, by assumption, by assumption⟩

set_option maxRecDepth 100000 in
set_option maxHeartbeats 4000000 in
theorem level_4 (S : Nat → Prop) (a b l r s t hr hs ht ha : Nat) (xr xs xt ys : List Int) (A B L R : Int) (w : World) (hS : Open S w)
    (pr : IsPart S w r hr xr) (ps : IsPart S w s hs xs) (pt : IsPart S w t ht xt) (pa : IsPart S w a ha ys) (hn : xr.length + xs.length + xt.length + ys.length ≤ 100000000)
    (cb0 : w.cell? ⟨b, 0, none⟩ = some (.pointer (some ⟨l, 0, none⟩))) (cb1 : w.cell? ⟨b, 1, none⟩ = some (.pointer (some ⟨r, 0, none⟩))) (ca3 : w.cell? ⟨a, 3, none⟩ = some (.int .i64 A)) (cb3 : w.cell? ⟨b, 3, none⟩ = some (.int .i64 B)) (cl3 : w.cell? ⟨l, 3, none⟩ = some (.int .i64 L)) (cr3 : w.cell? ⟨r, 3, none⟩ = some (.int .i64 R)) (cl0 : w.cell? ⟨l, 0, none⟩ = some (.pointer (some ⟨s, 0, none⟩))) (cl1 : w.cell? ⟨l, 1, none⟩ = some (.pointer (some ⟨t, 0, none⟩)))
    (hA0 : 0 ≤ A) (hA1 : A ≤ 1000000000) (hB0 : 0 ≤ B) (hB1 : B ≤ 1000000000) (hab : A + 1 < B) (hlr : R < L) :
    Calls Try.prog 71 #[at_ a, at_ b] w fun e w' => ∃ c h, e = .returned (at_ c) ∧ Kept w w' ∧ IsPart S w' c h ((ys ++ xs) ++ (xt ++ xr)) := by
  unfold at_
  have hd : decide (B + 1 < A) = false := decide_eq_false (by omega)
  have hd2 : decide (L ≤ R) = false := decide_eq_false (by omega)
  go_enter Try.func71, Try.ntmps71
  go_wp2
  go_quiet (fail)
  go_wp2
  go_quiet (fail)
  go_wp2
  go_quiet (fail)
  go_wp2
  go_quiet (fail)
  go_wp2
  have k0 := keeps cb0
  have k1 := keeps cb1
  have k2 := keeps cl0
  have k3 := keeps cl1
  go_region_held3 (fun w' => Kept w w') (first | assumption | exact Kept.refl _ | exact gtrans (by assumption) (by assumption))
    ((go_at_call 72; refine (pair_open S _ _ _ _ _ _ _ (hS.grown (by assumption)) (by first | exact pr.grown (by assumption) | exact ps.grown (by assumption) | exact pt.grown (by assumption) | exact pa.grown (by assumption) | assumption | exact IsPart.grown (by assumption) (by assumption)) (by first | exact pr.grown (by assumption) | exact ps.grown (by assumption) | exact pt.grown (by assumption) | exact pa.grown (by assumption) | assumption | exact IsPart.grown (by assumption) (by assumption)) (by (try simp only [List.length_append]); omega)).mono ?_; rintro e w1 ⟨c1, rfl, hg1, hp1⟩))
  all_goals
    go_wp2
    go_ret
    exact ⟨_, _, rfl, by assumption, by assumption⟩

set_option maxRecDepth 100000 in
set_option maxHeartbeats 4000000 in
theorem level_5 (S : Nat → Prop) (a b ha hb : Nat) (xs ys : List Int) (A B : Int) (w : World) (hS : Open S w)
    (pa : IsPart S w a ha xs) (pb : IsPart S w b hb ys) (hn : xs.length + ys.length ≤ 100000000)
    (ca3 : w.cell? ⟨a, 3, none⟩ = some (.int .i64 A)) (cb3 : w.cell? ⟨b, 3, none⟩ = some (.int .i64 B))
    (hA0 : 0 ≤ A) (hA1 : A ≤ 1000000000) (hB0 : 0 ≤ B) (hB1 : B ≤ 1000000000) (hab : A ≤ B + 1) (hba : B ≤ A + 1) :
    Calls Try.prog 71 #[at_ a, at_ b] w fun e w' => ∃ c h, e = .returned (at_ c) ∧ Kept w w' ∧ IsPart S w' c h (xs ++ ys) := by
  unfold at_
  have hd : decide (B + 1 < A) = false := decide_eq_false (by omega)
  have hd2 : decide (A + 1 < B) = false := decide_eq_false (by omega)
  go_enter Try.func71, Try.ntmps71
  go_wp2
  go_quiet (fail)
  go_wp2
  go_quiet (fail)
  go_wp2
  go_quiet (fail)
  go_wp2
  go_quiet (fail)
  go_wp2_with (go_at_call 72; refine (pair_open S _ _ _ _ _ _ _ (hS.grown (grown_drewN w _)) (pa.grown (grown_drewN w _)) (pb.grown (grown_drewN w _)) hn).mono ?_; rintro e w1 ⟨c1, rfl, hg1, hp1⟩)
  go_ret
  exact ⟨_, _, rfl, hg1, hp1⟩

/-- Two parts of whatever heights, hung in balance. -/
theorem level_open (S : Nat → Prop) (a b ha hb : Nat) (xs ys : List Int) (w : World) (hS : Open S w) (pa : IsPart S w a ha xs) (pb : IsPart S w b hb ys) (hn : xs.length + ys.length ≤ 100000000) :
    Calls Try.prog 71 #[at_ a, at_ b] w fun e w' => ∃ c h, e = .returned (at_ c) ∧ Kept w w' ∧ IsPart S w' c h (xs ++ ys) := by
  have h1 := pa.high
  have h2 := pb.high
  obtain ⟨_, _, _, _, ca⟩ := pa.cells
  obtain ⟨_, _, _, _, cb⟩ := pb.cells
  by_cases hab : hb + 1 < ha
  · rcases pa.cases with ⟨h0, _⟩ | ⟨l, r, hl, hr, xl, xr, _, rfl, hh, da, pl, pr⟩
    · omega
    · obtain ⟨_, _, _, _, cl⟩ := pl.cells
      obtain ⟨_, _, _, _, cr⟩ := pr.cells
      rw [List.length_append] at hn
      by_cases hlr : hr ≤ hl
      · rw [List.append_assoc]
        exact level_1 S a b l r hl hr hb xl xr ys ha hb hl hr w hS pl pr pb (by omega) da.1 da.2.1 da.2.2.2.1 cb.2.2.2.1 cl.2.2.2.1 cr.2.2.2.1 (by omega) (by omega) (by omega) (by omega)
      · rcases pr.cases with ⟨h0, _⟩ | ⟨s, t, hs, ht, xs, xt, _, rfl, hh2, dr, ps, pt⟩
        · omega
        · rw [List.length_append] at hn
          have e : xl ++ (xs ++ xt) ++ ys = (xl ++ xs) ++ (xt ++ ys) := by simp
          rw [e]
          exact level_2 S a b l r s t hl hs ht hb xl xs xt ys ha hb hl hr w hS pl ps pt pb (by omega) da.1 da.2.1 da.2.2.2.1 cb.2.2.2.1 cl.2.2.2.1 cr.2.2.2.1 dr.1 dr.2.1 (by omega) (by omega) (by omega) (by omega)
  · by_cases hba : ha + 1 < hb
    · rcases pb.cases with ⟨h0, _⟩ | ⟨l, r, hl, hr, xl, xr, _, rfl, hh, db, pl, pr⟩
      · omega
      · obtain ⟨_, _, _, _, cl⟩ := pl.cells
        obtain ⟨_, _, _, _, cr⟩ := pr.cells
        rw [List.length_append] at hn
        by_cases hlr : hl ≤ hr
        · rw [← List.append_assoc]
          exact level_3 S a b l r hl hr ha xl xr xs ha hb hl hr w hS pl pr pa (by omega) db.1 db.2.1 ca.2.2.2.1 db.2.2.2.1 cl.2.2.2.1 cr.2.2.2.1 (by omega) (by omega) (by omega) (by simp at h2; omega) (by omega) (by omega)
        · rcases pl.cases with ⟨h0, _⟩ | ⟨s, t, hs, ht, ys, yt, _, rfl, hh2, dl, ps, pt⟩
          · omega
          · rw [List.length_append] at hn
            have e : xs ++ (ys ++ yt ++ xr) = (xs ++ ys) ++ (yt ++ xr) := by simp
            rw [e]
            exact level_4 S a b l r s t hr hs ht ha xr ys yt xs ha hb hl hr w hS pr ps pt pa (by omega) db.1 db.2.1 ca.2.2.2.1 db.2.2.2.1 cl.2.2.2.1 cr.2.2.2.1 dl.1 dl.2.1 (by omega) (by omega) (by omega) (by simp at h2; omega) (by omega) (by omega)
    · exact level_5 S a b ha hb xs ys ha hb w hS pa pb hn ca.2.2.2.1 cb.2.2.2.1 (by omega) (by omega) (by omega) (by omega) (by omega) (by omega)

end Rope
end Go.Proofs.Ythjagnnbhpfpoaa
