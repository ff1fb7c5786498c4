import Derived.Test.YthjagnnbhpfpoaaRopeLink
import Derived.Deep.LoopGhost
namespace Go.Proofs.Ythjagnnbhpfpoaa
open Go.RowKit
namespace Rope

/-- n steps to the right lead from a to the leaf b; pre are the bytes ahead of it. -/
def LastP (S : Nat → Prop) (w : World) : Nat → Nat → List Int → Nat → List Int → Prop
  | 0, a, pre, b, bl => a = b ∧ pre = [] ∧ LeafAt S w b bl
  | n + 1, a, pre, b, bl => ∃ l r hl xl pr, S a ∧ w.cell? ⟨a, 0, none⟩ = some (at_ l) ∧ w.cell? ⟨a, 1, none⟩ = some (at_ r) ∧ IsPart S w l hl xl ∧ pre = xl ++ pr ∧ LastP S w n r pr b bl

def FirstP (S : Nat → Prop) (w : World) : Nat → Nat → Nat → List Int → List Int → Prop
  | 0, a, b, bl, post => a = b ∧ post = [] ∧ LeafAt S w b bl
  | n + 1, a, b, bl, post => ∃ l r hr xr pl, S a ∧ w.cell? ⟨a, 0, none⟩ = some (at_ l) ∧ w.cell? ⟨a, 1, none⟩ = some (at_ r) ∧ IsPart S w r hr xr ∧ post = pl ++ xr ∧ FirstP S w n l b bl pl

theorem LastP.grown {S : Nat → Prop} {w w' : World} (hg : Kept w w') : ∀ {n a b : Nat} {pre bl : List Int}, LastP S w n a pre b bl → LastP S w' n a pre b bl := by
  intro n
  induction n with
  | zero => rintro a b pre bl ⟨h1, h2, h3⟩; exact ⟨h1, h2, h3.mono (Kept.same hg S) (fun _ h => h)⟩
  | succ n ih =>
    rintro a b pre bl ⟨l, r, hl, xl, pr, h1, h2, h3, h4, h5, h6⟩
    exact ⟨l, r, hl, xl, pr, h1, grown_cell hg h2, grown_cell hg h3, h4.grown hg, h5, ih h6⟩

theorem FirstP.grown {S : Nat → Prop} {w w' : World} (hg : Kept w w') : ∀ {n a b : Nat} {bl post : List Int}, FirstP S w n a b bl post → FirstP S w' n a b bl post := by
  intro n
  induction n with
  | zero => rintro a b bl post ⟨h1, h2, h3⟩; exact ⟨h1, h2, h3.mono (Kept.same hg S) (fun _ h => h)⟩
  | succ n ih =>
    rintro a b bl post ⟨l, r, hr, xr, pl, h1, h2, h3, h4, h5, h6⟩
    exact ⟨l, r, hr, xr, pl, h1, grown_cell hg h2, grown_cell hg h3, h4.grown hg, h5, ih h6⟩

theorem IsPart.lastP {S : Nat → Prop} {w : World} {a h : Nat} {xs : List Int} (hp : IsPart S w a h xs) : ∃ n b pre bl, LastP S w n a pre b bl ∧ xs = pre ++ bl := by
  obtain ⟨n, hp⟩ := hp
  induction n generalizing a h xs with
  | zero => exact ⟨0, a, [], xs, ⟨rfl, rfl, hp.2⟩, rfl⟩
  | succ n ih =>
    rcases hp with hp | ⟨l, r, hl, hr, bl, br, h1, h2, h3, h4, h5, h6⟩
    · exact ⟨0, a, [], xs, ⟨rfl, rfl, hp.2⟩, rfl⟩
    · obtain ⟨m, b, pre, bx, g1, g2⟩ := ih h6
      exact ⟨m + 1, b, bl ++ pre, bx, ⟨l, r, hl, bl, pre, h1, h4.1, h4.2.1, ⟨n, h5⟩, rfl, g1⟩, by rw [h2, g2, List.append_assoc]⟩

theorem IsPart.firstP {S : Nat → Prop} {w : World} {a h : Nat} {xs : List Int} (hp : IsPart S w a h xs) : ∃ n b bl post, FirstP S w n a b bl post ∧ xs = bl ++ post := by
  obtain ⟨n, hp⟩ := hp
  induction n generalizing a h xs with
  | zero => exact ⟨0, a, xs, [], ⟨rfl, rfl, hp.2⟩, by simp⟩
  | succ n ih =>
    rcases hp with hp | ⟨l, r, hl, hr, bl, br, h1, h2, h3, h4, h5, h6⟩
    · exact ⟨0, a, xs, [], ⟨rfl, rfl, hp.2⟩, by simp⟩
    · obtain ⟨m, b, bx, post, g1, g2⟩ := ih h5
      exact ⟨m + 1, b, bx, post ++ br, ⟨l, r, hr, br, post, h1, h4.1, h4.2.1, ⟨n, h6⟩, rfl, g1⟩, by rw [h2, g2, List.append_assoc]⟩

theorem LastP.leaf {S : Nat → Prop} {w : World} : ∀ {n a b : Nat} {pre bl : List Int}, LastP S w n a pre b bl → LeafAt S w b bl := by
  intro n
  induction n with
  | zero => rintro a b pre bl ⟨_, _, h⟩; exact h
  | succ n ih => rintro a b pre bl ⟨l, r, hl, xl, pr, _, _, _, _, _, h⟩; exact ih h
theorem FirstP.leaf {S : Nat → Prop} {w : World} : ∀ {n a b : Nat} {bl post : List Int}, FirstP S w n a b bl post → LeafAt S w b bl := by
  intro n
  induction n with
  | zero => rintro a b bl post ⟨_, _, h⟩; exact h
  | succ n ih => rintro a b bl post ⟨l, r, hl, xl, pr, _, _, _, _, _, h⟩; exact ih h

set_option maxHeartbeats 1000000 in
theorem last_any (S : Nat → Prop) (n a b : Nat) (pre bl : List Int) (w : World) (h : LastP S w n a pre b bl) :
    Calls Try.prog 55 #[at_ a] w fun e w' => e = .returned (at_ b) ∧ w' = w := by
  unfold at_
  go_enter Try.func55, Try.ntmps55
  go_wp2_with fail
  go_loopg [0] n (fun k p wr => wr = w ∧ ∃ x pr, p = .pointer (some ⟨x, 0, none⟩) ∧ LastP S w k x pr b bl)
  case atStart => exact ⟨rfl, a, pre, rfl, h⟩
  case round =>
    obtain ⟨rfl, x, pr, rfl, hx⟩ := hrel
    cases gk with
    | zero =>
      obtain ⟨rfl, rfl, _, _, v, hc, _⟩ := hx
      have c0 := hc.1
      clear hc
      go_wp2_with (go_at_call 52; refine (isPiece_cells _ _ _ c0).mono ?_; rintro e w1 ⟨rfl, rfl⟩)
      go_ret
      exact ⟨rfl, rfl⟩
    | succ k =>
      obtain ⟨l, r, hl, xl, pr', _, c0, c1, _, _, hx⟩ := hx
      unfold at_ at c0 c1
      go_wp2_with (go_at_call 52; refine (isPiece_cells _ _ _ c0).mono ?_; rintro e w1 ⟨rfl, rfl⟩)
      go_roundg k
      case rel => exact ⟨rfl, r, pr', rfl, hx⟩
      case measure => omega

set_option maxHeartbeats 1000000 in
theorem first_any (S : Nat → Prop) (n a b : Nat) (bl post : List Int) (w : World) (h : FirstP S w n a b bl post) :
    Calls Try.prog 56 #[at_ a] w fun e w' => e = .returned (at_ b) ∧ w' = w := by
  unfold at_
  go_enter Try.func56, Try.ntmps56
  go_wp2_with fail
  go_loopg [0] n (fun k p wr => wr = w ∧ ∃ x pr, p = .pointer (some ⟨x, 0, none⟩) ∧ FirstP S w k x b bl pr)
  case atStart => exact ⟨rfl, a, post, rfl, h⟩
  case round =>
    obtain ⟨rfl, x, pr, rfl, hx⟩ := hrel
    cases gk with
    | zero =>
      obtain ⟨rfl, rfl, _, _, v, hc, _⟩ := hx
      have c0 := hc.1
      clear hc
      go_wp2_with (go_at_call 52; refine (isPiece_cells _ _ _ c0).mono ?_; rintro e w1 ⟨rfl, rfl⟩)
      go_ret
      exact ⟨rfl, rfl⟩
    | succ k =>
      obtain ⟨l, r, hl, xl, pr', _, c0, c1, _, _, hx⟩ := hx
      unfold at_ at c0 c1
      go_wp2_with (go_at_call 52; refine (isPiece_cells _ _ _ c0).mono ?_; rintro e w1 ⟨rfl, rfl⟩)
      go_roundg k
      case rel => exact ⟨rfl, l, pr', rfl, hx⟩
      case measure => omega

set_option maxHeartbeats 1000000 in
theorem withLast_leaf (a q : Nat) (w : World) (c0 : w.cell? ⟨a, 0, none⟩ = some (.pointer none)) :
    Calls Try.prog 58 #[at_ a, at_ q] w fun e w' => e = .returned (at_ q) ∧ w' = w := by
  unfold at_
  go_enter Try.func58, Try.ntmps58
  go_wp2_with (go_at_call 52; refine (isPiece_cells _ _ _ c0).mono ?_; rintro e w1 ⟨rfl, rfl⟩)
  go_ret
  exact ⟨rfl, rfl⟩

def WithLast (S : Nat → Prop) (n : Nat) : Prop :=
  ∀ (a b q hq : Nat) (pre bl zs : List Int) (w : World), LastP S w n a pre b bl → Open S w → IsPart S w q hq zs → pre.length + zs.length ≤ 100000000 →
    Calls Try.prog 58 #[at_ a, at_ q] w fun e w' => ∃ c h, e = .returned (at_ c) ∧ Kept w w' ∧ IsPart S w' c h (pre ++ zs)

set_option maxRecDepth 100000 in
set_option maxHeartbeats 4000000 in
theorem withLast_node (S : Nat → Prop) (n a b q hq l r hl : Nat) (xl pr bl zs : List Int) (w : World) (ih : WithLast S n) (hS : Open S w)
    (c0 : w.cell? ⟨a, 0, none⟩ = some (at_ l)) (c1 : w.cell? ⟨a, 1, none⟩ = some (at_ r)) (pl : IsPart S w l hl xl) (hx : LastP S w n r pr b bl) (pq : IsPart S w q hq zs)
    (hn : xl.length + pr.length + zs.length ≤ 100000000) :
    Calls Try.prog 58 #[at_ a, at_ q] w fun e w' => ∃ c h, e = .returned (at_ c) ∧ Kept w w' ∧ IsPart S w' c h (xl ++ (pr ++ zs)) := by
  unfold at_ at c0 c1 ⊢
  go_enter Try.func58, Try.ntmps58
  go_wp2_with (go_at_call 52; refine (isPiece_cells _ _ _ c0).mono ?_; rintro e w0 ⟨rfl, rfl⟩)
  have k0 := keeps c0
  have k1 := keeps c1
  go_region_held3 (fun w' => Kept w0 w') (first | assumption | exact Kept.refl _ | exact gtrans (by assumption) (by assumption))
    ((first | (go_at_call 58; refine (ih _ _ _ _ _ _ _ _ (hx.grown (by assumption)) (hS.grown (by assumption)) (by exact pq.grown (by assumption)) (by omega)).mono ?_; rintro e w1 ⟨d1, hd1, rfl, hg1, hp1⟩) | (go_at_call 72; refine (pair_open S _ _ _ _ _ _ _ (hS.grown (by assumption)) (by exact pl.grown (by assumption)) (by assumption) (by (try simp only [List.length_append]); omega)).mono ?_; rintro e w2 ⟨d2, rfl, hg2, hp2⟩)))
  all_goals
    go_wp2
    go_ret
    exact ⟨_, _, rfl, by assumption, by assumption⟩

theorem withLast_upto (S : Nat → Prop) : ∀ n, WithLast S n := by
  intro n
  induction n with
  | zero =>
    rintro a b q hq pre bl zs w ⟨rfl, rfl, _, _, v, hc, _⟩ hS pq hn
    refine (withLast_leaf a q w hc.1).mono ?_
    rintro e w' ⟨rfl, rfl⟩
    exact ⟨q, hq, rfl, Kept.refl _, pq⟩
  | succ n ih =>
    rintro a b q hq pre bl zs w ⟨l, r, hl, xl, pr, _, c0, c1, pl, rfl, hx⟩ hS pq hn
    rw [List.append_assoc]
    rw [List.length_append] at hn
    exact withLast_node S n a b q hq l r hl xl pr bl zs w ih hS c0 c1 pl hx pq hn

set_option maxHeartbeats 1000000 in
theorem withoutFirst_leaf (a : Nat) (w : World) (c0 : w.cell? ⟨a, 0, none⟩ = some (.pointer none)) :
    Calls Try.prog 60 #[at_ a] w fun e w' => e = .returned (.pointer none) ∧ w' = w := by
  unfold at_
  go_enter Try.func60, Try.ntmps60
  go_wp2_with (go_at_call 52; refine (isPiece_cells _ _ _ c0).mono ?_; rintro e w1 ⟨rfl, rfl⟩)
  go_ret
  exact ⟨rfl, rfl⟩

def WithoutFirst (S : Nat → Prop) (n : Nat) : Prop :=
  ∀ (a b : Nat) (bl post : List Int) (w : World), FirstP S w n a b bl post → Open S w → post.length ≤ 100000000 →
    Calls Try.prog 60 #[at_ a] w fun e w' => ∃ v, e = .returned v ∧ Kept w w' ∧ TreeAt S w' v post

set_option maxRecDepth 100000 in
set_option maxHeartbeats 4000000 in
theorem withoutFirst_node (S : Nat → Prop) (n a b l r hr : Nat) (xr pl bl : List Int) (w : World) (ih : WithoutFirst S n) (hS : Open S w)
    (c0 : w.cell? ⟨a, 0, none⟩ = some (at_ l)) (c1 : w.cell? ⟨a, 1, none⟩ = some (at_ r)) (pr : IsPart S w r hr xr) (hx : FirstP S w n l b bl pl)
    (hn : pl.length + xr.length ≤ 100000000) :
    Calls Try.prog 60 #[at_ a] w fun e w' => ∃ v, e = .returned v ∧ Kept w w' ∧ TreeAt S w' v (pl ++ xr) := by
  unfold at_ at c0 c1 ⊢
  go_enter Try.func60, Try.ntmps60
  go_wp2_with (go_at_call 52; refine (isPiece_cells _ _ _ c0).mono ?_; rintro e w0 ⟨rfl, rfl⟩)
  have k0 := keeps c0
  have k1 := keeps c1
  go_region_held3 (fun w' => Kept w0 w') (first | assumption | exact Kept.refl _ | exact gtrans (by assumption) (by assumption))
    ((first | (go_at_call 60; refine (ih _ _ _ _ _ (hx.grown (by assumption)) (hS.grown (by assumption)) (by omega)).mono ?_; rintro e w1 ⟨d1, rfl, hg1, hp1⟩) | (go_at_call 57; refine (link_tree S _ _ _ _ _ (hS.grown (by assumption)) (by assumption) (Or.inr ⟨_, _, rfl, pr.grown (by assumption)⟩) hn).mono ?_; rintro e w2 ⟨d2, rfl, hg2, hp2⟩)))
  all_goals
    go_wp2
    go_ret
    exact ⟨_, rfl, by assumption, by assumption⟩

theorem withoutFirst_upto (S : Nat → Prop) : ∀ n, WithoutFirst S n := by
  intro n
  induction n with
  | zero =>
    rintro a b bl post w ⟨rfl, rfl, _, _, v, hc, _⟩ hS hn
    refine (withoutFirst_leaf a w hc.1).mono ?_
    rintro e w' ⟨rfl, rfl⟩
    exact ⟨_, rfl, Kept.refl _, Or.inl ⟨rfl, rfl⟩⟩
  | succ n ih =>
    rintro a b bl post w ⟨l, r, hr, xr, pl, _, c0, c1, pr, rfl, hx⟩ hS hn
    rw [List.length_append] at hn
    exact withoutFirst_node S n a b l r hr xr pl bl w ih hS c0 c1 pr hx hn

end Rope
end Go.Proofs.Ythjagnnbhpfpoaa
