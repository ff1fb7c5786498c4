import Derived.Test.YtlgojnodhbmlkaaGreatDoorMExLook
namespace Go.Proofs.YtlgojnodhbmlkaaGreatDoor
open Go.RowKit
attribute [local go_sem] Oper.semAt_some
namespace Ex

/-- Is a tree small enough? -/
def boundsP {n : Nat} (p : PatN (n + 1)) : Int := if 4096 < (lookP (n + 1) p 1 (0, 0)).1 then 2 else if 64 < (lookP (n + 1) p 1 (0, 0)).2 then 5 else 0

theorem KeptBut.up {b : Nat} {w u w' : World} (h : Kept w u) (hb : w.heap.size ≤ b) (hk : KeptBut b u w') : Kept w w' :=
  ⟨hk.1.trans h.1, hk.2.1.trans h.2.1, hk.2.2.1.trans h.2.2.1, Nat.le_trans h.size hk.2.2.2.1, fun k hlt => (hk.2.2.2.2 k (Nat.lt_of_lt_of_le hlt h.size) (by omega)).trans (h.2.2.2.2 k hlt)⟩
theorem new_walk (w : World) (o : Obj) : WalkAt ((w.alloc o).alloc (.cells #[.int .i64 0, .int .i64 0] 124)) (w.heap.size + 1) (0, 0) := by
  show ((w.heap.push o).push (.cells #[.int .i64 0, .int .i64 0] 124))[w.heap.size + 1]? = _
  simp [Array.getElem_push]

set_option linter.unusedSimpArgs false in
set_option maxRecDepth 100000 in
set_option maxHeartbeats 4000000 in
theorem bounds_is (S : Nat → Prop) (n : Nat) (p : PatN (n + 1)) (v : Value) (w : World) (h : KidsAt S w n (kids p) v) (hS : ∀ b, S b → b < w.heap.size) :
    Calls Tryz.prog 55 #[valOf p v] w fun e w' => e = .returned (.int .i64 (boundsP p)) ∧ Kept w w' := by
  have HK := hide1 h
  have HS := hide1 hS
  obtain ⟨a, cap, rfl⟩ := h.form
  rw [valOf_eq]
  clear h hS
  go_enter Tryz.func55, Tryz.ntmps55
  obtain ⟨⟨s1, s2⟩, hs⟩ : ∃ s, lookP (n + 1) p 1 (0, 0) = s := ⟨_, rfl⟩
  have HB : Hid (boundsP p = if 4096 < s1 then 2 else if 64 < s2 then 5 else 0) := by show _ = _; unfold boundsP; rw [hs]
  have HLS := hide1 hs
  clear hs
  go_wp2_with (go_at_call 75; refine (look_is S n p _ _ (w.heap.size + 1) 0 0 1 (HK.out.kept (((Kept.refl w).alloc _ _).alloc _ _)) (fun h => absurd (HS.out _ h) (by omega)) (new_walk _ _) (by omega) (by omega) (by omega) (by omega) (by omega) (by omega)).mono ?_; rintro e w6 ⟨rfl, hk6, hw6⟩; rw [HLS.out] at hw6; obtain ⟨c0, c1, z0, z1⟩ := hw6.cells; have HK6 := hide1 (KeptBut.up (((Kept.refl w).alloc _ _).alloc _ _) (by omega) hk6); clear hk6 hw6 z0 z1)
  all_goals
    go_ret
    refine ⟨?_, HK6.out⟩
    rw [HB.out]
    first
    | (rw [if_pos (by omega)]; rfl)
    | (rw [if_neg (by omega), if_pos (by omega)]; rfl)
    | (rw [if_neg (by omega), if_neg (by omega)]; rfl)

end Ex
end Go.Proofs.YtlgojnodhbmlkaaGreatDoor
namespace Go.Proofs.YtlgojnodhbmlkaaGreatDoor
open Go.RowKit
attribute [local go_sem] Oper.semAt_some
namespace Ex

/-- What is wrong with a tree, if anything is (P201). -/
def checkP {n : Nat} (p : PatN (n + 1)) : Int := if boundsP p = 0 then if rightP (n + 1) p = true then if 4096 < posP (n + 1) p then 21 else 0 else 20 else boundsP p
def positionsP {n : Nat} (p : PatN (n + 1)) : Int := if checkP p = 0 then posP (n + 1) p else 0

set_option linter.unusedSimpArgs false in
set_option maxRecDepth 100000 in
set_option maxHeartbeats 4000000 in
theorem Positions_is (S : Nat → Prop) (n : Nat) (p : PatN (n + 1)) (v : Value) (w : World) (h : KidsAt S w n (kids p) v) (hS : ∀ b, S b → b < w.heap.size) :
    Calls Tryz.prog 37 #[valOf p v] w fun e w' => e = .returned (.tuple #[.int .i64 (positionsP p), .int .i64 (checkP p)]) ∧ Kept w w' := by
  have HK := hide1 h
  have HS := hide1 hS
  obtain ⟨a, cap, rfl⟩ := h.form
  obtain ⟨b0, b1, b2, b3, b4, b5⟩ := box_at w (.int .i64 (kind p)) (.int .i64 (from_ p)) (.int .i64 (to_ p)) (.int .i64 (min_ p)) (.int .i64 (max_ p)) (.slice a (kids p).length cap) 24
  have HB := hide1 (And.intro b0 (And.intro b1 (And.intro b2 (And.intro b3 (And.intro b4 b5)))))
  clear b0 b1 b2 b3 b4 b5
  rw [valOf_eq]
  clear h hS
  have HC : Hid (checkP p = if boundsP p = 0 then if rightP (n + 1) p = true then if 4096 < posP (n + 1) p then 21 else 0 else 20 else boundsP p) := rfl
  have HP : Hid (positionsP p = if checkP p = 0 then posP (n + 1) p else 0) := rfl
  go_enter Tryz.func37, Tryz.ntmps37
  obtain ⟨bo, hbo⟩ : ∃ x, boundsP p = x := ⟨_, rfl⟩
  obtain ⟨po, hpo⟩ : ∃ x, posP (n + 1) p = x := ⟨_, rfl⟩
  have HBO := hide1 hbo
  have HPO := hide1 hpo
  rw [hbo, hpo] at HC
  rw [hpo] at HP
  clear hbo hpo
  by_cases hb0 : bo = 0
  · have eb : (bo != 0) = false := by simpa using hb0
    rw [if_pos hb0] at HC
    clear hb0
    by_cases hr : rightP (n + 1) p = true
    · have HRT := hide1 hr
      rw [if_pos hr] at HC
      clear hr
      by_cases hp : 4096 < po
      · rw [if_pos hp] at HC
        go_wp2_with (first
          | (go_at_call 55; refine (bounds_is S n p _ _ (HK.out.kept ((Kept.refl w).alloc _ _)) (fun b hb => Nat.lt_of_lt_of_le (HS.out b hb) ((Kept.refl w).alloc _ _).size)).mono ?_; rintro e w6 ⟨rfl, hk6⟩; rw [HBO.out]; have HK6 := hide1 (gtrans ((Kept.refl w).alloc _ _) hk6); have d0 := grown_cell hk6 HB.out.1; have d1 := grown_cell hk6 HB.out.2.1; have d2 := grown_cell hk6 HB.out.2.2.1; have d3 := grown_cell hk6 HB.out.2.2.2.1; have d4 := grown_cell hk6 HB.out.2.2.2.2.1; have d5 := grown_cell hk6 HB.out.2.2.2.2.2; clear hk6)
          | (go_at_call 56; refine (right_is S n p _ _ (HK.out.kept HK6.out)).mono ?_; rintro e w7 ⟨rfl, hk7⟩; rw [HRT.out]; have HK7 := hide1 (gtrans HK6.out hk7); have f0 := grown_cell hk7 d0; have f1 := grown_cell hk7 d1; have f2 := grown_cell hk7 d2; have f3 := grown_cell hk7 d3; have f4 := grown_cell hk7 d4; have f5 := grown_cell hk7 d5; clear hk7 d0 d1 d2 d3 d4 d5)
          | (go_at_call 57; refine (pos_is S n p _ _ (HK.out.kept HK7.out) HRT.out).mono ?_; rintro e w8 ⟨rfl, hk8⟩; rw [HPO.out]; have HK8 := hide1 (gtrans HK7.out hk8); clear hk8 f0 f1 f2 f3 f4 f5))
        go_ret2
        exact ⟨by rw [HP.out, HC.out]; rfl, HK8.out⟩
      · rw [if_neg hp] at HC
        go_wp2_with (first
          | (go_at_call 55; refine (bounds_is S n p _ _ (HK.out.kept ((Kept.refl w).alloc _ _)) (fun b hb => Nat.lt_of_lt_of_le (HS.out b hb) ((Kept.refl w).alloc _ _).size)).mono ?_; rintro e w6 ⟨rfl, hk6⟩; rw [HBO.out]; have HK6 := hide1 (gtrans ((Kept.refl w).alloc _ _) hk6); have d0 := grown_cell hk6 HB.out.1; have d1 := grown_cell hk6 HB.out.2.1; have d2 := grown_cell hk6 HB.out.2.2.1; have d3 := grown_cell hk6 HB.out.2.2.2.1; have d4 := grown_cell hk6 HB.out.2.2.2.2.1; have d5 := grown_cell hk6 HB.out.2.2.2.2.2; clear hk6)
          | (go_at_call 56; refine (right_is S n p _ _ (HK.out.kept HK6.out)).mono ?_; rintro e w7 ⟨rfl, hk7⟩; rw [HRT.out]; have HK7 := hide1 (gtrans HK6.out hk7); have f0 := grown_cell hk7 d0; have f1 := grown_cell hk7 d1; have f2 := grown_cell hk7 d2; have f3 := grown_cell hk7 d3; have f4 := grown_cell hk7 d4; have f5 := grown_cell hk7 d5; clear hk7 d0 d1 d2 d3 d4 d5)
          | (go_at_call 57; refine (pos_is S n p _ _ (HK.out.kept HK7.out) HRT.out).mono ?_; rintro e w8 ⟨rfl, hk8⟩; rw [HPO.out]; have HK8 := hide1 (gtrans HK7.out hk8); clear hk8 f0 f1 f2 f3 f4 f5))
        go_ret2
        exact ⟨by rw [HP.out, HC.out]; rfl, HK8.out⟩
    · have HRT : Hid (rightP (n + 1) p = false) := by show _ = _; simpa using hr
      rw [if_neg hr] at HC
      clear hr
      go_wp2_with (first
        | (go_at_call 55; refine (bounds_is S n p _ _ (HK.out.kept ((Kept.refl w).alloc _ _)) (fun b hb => Nat.lt_of_lt_of_le (HS.out b hb) ((Kept.refl w).alloc _ _).size)).mono ?_; rintro e w6 ⟨rfl, hk6⟩; rw [HBO.out]; have HK6 := hide1 (gtrans ((Kept.refl w).alloc _ _) hk6); have d0 := grown_cell hk6 HB.out.1; have d1 := grown_cell hk6 HB.out.2.1; have d2 := grown_cell hk6 HB.out.2.2.1; have d3 := grown_cell hk6 HB.out.2.2.2.1; have d4 := grown_cell hk6 HB.out.2.2.2.2.1; have d5 := grown_cell hk6 HB.out.2.2.2.2.2; clear hk6)
        | (go_at_call 56; refine (right_is S n p _ _ (HK.out.kept HK6.out)).mono ?_; rintro e w7 ⟨rfl, hk7⟩; rw [HRT.out]; have HK7 := hide1 (gtrans HK6.out hk7); have f0 := grown_cell hk7 d0; have f1 := grown_cell hk7 d1; have f2 := grown_cell hk7 d2; have f3 := grown_cell hk7 d3; have f4 := grown_cell hk7 d4; have f5 := grown_cell hk7 d5; clear hk7 d0 d1 d2 d3 d4 d5))
      go_ret2
      exact ⟨by rw [HP.out, HC.out]; rfl, HK7.out⟩
  · have eb : (bo != 0) = true := by simpa using hb0
    rw [if_neg hb0] at HC
    have HZ := hide1 hb0
    clear hb0
    go_wp2_with (go_at_call 55; refine (bounds_is S n p _ _ (HK.out.kept ((Kept.refl w).alloc _ _)) (fun b hb => Nat.lt_of_lt_of_le (HS.out b hb) ((Kept.refl w).alloc _ _).size)).mono ?_; rintro e w6 ⟨rfl, hk6⟩; rw [HBO.out]; have HK6 := hide1 (gtrans ((Kept.refl w).alloc _ _) hk6); have d0 := grown_cell hk6 HB.out.1; have d1 := grown_cell hk6 HB.out.2.1; have d2 := grown_cell hk6 HB.out.2.2.1; have d3 := grown_cell hk6 HB.out.2.2.2.1; have d4 := grown_cell hk6 HB.out.2.2.2.2.1; have d5 := grown_cell hk6 HB.out.2.2.2.2.2; clear hk6)
    go_ret2
    exact ⟨by rw [HP.out, HC.out, if_neg HZ.out]; rfl, HK6.out⟩

end Ex
end Go.Proofs.YtlgojnodhbmlkaaGreatDoor
namespace Go.Proofs.YtlgojnodhbmlkaaGreatDoor
open Go.RowKit
attribute [local go_sem] Oper.semAt_some
namespace Ex

set_option linter.unusedSimpArgs false in
set_option maxRecDepth 100000 in
set_option maxHeartbeats 4000000 in
theorem Check_is (S : Nat → Prop) (n : Nat) (p : PatN (n + 1)) (v : Value) (w : World) (h : KidsAt S w n (kids p) v) (hS : ∀ b, S b → b < w.heap.size) :
    Calls Tryz.prog 26 #[valOf p v] w fun e w' => e = .returned (.int .i64 (checkP p)) ∧ Kept w w' := by
  have HK := hide1 h
  have HS := hide1 hS
  obtain ⟨a, cap, rfl⟩ := h.form
  obtain ⟨b0, b1, b2, b3, b4, b5⟩ := box_at w (.int .i64 (kind p)) (.int .i64 (from_ p)) (.int .i64 (to_ p)) (.int .i64 (min_ p)) (.int .i64 (max_ p)) (.slice a (kids p).length cap) 24
  have HB := hide1 (And.intro b0 (And.intro b1 (And.intro b2 (And.intro b3 (And.intro b4 b5)))))
  clear b0 b1 b2 b3 b4 b5
  rw [valOf_eq]
  clear h hS
  go_enter Tryz.func26, Tryz.ntmps26
  go_wp2_with (go_at_call 37; refine (Positions_is S n p _ _ (HK.out.kept ((Kept.refl w).alloc _ _)) (fun b hb => Nat.lt_of_lt_of_le (HS.out b hb) ((Kept.refl w).alloc _ _).size)).mono ?_; rintro e w6 ⟨rfl, hk6⟩; have HK6 := hide1 (gtrans ((Kept.refl w).alloc _ _) hk6); clear hk6)
  go_ret
  exact ⟨rfl, HK6.out⟩

theorem check_right {n : Nat} {p : PatN (n + 1)} (h : checkP p = 0) : rightP (n + 1) p = true := by
  unfold checkP at h
  split at h
  · split at h
    · assumption
    · cases h
  · exact absurd h (by assumption)

/-- Does it match the empty text (P202)? -/
def emptyTop {n : Nat} (p : PatN (n + 1)) : Bool := checkP p == 0 && emptyP (n + 1) p

end Ex
end Go.Proofs.YtlgojnodhbmlkaaGreatDoor
namespace Go.Proofs.YtlgojnodhbmlkaaGreatDoor
namespace Ex

/-- How many values a tree has. -/
def sizeP : (n : Nat) → PatN n → Int
  | 0, _ => 0
  | n + 1, p => (kids p).foldl (fun m q => m + sizeP n q) 1
/-- How deep a tree is. -/
def depthP : (n : Nat) → PatN n → Int
  | 0, _ => 0
  | n + 1, p => (kids p).foldl (fun m q => max m (1 + depthP n q)) 1
theorem sum_from {α : Type} (f : α → Int) : ∀ (L : List α) (a b : Int), L.foldl (fun m q => m + f q) (a + b) = a + L.foldl (fun m q => m + f q) b
  | [], _, _ => rfl
  | q :: L, a, b => by
    rw [List.foldl_cons, List.foldl_cons, Int.add_assoc, sum_from f L]
theorem max_from {α : Type} (f : α → Int) (d : Int) : ∀ (L : List α) (a b : Int), L.foldl (fun m q => max m (d + (1 + f q))) (max a (d + b)) = max a (d + L.foldl (fun m q => max m (1 + f q)) b)
  | [], _, _ => rfl
  | q :: L, a, b => by
    rw [List.foldl_cons, List.foldl_cons, ← max_from f d L]
    exact congrArg (fun x => L.foldl (fun m q => max m (d + (1 + f q))) x) (by omega)
theorem sum_ge {α : Type} {f : α → Int} (h : ∀ q, 0 ≤ f q) : ∀ (L : List α) (b : Int), b ≤ L.foldl (fun m q => m + f q) b
  | [], _ => Int.le_refl _
  | q :: L, b => by
    have := sum_ge h L (b + f q)
    have := h q
    rw [List.foldl_cons]
    omega
theorem size_pos : ∀ (n : Nat) (p : PatN n), 0 ≤ sizeP n p
  | 0, _ => Int.le_refl 0
  | n + 1, p => by
    have := sum_ge (size_pos n) (kids p) 1
    show 0 ≤ (kids p).foldl (fun m q => m + sizeP n q) 1
    omega
/-- What look tells of a tree: its size and its depth, or more than 4096. -/
def Tells (t : Int × Int) (x y : Int) : Prop := (x ≤ 4096 → t = (x, y)) ∧ (4096 < x → 4096 < t.1)
theorem fold_tells {n : Nat} {d : Int} (h : ∀ (q : PatN n) (s : Int × Int), s.1 ≤ 4096 → Tells (lookP n q (d + 1) s) (s.1 + sizeP n q) (max s.2 (d + depthP n q))) : ∀ (L : List (PatN n)) (s : Int × Int),
    Tells (L.foldl (stepL n d) s) (L.foldl (fun m q => m + sizeP n q) s.1) (L.foldl (fun m q => max m (d + depthP n q)) s.2)
  | [], s => ⟨fun _ => rfl, fun h => h⟩
  | q :: L, s => by
    have ih := fold_tells h L (stepL n d s q)
    rw [List.foldl_cons, List.foldl_cons, List.foldl_cons]
    by_cases hs : 4096 < s.1
    · have e : stepL n d s q = s := by unfold stepL; rw [if_pos hs]
      rw [e, fold_stop L s hs]
      have h1 := sum_ge (size_pos n) L (s.1 + sizeP n q)
      have h2 := size_pos n q
      exact ⟨fun h => absurd h (by omega), fun _ => hs⟩
    · have e : stepL n d s q = lookP n q (d + 1) s := by unfold stepL; rw [if_neg hs]
      have hq := h q s (by omega)
      rw [← e] at hq
      by_cases hb : s.1 + sizeP n q ≤ 4096
      · rw [hq.1 hb] at ih ⊢
        exact ih
      · have h1 := sum_ge (size_pos n) L (s.1 + sizeP n q)
        have h2 := hq.2 (by omega)
        refine ⟨fun h => absurd h (by omega), fun _ => ?_⟩
        rw [fold_stop L _ h2]
        exact h2
theorem look_tells : ∀ (n : Nat) (q : PatN n) (d : Int) (s : Int × Int), s.1 ≤ 4096 → Tells (lookP n q (d + 1) s) (s.1 + sizeP n q) (max s.2 (d + depthP n q))
  | 0, q, _, _, _ => (show Empty from q).elim
  | n + 1, q, d, s, _ => by
    have h := fold_tells (d := d + 1) (fun q s hs => look_tells n q (d + 1) s hs) (kids q) (s.1 + 1, max s.2 (d + 1))
    rw [look_eq]
    have e1 : (kids q).foldl (fun m q => m + sizeP n q) (s.1 + 1) = s.1 + sizeP (n + 1) q := sum_from (sizeP n) (kids q) s.1 1
    have e2 : (kids q).foldl (fun m q => max m (d + (1 + depthP n q))) (max s.2 (d + 1)) = max s.2 (d + depthP (n + 1) q) := max_from (depthP n) d (kids q) s.2 1
    have e3 : (fun (m : Int) (q : PatN n) => max m (d + 1 + depthP n q)) = fun m q => max m (d + (1 + depthP n q)) := by funext m q; rw [Int.add_assoc]
    dsimp only at h
    rw [e1, e3, e2] at h
    exact h
theorem depth_pos (n : Nat) (p : PatN (n + 1)) : 1 ≤ depthP (n + 1) p := by
  have h := max_from (depthP n) 0 (kids p) 1 1
  have e : (fun (m : Int) (q : PatN n) => max m (0 + (1 + depthP n q))) = fun m q => max m (1 + depthP n q) := by funext m q; rw [Int.zero_add]
  rw [e] at h
  show 1 ≤ (kids p).foldl (fun m q => max m (1 + depthP n q)) 1
  rw [Int.zero_add, Int.zero_add, Int.max_self] at h
  omega
/-- bounds, in words: more than 4096 values, else more than 64 levels. -/
theorem bounds_eq {n : Nat} (p : PatN (n + 1)) : boundsP p = if 4096 < sizeP (n + 1) p then 2 else if 64 < depthP (n + 1) p then 5 else 0 := by
  have h := look_tells (n + 1) p 0 (0, 0) (by decide)
  have hd := depth_pos n p
  unfold Tells at h
  simp only [Int.zero_add] at h
  unfold boundsP
  by_cases hb : 4096 < sizeP (n + 1) p
  · rw [if_pos (h.2 hb), if_pos hb]
  · rw [h.1 (by omega), if_neg hb, if_neg hb]
    dsimp only
    rw [show max 0 (depthP (n + 1) p) = depthP (n + 1) p from by omega]

end Ex
end Go.Proofs.YtlgojnodhbmlkaaGreatDoor
