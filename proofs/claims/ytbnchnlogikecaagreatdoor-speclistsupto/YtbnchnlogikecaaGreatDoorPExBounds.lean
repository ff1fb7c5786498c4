import Derived.Test.YtbnchnlogikecaaGreatDoorPExPos
import Derived.Laws.Externs
namespace Go.Proofs.YtbnchnlogikecaaGreatDoor
open Go.RowKit
attribute [local go_sem] Oper.semAt_some
set_option linter.unusedSimpArgs false
set_option maxRecDepth 100000
set_option maxHeartbeats 4000000
namespace Ex
def boundsP {n : Nat} (p : PatN (n + 1)) : Int := if 4096 < (lookP (n + 1) p 1 (0, 0)).1 then 2 else if 64 < (lookP (n + 1) p 1 (0, 0)).2 then 5 else 0
theorem KeptBut.up {b : Nat} {w u w' : World} (h : Kept w u) (hb : w.heap.size ≤ b) (hk : KeptBut b u w') : Kept w w' :=
  ⟨hk.1.trans h.1, hk.2.1.trans h.2.1, hk.2.2.1.trans h.2.2.1, Nat.le_trans h.size hk.2.2.2.1, fun k hlt => (hk.2.2.2.2 k (Nat.lt_of_lt_of_le hlt h.size) (by omega)).trans (h.2.2.2.2 k hlt)⟩
theorem new_walk (w : World) (o : Obj) : WalkAt ((w.alloc o).alloc (.cells #[.int .i64 0, .int .i64 0] 159)) (w.heap.size + 1) (0, 0) := by
  show ((w.heap.push o).push (.cells #[.int .i64 0, .int .i64 0] 159))[w.heap.size + 1]? = _
  simp [Array.getElem_push]
theorem bounds_is (S : Nat → Prop) (n : Nat) (p : PatN (n + 1)) (v : Value) (w : World) (h : KidsAt S w n (kids p) v) (hS : ∀ b, S b → b < w.heap.size) :
    Calls Tryz.prog 78 #[valOf p v] w fun e w' => e = .returned (.int .i64 (boundsP p)) ∧ Kept w w' := by
  have HK := hide1 h
  have HS := hide1 hS
  obtain ⟨a, cap, rfl⟩ := h.form
  rw [valOf_eq]
  clear h hS
  go_enter Tryz.func78, Tryz.ntmps78
  obtain ⟨⟨s1, s2⟩, hs⟩ : ∃ s, lookP (n + 1) p 1 (0, 0) = s := ⟨_, rfl⟩
  have HB : Hid (boundsP p = if 4096 < s1 then 2 else if 64 < s2 then 5 else 0) := by show _ = _; unfold boundsP; rw [hs]
  have HLS := hide1 hs
  clear hs
  go_wp2_with (go_at_call 95; refine (look_is S n p _ _ (w.heap.size + 1) 0 0 1 (HK.out.kept (((Kept.refl w).alloc _ _).alloc _ _)) (fun h => absurd (HS.out _ h) (by omega)) (new_walk _ _) (by omega) (by omega) (by omega) (by omega) (by omega) (by omega)).mono ?_; rintro e w6 ⟨rfl, hk6, hw6⟩; rw [HLS.out] at hw6; obtain ⟨c0, c1, z0, z1⟩ := hw6.cells; have HK6 := hide1 (KeptBut.up (((Kept.refl w).alloc _ _).alloc _ _) (by omega) hk6); clear hk6 hw6 z0 z1)
  all_goals
    go_ret
    refine ⟨?_, HK6.out⟩
    rw [HB.out]
    first
    | (rw [if_pos (by omega)]; rfl)
    | (rw [if_neg (by omega), if_pos (by omega)]; rfl)
    | (rw [if_neg (by omega), if_neg (by omega)]; rfl)
def checkP {n : Nat} (p : PatN (n + 1)) : Int := if boundsP p = 0 then if rightP (n + 1) p = true then if 4096 < posP (n + 1) p then 21 else 0 else 20 else boundsP p
def positionsP {n : Nat} (p : PatN (n + 1)) : Int := if checkP p = 0 then posP (n + 1) p else 0
theorem Positions_is (S : Nat → Prop) (n : Nat) (p : PatN (n + 1)) (v : Value) (w : World) (h : KidsAt S w n (kids p) v) (hS : ∀ b, S b → b < w.heap.size) :
    Calls Tryz.prog 62 #[valOf p v] w fun e w' => e = .returned (.tuple #[.int .i64 (positionsP p), .int .i64 (checkP p)]) ∧ Kept w w' := by
  have HK := hide1 h
  have HS := hide1 hS
  obtain ⟨a, cap, rfl⟩ := h.form
  obtain ⟨b0, b1, b2, b3, b4, b5⟩ := box_at w (.int .i64 (kind p)) (.int .i64 (from_ p)) (.int .i64 (to_ p)) (.int .i64 (min_ p)) (.int .i64 (max_ p)) (.slice a (kids p).length cap) 70
  have HB := hide1 (And.intro b0 (And.intro b1 (And.intro b2 (And.intro b3 (And.intro b4 b5)))))
  clear b0 b1 b2 b3 b4 b5
  rw [valOf_eq]
  clear h hS
  have HC : Hid (checkP p = if boundsP p = 0 then if rightP (n + 1) p = true then if 4096 < posP (n + 1) p then 21 else 0 else 20 else boundsP p) := rfl
  have HP : Hid (positionsP p = if checkP p = 0 then posP (n + 1) p else 0) := rfl
  go_enter Tryz.func62, Tryz.ntmps62
  obtain ⟨bo, hbo⟩ : ∃ x, boundsP p = x := ⟨_, rfl⟩
  obtain ⟨po, hpo⟩ : ∃ x, posP (n + 1) p = x := ⟨_, rfl⟩
  have HBO := hide1 hbo
  have HPO := hide1 hpo
  rw [hbo, hpo] at HC
  rw [hpo] at HP
  clear hbo hpo
  by_cases hb0 : bo = 0
  · have eb : (bo != 0) = false := by simpa using hb0
    rw [if_pos hb0] at HC
    clear hb0
    by_cases hr : rightP (n + 1) p = true
    · have HRT := hide1 hr
      rw [if_pos hr] at HC
      clear hr
      by_cases hp : 4096 < po
      · rw [if_pos hp] at HC
        go_wp2_with (first
          | (go_at_call 78; refine (bounds_is S n p _ _ (HK.out.kept ((Kept.refl w).alloc _ _)) (fun b hb => Nat.lt_of_lt_of_le (HS.out b hb) ((Kept.refl w).alloc _ _).size)).mono ?_; rintro e w6 ⟨rfl, hk6⟩; rw [HBO.out]; have HK6 := hide1 (gtrans ((Kept.refl w).alloc _ _) hk6); have d0 := grown_cell hk6 HB.out.1; have d1 := grown_cell hk6 HB.out.2.1; have d2 := grown_cell hk6 HB.out.2.2.1; have d3 := grown_cell hk6 HB.out.2.2.2.1; have d4 := grown_cell hk6 HB.out.2.2.2.2.1; have d5 := grown_cell hk6 HB.out.2.2.2.2.2; clear hk6)
          | (go_at_call 79; refine (right_is S n p _ _ (HK.out.kept HK6.out)).mono ?_; rintro e w7 ⟨rfl, hk7⟩; rw [HRT.out]; have HK7 := hide1 (gtrans HK6.out hk7); have f0 := grown_cell hk7 d0; have f1 := grown_cell hk7 d1; have f2 := grown_cell hk7 d2; have f3 := grown_cell hk7 d3; have f4 := grown_cell hk7 d4; have f5 := grown_cell hk7 d5; clear hk7 d0 d1 d2 d3 d4 d5)
          | (go_at_call 80; refine (pos_is S n p _ _ (HK.out.kept HK7.out) HRT.out).mono ?_; rintro e w8 ⟨rfl, hk8⟩; rw [HPO.out]; have HK8 := hide1 (gtrans HK7.out hk8); clear hk8 f0 f1 f2 f3 f4 f5))
        go_ret2
        exact ⟨by rw [HP.out, HC.out]; rfl, HK8.out⟩
      · rw [if_neg hp] at HC
        go_wp2_with (first
          | (go_at_call 78; refine (bounds_is S n p _ _ (HK.out.kept ((Kept.refl w).alloc _ _)) (fun b hb => Nat.lt_of_lt_of_le (HS.out b hb) ((Kept.refl w).alloc _ _).size)).mono ?_; rintro e w6 ⟨rfl, hk6⟩; rw [HBO.out]; have HK6 := hide1 (gtrans ((Kept.refl w).alloc _ _) hk6); have d0 := grown_cell hk6 HB.out.1; have d1 := grown_cell hk6 HB.out.2.1; have d2 := grown_cell hk6 HB.out.2.2.1; have d3 := grown_cell hk6 HB.out.2.2.2.1; have d4 := grown_cell hk6 HB.out.2.2.2.2.1; have d5 := grown_cell hk6 HB.out.2.2.2.2.2; clear hk6)
          | (go_at_call 79; refine (right_is S n p _ _ (HK.out.kept HK6.out)).mono ?_; rintro e w7 ⟨rfl, hk7⟩; rw [HRT.out]; have HK7 := hide1 (gtrans HK6.out hk7); have f0 := grown_cell hk7 d0; have f1 := grown_cell hk7 d1; have f2 := grown_cell hk7 d2; have f3 := grown_cell hk7 d3; have f4 := grown_cell hk7 d4; have f5 := grown_cell hk7 d5; clear hk7 d0 d1 d2 d3 d4 d5)
          | (go_at_call 80; refine (pos_is S n p _ _ (HK.out.kept HK7.out) HRT.out).mono ?_; rintro e w8 ⟨rfl, hk8⟩; rw [HPO.out]; have HK8 := hide1 (gtrans HK7.out hk8); clear hk8 f0 f1 f2 f3 f4 f5))
        go_ret2
        exact ⟨by rw [HP.out, HC.out]; rfl, HK8.out⟩
    · have HRT : Hid (rightP (n + 1) p = false) := by show _ = _; simpa using hr
      rw [if_neg hr] at HC
      clear hr
      go_wp2_with (first
        | (go_at_call 78; refine (bounds_is S n p _ _ (HK.out.kept ((Kept.refl w).alloc _ _)) (fun b hb => Nat.lt_of_lt_of_le (HS.out b hb) ((Kept.refl w).alloc _ _).size)).mono ?_; rintro e w6 ⟨rfl, hk6⟩; rw [HBO.out]; have HK6 := hide1 (gtrans ((Kept.refl w).alloc _ _) hk6); have d0 := grown_cell hk6 HB.out.1; have d1 := grown_cell hk6 HB.out.2.1; have d2 := grown_cell hk6 HB.out.2.2.1; have d3 := grown_cell hk6 HB.out.2.2.2.1; have d4 := grown_cell hk6 HB.out.2.2.2.2.1; have d5 := grown_cell hk6 HB.out.2.2.2.2.2; clear hk6)
        | (go_at_call 79; refine (right_is S n p _ _ (HK.out.kept HK6.out)).mono ?_; rintro e w7 ⟨rfl, hk7⟩; rw [HRT.out]; have HK7 := hide1 (gtrans HK6.out hk7); have f0 := grown_cell hk7 d0; have f1 := grown_cell hk7 d1; have f2 := grown_cell hk7 d2; have f3 := grown_cell hk7 d3; have f4 := grown_cell hk7 d4; have f5 := grown_cell hk7 d5; clear hk7 d0 d1 d2 d3 d4 d5))
      go_ret2
      exact ⟨by rw [HP.out, HC.out]; rfl, HK7.out⟩
  · have eb : (bo != 0) = true := by simpa using hb0
    rw [if_neg hb0] at HC
    have HZ := hide1 hb0
    clear hb0
    go_wp2_with (go_at_call 78; refine (bounds_is S n p _ _ (HK.out.kept ((Kept.refl w).alloc _ _)) (fun b hb => Nat.lt_of_lt_of_le (HS.out b hb) ((Kept.refl w).alloc _ _).size)).mono ?_; rintro e w6 ⟨rfl, hk6⟩; rw [HBO.out]; have HK6 := hide1 (gtrans ((Kept.refl w).alloc _ _) hk6); have d0 := grown_cell hk6 HB.out.1; have d1 := grown_cell hk6 HB.out.2.1; have d2 := grown_cell hk6 HB.out.2.2.1; have d3 := grown_cell hk6 HB.out.2.2.2.1; have d4 := grown_cell hk6 HB.out.2.2.2.2.1; have d5 := grown_cell hk6 HB.out.2.2.2.2.2; clear hk6)
    go_ret2
    exact ⟨by rw [HP.out, HC.out, if_neg HZ.out]; rfl, HK6.out⟩
theorem Check_is (S : Nat → Prop) (n : Nat) (p : PatN (n + 1)) (v : Value) (w : World) (h : KidsAt S w n (kids p) v) (hS : ∀ b, S b → b < w.heap.size) :
    Calls Tryz.prog 45 #[valOf p v] w fun e w' => e = .returned (.int .i64 (checkP p)) ∧ Kept w w' := by
  have HK := hide1 h
  have HS := hide1 hS
  obtain ⟨a, cap, rfl⟩ := h.form
  obtain ⟨b0, b1, b2, b3, b4, b5⟩ := box_at w (.int .i64 (kind p)) (.int .i64 (from_ p)) (.int .i64 (to_ p)) (.int .i64 (min_ p)) (.int .i64 (max_ p)) (.slice a (kids p).length cap) 70
  have HB := hide1 (And.intro b0 (And.intro b1 (And.intro b2 (And.intro b3 (And.intro b4 b5)))))
  clear b0 b1 b2 b3 b4 b5
  rw [valOf_eq]
  clear h hS
  go_enter Tryz.func45, Tryz.ntmps45
  go_wp2_with (go_at_call 62; refine (Positions_is S n p _ _ (HK.out.kept ((Kept.refl w).alloc _ _)) (fun b hb => Nat.lt_of_lt_of_le (HS.out b hb) ((Kept.refl w).alloc _ _).size)).mono ?_; rintro e w6 ⟨rfl, hk6⟩; have HK6 := hide1 (gtrans ((Kept.refl w).alloc _ _) hk6); clear hk6)
  go_ret
  exact ⟨rfl, HK6.out⟩
theorem check_right {n : Nat} {p : PatN (n + 1)} (h : checkP p = 0) : rightP (n + 1) p = true := by
  unfold checkP at h
  split at h
  · split at h
    · assumption
    · cases h
  · exact absurd h (by assumption)
end Ex
end Go.Proofs.YtbnchnlogikecaaGreatDoor
namespace Go.Proofs.YtbnchnlogikecaaGreatDoor
namespace Ex
def sizeP : (n : Nat) → PatN n → Int
  | 0, _ => 0
  | n + 1, p => (kids p).foldl (fun m q => m + sizeP n q) 1
def depthP : (n : Nat) → PatN n → Int
  | 0, _ => 0
  | n + 1, p => (kids p).foldl (fun m q => max m (1 + depthP n q)) 1
theorem sum_from {α : Type} (f : α → Int) : ∀ (L : List α) (a b : Int), L.foldl (fun m q => m + f q) (a + b) = a + L.foldl (fun m q => m + f q) b
  | [], _, _ => rfl
  | q :: L, a, b => by
    rw [List.foldl_cons, List.foldl_cons, Int.add_assoc, sum_from f L]
theorem max_from {α : Type} (f : α → Int) (d : Int) : ∀ (L : List α) (a b : Int), L.foldl (fun m q => max m (d + (1 + f q))) (max a (d + b)) = max a (d + L.foldl (fun m q => max m (1 + f q)) b)
  | [], _, _ => rfl
  | q :: L, a, b => by
    rw [List.foldl_cons, List.foldl_cons, ← max_from f d L]
    exact congrArg (fun x => L.foldl (fun m q => max m (d + (1 + f q))) x) (by omega)
theorem sum_ge {α : Type} {f : α → Int} (h : ∀ q, 0 ≤ f q) : ∀ (L : List α) (b : Int), b ≤ L.foldl (fun m q => m + f q) b
  | [], _ => Int.le_refl _
  | q :: L, b => by
    have := sum_ge h L (b + f q)
    have := h q
    rw [List.foldl_cons]
    omega
theorem size_pos : ∀ (n : Nat) (p : PatN n), 0 ≤ sizeP n p
  | 0, _ => Int.le_refl 0
  | n + 1, p => by
    have := sum_ge (size_pos n) (kids p) 1
    show 0 ≤ (kids p).foldl (fun m q => m + sizeP n q) 1
    omega
def Tells (t : Int × Int) (x y : Int) : Prop := (x ≤ 4096 → t = (x, y)) ∧ (4096 < x → 4096 < t.1)
theorem fold_tells {n : Nat} {d : Int} (h : ∀ (q : PatN n) (s : Int × Int), s.1 ≤ 4096 → Tells (lookP n q (d + 1) s) (s.1 + sizeP n q) (max s.2 (d + depthP n q))) : ∀ (L : List (PatN n)) (s : Int × Int),
    Tells (L.foldl (stepL n d) s) (L.foldl (fun m q => m + sizeP n q) s.1) (L.foldl (fun m q => max m (d + depthP n q)) s.2)
  | [], s => ⟨fun _ => rfl, fun h => h⟩
  | q :: L, s => by
    have ih := fold_tells h L (stepL n d s q)
    rw [List.foldl_cons, List.foldl_cons, List.foldl_cons]
    by_cases hs : 4096 < s.1
    · have e : stepL n d s q = s := by unfold stepL; rw [if_pos hs]
      rw [e, fold_stop L s hs]
      have h1 := sum_ge (size_pos n) L (s.1 + sizeP n q)
      have h2 := size_pos n q
      exact ⟨fun h => absurd h (by omega), fun _ => hs⟩
    · have e : stepL n d s q = lookP n q (d + 1) s := by unfold stepL; rw [if_neg hs]
      have hq := h q s (by omega)
      rw [← e] at hq
      by_cases hb : s.1 + sizeP n q ≤ 4096
      · rw [hq.1 hb] at ih ⊢
        exact ih
      · have h1 := sum_ge (size_pos n) L (s.1 + sizeP n q)
        have h2 := hq.2 (by omega)
        refine ⟨fun h => absurd h (by omega), fun _ => ?_⟩
        rw [fold_stop L _ h2]
        exact h2
theorem look_tells : ∀ (n : Nat) (q : PatN n) (d : Int) (s : Int × Int), s.1 ≤ 4096 → Tells (lookP n q (d + 1) s) (s.1 + sizeP n q) (max s.2 (d + depthP n q))
  | 0, q, _, _, _ => (show Empty from q).elim
  | n + 1, q, d, s, _ => by
    have h := fold_tells (d := d + 1) (fun q s hs => look_tells n q (d + 1) s hs) (kids q) (s.1 + 1, max s.2 (d + 1))
    rw [look_eq]
    have e1 : (kids q).foldl (fun m q => m + sizeP n q) (s.1 + 1) = s.1 + sizeP (n + 1) q := sum_from (sizeP n) (kids q) s.1 1
    have e2 : (kids q).foldl (fun m q => max m (d + (1 + depthP n q))) (max s.2 (d + 1)) = max s.2 (d + depthP (n + 1) q) := max_from (depthP n) d (kids q) s.2 1
    have e3 : (fun (m : Int) (q : PatN n) => max m (d + 1 + depthP n q)) = fun m q => max m (d + (1 + depthP n q)) := by funext m q; rw [Int.add_assoc]
    dsimp only at h
    rw [e1, e3, e2] at h
    exact h
theorem depth_pos (n : Nat) (p : PatN (n + 1)) : 1 ≤ depthP (n + 1) p := by
  have h := max_from (depthP n) 0 (kids p) 1 1
  have e : (fun (m : Int) (q : PatN n) => max m (0 + (1 + depthP n q))) = fun m q => max m (1 + depthP n q) := by funext m q; rw [Int.zero_add]
  rw [e] at h
  show 1 ≤ (kids p).foldl (fun m q => max m (1 + depthP n q)) 1
  rw [Int.zero_add, Int.zero_add, Int.max_self] at h
  omega
theorem bounds_eq {n : Nat} (p : PatN (n + 1)) : boundsP p = if 4096 < sizeP (n + 1) p then 2 else if 64 < depthP (n + 1) p then 5 else 0 := by
  have h := look_tells (n + 1) p 0 (0, 0) (by decide)
  have hd := depth_pos n p
  unfold Tells at h
  simp only [Int.zero_add] at h
  unfold boundsP
  by_cases hb : 4096 < sizeP (n + 1) p
  · rw [if_pos (h.2 hb), if_pos hb]
  · rw [h.1 (by omega), if_neg hb, if_neg hb]
    dsimp only
    rw [show max 0 (depthP (n + 1) p) = depthP (n + 1) p from by omega]
end Ex
end Go.Proofs.YtbnchnlogikecaaGreatDoor
namespace Go.Proofs.YtbnchnlogikecaaGreatDoor
open Go.RowKit
attribute [local go_sem] Oper.semAt_some
set_option linter.unusedSimpArgs false
set_option maxRecDepth 100000
set_option maxHeartbeats 2000000
namespace Ex
def RAt (w : World) (b : Nat) (T : ByteArray) (k e f : Int) : Prop := w.heap[b]? = some (.cells #[.string T, .int .i64 k, .int .i64 e, .int .i64 f, .string ByteArray.empty] 184 (0, 0))
theorem RAt.lt {w : World} {b : Nat} {T : ByteArray} {k e f : Int} (h : RAt w b T k e f) : b < w.heap.size := (Array.getElem?_eq_some_iff.1 h).1
theorem RAt.cells {w : World} {b : Nat} {T : ByteArray} {k e f : Int} (h : RAt w b T k e f) : w.cell? ⟨b, 0, none⟩ = some (.string T) ∧ w.cell? ⟨b, 1, none⟩ = some (.int .i64 k) ∧ w.cell? ⟨b, 2, none⟩ = some (.int .i64 e) ∧ w.cell? ⟨b, 3, none⟩ = some (.int .i64 f) ∧ w.cell? ⟨b, 4, none⟩ = some (.string ByteArray.empty) := by
  unfold RAt at h
  refine ⟨?_, ?_, ?_, ?_, ?_⟩ <;> simp [World.cell?, h]
theorem RAt.free {w : World} {b : Nat} {T : ByteArray} {k e f : Int} (h : RAt w b T k e f) : w.frozen? ⟨b, 0, none⟩ = false ∧ w.frozen? ⟨b, 1, none⟩ = false ∧ w.frozen? ⟨b, 2, none⟩ = false ∧ w.frozen? ⟨b, 3, none⟩ = false ∧ w.frozen? ⟨b, 4, none⟩ = false := by
  unfold RAt at h
  refine ⟨?_, ?_, ?_, ?_, ?_⟩ <;> simp [World.frozen?, h]
theorem RAt.keep {w w' : World} {b : Nat} {T : ByteArray} {k e f : Int} (h : RAt w b T k e f) (hk : Kept w w') : RAt w' b T k e f := (hk.2.2.2.2 b h.lt).trans h
theorem RAt.move {w : World} {b : Nat} {T : ByteArray} {k e f : Int} (h : RAt w b T k e f) (k' : Int) : RAt (w.setCell ⟨b, 1, none⟩ (.int .i64 k')) b T k' e f := by
  have hl := h.lt
  unfold RAt at h ⊢
  have he : w.heap[b] = Obj.cells #[.string T, .int .i64 k, .int .i64 e, .int .i64 f, .string ByteArray.empty] 184 (0, 0) := by rw [Array.getElem?_eq_getElem hl] at h; exact Option.some.inj h
  simp [World.setCell, Array.getElem_modify, hl, he]
def peekP (T : ByteArray) (k : Int) : Int := if h : 0 ≤ k ∧ k < T.size then ((T[k.toNat]'(by omega)).toNat : Int) else 0
theorem peek_is (T : ByteArray) (k e f : Int) (b : Nat) (w : World) (h : RAt w b T k e f) (h0 : 0 ≤ k) (h1 : k ≤ T.size) (hT : T.size ≤ 4096) :
    Calls Tryz.prog 135 #[.pointer (some ⟨b, 0, none⟩)] w fun e w' => e = .returned (.int .u8 (peekP T k)) ∧ ∃ m, w' = w.drewN m := by
  obtain ⟨c0, c1, c2, c3, c4⟩ := h.cells
  have hb := h.lt
  have gT : (T.size : Int) ≤ 4096 := by omega
  clear h hT
  go_enter Tryz.func135, Tryz.ntmps135
  by_cases hk : k = (T.size : Int)
  · subst hk
    go_wp2_with (go_quiet (fail))
    go_ret
    refine ⟨?_, _, rfl⟩
    simp [peekP]
  · have hlt : k < (T.size : Int) := by omega
    go_wp2_with (go_quiet (fail))
    go_ret
    refine ⟨?_, _, World.drewN_drewN _ _ _⟩
    simp [peekP, h0, hlt]
theorem RAt.drew {w : World} {b : Nat} {T : ByteArray} {k e f : Int} (h : RAt w b T k e f) (m : Nat) : RAt (w.drewN m) b T k e f := h
def failE (e x : Int) : Int := if e = 0 then x else e
def failF (e f y : Int) : Int := if e = 0 then y else f
theorem but_set {b : Nat} {w w' : World} (h : KeptBut b w w') (o : Nat) (v : Value) : KeptBut b w (w'.setCell ⟨b, o, none⟩ v) := h.trans (setCell_but _ _ _ _)
theorem but_refl (b : Nat) (w : World) : KeptBut b w w := (Kept.refl w).but b
theorem RAt.fail {w : World} {b : Nat} {T : ByteArray} {k e f : Int} (h : RAt w b T k e f) (x y k' : Int) : RAt ((((w.setCell ⟨b, 2, none⟩ (.int .i64 x)).setCell ⟨b, 3, none⟩ (.int .i64 y)).setCell ⟨b, 4, none⟩ (.string ⟨#[]⟩)).setCell ⟨b, 1, none⟩ (.int .i64 k')) b T k' x y := by
  have hl := h.lt
  unfold RAt at h ⊢
  have he : w.heap[b] = Obj.cells #[.string T, .int .i64 k, .int .i64 e, .int .i64 f, .string ByteArray.empty] 184 (0, 0) := by rw [Array.getElem?_eq_getElem hl] at h; exact Option.some.inj h
  simp [World.setCell, Array.getElem_modify, hl, he]
  rfl
theorem fail_is (T : ByteArray) (k e f x y : Int) (b : Nat) (w : World) (h : RAt w b T k e f) :
    Calls Tryz.prog 134 #[.pointer (some ⟨b, 0, none⟩), .int .i64 x, .int .i64 y] w fun r w' => r = .returned (.tuple #[]) ∧ KeptBut b w w' ∧ RAt w' b T T.size (failE e x) (failF e f y) := by
  have HR := hide1 h
  obtain ⟨c0, c1, c2, c3, c4⟩ := h.cells
  obtain ⟨z0, z1, z2, z3, z4⟩ := h.free
  have hb := h.lt
  clear h
  go_enter Tryz.func134, Tryz.ntmps134
  by_cases he : e = 0
  · subst he
    go_wp2
    go_end0
    exact ⟨rfl, but_set (but_set (but_set (but_set (but_refl _ _) _ _) _ _) _ _) _ _, HR.out.fail _ _ _⟩
  · go_wp2
    go_end0
    refine ⟨rfl, but_set (but_refl _ _) _ _, ?_⟩
    unfold failE failF
    rw [if_neg he, if_neg he]
    exact HR.out.move _
theorem but_drew {b : Nat} {w w' : World} (h : KeptBut b w w') (m : Nat) : KeptBut b w (w'.drewN m) := h.trans ((drewN_kept _ _).but b)
theorem but_undrew {b : Nat} {w w' : World} {m : Nat} (h : KeptBut b (w.drewN m) w') : KeptBut b w w' := ((drewN_kept _ _).but b).trans h
def wrongC (T : ByteArray) (k : Int) : Int := if k = T.size then 23 else 22
theorem wrong_is (T : ByteArray) (k e f : Int) (b : Nat) (w : World) (h : RAt w b T k e f) (hT : T.size ≤ 4096) :
    Calls Tryz.prog 131 #[.pointer (some ⟨b, 0, none⟩)] w fun r w' => r = .returned (.tuple #[]) ∧ KeptBut b w w' ∧ RAt w' b T T.size (failE e (wrongC T k)) (failF e f k) := by
  have HR := hide1 h
  obtain ⟨c0, c1, c2, c3, c4⟩ := h.cells
  have hb := h.lt
  have gT : (T.size : Int) ≤ 4096 := by omega
  clear h
  go_enter Tryz.func131, Tryz.ntmps131
  by_cases hk : k = (T.size : Int)
  · rw [wrongC, if_pos hk]
    subst hk
    go_wp2_with (first | go_quiet (fail) | (go_at_call 134; refine (fail_is _ _ _ _ _ _ _ _ (HR.out.drew _)).mono ?_; rintro e w6 ⟨rfl, hk6, hw6⟩; have HK := hide1 hk6; have HW := hide1 hw6; clear hk6 hw6))
    refine bodyPost_ret (results_none rfl _ _ _) rfl ?_
    exact ⟨rfl, but_undrew HK.out, HW.out⟩
  · rw [wrongC, if_neg hk]
    go_wp2_with (first | go_quiet (fail) | (go_at_call 134; refine (fail_is _ _ _ _ _ _ _ _ (HR.out.drew _)).mono ?_; rintro e w6 ⟨rfl, hk6, hw6⟩; have HK := hide1 hk6; have HW := hide1 hw6; clear hk6 hw6))
    go_end0
    exact ⟨rfl, but_undrew HK.out, HW.out⟩
def takeK (T : ByteArray) (k c : Int) : Int := if peekP T k = c then k + 1 else k
theorem take_is (T : ByteArray) (k e f c : Int) (b : Nat) (w : World) (h : RAt w b T k e f) (h0 : 0 ≤ k) (h1 : k ≤ T.size) (hT : T.size ≤ 4096) :
    Calls Tryz.prog 133 #[.pointer (some ⟨b, 0, none⟩), .int .u8 c] w fun r w' => r = .returned (.bool (peekP T k == c)) ∧ KeptBut b w w' ∧ RAt w' b T (takeK T k c) e f := by
  have HR := hide1 h
  obtain ⟨c0, c1, c2, c3, c4⟩ := h.cells
  obtain ⟨z0, z1, z2, z3, z4⟩ := h.free
  have hb := h.lt
  have gT : (T.size : Int) ≤ 4096 := by omega
  clear h
  go_enter Tryz.func133, Tryz.ntmps133
  by_cases hc : peekP T k = c
  · rw [takeK, if_pos hc]
    subst hc
    go_wp2_with (first | go_quiet ((go_at_call 135; exact Calls.quiet_of (peek_is _ _ _ _ _ _ (HR.out.drew _) h0 h1 hT))) | (go_at_call 135; refine (peek_is _ _ _ _ _ _ HR.out h0 h1 hT).mono ?_; rintro e w6 ⟨rfl, m, rfl⟩))
    all_goals
      go_ret
      exact ⟨by simp, but_undrew (but_set (but_refl _ _) _ _), (HR.out.drew _).move _⟩
  · rw [takeK, if_neg hc]
    go_wp2_with (first | go_quiet ((go_at_call 135; exact Calls.quiet_of (peek_is _ _ _ _ _ _ (HR.out.drew _) h0 h1 hT))) | (go_at_call 135; refine (peek_is _ _ _ _ _ _ HR.out h0 h1 hT).mono ?_; rintro e w6 ⟨rfl, m, rfl⟩))
    all_goals
      go_ret
      exact ⟨by simp [hc], but_drew (but_refl _ _) _, HR.out.drew _⟩
end Ex
end Go.Proofs.YtbnchnlogikecaaGreatDoor
namespace Go.Proofs.YtbnchnlogikecaaGreatDoor
open Go.RowKit
attribute [local go_sem] Oper.semAt_some
set_option maxRecDepth 100000
set_option maxHeartbeats 2000000
namespace Ex
def printedP (c : Int) : Bool := decide (32 ≤ c) && decide (c ≤ 126)
def digitP (c : Int) : Bool := decide (48 ≤ c) && decide (c ≤ 57)
def letterP (c : Int) : Bool := decide (97 ≤ c) && decide (c ≤ 122) || decide (65 ≤ c) && decide (c ≤ 90)
def IsB (c : Int) : Prop := 0 ≤ c ∧ c ≤ 255
theorem peek_byte (T : ByteArray) (k : Int) : IsB (peekP T k) := by
  unfold peekP IsB
  split
  · have := (T[k.toNat]'(by omega)).toNat_lt; omega
  · omega
theorem printed_is (c : Int) (w : World) : Calls Tryz.prog 98 #[.int .u8 c] w fun e w' => e = .returned (.bool (printedP c)) ∧ w' = w := by
  unfold printedP
  go_enter Tryz.func98, Tryz.ntmps98
  go_wp2
  all_goals
    go_ret
    exact ⟨by simp [*] <;> omega, rfl⟩
theorem digit_is (c : Int) (w : World) : Calls Tryz.prog 147 #[.int .u8 c] w fun e w' => e = .returned (.bool (digitP c)) ∧ w' = w := by
  unfold digitP
  go_enter Tryz.func147, Tryz.ntmps147
  go_wp2
  all_goals
    go_ret
    exact ⟨by simp [*] <;> omega, rfl⟩
theorem letter_is (c : Int) (w : World) : Calls Tryz.prog 146 #[.int .u8 c] w fun e w' => e = .returned (.bool (letterP c)) ∧ w' = w := by
  unfold letterP
  go_enter Tryz.func146, Tryz.ntmps146
  go_wp2
  all_goals
    go_ret
    exact ⟨by simp [*] <;> omega, rfl⟩
theorem index_is (s : ByteArray) (c : Int) (w : World) : Calls Tryz.prog 99 #[.string s, .int .u8 c] w fun e w' => e = .returned (.int .i64 (firstIdx s c.toNat.toUInt8)) ∧ w' = w := by
  have h90 := @run_callFunc_extern Tryz.prog 115 _ Extern.BytealgIndexByte.indexByte Tryz.func115 (by kernel_rfl) (by kernel_rfl) (by kernel_rfl) (by kernel_rfl)
  have hi := fun w => run_indexByte_string (P := Tryz.prog) s c w
  go_enter Tryz.func99, Tryz.ntmps99
  go_wp2_with go_in
  all_goals
    go_ret
    exact ⟨rfl, rfl⟩
def inS (s : ByteArray) (c : Int) : Bool := decide (0 ≤ firstIdx s c.toNat.toUInt8)
def signsS : ByteArray := ⟨#[40, 41, 91, 93, 123, 125, 46, 124, 42, 43, 63, 92, 47, 94, 36]⟩
theorem not_lt0 (x : Int) : decide (x < 0) = !decide (0 ≤ x) := by
  by_cases h : x < 0
  · have h' : ¬ 0 ≤ x := by omega
    simp [h, h']
  · have h' : 0 ≤ x := by omega
    simp [h, h']
def plainP (c : Int) : Bool := printedP c && !inS signsS c
theorem plain_is (c : Int) (w : World) : Calls Tryz.prog 143 #[.int .u8 c] w fun e w' => e = .returned (.bool (plainP c)) ∧ w' = w := by
  go_enter Tryz.func143, Tryz.ntmps143
  go_wp2_with (first | (go_at_call 98; refine (printed_is _ _).mono ?_; rintro e w6 ⟨rfl, rfl⟩) | (go_at_call 99; refine (index_is _ _ _).mono ?_; rintro e w6 ⟨rfl, rfl⟩))
  all_goals
    go_ret
    refine ⟨?_, rfl⟩
    simp [plainP, inS, signsS, not_lt0, *]
end Ex
end Go.Proofs.YtbnchnlogikecaaGreatDoor
