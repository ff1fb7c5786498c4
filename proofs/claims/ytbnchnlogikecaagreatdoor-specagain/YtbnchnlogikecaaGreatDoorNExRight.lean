import Derived.Test.YtbnchnlogikecaaGreatDoorNExFr0
namespace Go.Proofs.YtbnchnlogikecaaGreatDoor
open Go.RowKit
attribute [local go_sem] Oper.semAt_some
set_option maxRecDepth 100000
set_option maxHeartbeats 4000000
namespace Ex
theorem bare_is (k f t mn mx : Int) (v : Value) (w : World) : Calls Tryz.prog 110 #[.agg #[.int .i64 k, .int .i64 f, .int .i64 t, .int .i64 mn, .int .i64 mx, v]] w fun e w' => e = .returned (.bool (bareP f t mn mx)) ∧ Kept w w' := by
  unfold bareP
  go_enter Tryz.func110, Tryz.ntmps110
  go_wp2
  all_goals
    go_ret
    exact ⟨by simp [*], (Kept.refl w).alloc _ _⟩
theorem times_is (mn mx : Int) (w : World) : Calls Tryz.prog 111 #[.int .i64 mn, .int .i64 mx] w fun e w' => e = .returned (.bool (timesP mn mx)) ∧ Kept w w' := by
  unfold timesP
  go_enter Tryz.func111, Tryz.ntmps111
  go_wp2
  all_goals
    go_ret
    refine ⟨?_, Kept.refl w⟩
    simp [*] <;> omega
theorem box_at (w : World) (x0 x1 x2 x3 x4 x5 : Value) (t : TypeId) : (w.alloc (.cells #[x0, x1, x2, x3, x4, x5] t)).cell? ⟨w.heap.size, 0, none⟩ = some x0 ∧ (w.alloc (.cells #[x0, x1, x2, x3, x4, x5] t)).cell? ⟨w.heap.size, 1, none⟩ = some x1 ∧ (w.alloc (.cells #[x0, x1, x2, x3, x4, x5] t)).cell? ⟨w.heap.size, 2, none⟩ = some x2 ∧
    (w.alloc (.cells #[x0, x1, x2, x3, x4, x5] t)).cell? ⟨w.heap.size, 3, none⟩ = some x3 ∧ (w.alloc (.cells #[x0, x1, x2, x3, x4, x5] t)).cell? ⟨w.heap.size, 4, none⟩ = some x4 ∧ (w.alloc (.cells #[x0, x1, x2, x3, x4, x5] t)).cell? ⟨w.heap.size, 5, none⟩ = some x5 := by
  refine ⟨?_, ?_, ?_, ?_, ?_, ?_⟩ <;> simp
theorem top_is (k f t mn mx : Int) (a : Option Addr) (len cap : Nat) (w : World) : Calls Tryz.prog 96 #[.agg #[.int .i64 k, .int .i64 f, .int .i64 t, .int .i64 mn, .int .i64 mx, .slice a len cap]] w fun e w' => e = .returned (.bool (topP k f t mn mx (len : Int))) ∧ Kept w w' := by
  go_enter Tryz.func96, Tryz.ntmps96
  go_wp2_with (first
    | (go_at_call 110; refine (bare_is _ _ _ _ _ _ _).mono ?_; rintro e w5 ⟨rfl, hk5⟩)
    | (go_at_call 111; refine (times_is _ _ _).mono ?_; rintro e w5 ⟨rfl, hk5⟩; have c1 := grown_cell hk5 (box_at _ _ _ _ _ _ _ _).2.1; have c2 := grown_cell hk5 (box_at _ _ _ _ _ _ _ _).2.2.1))
  all_goals
    go_ret
    refine ⟨?_, by first | exact gtrans ((Kept.refl w).alloc _ _) hk5 | exact (Kept.refl w).alloc _ _⟩
    simp_all [topP] <;> (first | omega | (intros; omega) | skip)
theorem all_snoc {α : Type} {L : List α} {j : Nat} {q : α} {f : α → Bool} (hq : L[j]? = some q) (h : (L.take j).all f = true) (hf : f q = true) : (L.take (j + 1)).all f = true := by
  obtain ⟨hj, rfl⟩ := List.getElem?_eq_some_iff.1 hq
  rw [List.take_succ_eq_append_getElem hj, List.all_append, h]
  simp [hf]
theorem all_not {α : Type} {L : List α} {j : Nat} {q : α} {f : α → Bool} (hq : L[j]? = some q) (hf : f q = false) : L.all f = false := by
  by_cases h : L.all f = true
  · have := List.all_eq_true.1 h q (List.mem_of_getElem? hq)
    rw [hf] at this
    cases this
  · simpa using h
theorem valOf_eq {n : Nat} (p : PatN (n + 1)) (v : Value) : valOf p v = .agg #[.int .i64 (kind p), .int .i64 (from_ p), .int .i64 (to_ p), .int .i64 (min_ p), .int .i64 (max_ p), v] := rfl
theorem right_is (S : Nat → Prop) : ∀ (n : Nat) (p : PatN (n + 1)) (v : Value) (w : World), KidsAt S w n (kids p) v →
    Calls Tryz.prog 79 #[valOf p v] w fun e w' => e = .returned (.bool (rightP (n + 1) p)) ∧ Kept w w' := by
  intro n
  induction n with
  | zero =>
    intro p v w h
    obtain ⟨a, cap, rfl⟩ := h.form
    rw [valOf_eq]
    have HRP : Hid (rightP 1 p = (topOf p && (kids p).all (rightP 0))) := rfl
    have HTOP : Hid (topOf p = topP (kind p) (from_ p) (to_ p) (min_ p) (max_ p) ((kids p).length : Int)) := rfl
    rw [none_of (kids p)] at HRP HTOP ⊢
    clear h
    go_enter Tryz.func79, Tryz.ntmps79
    by_cases htop : topP (kind p) (from_ p) (to_ p) (min_ p) (max_ p) 0 = true
    · go_wp2_with (go_at_call 96; refine (top_is _ _ _ _ _ _ _ _ _).mono ?_; rintro e w5 ⟨rfl, hk5⟩; have c5 := grown_cell hk5 (box_at _ _ _ _ _ _ _ _).2.2.2.2.2)
      have HK5 := hide1 (gtrans ((Kept.refl w).alloc _ _) hk5)
      clear hk5 c5
      go_loopw [11] (fun i wr => i = .int .i64 0 ∧ Hid (Kept w wr)) (fun _ _ => 0)
      case atStart => exact ⟨rfl, HK5⟩
      case round =>
        obtain ⟨rfl, HKr⟩ := hrel
        go_wp2_with fail
        go_ret
        have hr : rightP 1 p = true := by rw [HRP.out, HTOP.out]; simpa using htop
        exact ⟨by rw [hr]; rfl, HKr.out⟩
    · have htop' : topP (kind p) (from_ p) (to_ p) (min_ p) (max_ p) 0 = false := by simpa using htop
      clear htop
      go_wp2_with (go_at_call 96; refine (top_is _ _ _ _ _ _ _ _ _).mono ?_; rintro e w5 ⟨rfl, hk5⟩; have c5 := grown_cell hk5 (box_at _ _ _ _ _ _ _ _).2.2.2.2.2)
      go_ret
      have hr : rightP 1 p = false := by rw [HRP.out, HTOP.out]; simpa using htop'
      exact ⟨by rw [hr]; rfl, gtrans ((Kept.refl w).alloc _ _) hk5⟩
  | succ n ih =>
    intro p v w h
    have IH := hide1 ih
    have HK := hide1 h
    obtain ⟨a, cap, rfl⟩ := h.form
    obtain ⟨a', cap', e', hlc, hcm, _⟩ := h
    simp only [Value.slice.injEq] at e'
    obtain ⟨rfl, _, rfl⟩ := e'
    rw [valOf_eq]
    have hrp : rightP (n + 1 + 1) p = (topOf p && (kids p).all (rightP (n + 1))) := rfl
    have HRP := hide1 hrp
    have HTOP : Hid (topOf p = topP (kind p) (from_ p) (to_ p) (min_ p) (max_ p) ((kids p).length : Int)) := rfl
    obtain ⟨L, hL⟩ : ∃ L, kids p = L := ⟨_, rfl⟩
    rw [hL] at hlc hcm HK HRP HTOP
    have gl : (L.length : Int) ≤ 17592186044416 := by omega
    have gc : (L.length : Int) ≤ (cap : Int) := by omega
    rw [hL]
    clear ih hrp hlc hcm hL
    go_enter Tryz.func79, Tryz.ntmps79
    by_cases htop : topP (kind p) (from_ p) (to_ p) (min_ p) (max_ p) (L.length : Int) = true
    · go_wp2_with (go_at_call 96; refine (top_is _ _ _ _ _ _ _ _ _).mono ?_; rintro e w5 ⟨rfl, hk5⟩; have c5 := grown_cell hk5 (box_at _ _ _ _ _ _ _ _).2.2.2.2.2)
      have HK5 := hide1 (gtrans ((Kept.refl w).alloc _ _) hk5)
      clear hk5 c5
      go_loopw [11] (fun i wr => ∃ j : Nat, i = .int .i64 (j : Int) ∧ j ≤ L.length ∧ Hid (Kept w wr) ∧ Hid ((L.take j).all (rightP (n + 1)) = true)) (fun i _ => L.length - (intOf i).toNat)
      case atStart => exact ⟨0, rfl, Nat.zero_le _, HK5, rfl⟩
      case round =>
        clear HK5
        obtain ⟨j, rfl, hj, HKr, HALL⟩ := hrel
        by_cases hlt : (j : Int) < (L.length : Int)
        · obtain ⟨q, hq⟩ : ∃ q, L[j]? = some q := ⟨_, List.getElem?_eq_getElem (by omega)⟩
          obtain ⟨a2, cap2, e2, _, _, h4⟩ := HK.out.kept HKr.out
          simp only [Value.slice.injEq] at e2
          obtain ⟨rfl, _, rfl⟩ := e2
          rcases h4 with h4 | ⟨c, o, rfl, hSc, h7⟩
          · rw [h4] at hq; simp at hq
          · obtain ⟨v', g0, g1, g2, g3, g4, g5, g6⟩ := h7 j q hq
            obtain ⟨a3, cap3, rfl⟩ := g6.form
            have HG6 := hide1 g6
            have HQ := hide1 hq
            clear h7 g6 hq
            by_cases hrq : rightP (n + 1) q = true
            · go_wp2_with (go_at_call 79; refine (IH.out q _ _ (HG6.out.kept ((Kept.refl wr).alloc _ _))).mono ?_; rintro e w6 ⟨rfl, hk6⟩; have HK6 := hide1 (gtrans HKr.out (gtrans ((Kept.refl wr).alloc _ _) hk6)); clear hk6)
              go_roundw
              case rel => exact ⟨j + 1, by go_num, by omega, HK6, all_snoc HQ.out HALL.out hrq⟩
              case measure => simp [intOf]; omega
            · have hrq' : rightP (n + 1) q = false := by simpa using hrq
              clear hrq
              go_wp2_with (go_at_call 79; refine (IH.out q _ _ (HG6.out.kept ((Kept.refl wr).alloc _ _))).mono ?_; rintro e w6 ⟨rfl, hk6⟩; have HK6 := hide1 (gtrans HKr.out (gtrans ((Kept.refl wr).alloc _ _) hk6)); clear hk6)
              go_ret
              exact ⟨by rw [HRP.out, all_not HQ.out hrq']; simp, HK6.out⟩
        · go_wp2_with fail
          go_ret
          have hall : L.all (rightP (n + 1)) = true := by have := HALL.out; rwa [List.take_of_length_le (by omega)] at this
          exact ⟨by rw [HRP.out, HTOP.out, htop, hall]; rfl, HKr.out⟩
    · have htop' : topP (kind p) (from_ p) (to_ p) (min_ p) (max_ p) (L.length : Int) = false := by simpa using htop
      clear htop
      go_wp2_with (go_at_call 96; refine (top_is _ _ _ _ _ _ _ _ _).mono ?_; rintro e w5 ⟨rfl, hk5⟩; have c5 := grown_cell hk5 (box_at _ _ _ _ _ _ _ _).2.2.2.2.2)
      go_ret
      exact ⟨by rw [HRP.out, HTOP.out, htop']; rfl, gtrans ((Kept.refl w).alloc _ _) hk5⟩
def copiesP (mn mx : Int) : Int := if mx = -1 then max mn 1 else mx
def posP : (n : Nat) → PatN n → Int
  | 0, _ => 0
  | n + 1, p => if kind p = 1 then 1 else if kind p = 4 then min ((kids p).foldl (fun acc q => min (acc + posP n q) 4097) 0 * copiesP (min_ p) (max_ p)) 4097 else (kids p).foldl (fun acc q => min (acc + posP n q) 4097) 0
theorem copies_is (k f t mn mx : Int) (v : Value) (w : World) : Calls Tryz.prog 97 #[.agg #[.int .i64 k, .int .i64 f, .int .i64 t, .int .i64 mn, .int .i64 mx, v]] w fun e w' => e = .returned (.int .i64 (copiesP mn mx)) ∧ Kept w w' := by
  unfold copiesP
  go_enter Tryz.func97, Tryz.ntmps97
  go_wp2
  all_goals
    go_ret
    refine ⟨?_, (Kept.refl w).alloc _ _⟩
    simp_all <;> omega
theorem fold_in {α : Type} {f : α → Int} : ∀ (l : List α) (acc : Int), 0 ≤ acc → acc ≤ 4097 → (∀ q ∈ l, 0 ≤ f q) → 0 ≤ l.foldl (fun acc q => min (acc + f q) 4097) acc ∧ l.foldl (fun acc q => min (acc + f q) 4097) acc ≤ 4097
  | [], acc, h0, h1, _ => ⟨h0, h1⟩
  | q :: l, acc, h0, h1, hq => by
    have := hq q List.mem_cons_self
    exact fold_in l (min (acc + f q) 4097) (by omega) (by omega) (fun x hx => hq x (List.mem_cons_of_mem _ hx))
theorem right_kid {n : Nat} {p : PatN (n + 1)} (h : rightP (n + 1) p = true) : ∀ q ∈ kids p, rightP n q = true := by
  have h' : (topOf p && (kids p).all (rightP n)) = true := h
  rw [Bool.and_eq_true] at h'
  exact List.all_eq_true.1 h'.2
theorem right_times {n : Nat} {p : PatN (n + 1)} (h : rightP (n + 1) p = true) (hk : kind p = 4) : 0 ≤ min_ p ∧ min_ p ≤ 1000 ∧ (max_ p = -1 ∨ (min_ p ≤ max_ p ∧ max_ p ≤ 1000)) := by
  have h' : (topOf p && (kids p).all (rightP n)) = true := h
  rw [Bool.and_eq_true] at h'
  have h1 := h'.1
  unfold topOf topP timesP at h1
  simp [hk] at h1
  omega
theorem copies_in {mn mx : Int} (h : 0 ≤ mn ∧ mn ≤ 1000 ∧ (mx = -1 ∨ (mn ≤ mx ∧ mx ≤ 1000))) : 0 ≤ copiesP mn mx ∧ copiesP mn mx ≤ 1000 := by
  unfold copiesP
  split <;> omega
theorem pos_in : ∀ (n : Nat) (p : PatN n), rightP n p = true → 0 ≤ posP n p ∧ posP n p ≤ 4097
  | 0, _, _ => ⟨show (0 : Int) ≤ 0 by decide, show (0 : Int) ≤ 4097 by decide⟩
  | n + 1, p, h => by
    have hf := fold_in (f := posP n) (kids p) 0 (by decide) (by decide) (fun q hq => (pos_in n q (right_kid h q hq)).1)
    show 0 ≤ (if kind p = 1 then (1 : Int) else if kind p = 4 then _ else _) ∧ (if kind p = 1 then (1 : Int) else if kind p = 4 then _ else _) ≤ 4097
    split
    · omega
    · split
      · rename_i hk
        have hc := copies_in (right_times h hk)
        have := Int.mul_nonneg hf.1 hc.1
        omega
      · exact hf
theorem fold_snoc {α : Type} {f : α → Int} {L : List α} {j : Nat} {q : α} (hq : L[j]? = some q) : (L.take (j + 1)).foldl (fun acc q => min (acc + f q) 4097) 0 = min ((L.take j).foldl (fun acc q => min (acc + f q) 4097) 0 + f q) 4097 := by
  obtain ⟨hj, rfl⟩ := List.getElem?_eq_some_iff.1 hq
  rw [List.take_succ_eq_append_getElem hj, List.foldl_append]
  rfl
theorem pos_is (S : Nat → Prop) : ∀ (n : Nat) (p : PatN (n + 1)) (v : Value) (w : World), KidsAt S w n (kids p) v → rightP (n + 1) p = true →
    Calls Tryz.prog 80 #[valOf p v] w fun e w' => e = .returned (.int .i64 (posP (n + 1) p)) ∧ Kept w w' := by
  intro n
  induction n with
  | zero =>
    intro p v w h hr
    have HRP := hide1 hr
    obtain ⟨a, cap, rfl⟩ := h.form
    rw [valOf_eq]
    have HPO : Hid (posP 1 p = if kind p = 1 then 1 else if kind p = 4 then min ((kids p).foldl (fun acc q => min (acc + posP 0 q) 4097) 0 * copiesP (min_ p) (max_ p)) 4097 else (kids p).foldl (fun acc q => min (acc + posP 0 q) 4097) 0) := rfl
    rw [none_of (kids p)] at HPO ⊢
    clear h hr
    go_enter Tryz.func80, Tryz.ntmps80
    by_cases hk1 : kind p = 1
    · have ek : (kind p == 1) = true := by simpa using hk1
      go_wp2_with fail
      go_ret
      exact ⟨by rw [HPO.out, if_pos hk1]; rfl, (Kept.refl w).alloc _ _⟩
    · have ek : (kind p == 1) = false := by simpa using hk1
      have HK1 := hide1 hk1
      clear hk1
      go_wp2_with fail
      obtain ⟨w5, hw5⟩ : ∃ w5, w5 = w.alloc (.cells #[.int .i64 (kind p), .int .i64 (from_ p), .int .i64 (to_ p), .int .i64 (min_ p), .int .i64 (max_ p), .slice a 0 cap] 70) := ⟨_, rfl⟩
      rw [← hw5]
      have HK5 : Hid (Kept w w5) := by rw [hw5]; exact (Kept.refl w).alloc _ _
      obtain ⟨b0, b1, b2, b3, b4, b5⟩ := box_at w (.int .i64 (kind p)) (.int .i64 (from_ p)) (.int .i64 (to_ p)) (.int .i64 (min_ p)) (.int .i64 (max_ p)) (.slice a 0 cap) 70
      rw [← hw5] at b0 b1 b2 b3 b4 b5
      clear hw5
      go_loopw [3, 12] (fun x i wr => x = .int .i64 0 ∧ i = .int .i64 0 ∧ wr = w5) (fun _ _ _ => 0)
      case atStart => exact ⟨rfl, rfl, rfl⟩
      case round =>
        obtain ⟨rfl, rfl, hwr⟩ := hrel
        have hkr : Kept w5 wr := by rw [hwr]; exact Kept.refl _
        have c0 := grown_cell hkr b0
        have c1 := grown_cell hkr b1
        have c2 := grown_cell hkr b2
        have c3 := grown_cell hkr b3
        have c4 := grown_cell hkr b4
        have c5 := grown_cell hkr b5
        have HKr := hide1 hkr
        clear b0 b1 b2 b3 b4 b5 hwr hkr
        by_cases hk4 : kind p = 4
        · have e4 : (kind p == 4) = true := by simpa using hk4
          have HK4 := hide1 hk4
          clear hk4
          go_wp2_with (go_at_call 97; refine (copies_is _ _ _ _ _ _ _).mono ?_; rintro e w6 ⟨rfl, hk6⟩; have HK6 := hide1 (gtrans HK5.out (gtrans HKr.out hk6)); clear hk6)
          go_ret
          exact ⟨by rw [HPO.out, if_neg HK1.out, if_pos HK4.out]; simp; decide, HK6.out⟩
        · have e4 : (kind p == 4) = false := by simpa using hk4
          have HK4 := hide1 hk4
          clear hk4
          go_wp2_with fail
          go_ret
          exact ⟨by rw [HPO.out, if_neg HK1.out, if_neg HK4.out]; rfl, gtrans HK5.out HKr.out⟩
  | succ n ih =>
    intro p v w h hr
    have IH := hide1 ih
    have HK := hide1 h
    have HR := hide1 (right_kid hr)
    have HRP := hide1 hr
    obtain ⟨a, cap, rfl⟩ := h.form
    obtain ⟨a', cap', e', hlc, hcm, _⟩ := h
    simp only [Value.slice.injEq] at e'
    obtain ⟨rfl, _, rfl⟩ := e'
    rw [valOf_eq]
    have HPO : Hid (posP (n + 1 + 1) p = if kind p = 1 then 1 else if kind p = 4 then min ((kids p).foldl (fun acc q => min (acc + posP (n + 1) q) 4097) 0 * copiesP (min_ p) (max_ p)) 4097 else (kids p).foldl (fun acc q => min (acc + posP (n + 1) q) 4097) 0) := rfl
    obtain ⟨L, hL⟩ : ∃ L, kids p = L := ⟨_, rfl⟩
    rw [hL] at hlc hcm HK HR HPO
    have gl : (L.length : Int) ≤ 17592186044416 := by omega
    have gc : (L.length : Int) ≤ (cap : Int) := by omega
    rw [hL]
    clear ih hlc hcm hL hr
    go_enter Tryz.func80, Tryz.ntmps80
    by_cases hk1 : kind p = 1
    · have ek : (kind p == 1) = true := by simpa using hk1
      go_wp2_with fail
      go_ret
      exact ⟨by rw [HPO.out, if_pos hk1]; rfl, (Kept.refl w).alloc _ _⟩
    · have ek : (kind p == 1) = false := by simpa using hk1
      have HK1 := hide1 hk1
      clear hk1
      go_wp2_with fail
      obtain ⟨w5, hw5⟩ : ∃ w5, w5 = w.alloc (.cells #[.int .i64 (kind p), .int .i64 (from_ p), .int .i64 (to_ p), .int .i64 (min_ p), .int .i64 (max_ p), .slice a L.length cap] 70) := ⟨_, rfl⟩
      rw [← hw5]
      have HK5 : Hid (Kept w w5) := by rw [hw5]; exact (Kept.refl w).alloc _ _
      obtain ⟨b0, b1, b2, b3, b4, b5⟩ := box_at w (.int .i64 (kind p)) (.int .i64 (from_ p)) (.int .i64 (to_ p)) (.int .i64 (min_ p)) (.int .i64 (max_ p)) (.slice a L.length cap) 70
      rw [← hw5] at b0 b1 b2 b3 b4 b5
      have HB := hide1 (And.intro b0 (And.intro b1 (And.intro b2 (And.intro b3 (And.intro b4 b5)))))
      clear hw5 b0 b1 b2 b3 b4 b5
      go_loopw [3, 12] (fun x i wr => ∃ (j : Nat) (y : Int), x = .int .i64 y ∧ i = .int .i64 (j : Int) ∧ j ≤ L.length ∧ 0 ≤ y ∧ y ≤ 4097 ∧ Hid (Kept w5 wr) ∧ Hid (y = (L.take j).foldl (fun acc q => min (acc + posP (n + 1) q) 4097) 0)) (fun _ i _ => L.length - (intOf i).toNat)
      case atStart => exact ⟨0, 0, rfl, rfl, Nat.zero_le _, by decide, by decide, Kept.refl _, rfl⟩
      case round =>
        obtain ⟨j, y, rfl, rfl, hj, hy0, hy1, HKr, HY⟩ := hrel
        by_cases hlt : (j : Int) < (L.length : Int)
        · obtain ⟨q, hq⟩ : ∃ q, L[j]? = some q := ⟨_, List.getElem?_eq_getElem (by omega)⟩
          obtain ⟨a2, cap2, e2, _, _, h4⟩ := HK.out.kept (gtrans HK5.out HKr.out)
          simp only [Value.slice.injEq] at e2
          obtain ⟨rfl, _, rfl⟩ := e2
          rcases h4 with h4 | ⟨c, o, rfl, hSc, h7⟩
          · rw [h4] at hq; simp at hq
          · obtain ⟨v', g0, g1, g2, g3, g4, g5, g6⟩ := h7 j q hq
            obtain ⟨a3, cap3, rfl⟩ := g6.form
            have HG6 := hide1 g6
            have HQ := hide1 hq
            have hrq := HR.out q (List.mem_of_getElem? hq)
            obtain ⟨hp0, hp1⟩ := pos_in (n + 1) q hrq
            obtain ⟨z, hz⟩ : ∃ z, posP (n + 1) q = z := ⟨_, rfl⟩
            have HZ := hide1 hz
            rw [hz] at hp0 hp1
            have HRQ := hide1 hrq
            clear h7 g6 hq hrq hz
            go_wp2_with (go_at_call 80; refine (IH.out q _ _ (HG6.out.kept ((Kept.refl wr).alloc _ _)) HRQ.out).mono ?_; rintro e w6 ⟨rfl, hk6⟩; rw [HZ.out]; have HK6 := hide1 (gtrans HKr.out (gtrans ((Kept.refl wr).alloc _ _) hk6)); clear hk6)
            all_goals
              go_roundw
              case rel => exact ⟨j + 1, _, rfl, by go_num, by omega, by omega, by omega, HK6, by rw [fold_snoc HQ.out, ← HY.out, HZ.out]; show _ = _; omega⟩
              case measure => simp [intOf]; omega
        · obtain ⟨b0, b1, b2, b3, b4, b5⟩ := HB.out
          have c0 := grown_cell HKr.out b0
          have c1 := grown_cell HKr.out b1
          have c2 := grown_cell HKr.out b2
          have c3 := grown_cell HKr.out b3
          have c4 := grown_cell HKr.out b4
          have c5 := grown_cell HKr.out b5
          have HYL : Hid (y = L.foldl (fun acc q => min (acc + posP (n + 1) q) 4097) 0) := by have := HY.out; rw [List.take_of_length_le (by omega)] at this; exact this
          clear b0 b1 b2 b3 b4 b5
          by_cases hk4 : kind p = 4
          · have e4 : (kind p == 4) = true := by simpa using hk4
            obtain ⟨hc0, hc1⟩ := copies_in (right_times HRP.out hk4)
            have hprod := Int.mul_nonneg hy0 hc0
            have hprod2 : y * copiesP (min_ p) (max_ p) ≤ 4097 * 1000 := Int.le_trans (Int.mul_le_mul_of_nonneg_right hy1 hc0) (Int.mul_le_mul_of_nonneg_left hc1 (by decide))
            have HK4 := hide1 hk4
            clear hk4
            go_wp2_with (go_at_call 97; refine (copies_is _ _ _ _ _ _ _).mono ?_; rintro e w6 ⟨rfl, hk6⟩; have HK6 := hide1 (gtrans HK5.out (gtrans HKr.out hk6)); clear hk6)
            all_goals
              go_ret
              exact ⟨by rw [HPO.out, if_neg HK1.out, if_pos HK4.out, ← HYL.out]; exact congrArg (fun x => Ending.returned (Value.int .i64 x)) (by omega), HK6.out⟩
          · have e4 : (kind p == 4) = false := by simpa using hk4
            have HK4 := hide1 hk4
            clear hk4
            go_wp2_with fail
            go_ret
            exact ⟨by rw [HPO.out, if_neg HK1.out, if_neg HK4.out, ← HYL.out]; rfl, gtrans HK5.out HKr.out⟩
end Ex
end Go.Proofs.YtbnchnlogikecaaGreatDoor
