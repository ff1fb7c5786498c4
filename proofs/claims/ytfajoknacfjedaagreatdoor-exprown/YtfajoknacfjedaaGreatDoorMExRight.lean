import Derived.Test.YtfajoknacfjedaaGreatDoorMExFr0
namespace Go.Proofs.YtfajoknacfjedaaGreatDoor
open Go.RowKit
attribute [local go_sem] Oper.semAt_some
namespace Ex

set_option maxRecDepth 100000 in
set_option maxHeartbeats 2000000 in
theorem bare_is (k f t mn mx : Int) (v : Value) (w : World) : Calls Tryz.prog 68 #[.agg #[.int .i64 k, .int .i64 f, .int .i64 t, .int .i64 mn, .int .i64 mx, v]] w fun e w' => e = .returned (.bool (bareP f t mn mx)) ∧ Kept w w' := by
  unfold bareP
  go_enter Tryz.func68, Tryz.ntmps68
  go_wp2
  all_goals
    go_ret
    exact ⟨by simp [*], (Kept.refl w).alloc _ _⟩

set_option maxRecDepth 100000 in
set_option maxHeartbeats 2000000 in
theorem times_is (mn mx : Int) (w : World) : Calls Tryz.prog 69 #[.int .i64 mn, .int .i64 mx] w fun e w' => e = .returned (.bool (timesP mn mx)) ∧ Kept w w' := by
  unfold timesP
  go_enter Tryz.func69, Tryz.ntmps69
  go_wp2
  all_goals
    go_ret
    refine ⟨?_, Kept.refl w⟩
    simp [*] <;> omega

theorem box_at (w : World) (x0 x1 x2 x3 x4 x5 : Value) (t : TypeId) : (w.alloc (.cells #[x0, x1, x2, x3, x4, x5] t)).cell? ⟨w.heap.size, 0, none⟩ = some x0 ∧ (w.alloc (.cells #[x0, x1, x2, x3, x4, x5] t)).cell? ⟨w.heap.size, 1, none⟩ = some x1 ∧ (w.alloc (.cells #[x0, x1, x2, x3, x4, x5] t)).cell? ⟨w.heap.size, 2, none⟩ = some x2 ∧
    (w.alloc (.cells #[x0, x1, x2, x3, x4, x5] t)).cell? ⟨w.heap.size, 3, none⟩ = some x3 ∧ (w.alloc (.cells #[x0, x1, x2, x3, x4, x5] t)).cell? ⟨w.heap.size, 4, none⟩ = some x4 ∧ (w.alloc (.cells #[x0, x1, x2, x3, x4, x5] t)).cell? ⟨w.heap.size, 5, none⟩ = some x5 := by
  refine ⟨?_, ?_, ?_, ?_, ?_, ?_⟩ <;> simp

set_option maxRecDepth 100000 in
set_option maxHeartbeats 4000000 in
theorem top_is (k f t mn mx : Int) (a : Option Addr) (len cap : Nat) (w : World) : Calls Tryz.prog 51 #[.agg #[.int .i64 k, .int .i64 f, .int .i64 t, .int .i64 mn, .int .i64 mx, .slice a len cap]] w fun e w' => e = .returned (.bool (topP k f t mn mx (len : Int))) ∧ Kept w w' := by
  go_enter Tryz.func51, Tryz.ntmps51
  go_wp2_with (first
    | (go_at_call 68; refine (bare_is _ _ _ _ _ _ _).mono ?_; rintro e w5 ⟨rfl, hk5⟩)
    | (go_at_call 69; refine (times_is _ _ _).mono ?_; rintro e w5 ⟨rfl, hk5⟩; have c1 := grown_cell hk5 (box_at _ _ _ _ _ _ _ _).2.1; have c2 := grown_cell hk5 (box_at _ _ _ _ _ _ _ _).2.2.1))
  all_goals
    go_ret
    refine ⟨?_, by first | exact gtrans ((Kept.refl w).alloc _ _) hk5 | exact (Kept.refl w).alloc _ _⟩
    simp_all [topP] <;> (first | omega | (intros; omega) | skip)


theorem all_snoc {α : Type} {L : List α} {j : Nat} {q : α} {f : α → Bool} (hq : L[j]? = some q) (h : (L.take j).all f = true) (hf : f q = true) : (L.take (j + 1)).all f = true := by
  obtain ⟨hj, rfl⟩ := List.getElem?_eq_some_iff.1 hq
  rw [List.take_succ_eq_append_getElem hj, List.all_append, h]
  simp [hf]
theorem all_not {α : Type} {L : List α} {j : Nat} {q : α} {f : α → Bool} (hq : L[j]? = some q) (hf : f q = false) : L.all f = false := by
  by_cases h : L.all f = true
  · have := List.all_eq_true.1 h q (List.mem_of_getElem? hq)
    rw [hf] at this
    cases this
  · simpa using h
theorem valOf_eq {n : Nat} (p : PatN (n + 1)) (v : Value) : valOf p v = .agg #[.int .i64 (kind p), .int .i64 (from_ p), .int .i64 (to_ p), .int .i64 (min_ p), .int .i64 (max_ p), v] := rfl

set_option maxRecDepth 100000 in
set_option maxHeartbeats 4000000 in
theorem right_is (S : Nat → Prop) : ∀ (n : Nat) (p : PatN (n + 1)) (v : Value) (w : World), KidsAt S w n (kids p) v →
    Calls Tryz.prog 34 #[valOf p v] w fun e w' => e = .returned (.bool (rightP (n + 1) p)) ∧ Kept w w' := by
  intro n
  induction n with
  | zero =>
    intro p v w h
    obtain ⟨a, cap, rfl⟩ := h.form
    rw [valOf_eq]
    have HRP : Hid (rightP 1 p = (topOf p && (kids p).all (rightP 0))) := rfl
    have HTOP : Hid (topOf p = topP (kind p) (from_ p) (to_ p) (min_ p) (max_ p) ((kids p).length : Int)) := rfl
    rw [none_of (kids p)] at HRP HTOP ⊢
    clear h
    go_enter Tryz.func34, Tryz.ntmps34
    by_cases htop : topP (kind p) (from_ p) (to_ p) (min_ p) (max_ p) 0 = true
    · go_wp2_with (go_at_call 51; refine (top_is _ _ _ _ _ _ _ _ _).mono ?_; rintro e w5 ⟨rfl, hk5⟩; have c5 := grown_cell hk5 (box_at _ _ _ _ _ _ _ _).2.2.2.2.2)
      have HK5 := hide1 (gtrans ((Kept.refl w).alloc _ _) hk5)
      clear hk5 c5
      go_loopw [11] (fun i wr => i = .int .i64 0 ∧ Hid (Kept w wr)) (fun _ _ => 0)
      case atStart => exact ⟨rfl, HK5⟩
      case round =>
        obtain ⟨rfl, HKr⟩ := hrel
        go_wp2_with fail
        go_ret
        have hr : rightP 1 p = true := by rw [HRP.out, HTOP.out]; simpa using htop
        exact ⟨by rw [hr]; rfl, HKr.out⟩
    · have htop' : topP (kind p) (from_ p) (to_ p) (min_ p) (max_ p) 0 = false := by simpa using htop
      clear htop
      go_wp2_with (go_at_call 51; refine (top_is _ _ _ _ _ _ _ _ _).mono ?_; rintro e w5 ⟨rfl, hk5⟩; have c5 := grown_cell hk5 (box_at _ _ _ _ _ _ _ _).2.2.2.2.2)
      go_ret
      have hr : rightP 1 p = false := by rw [HRP.out, HTOP.out]; simpa using htop'
      exact ⟨by rw [hr]; rfl, gtrans ((Kept.refl w).alloc _ _) hk5⟩
  | succ n ih =>
    intro p v w h
    have IH := hide1 ih
    have HK := hide1 h
    obtain ⟨a, cap, rfl⟩ := h.form
    obtain ⟨a', cap', e', hlc, hcm, _⟩ := h
    simp only [Value.slice.injEq] at e'
    obtain ⟨rfl, _, rfl⟩ := e'
    rw [valOf_eq]
    have hrp : rightP (n + 1 + 1) p = (topOf p && (kids p).all (rightP (n + 1))) := rfl
    have HRP := hide1 hrp
    have HTOP : Hid (topOf p = topP (kind p) (from_ p) (to_ p) (min_ p) (max_ p) ((kids p).length : Int)) := rfl
    obtain ⟨L, hL⟩ : ∃ L, kids p = L := ⟨_, rfl⟩
    rw [hL] at hlc hcm HK HRP HTOP
    have gl : (L.length : Int) ≤ 17592186044416 := by omega
    have gc : (L.length : Int) ≤ (cap : Int) := by omega
    rw [hL]
    clear ih hrp hlc hcm hL
    go_enter Tryz.func34, Tryz.ntmps34
    by_cases htop : topP (kind p) (from_ p) (to_ p) (min_ p) (max_ p) (L.length : Int) = true
    · go_wp2_with (go_at_call 51; refine (top_is _ _ _ _ _ _ _ _ _).mono ?_; rintro e w5 ⟨rfl, hk5⟩; have c5 := grown_cell hk5 (box_at _ _ _ _ _ _ _ _).2.2.2.2.2)
      have HK5 := hide1 (gtrans ((Kept.refl w).alloc _ _) hk5)
      clear hk5 c5
      go_loopw [11] (fun i wr => ∃ j : Nat, i = .int .i64 (j : Int) ∧ j ≤ L.length ∧ Hid (Kept w wr) ∧ Hid ((L.take j).all (rightP (n + 1)) = true)) (fun i _ => L.length - (intOf i).toNat)
      case atStart => exact ⟨0, rfl, Nat.zero_le _, HK5, rfl⟩
      case round =>
        clear HK5
        obtain ⟨j, rfl, hj, HKr, HALL⟩ := hrel
        by_cases hlt : (j : Int) < (L.length : Int)
        · obtain ⟨q, hq⟩ : ∃ q, L[j]? = some q := ⟨_, List.getElem?_eq_getElem (by omega)⟩
          obtain ⟨a2, cap2, e2, _, _, h4⟩ := HK.out.kept HKr.out
          simp only [Value.slice.injEq] at e2
          obtain ⟨rfl, _, rfl⟩ := e2
          rcases h4 with h4 | ⟨c, o, rfl, hSc, h7⟩
          · rw [h4] at hq; simp at hq
          · obtain ⟨v', g0, g1, g2, g3, g4, g5, g6⟩ := h7 j q hq
            obtain ⟨a3, cap3, rfl⟩ := g6.form
            have HG6 := hide1 g6
            have HQ := hide1 hq
            clear h7 g6 hq
            by_cases hrq : rightP (n + 1) q = true
            · go_wp2_with (go_at_call 34; refine (IH.out q _ _ (HG6.out.kept ((Kept.refl wr).alloc _ _))).mono ?_; rintro e w6 ⟨rfl, hk6⟩; have HK6 := hide1 (gtrans HKr.out (gtrans ((Kept.refl wr).alloc _ _) hk6)); clear hk6)
              go_roundw
              case rel => exact ⟨j + 1, by go_num, by omega, HK6, all_snoc HQ.out HALL.out hrq⟩
              case measure => simp [intOf]; omega
            · have hrq' : rightP (n + 1) q = false := by simpa using hrq
              clear hrq
              go_wp2_with (go_at_call 34; refine (IH.out q _ _ (HG6.out.kept ((Kept.refl wr).alloc _ _))).mono ?_; rintro e w6 ⟨rfl, hk6⟩; have HK6 := hide1 (gtrans HKr.out (gtrans ((Kept.refl wr).alloc _ _) hk6)); clear hk6)
              go_ret
              exact ⟨by rw [HRP.out, all_not HQ.out hrq']; simp, HK6.out⟩
        · go_wp2_with fail
          go_ret
          have hall : L.all (rightP (n + 1)) = true := by have := HALL.out; rwa [List.take_of_length_le (by omega)] at this
          exact ⟨by rw [HRP.out, HTOP.out, htop, hall]; rfl, HKr.out⟩
    · have htop' : topP (kind p) (from_ p) (to_ p) (min_ p) (max_ p) (L.length : Int) = false := by simpa using htop
      clear htop
      go_wp2_with (go_at_call 51; refine (top_is _ _ _ _ _ _ _ _ _).mono ?_; rintro e w5 ⟨rfl, hk5⟩; have c5 := grown_cell hk5 (box_at _ _ _ _ _ _ _ _).2.2.2.2.2)
      go_ret
      exact ⟨by rw [HRP.out, HTOP.out, htop']; rfl, gtrans ((Kept.refl w).alloc _ _) hk5⟩

end Ex
end Go.Proofs.YtfajoknacfjedaaGreatDoor
