import Derived.Test.YtajmbplipjeojaaDoorShKl
import Derived.Test.YtajmbplipjeojaaDoorShU0
import Derived.Deep.RegionHeld3
namespace Go.Proofs.YtajmbplipjeojaaDoor
open Go.RowKit
attribute [local go_sem] Oper.semAt_some
namespace Ex
namespace Sh

/-- A text of its own for each number. -/
def mkS (n : Nat) : ByteArray := if h : n < 10 then bs [48 + (n : Int)] else mkS (n / 10) ++ bs [48 + ((n % 10 : Nat) : Int)]
theorem mkS_lo {n : Nat} (h : n < 10) : mkS n = bs [48 + (n : Int)] := by rw [mkS, dif_pos h]
theorem mkS_hi {n : Nat} (h : ¬ n < 10) : mkS n = mkS (n / 10) ++ bs [48 + ((n % 10 : Nat) : Int)] := by rw [mkS, dif_neg h]
theorem mkS_size (n : Nat) : (mkS n).size ≤ n + 1 := by
  induction n using Nat.strongRecOn with
  | ind n ih =>
    by_cases h : n < 10
    · rw [mkS_lo h, bs_len]; simp
    · rw [mkS_hi h, ByteArray.size_append, bs_len]
      have := ih (n / 10) (by omega)
      simp only [List.length_singleton]
      omega
theorem src_new1 (w : World) (x : Int) : Src u8E (w.alloc (.cells #[.int .u8 x] 5)) (some ⟨w.heap.size, 0, none⟩) [x] := by
  refine .inr ⟨_, 0, rfl, fun j u hj => ?_⟩
  match j with
  | 0 => simp [flatE, u8E, encU8] at hj; subst hj; simp
  | j + 1 => simp [flatE, u8E, encU8] at hj
set_option linter.unusedSimpArgs false in
set_option maxRecDepth 100000 in
set_option maxHeartbeats 4000000 in
theorem marked_step (n : Nat) (hn : n ≤ 100000) (ih : 10 ≤ n → ∀ w : World, Calls Tryd.prog 12 #[.int .i64 ((n / 10 : Nat) : Int)] w fun e w' => e = .returned (.string (mkS (n / 10))) ∧ Kept w w') (w : World) :
    Calls Tryd.prog 12 #[.int .i64 (n : Int)] w fun e w' => e = .returned (.string (mkS n)) ∧ Kept w w' := by
  by_cases h10 : n < 10
  · have hI : (n : Int) < 10 := by omega
    have HM := hide1 (mkS_lo h10)
    obtain ⟨d, hd⟩ : ∃ d : Int, 48 + (n : Int) = d := ⟨_, rfl⟩
    rw [hd] at HM
    have hd0 : 0 ≤ d := by omega
    have hd1 : d < 256 := by omega
    have hw8 : IntKind.u8.wrap d = d := by rw [IntKind.wrap_u8]; omega
    have hw64 : IntKind.i64.wrap (48 + (n : Int)) = d := by rw [IntKind.wrap_i64]; omega
    have hcv : (convert 23 9 (.slice (some ⟨w.heap.size, 0, none⟩) 1 1)).run Tryd.prog (w.alloc (.cells #[.int .u8 d] 5)) = .ok (.string (bs [d])) (w.alloc (.cells #[.int .u8 d] 5)) := by rw [← strD_bs]; exact src_conv (src_new1 w d) rfl
    clear ih
    go_enter Tryd.func12, Tryd.ntmps12
    go_wp2
    go_ret
    rw [HM.out]
    exact ⟨rfl, (Kept.refl w).alloc _ _⟩
  · have hI : ¬ (n : Int) < 10 := by omega
    have HN2 := hide1 (mkS_hi h10)
    have HC := hide1 (ih (by omega))
    obtain ⟨m1, hm1⟩ : ∃ m1, mkS (n / 10) = m1 := ⟨_, rfl⟩
    have hms : m1.size ≤ 100001 := by rw [← hm1]; have := mkS_size (n / 10); omega
    rw [hm1] at HC HN2
    obtain ⟨q, hq⟩ : ∃ q : Nat, n / 10 = q := ⟨_, rfl⟩
    obtain ⟨r, hr⟩ : ∃ r : Nat, n % 10 = r := ⟨_, rfl⟩
    obtain ⟨d, hd⟩ : ∃ d : Int, 48 + (r : Int) = d := ⟨_, rfl⟩
    rw [hr, hd] at HN2
    rw [hq] at HC
    have hr9 : r ≤ 9 := by omega
    have hd0 : 0 ≤ d := by omega
    have hd1 : d < 256 := by omega
    have hw8 : IntKind.u8.wrap d = d := by rw [IntKind.wrap_u8]; omega
    have hqI : IntKind.i64.wrap ((n : Int).tdiv 10) = (q : Int) := by rw [Int.tdiv_eq_ediv_of_nonneg (by omega), IntKind.wrap_i64]; omega
    have hrI : IntKind.i64.wrap ((n : Int).tmod 10) = (r : Int) := by rw [Int.tmod_eq_emod_of_nonneg (by omega), IntKind.wrap_i64]; omega
    have hrI2 : (n : Int).tmod 10 = (r : Int) := by rw [Int.tmod_eq_emod_of_nonneg (by omega)]; omega
    have hrI3 : (n : Int) % 10 = (r : Int) := by omega
    have hqI3 : (n : Int) / 10 = (q : Int) := by omega
    have hw64 : IntKind.i64.wrap (48 + (r : Int)) = d := by rw [IntKind.wrap_i64]; omega
    have hcv0 := src_new1 w d
    clear ih hm1 hq hr
    go_enter Tryd.func12, Tryd.ntmps12
    go_upto_region 3 with fail
    have hbs1 : (bs [d]).size = 1 := rfl
    refine wp_region_held_drew (S := fun _ => True) (by kernel_rfl) trivial (fun hHeld => ?_)
    refine wpAnyH_take (i := 0) (v := .int .i64 (n : Int)) rfl (by kernel_rfl) (by kernel_rfl) (by kernel_rfl) (fun _ _ _ h => h) (Or.inl ⟨by rfl, fun w' hSw => ?_⟩) (by with_reducible assumption) ?_
    · clear hSw
      go_simp
    try simp only [Act.put, List.getElem_toArray, List.getElem_cons_succ, List.getElem_cons_zero, List.setIfInBounds_toArray, List.set_cons_zero, List.set_cons_succ]
    refine wpAnyH_take (i := 1) (v := .int .i64 (q : Int)) rfl (by kernel_rfl) (by kernel_rfl) (by kernel_rfl) (fun _ _ _ h => h) (Or.inl ⟨by rfl, fun w' hSw => ?_⟩) (by with_reducible assumption) ?_
    · clear hSw
      go_simp
      all_goals (first | (rw [IntKind.wrap_i64]; omega) | (rw [IntKind.wrap_u8]; omega))
    try simp only [Act.put, List.getElem_toArray, List.getElem_cons_succ, List.getElem_cons_zero, List.setIfInBounds_toArray, List.set_cons_zero, List.set_cons_succ]
    refine wpAnyH_take (i := 3) (v := .int .i64 (n : Int)) rfl (by kernel_rfl) (by kernel_rfl) (by kernel_rfl) (fun _ _ _ h => h) (Or.inl ⟨by rfl, fun w' hSw => ?_⟩) (by with_reducible assumption) ?_
    · clear hSw
      go_simp
    try simp only [Act.put, List.getElem_toArray, List.getElem_cons_succ, List.getElem_cons_zero, List.setIfInBounds_toArray, List.set_cons_zero, List.set_cons_succ]
    refine wpAnyH_take (i := 4) (v := .int .i64 (r : Int)) rfl (by kernel_rfl) (by kernel_rfl) (by kernel_rfl) (fun _ _ _ h => h) (Or.inl ⟨by rfl, fun w' hSw => ?_⟩) (by with_reducible assumption) ?_
    · clear hSw
      go_simp
    try simp only [Act.put, List.getElem_toArray, List.getElem_cons_succ, List.getElem_cons_zero, List.setIfInBounds_toArray, List.set_cons_zero, List.set_cons_succ]
    refine wpAnyH_take (i := 5) (v := .int .i64 d) rfl (by kernel_rfl) (by kernel_rfl) (by kernel_rfl) (fun _ _ _ h => h) (Or.inl ⟨by rfl, fun w' hSw => ?_⟩) (by with_reducible assumption) ?_
    · clear hSw
      go_simp
      all_goals (first | (rw [IntKind.wrap_i64]; omega) | (rw [IntKind.wrap_u8]; omega))
    try simp only [Act.put, List.getElem_toArray, List.getElem_cons_succ, List.getElem_cons_zero, List.setIfInBounds_toArray, List.set_cons_zero, List.set_cons_succ]
    refine wpAnyH_take (i := 6) (v := .int .u8 d) rfl (by kernel_rfl) (by kernel_rfl) (by kernel_rfl) (fun _ _ _ h => h) (Or.inl ⟨by rfl, fun w' hSw => ?_⟩) (by with_reducible assumption) ?_
    · clear hSw
      go_simp
    try simp only [Act.put, List.getElem_toArray, List.getElem_cons_succ, List.getElem_cons_zero, List.setIfInBounds_toArray, List.set_cons_zero, List.set_cons_succ]
    refine wpAnyH_ready (rs := [2, 7]) (by kernel_rfl) (by simp) ?_
    refine (AllReadyH.cons (i := 2) rfl (fun K hK => ?_) (AllReadyH.cons (i := 7) rfl (fun K hK => ?_) AllReadyH.nil))
    · go_simp
      refine (HC.out _).mono ?_
      rintro e w5 ⟨rfl, hk5⟩
      refine hK.out _ _ trivial (fun hHeldN => ?_)
      clear hK K
      try simp only [Act.put, List.getElem_toArray, List.getElem_cons_succ, List.getElem_cons_zero, List.setIfInBounds_toArray, List.set_cons_zero, List.set_cons_succ]
      refine wpAnyH_ready (rs := [7]) (by kernel_rfl) (by simp) ?_
      refine (AllReadyH.cons (i := 7) rfl (fun K hK => ?_) AllReadyH.nil)
      go_simp
      refine hK.out _ _ trivial (fun hHeldN => ?_)
      clear hK K
      try simp only [Act.put, List.getElem_toArray, List.getElem_cons_succ, List.getElem_cons_zero, List.setIfInBounds_toArray, List.set_cons_zero, List.set_cons_succ]
      have hc3 : (convert 23 9 (.slice (some ⟨w5.heap.size, 0, none⟩) 1 1)).run Tryd.prog (w5.alloc (.cells #[.int .u8 d] 5)) = .ok (.string (bs [d])) (w5.alloc (.cells #[.int .u8 d] 5)) := (by rw [← strD_bs]; exact src_conv (src_new1 w5 d) rfl)
      have hc4 : (convert 23 9 (.slice (some ⟨w5.heap.size, 0, none⟩) 1 1)).run Tryd.prog (w5.alloc (.cells #[.int .u8 d] 5)).drew = .ok (.string (bs [d])) (w5.alloc (.cells #[.int .u8 d] 5)).drew := (by rw [← strD_bs]; exact src_conv ((src_new1 w5 d).keep (drew_kept _)) rfl)
      refine wpAnyH_ready (rs := [8]) (by kernel_rfl) (by simp) ?_
      refine (AllReadyH.cons (i := 8) rfl (fun K hK => ?_) AllReadyH.nil)
      go_simp
      refine hK.out _ _ trivial (fun hHeldN => ?_)
      clear hK K
      try simp only [Act.put, List.getElem_toArray, List.getElem_cons_succ, List.getElem_cons_zero, List.setIfInBounds_toArray, List.set_cons_zero, List.set_cons_succ]
      refine wpAnyH_ready (rs := [9]) (by kernel_rfl) (by simp) ?_
      refine (AllReadyH.cons (i := 9) rfl (fun K hK => ?_) AllReadyH.nil)
      have hadd : ¬ 9223372036854775807 < m1.size + 1 := by omega
      go_simp
      refine hK.out _ _ trivial (fun hHeldN => ?_)
      clear hK K
      try simp only [Act.put, List.getElem_toArray, List.getElem_cons_succ, List.getElem_cons_zero, List.setIfInBounds_toArray, List.set_cons_zero, List.set_cons_succ]
      refine wpAnyH_take (i := 10) (v := .string (m1 ++ bs [d])) rfl (by kernel_rfl) (by kernel_rfl) (by kernel_rfl) (fun _ _ _ h => h) (Or.inl ⟨by rfl, fun w' hSw => ?_⟩) (by with_reducible assumption) ?_
      · clear hSw
        go_simp
      try simp only [Act.put, List.getElem_toArray, List.getElem_cons_succ, List.getElem_cons_zero, List.setIfInBounds_toArray, List.set_cons_zero, List.set_cons_succ]
      refine wpAnyH_done (by kernel_rfl) ?_ _
      go_wp2
      go_ret
      rw [HN2.out]
      exact ⟨rfl, gtrans (gtrans (drew_kept _) hk5) ((Kept.refl _).alloc _ _)⟩
    · go_simp
      refine hK.out _ _ trivial (fun hHeldN => ?_)
      clear hK K
      try simp only [Act.put, List.getElem_toArray, List.getElem_cons_succ, List.getElem_cons_zero, List.setIfInBounds_toArray, List.set_cons_zero, List.set_cons_succ]
      refine wpAnyH_ready (rs := [2, 8]) (by kernel_rfl) (by simp) ?_
      refine (AllReadyH.cons (i := 2) rfl (fun K hK => ?_) (AllReadyH.cons (i := 8) rfl (fun K hK => ?_) AllReadyH.nil))
      · go_simp
        refine (HC.out _).mono ?_
        rintro e w5 ⟨rfl, hk5⟩
        refine hK.out _ _ trivial (fun hHeldN => ?_)
        clear hK K
        try simp only [Act.put, List.getElem_toArray, List.getElem_cons_succ, List.getElem_cons_zero, List.setIfInBounds_toArray, List.set_cons_zero, List.set_cons_succ]
        have hc5 : (convert 23 9 (.slice (some ⟨w.heap.size, 0, none⟩) 1 1)).run Tryd.prog w5 = .ok (.string (bs [d])) w5 := (by rw [← strD_bs]; exact src_conv (((src_new1 w d).keep (drew_kept _)).keep hk5) rfl)
        have hc6 : (convert 23 9 (.slice (some ⟨w.heap.size, 0, none⟩) 1 1)).run Tryd.prog w5.drew = .ok (.string (bs [d])) w5.drew := (by rw [← strD_bs]; exact src_conv ((((src_new1 w d).keep (drew_kept _)).keep hk5).keep (drew_kept _)) rfl)
        refine wpAnyH_ready (rs := [8]) (by kernel_rfl) (by simp) ?_
        refine (AllReadyH.cons (i := 8) rfl (fun K hK => ?_) AllReadyH.nil)
        go_simp
        refine hK.out _ _ trivial (fun hHeldN => ?_)
        clear hK K
        try simp only [Act.put, List.getElem_toArray, List.getElem_cons_succ, List.getElem_cons_zero, List.setIfInBounds_toArray, List.set_cons_zero, List.set_cons_succ]
        refine wpAnyH_ready (rs := [9]) (by kernel_rfl) (by simp) ?_
        refine (AllReadyH.cons (i := 9) rfl (fun K hK => ?_) AllReadyH.nil)
        have hadd : ¬ 9223372036854775807 < m1.size + 1 := by omega
        go_simp
        refine hK.out _ _ trivial (fun hHeldN => ?_)
        clear hK K
        try simp only [Act.put, List.getElem_toArray, List.getElem_cons_succ, List.getElem_cons_zero, List.setIfInBounds_toArray, List.set_cons_zero, List.set_cons_succ]
        refine wpAnyH_take (i := 10) (v := .string (m1 ++ bs [d])) rfl (by kernel_rfl) (by kernel_rfl) (by kernel_rfl) (fun _ _ _ h => h) (Or.inl ⟨by rfl, fun w' hSw => ?_⟩) (by with_reducible assumption) ?_
        · clear hSw
          go_simp
        try simp only [Act.put, List.getElem_toArray, List.getElem_cons_succ, List.getElem_cons_zero, List.setIfInBounds_toArray, List.set_cons_zero, List.set_cons_succ]
        refine wpAnyH_done (by kernel_rfl) ?_ _
        go_wp2
        go_ret
        rw [HN2.out]
        exact ⟨rfl, gtrans (gtrans ((Kept.refl w).alloc #[.int .u8 d] 5) (drew_kept _)) hk5⟩
      · have hc1 : (convert 23 9 (.slice (some ⟨w.heap.size, 0, none⟩) 1 1)).run Tryd.prog (w.alloc (.cells #[.int .u8 d] 5)) = .ok (.string (bs [d])) (w.alloc (.cells #[.int .u8 d] 5)) := (by rw [← strD_bs]; exact src_conv (src_new1 w d) rfl)
        have hc2 : (convert 23 9 (.slice (some ⟨w.heap.size, 0, none⟩) 1 1)).run Tryd.prog (w.alloc (.cells #[.int .u8 d] 5)).drew = .ok (.string (bs [d])) (w.alloc (.cells #[.int .u8 d] 5)).drew := (by rw [← strD_bs]; exact src_conv ((src_new1 w d).keep (drew_kept _)) rfl)
        go_simp
        refine hK.out _ _ trivial (fun hHeldN => ?_)
        clear hK K
        try simp only [Act.put, List.getElem_toArray, List.getElem_cons_succ, List.getElem_cons_zero, List.setIfInBounds_toArray, List.set_cons_zero, List.set_cons_succ]
        refine wpAnyH_ready (rs := [2]) (by kernel_rfl) (by simp) ?_
        refine (AllReadyH.cons (i := 2) rfl (fun K hK => ?_) AllReadyH.nil)
        go_simp
        refine (HC.out _).mono ?_
        rintro e w5 ⟨rfl, hk5⟩
        refine hK.out _ _ trivial (fun hHeldN => ?_)
        clear hK K
        try simp only [Act.put, List.getElem_toArray, List.getElem_cons_succ, List.getElem_cons_zero, List.setIfInBounds_toArray, List.set_cons_zero, List.set_cons_succ]
        refine wpAnyH_ready (rs := [9]) (by kernel_rfl) (by simp) ?_
        refine (AllReadyH.cons (i := 9) rfl (fun K hK => ?_) AllReadyH.nil)
        have hadd : ¬ 9223372036854775807 < m1.size + 1 := by omega
        go_simp
        refine hK.out _ _ trivial (fun hHeldN => ?_)
        clear hK K
        try simp only [Act.put, List.getElem_toArray, List.getElem_cons_succ, List.getElem_cons_zero, List.setIfInBounds_toArray, List.set_cons_zero, List.set_cons_succ]
        refine wpAnyH_take (i := 10) (v := .string (m1 ++ bs [d])) rfl (by kernel_rfl) (by kernel_rfl) (by kernel_rfl) (fun _ _ _ h => h) (Or.inl ⟨by rfl, fun w' hSw => ?_⟩) (by with_reducible assumption) ?_
        · clear hSw
          go_simp
        try simp only [Act.put, List.getElem_toArray, List.getElem_cons_succ, List.getElem_cons_zero, List.setIfInBounds_toArray, List.set_cons_zero, List.set_cons_succ]
        refine wpAnyH_done (by kernel_rfl) ?_ _
        go_wp2
        go_ret
        rw [HN2.out]
        exact ⟨rfl, gtrans (gtrans ((Kept.refl w).alloc #[.int .u8 d] 5) (drew_kept _)) hk5⟩
theorem marked_is : ∀ (n : Nat), n ≤ 100000 → ∀ w : World, Calls Tryd.prog 12 #[.int .i64 (n : Int)] w fun e w' => e = .returned (.string (mkS n)) ∧ Kept w w' := fun n => by
  induction n using Nat.strongRecOn with
  | ind n ih =>
    intro hn w
    exact marked_step n hn (fun h10 w' => ih (n / 10) (by omega) (by omega) w') w
end Sh
end Ex
end Go.Proofs.YtajmbplipjeojaaDoor
