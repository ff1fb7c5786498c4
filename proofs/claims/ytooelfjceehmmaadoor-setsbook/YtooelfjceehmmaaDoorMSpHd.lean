import Derived.Test.YtooelfjceehmmaaDoorMSpYt
namespace Go.Proofs.YtooelfjceehmmaaDoor
open Go.RowKit
attribute [local go_sem] Oper.semAt_some
namespace Ex

theorem GrB.lt {w : World} {b : Nat} {x0 x1 x2 x3 : Value} {E : Nat} {F : Nat → Nat} (h : GrB w b x0 x1 x2 x3 E F) : b < w.heap.size := Blk.lt h
theorem GrB.keep {w w' : World} {b : Nat} {x0 x1 x2 x3 : Value} {E : Nat} {F : Nat → Nat} (h : GrB w b x0 x1 x2 x3 E F) (hk : Kept w w') : GrB w' b x0 x1 x2 x3 E F := Blk.keep h hk
theorem GrB.but {w w' : World} {b c : Nat} {x0 x1 x2 x3 : Value} {E : Nat} {F : Nat → Nat} (h : GrB w b x0 x1 x2 x3 E F) (hk : KeptBut c w w') (hc : b ≠ c) : GrB w' b x0 x1 x2 x3 E F := Blk.but h hk hc
theorem hd_start (w : World) (N : Nat) : SetB (((w.alloc (.cells (setS N) 75)).alloc (.cells #[.int .u64 0, .int .u64 0] 75)).alloc (.cells #[.int .u64 0, .int .u64 0] 75)) w.heap.size N ∧ SetB (((w.alloc (.cells (setS N) 75)).alloc (.cells #[.int .u64 0, .int .u64 0] 75)).alloc (.cells #[.int .u64 0, .int .u64 0] 75)) (w.heap.size + 1) 0 ∧ SetB (((w.alloc (.cells (setS N) 75)).alloc (.cells #[.int .u64 0, .int .u64 0] 75)).alloc (.cells #[.int .u64 0, .int .u64 0] 75)) (w.heap.size + 1 + 1) 0 ∧ Kept w (((w.alloc (.cells (setS N) 75)).alloc (.cells #[.int .u64 0, .int .u64 0] 75)).alloc (.cells #[.int .u64 0, .int .u64 0] 75)) := by
  obtain ⟨h1, h2, h3⟩ := set_two w N
  have hk : Kept ((w.alloc (.cells (setS N) 75)).alloc (.cells #[.int .u64 0, .int .u64 0] 75)) (((w.alloc (.cells (setS N) 75)).alloc (.cells #[.int .u64 0, .int .u64 0] 75)).alloc (.cells #[.int .u64 0, .int .u64 0] 75)) := (Kept.refl _).alloc _ _
  have h4 := heap_alloc_new ((w.alloc (.cells (setS N) 75)).alloc (.cells #[.int .u64 0, .int .u64 0] 75)) (.cells #[.int .u64 0, .int .u64 0] 75)
  rw [World.size_alloc, World.size_alloc] at h4
  exact ⟨h2.keep hk, h1.keep hk, h4, gtrans h3 hk⟩
def HdI (nl E : Nat) (F : Nat → Nat) (nx : Nat) (row : List SymM) (b : Nat) (w : World) (vi : Value) (wr : World) : Prop := ∃ j B : Nat, vi = .int .i64 (j : Int) ∧ j ≤ row.length ∧ Hid (headsM nl E F nx row 0 = headsM nl E F nx (row.drop j) B) ∧ Hid (SetB wr b nx ∧ SetB wr (b + 1) 0 ∧ SetB wr (b + 1 + 1) B) ∧ Hid (Kept w wr)
set_option linter.unusedSimpArgs false in
set_option maxRecDepth 100000 in
set_option maxHeartbeats 8000000 in
/-- With what a row begins. -/
theorem gHeads_is (gb E nx nl : Nat) (F : Nat → Nat) (al : Option Addr) (cl : Nat) (x1 x3 : Value) (st : Int) (ar : Option Addr) (nr cr : Nat) (row : List SymM) (w : World) (hnl : nl < 128) (hrow : row.length = nr) (hr : RightAt w (.slice ar nr cr) row) (hA : GrB w gb (.slice al nl cl) x1 (.int .i64 st) x3 E F) (hg : ∀ x ∈ row, SymGood x) :
    Calls Tryd.prog 31 #[.pointer (some ⟨gb, 0, none⟩), .slice ar nr cr, .agg (setS nx)] w fun e w' => e = .returned (.agg (setS (headsM nl E F nx row 0))) ∧ Kept w w' := by
  have HROW := hide1 hrow
  have HR := hide1 hr
  have HG := hide1 hg
  have HNL := hide1 hnl
  have HA := hide1 hA
  obtain ⟨_, _, e1, hc, hn⟩ := hr.len
  simp only [Value.slice.injEq] at e1
  obtain ⟨rfl, en, rfl⟩ := e1
  clear en
  rw [hrow] at hc hn
  have gn : (nr : Int) ≤ 17592186044416 := by omega
  obtain ⟨h1, h2, h3, h4⟩ := hd_start w nx
  have HS : Hid (SetB (((w.alloc (.cells (setS nx) 75)).alloc (.cells #[.int .u64 0, .int .u64 0] 75)).alloc (.cells #[.int .u64 0, .int .u64 0] 75)) w.heap.size nx ∧ SetB (((w.alloc (.cells (setS nx) 75)).alloc (.cells #[.int .u64 0, .int .u64 0] 75)).alloc (.cells #[.int .u64 0, .int .u64 0] 75)) (w.heap.size + 1) 0 ∧ SetB (((w.alloc (.cells (setS nx) 75)).alloc (.cells #[.int .u64 0, .int .u64 0] 75)).alloc (.cells #[.int .u64 0, .int .u64 0] 75)) (w.heap.size + 1 + 1) 0) := ⟨h1, h2, h3⟩
  have HK := hide1 h4
  have HGB := hide1 hA.lt
  clear hrow hr hg hnl hA h1 h2 h3 h4
  go_enter Tryd.func31, Tryd.ntmps31
  go_upto_region 2 with fail
  obtain ⟨W, hW⟩ : ∃ W, ((w.alloc (.cells (setS nx) 75)).alloc (.cells #[.int .u64 0, .int .u64 0] 75)).alloc (.cells #[.int .u64 0, .int .u64 0] 75) = W := ⟨_, rfl⟩
  rw [hW] at HS HK ⊢
  clear hW
  obtain ⟨b, hb⟩ : ∃ b, w.heap.size = b := ⟨_, rfl⟩
  rw [hb] at HS HGB ⊢
  have HB := hide1 hb
  clear hb
  go_wp2_with fail
  go_loopw [12] (HdI nl E F nx row b w) (fun i _ => nr - (intOf i).toNat)
  case atStart => exact ⟨0, 0, rfl, Nat.zero_le _, rfl, HS, HK⟩
  case round =>
    obtain ⟨j, B, rfl, hj, HM, HSr, HKr⟩ := hrel
    rw [HROW.out] at hj
    by_cases hlt : (j : Int) < (nr : Int)
    · obtain ⟨x, hx⟩ : ∃ x, row[j]? = some x := ⟨_, List.getElem?_eq_getElem (by have := HROW.out; omega)⟩
      obtain ⟨cb, ob, cs, ea, hcb, hlen, hcell, hcs⟩ := SliceOf.el (HR.out.keep HKr.out) hx
      have hcs : cs = [.int .i64 x.1, .int .i64 x.2] := hcs
      subst ea hcs
      have k0 : wr.cell? ⟨cb, ob + j * 2, none⟩ = some (.int .i64 x.1) := hcell 0 _ rfl
      have k1 := hcell 1 _ rfl
      have HGX := hide1 (HG.out x (List.mem_of_getElem? hx))
      have gjc : (j : Int) < (cr : Int) := by omega
      have HDR : Hid (row.drop j = x :: row.drop (j + 1)) := by
        obtain ⟨hj2, e⟩ := List.getElem?_eq_some_iff.1 hx
        show _ = _
        rw [List.drop_eq_getElem_cons hj2, e]
      obtain ⟨kd, nn⟩ := x
      clear hx hcell
      have HX := hide1 (XBox.new wr kd nn)
      have HK4 : Hid (Kept wr (wr.alloc (.cells #[.int .i64 kd, .int .i64 nn] 58))) := (Kept.refl wr).alloc _ _
      have HXL : Hid (b + 1 + 1 < wr.heap.size) := HSr.out.2.2.lt
      go_upto_region 5 with fail
      clear k0 k1
      obtain ⟨W4, hW4⟩ : ∃ W4, wr.alloc (.cells #[.int .i64 kd, .int .i64 nn] 58) = W4 := ⟨_, rfl⟩
      rw [hW4] at HX HK4 ⊢
      clear hW4
      obtain ⟨xb, hxb⟩ : ∃ xb, wr.heap.size = xb := ⟨_, rfl⟩
      rw [hxb] at HX HXL ⊢
      clear hxb
      have HXR : Hid (xb ≠ b + 1) := by have := HXL.out; show _ ≠ _; omega
      have HXO : Hid (xb ≠ b + 1 + 1) := by have := HXL.out; show _ ≠ _; omega
      have HGR : Hid (gb ≠ b + 1) := by have := HGB.out; show _ ≠ _; omega
      have HGO : Hid (gb ≠ b + 1 + 1) := by have := HGB.out; show _ ≠ _; omega
      have HN4 := hide1 (HSr.out.1.keep HK4.out)
      have HR4 := hide1 (HSr.out.2.1.keep HK4.out)
      have HO4 := hide1 (HSr.out.2.2.keep HK4.out)
      have HG4 := hide1 (HA.out.keep (gtrans HKr.out HK4.out))
      have HKw := hide1 (gtrans HKr.out HK4.out)
      have t0 := HX.out.cells.1
      by_cases h3 : kd = 3
      · subst h3
        obtain ⟨hn0, hn1⟩ := HGX.out.1 rfl
        obtain ⟨p, rfl⟩ : ∃ p : Nat, nn = (p : Int) := ⟨nn.toNat, by simp only at hn0; omega⟩
        have HP : Hid (p < 128) := by simp only at hn1; show _ < _; omega
        have gp : (p : Int) < 128 := by have := HP.out; omega
        have HD2 : Hid (headsM nl E F nx row 0 = if E.testBit p then headsM nl E F nx (row.drop (j + 1)) (B ||| F p) else B ||| F p) := by
          show _ = _
          rw [HM.out, HDR.out]
          show (if (3 : Int) = 3 then _ else _) = _
          rw [if_pos rfl]
          rfl
        clear hn0 hn1 HDR HM
        go_upto_region 7 with fail
        clear t0
        refine wp_region_held_drew (S := fun X => KeptBut (b + 1 + 1) W4 X) (by kernel_rfl) (but_refl (b + 1 + 1) W4) (fun hHeld => ?_)
        refine wpAnyH_take (i := 1) (v := .pointer (some ⟨gb, 0, none⟩)) rfl (by kernel_rfl) (by kernel_rfl) (by kernel_rfl) (fun _ _ _ h => h) (Or.inl ⟨by rfl, fun w' hSw => ?_⟩) (by with_reducible assumption) ?_
        · clear hSw
          go_simp
        try simp only [Act.put, List.setIfInBounds_toArray, List.set_cons_zero, List.set_cons_succ]
        refine wpAnyH_take (i := 2) (v := .pointer (some ⟨xb, 1, none⟩)) rfl (by kernel_rfl) (by kernel_rfl) (by kernel_rfl) (fun _ _ _ h => h) (Or.inl ⟨by rfl, fun w' hSw => ?_⟩) (by with_reducible assumption) ?_
        · clear hSw
          go_simp
        try simp only [Act.put, List.setIfInBounds_toArray, List.set_cons_zero, List.set_cons_succ]
        refine wpAnyH_take (i := 3) (v := .int .i64 (p : Int)) rfl (by kernel_rfl) (by kernel_rfl) (by kernel_rfl) (fun _ _ _ h => h) (Or.inl ⟨by rfl, fun w' hSw => ?_⟩) (by with_reducible assumption) ?_
        · have s0 := (XBox.but HX.out hSw HXO.out).cells.2
          clear hSw
          go_simp
        try simp only [Act.put, List.setIfInBounds_toArray, List.set_cons_zero, List.set_cons_succ]
        refine wpAnyH_take (i := 4) (v := .pointer (some ⟨gb, 0, none⟩)) rfl (by kernel_rfl) (by kernel_rfl) (by kernel_rfl) (fun _ _ _ h => h) (Or.inl ⟨by rfl, fun w' hSw => ?_⟩) (by with_reducible assumption) ?_
        · clear hSw
          go_simp
        try simp only [Act.put, List.setIfInBounds_toArray, List.set_cons_zero, List.set_cons_succ]
        refine wpAnyH_take (i := 5) (v := .pointer (some ⟨gb, 6, none⟩)) rfl (by kernel_rfl) (by kernel_rfl) (by kernel_rfl) (fun _ _ _ h => h) (Or.inl ⟨by rfl, fun w' hSw => ?_⟩) (by with_reducible assumption) ?_
        · clear hSw
          go_simp
        try simp only [Act.put, List.setIfInBounds_toArray, List.set_cons_zero, List.set_cons_succ]
        refine wpAnyH_take (i := 6) (v := .pointer (some ⟨gb, 6 + p * 2, none⟩)) rfl (by kernel_rfl) (by kernel_rfl) (by kernel_rfl) (fun _ _ _ h => h) (Or.inl ⟨by rfl, fun w' hSw => ?_⟩) (by with_reducible assumption) ?_
        · clear hSw
          go_simp
        try simp only [Act.put, List.setIfInBounds_toArray, List.set_cons_zero, List.set_cons_succ]
        refine wpAnyH_take (i := 7) (v := .agg #[.int .u64 (wordAt (F p) 0 : Nat), .int .u64 (wordAt (F p) 1 : Nat)]) rfl (by kernel_rfl) (by kernel_rfl) (by kernel_rfl) (fun _ _ _ h => h) (Or.inl ⟨by rfl, fun w' hSw => ?_⟩) (by with_reducible assumption) ?_
        · obtain ⟨s0, s1⟩ := (HG4.out.but hSw HGO.out).fam HP.out
          clear hSw
          go_simp
        try simp only [Act.put, List.setIfInBounds_toArray, List.set_cons_zero, List.set_cons_succ]
        refine wpAnyH_ready (rs := [0]) (by kernel_rfl) (by simp) ?_
        refine AllReadyH.cons (i := 0) rfl (fun K hK => ?_) AllReadyH.nil
        have a0 : W4.drew.cell? ⟨b + 1 + 1, 0, none⟩ = some (.int .u64 (wordAt B 0 : Nat)) := HO4.out.cell (i := 0) (by omega)
        have a1 : W4.drew.cell? ⟨b + 1 + 1, 1, none⟩ = some (.int .u64 (wordAt B 1 : Nat)) := HO4.out.cell (i := 1) (by omega)
        go_simp
        clear a0 a1
        refine hK.out _ _ hHeld (fun hHeld2 => ?_)
        clear hK K hHeld
        have hHeld := hHeld2
        clear hHeld2
        try simp only [Act.put, List.setIfInBounds_toArray, List.set_cons_zero, List.set_cons_succ]
        refine wpAnyH_ready (rs := [8]) (by kernel_rfl) (by simp) ?_
        refine AllReadyH.cons (i := 8) rfl (fun K hK => ?_) AllReadyH.nil
        go_simp
        go_wp2_with (go_at_call 61; refine (sOr_is B (F p) _).mono ?_; rintro e w7 ⟨rfl, hk7⟩; rw [setS_eq]; have HK7 := hide1 (gtrans (drew_kept W4) hk7); clear hk7)
        refine hK.out _ _ (HK7.out.but (b + 1 + 1)) (fun hHeld2 => ?_)
        clear hK K hHeld
        have hHeld := hHeld2
        clear hHeld2
        try simp only [Act.put, List.setIfInBounds_toArray, List.set_cons_zero, List.set_cons_succ]
        refine wpAnyH_ready (rs := [9]) (by kernel_rfl) (by simp) ?_
        refine AllReadyH.cons (i := 9) rfl (fun K hK => ?_) AllReadyH.nil
        have HA7 := hide1 (HO4.out.keep HK7.out)
        have a0 := HA7.out.cell (i := 0) (by omega)
        have a1 := HA7.out.cell (i := 1) (by omega)
        have z0 := HA7.out.free 0
        have z1 := HA7.out.free 1
        go_simp
        clear a0 a1 z0 z1
        have HA8 := hide1 (HA7.out.fill (B := B ||| F p))
        have HK8 : Hid (KeptBut (b + 1 + 1) W4 ((w7.setCell ⟨b + 1 + 1, 0, none⟩ (.int .u64 (wordAt (B ||| F p) 0 : Nat))).setCell ⟨b + 1 + 1, 1, none⟩ (.int .u64 (wordAt (B ||| F p) 1 : Nat)))) := but_set (but_set (HK7.out.but (b + 1 + 1)) _ _) _ _
        refine hK.out _ _ HK8.out (fun hHeld2 => ?_)
        clear hK K hHeld
        have hHeld := hHeld2
        clear hHeld2
        try simp only [Act.put, List.setIfInBounds_toArray, List.set_cons_zero, List.set_cons_succ]
        refine wpAnyH_done (by kernel_rfl) ?_ _
        clear hHeld
        obtain ⟨W8, hW8⟩ : ∃ W8, (w7.setCell ⟨b + 1 + 1, 0, none⟩ (.int .u64 (wordAt (B ||| F p) 0 : Nat))).setCell ⟨b + 1 + 1, 1, none⟩ (.int .u64 (wordAt (B ||| F p) 1 : Nat)) = W8 := ⟨_, rfl⟩
        rw [hW8] at HA8 HK8 ⊢
        clear hW8
        have HKw8 : Hid (Kept w W8) := KeptBut.up HKw.out (by rw [HB.out]; omega) HK8.out
        have HN8 := hide1 (HN4.out.but HK8.out (by omega))
        have HR8 := hide1 (HR4.out.but HK8.out (by omega))
        have HG8 := hide1 (HG4.out.but HK8.out HGO.out)
        have HX8 := hide1 (HX.out.but HK8.out HXO.out)
        go_upto_region 8 with fail
        obtain ⟨em, hem⟩ : ∃ em, E.testBit p = em := ⟨_, rfl⟩
        have HEM := hide1 hem
        rw [hem] at HD2
        clear hem
        have k0 := keeps HX8.out.cells.2
        have k1 := keeps HG8.out.empty.1
        have k2 := keeps HG8.out.empty.2
        have hkr : Kept W8 W8 := Kept.refl W8
        go_region_held3 (fun w' => Kept W8 w') (first | assumption | exact Kept.refl _ | exact gtrans (by assumption) (by assumption))
          ((go_at_call 44; refine (sHas_is E p HP.out _).mono ?_; rintro e w11 ⟨rfl, hk11⟩; rw [HEM.out]; have k11 : Kept W8 w11 := gtrans (by assumption) hk11))
        have HK11 := hide1 k11
        clear k0 k1 k2 hkr hk11 k11
        cases em
        · have HR9 := hide1 (HR8.out.keep HK11.out)
          have HO9 := hide1 (HA8.out.keep HK11.out)
          have c0 := HO9.out.cell (i := 0) (by omega)
          have c1 := HO9.out.cell (i := 1) (by omega)
          have r0 := HR9.out.cell (i := 0) (by omega)
          have r1 := HR9.out.cell (i := 1) (by omega)
          have z0 := HR9.out.free 0
          have z1 := HR9.out.free 1
          go_wp2_with fail
          refine bodyPost_ret (results_cell_row rfl _ _ (b + 1) 75 (setS (B ||| F p)) (0, 0) _ rfl HR9.out.fill Tryd.underlying75 rfl (set2_size _)) rfl ?_
          exact ⟨by rw [HD2.out]; rfl, keepB (keepB (gtrans HKw8.out HK11.out) (by rw [HB.out]; omega)) (by rw [HB.out]; omega)⟩
        · go_wp2_with fail
          go_roundw
          case rel => exact ⟨j + 1, _, by go_num, by rw [HROW.out]; omega, HD2, ⟨HN8.out.keep HK11.out, HR8.out.keep HK11.out, HA8.out.keep HK11.out⟩, gtrans HKw8.out HK11.out⟩
          case measure => simp [intOf]; omega
      · obtain ⟨q, hq⟩ : ∃ q, termN nl (kd, nn) = q := ⟨_, rfl⟩
        have HQ8 : Hid (q < 128 ∧ termP nl (kd, nn) = (q : Int)) := by
          have h1 := HGX.out.2 h3
          have h2 := HNL.out
          show _ ∧ _
          unfold termN at hq
          unfold termP
          by_cases e2 : kd = 2
          · rw [if_pos (show (kd, nn).1 = 2 from e2)] at hq ⊢
            omega
          · rw [if_neg (show ¬ (kd, nn).1 = 2 from e2)] at hq ⊢
            obtain ⟨a1, a2⟩ := h1 e2
            simp only at a1 a2 hq ⊢
            omega
        have HD2 : Hid (headsM nl E F nx row 0 = B ||| 2 ^ q) := by
          show _ = _
          rw [HM.out, HDR.out]
          show (if kd = 3 then _ else _) = _
          rw [if_neg h3, hq]
        have hb3 : (kd != 3) = true := by simpa using h3
        clear h3 hq HDR HM
        go_upto_region 6 with fail
        clear t0
        refine wp_region_held_drew (S := fun X => KeptBut (b + 1) W4 X) (by kernel_rfl) (but_refl (b + 1) W4) (fun hHeld => ?_)
        refine wpAnyH_take (i := 0) (v := .agg #[.int .u64 (wordAt B 0 : Nat), .int .u64 (wordAt B 1 : Nat)]) rfl (by kernel_rfl) (by kernel_rfl) (by kernel_rfl) (fun _ _ _ h => h) (Or.inl ⟨by rfl, fun w' hSw => ?_⟩) (by with_reducible assumption) ?_
        · have s0 := (HO4.out.but hSw (by omega)).cell (i := 0) (by omega)
          have s1 := (HO4.out.but hSw (by omega)).cell (i := 1) (by omega)
          clear hSw
          go_simp
        try simp only [Act.put, List.setIfInBounds_toArray, List.set_cons_zero, List.set_cons_succ]
        refine wpAnyH_take (i := 1) (v := .pointer (some ⟨gb, 0, none⟩)) rfl (by kernel_rfl) (by kernel_rfl) (by kernel_rfl) (fun _ _ _ h => h) (Or.inl ⟨by rfl, fun w' hSw => ?_⟩) (by with_reducible assumption) ?_
        · clear hSw
          go_simp
        try simp only [Act.put, List.setIfInBounds_toArray, List.set_cons_zero, List.set_cons_succ]
        refine wpAnyH_take (i := 2) (v := .pointer (some ⟨gb, 0, none⟩)) rfl (by kernel_rfl) (by kernel_rfl) (by kernel_rfl) (fun _ _ _ h => h) (Or.inl ⟨by rfl, fun w' hSw => ?_⟩) (by with_reducible assumption) ?_
        · clear hSw
          go_simp
        try simp only [Act.put, List.setIfInBounds_toArray, List.set_cons_zero, List.set_cons_succ]
        refine wpAnyH_take (i := 3) (v := .pointer (some ⟨gb, 0, none⟩)) rfl (by kernel_rfl) (by kernel_rfl) (by kernel_rfl) (fun _ _ _ h => h) (Or.inl ⟨by rfl, fun w' hSw => ?_⟩) (by with_reducible assumption) ?_
        · clear hSw
          go_simp
        try simp only [Act.put, List.setIfInBounds_toArray, List.set_cons_zero, List.set_cons_succ]
        refine wpAnyH_take (i := 4) (v := .agg #[.slice al nl cl, x1, .int .i64 st, x3]) rfl (by kernel_rfl) (by kernel_rfl) (by kernel_rfl) (fun _ _ _ h => h) (Or.inl ⟨by rfl, fun w' hSw => ?_⟩) (by with_reducible assumption) ?_
        · obtain ⟨s0, s1, s2, s3⟩ := (HG4.out.but hSw HGR.out).spec
          clear hSw
          go_simp
        try simp only [Act.put, List.setIfInBounds_toArray, List.set_cons_zero, List.set_cons_succ]
        refine wpAnyH_take (i := 5) (v := .agg #[.int .i64 kd, .int .i64 nn]) rfl (by kernel_rfl) (by kernel_rfl) (by kernel_rfl) (fun _ _ _ h => h) (Or.inl ⟨by rfl, fun w' hSw => ?_⟩) (by with_reducible assumption) ?_
        · obtain ⟨s0, s1⟩ := (HX.out.but hSw HXR.out).cells
          clear hSw
          go_simp
        try simp only [Act.put, List.setIfInBounds_toArray, List.set_cons_zero, List.set_cons_succ]
        refine wpAnyH_ready (rs := [6]) (by kernel_rfl) (by simp) ?_
        refine AllReadyH.cons (i := 6) rfl (fun K hK => ?_) AllReadyH.nil
        go_simp
        go_wp2_with (go_at_call 62; refine (terminal_is al nl cl (by have := HNL.out; omega) x1 x3 st kd nn _).mono ?_; rintro e w6 ⟨rfl, hk6⟩; rw [HQ8.out.2]; have HK6 := hide1 (gtrans (drew_kept W4) hk6); clear hk6)
        refine hK.out _ _ (HK6.out.but (b + 1)) (fun hHeld2 => ?_)
        clear hK K hHeld
        have hHeld := hHeld2
        clear hHeld2
        try simp only [Act.put, List.setIfInBounds_toArray, List.set_cons_zero, List.set_cons_succ]
        refine wpAnyH_ready (rs := [7]) (by kernel_rfl) (by simp) ?_
        refine AllReadyH.cons (i := 7) rfl (fun K hK => ?_) AllReadyH.nil
        go_simp
        go_wp2_with (go_at_call 58; refine (sWith_is B q HQ8.out.1 _).mono ?_; rintro e w7 ⟨rfl, hk7⟩; rw [setS_eq]; have HK7 := hide1 (gtrans HK6.out hk7); clear hk7)
        refine hK.out _ _ (HK7.out.but (b + 1)) (fun hHeld2 => ?_)
        clear hK K hHeld
        have hHeld := hHeld2
        clear hHeld2
        try simp only [Act.put, List.setIfInBounds_toArray, List.set_cons_zero, List.set_cons_succ]
        refine wpAnyH_ready (rs := [8]) (by kernel_rfl) (by simp) ?_
        refine AllReadyH.cons (i := 8) rfl (fun K hK => ?_) AllReadyH.nil
        have HA7 := hide1 (HR4.out.keep HK7.out)
        have a0 := HA7.out.cell (i := 0) (by omega)
        have a1 := HA7.out.cell (i := 1) (by omega)
        have z0 := HA7.out.free 0
        have z1 := HA7.out.free 1
        go_simp
        clear a0 a1 z0 z1
        have HA8 := hide1 (HA7.out.fill (B := B ||| 2 ^ q))
        have HK8 : Hid (KeptBut (b + 1) W4 ((w7.setCell ⟨b + 1, 0, none⟩ (.int .u64 (wordAt (B ||| 2 ^ q) 0 : Nat))).setCell ⟨b + 1, 1, none⟩ (.int .u64 (wordAt (B ||| 2 ^ q) 1 : Nat)))) := but_set (but_set (HK7.out.but (b + 1)) _ _) _ _
        refine hK.out _ _ HK8.out (fun hHeld2 => ?_)
        clear hK K hHeld
        have hHeld := hHeld2
        clear hHeld2
        try simp only [Act.put, List.setIfInBounds_toArray, List.set_cons_zero, List.set_cons_succ]
        refine wpAnyH_done (by kernel_rfl) ?_ _
        clear hHeld
        go_wp2_with fail
        refine bodyPost_ret (results_cell_row rfl _ _ (b + 1) 75 (setS (B ||| 2 ^ q)) (0, 0) _ rfl HA8.out Tryd.underlying75 rfl (set2_size _)) rfl ?_
        exact ⟨by rw [HD2.out], KeptBut.up HKw.out (by rw [HB.out]; omega) HK8.out⟩
    · have HD2 : Hid (headsM nl E F nx row 0 = B ||| nx) := by
        show _ = _
        rw [HM.out, List.drop_of_length_le (by have := HROW.out; omega)]
        rfl
      have c0 := HSr.out.2.2.cell (i := 0) (by omega)
      have c1 := HSr.out.2.2.cell (i := 1) (by omega)
      have n0 := HSr.out.1.cell (i := 0) (by omega)
      have n1 := HSr.out.1.cell (i := 1) (by omega)
      go_wp2_with (go_at_call 61; refine (sOr_is B nx _).mono ?_; rintro e w7 ⟨rfl, hk7⟩; rw [setS_eq]; have HK7 := hide1 hk7; have HR7 := hide1 (HSr.out.2.1.keep hk7); have r0 := HR7.out.cell (i := 0) (by omega); have r1 := HR7.out.cell (i := 1) (by omega); have z0 := HR7.out.free 0; have z1 := HR7.out.free 1; clear hk7)
      refine bodyPost_ret (results_cell_row rfl _ _ (b + 1) 75 (setS (B ||| nx)) (0, 0) _ rfl HR7.out.fill Tryd.underlying75 rfl (set2_size _)) rfl ?_
      exact ⟨by rw [HD2.out], keepB (keepB (gtrans HKr.out HK7.out) (by rw [HB.out]; omega)) (by rw [HB.out]; omega)⟩

end Ex
end Go.Proofs.YtooelfjceehmmaaDoor
