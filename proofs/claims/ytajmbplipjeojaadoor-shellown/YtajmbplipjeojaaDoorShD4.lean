import Derived.Test.YtajmbplipjeojaaDoorShD3
namespace Go.Proofs.YtajmbplipjeojaaDoor
open Go.RowKit
attribute [local go_sem] Oper.semAt_some
set_option linter.unusedVariables false
namespace Ex
namespace Sh

set_option linter.unusedSimpArgs false in
set_option maxRecDepth 100000 in
set_option maxHeartbeats 4000000 in
theorem next0_is (base b : Nat) (dg : Int) (word : List Int) (words : List ByteArray) (c : Int) (w : World) (h : RdAt w base b ⟨0, word, words, dg, false⟩) (hb : base ≤ b) (hl : word.length ≤ 100000) (hl2 : words.length ≤ 100000) (hc0 : 0 ≤ c) (hc1 : c < 256) :
    Calls Tryd.prog 16 #[.pointer (some ⟨b, 0, none⟩), .int .u8 c] w (StpR base b w (nextS ⟨0, word, words, dg, false⟩ c)) := by
  have HC := hide1 (first_is base b dg word words 0 c w h hb hl)
  have HRD := hide1 h
  obtain ⟨wa, wc, sa, sc, h1, h2, h3⟩ := h.open_
  simp only at h1 h2 h3
  have hbl := h1.lt
  have hbase : base ≤ w.heap.size := by omega
  obtain ⟨c0, c1, c2, c3, c4⟩ := h1.cells
  obtain ⟨f0, f1, f2, f3, f4⟩ := h1.free
  have HR := hide1 h1
  have HL := hide1 h2
  have HS := hide1 h3
  clear h h1 h2 h3
  go_enter Tryd.func16, Tryd.ntmps16
  go_wp2_with (go_at_call 24; refine (HC.out).mono ?_; rintro e w6 ⟨rfl, hr6, hb6⟩)
  go_end0
  exact ⟨rfl, hr6, hb6⟩
set_option linter.unusedSimpArgs false in
set_option maxRecDepth 100000 in
set_option maxHeartbeats 4000000 in
theorem next1_is (base b : Nat) (dg : Int) (word : List Int) (words : List ByteArray) (c : Int) (w : World) (h : RdAt w base b ⟨1, word, words, dg, false⟩) (hb : base ≤ b) (hl : word.length ≤ 100000) (hl2 : words.length ≤ 100000) (hc0 : 0 ≤ c) (hc1 : c < 256) :
    Calls Tryd.prog 16 #[.pointer (some ⟨b, 0, none⟩), .int .u8 c] w (StpR base b w (nextS ⟨1, word, words, dg, false⟩ c)) := by
  have HC := hide1 (plain_is base b 1 dg word words c w h hb hl)
  have HE := hide1 (ends_is base b 1 dg word words false w h hb hl2)
  have HRD := hide1 h
  obtain ⟨wa, wc, sa, sc, h1, h2, h3⟩ := h.open_
  simp only at h1 h2 h3
  have hbl := h1.lt
  have hbase : base ≤ w.heap.size := by omega
  obtain ⟨c0, c1, c2, c3, c4⟩ := h1.cells
  obtain ⟨f0, f1, f2, f3, f4⟩ := h1.free
  have HR := hide1 h1
  have HL := hide1 h2
  have HS := hide1 h3
  clear h h1 h2 h3
  by_cases q1 : c = 32
  · subst q1
    go_enter Tryd.func16, Tryd.ntmps16
    go_wp2_with (go_at_call 17; refine (HE.out).mono ?_; rintro e w6 ⟨rfl, hr6, hb6⟩; have HR6 := hide1 hr6; obtain ⟨wa6, wc6, sa6, sc6, j1, _, _⟩ := hr6.open_; simp only at j1; obtain ⟨y0, y1, y2, y3, y4⟩ := j1.cells; obtain ⟨z0, z1, z2, z3, z4⟩ := j1.free; have hbl6 := j1.lt; clear j1 hr6)
    go_end0
    exact ⟨rfl, HR6.out.set_md 0, set_below hb6 hb⟩
  by_cases q2 : c = 9
  · subst q2
    go_enter Tryd.func16, Tryd.ntmps16
    go_wp2_with (go_at_call 17; refine (HE.out).mono ?_; rintro e w6 ⟨rfl, hr6, hb6⟩; have HR6 := hide1 hr6; obtain ⟨wa6, wc6, sa6, sc6, j1, _, _⟩ := hr6.open_; simp only at j1; obtain ⟨y0, y1, y2, y3, y4⟩ := j1.cells; obtain ⟨z0, z1, z2, z3, z4⟩ := j1.free; have hbl6 := j1.lt; clear j1 hr6)
    go_end0
    exact ⟨rfl, HR6.out.set_md 0, set_below hb6 hb⟩
  have e1 : (c == 32) = false := beq_eq_false_iff_ne.2 q1
  have e2 : (c == 9) = false := beq_eq_false_iff_ne.2 q2
  have HG : Hid (nextS ⟨1, word, words, dg, false⟩ c = ⟨1, word ++ [c], words, dg, oddB c⟩) := by
    show nextS ⟨1, word, words, dg, false⟩ c = _
    simp [nextS, blank, q1, q2, plainS]
  go_enter Tryd.func16, Tryd.ntmps16
  go_wp2_with (go_at_call 25; refine (HC.out).mono ?_; rintro e w6 ⟨rfl, hr6, hb6⟩)
  go_end0
  rw [HG.out]
  exact ⟨rfl, hr6, hb6⟩
set_option linter.unusedSimpArgs false in
set_option maxRecDepth 100000 in
set_option maxHeartbeats 4000000 in
theorem next2_is (base b : Nat) (dg : Int) (word : List Int) (words : List ByteArray) (c : Int) (w : World) (h : RdAt w base b ⟨2, word, words, dg, false⟩) (hb : base ≤ b) (hl : word.length ≤ 100000) (hl2 : words.length ≤ 100000) (hc0 : 0 ≤ c) (hc1 : c < 256) :
    Calls Tryd.prog 16 #[.pointer (some ⟨b, 0, none⟩), .int .u8 c] w (StpR base b w (nextS ⟨2, word, words, dg, false⟩ c)) := by
  have HC := hide1 (inside_is base b dg word words c w h hb hl hl2)
  have HRD := hide1 h
  obtain ⟨wa, wc, sa, sc, h1, h2, h3⟩ := h.open_
  simp only at h1 h2 h3
  have hbl := h1.lt
  have hbase : base ≤ w.heap.size := by omega
  obtain ⟨c0, c1, c2, c3, c4⟩ := h1.cells
  obtain ⟨f0, f1, f2, f3, f4⟩ := h1.free
  have HR := hide1 h1
  have HL := hide1 h2
  have HS := hide1 h3
  clear h h1 h2 h3
  go_enter Tryd.func16, Tryd.ntmps16
  go_wp2_with (go_at_call 26; refine (HC.out).mono ?_; rintro e w6 ⟨rfl, hr6, hb6⟩)
  go_end0
  exact ⟨rfl, hr6, hb6⟩
set_option linter.unusedSimpArgs false in
set_option maxRecDepth 100000 in
set_option maxHeartbeats 4000000 in
theorem next3_is (base b : Nat) (dg : Int) (word : List Int) (words : List ByteArray) (c : Int) (w : World) (h : RdAt w base b ⟨3, word, words, dg, false⟩) (hb : base ≤ b) (hl : word.length ≤ 100000) (hl2 : words.length ≤ 100000) (hc0 : 0 ≤ c) (hc1 : c < 256) :
    Calls Tryd.prog 16 #[.pointer (some ⟨b, 0, none⟩), .int .u8 c] w (StpR base b w (nextS ⟨3, word, words, dg, false⟩ c)) := by
  have HC := hide1 (escaped_is base b dg word words c w h hb hl)
  have HRD := hide1 h
  obtain ⟨wa, wc, sa, sc, h1, h2, h3⟩ := h.open_
  simp only at h1 h2 h3
  have hbl := h1.lt
  have hbase : base ≤ w.heap.size := by omega
  obtain ⟨c0, c1, c2, c3, c4⟩ := h1.cells
  obtain ⟨f0, f1, f2, f3, f4⟩ := h1.free
  have HR := hide1 h1
  have HL := hide1 h2
  have HS := hide1 h3
  clear h h1 h2 h3
  go_enter Tryd.func16, Tryd.ntmps16
  go_wp2_with (go_at_call 27; refine (HC.out).mono ?_; rintro e w6 ⟨rfl, hr6, hb6⟩)
  go_end0
  exact ⟨rfl, hr6, hb6⟩
set_option linter.unusedSimpArgs false in
set_option maxRecDepth 100000 in
set_option maxHeartbeats 4000000 in
theorem next4_is (base b : Nat) (dg : Int) (word : List Int) (words : List ByteArray) (c : Int) (w : World) (h : RdAt w base b ⟨4, word, words, dg, false⟩) (hb : base ≤ b) (hl : word.length ≤ 100000) (hl2 : words.length ≤ 100000) (hc0 : 0 ≤ c) (hc1 : c < 256) :
    Calls Tryd.prog 16 #[.pointer (some ⟨b, 0, none⟩), .int .u8 c] w (StpR base b w (nextS ⟨4, word, words, dg, false⟩ c)) := by
  have HRD := hide1 h
  obtain ⟨wa, wc, sa, sc, h1, h2, h3⟩ := h.open_
  simp only at h1 h2 h3
  have hbl := h1.lt
  have hbase : base ≤ w.heap.size := by omega
  obtain ⟨c0, c1, c2, c3, c4⟩ := h1.cells
  obtain ⟨f0, f1, f2, f3, f4⟩ := h1.free
  have HR := hide1 h1
  have HL := hide1 h2
  have HS := hide1 h3
  clear h h1 h2 h3
  have HX := hide1 (hex_is c)
  obtain ⟨d, hd⟩ : ∃ d, hexD c = d := ⟨_, rfl⟩
  have hd0 : -1 ≤ d := by rw [← hd]; unfold hexD; repeat' split; all_goals omega
  have HD := hide1 hd
  have HR1 := hide1 ((HRD.out.set_dg d).set_md 5)
  have HR2 := hide1 (((HRD.out.set_dg d).set_md 5).set_bad true)
  have HRC := hide1 ((HR.out.set_dg d).set_md 5)
  clear hd
  go_enter Tryd.func16, Tryd.ntmps16
  go_upto_region 15 with (go_at_call 28; refine (HX.out _ hc0 hc1).mono ?_; rintro e w6 ⟨rfl, hw6⟩; have hw7 := hw6.symm; subst hw7; rw [HD.out])
  all_goals
    obtain ⟨W, hW⟩ : ∃ W, (w.setCell ⟨b, 3, none⟩ (.int .i64 d)).setCell ⟨b, 0, none⟩ (.int .i64 5) = W := ⟨_, rfl⟩
    have HBW : Hid (Below base w W) := by rw [← hW]; exact set_below (set_below (Below.refl _ _) hb) hb
    rw [hW] at HR1 HR2 HRC ⊢
    clear hW c0 c1 c2 c3 c4 f0 f1 f2 f3 f4
    obtain ⟨c0, c1, c2, c3, c4⟩ := HRC.out.cells
    obtain ⟨f0, f1, f2, f3, f4⟩ := HRC.out.free
    have hblW := HRC.out.lt
    by_cases hneg : d < 0
    · go_wp2
      go_end0
      rw [show nextS ⟨4, word, words, dg, false⟩ c = ⟨5, word, words, d, true⟩ by simp [nextS, highS, HD.out, hneg]]
      exact ⟨rfl, HR2.out, set_below HBW.out hb⟩
    · go_wp2
      go_end0
      rw [show nextS ⟨4, word, words, dg, false⟩ c = ⟨5, word, words, d, false⟩ by simp [nextS, highS, HD.out, hneg]]
      exact ⟨rfl, HR1.out, HBW.out⟩
set_option linter.unusedSimpArgs false in
set_option maxRecDepth 100000 in
set_option maxHeartbeats 4000000 in
theorem next5_is (base b : Nat) (dg : Int) (word : List Int) (words : List ByteArray) (c : Int) (w : World) (h : RdAt w base b ⟨5, word, words, dg, false⟩) (hb : base ≤ b) (hl : word.length ≤ 100000) (hl2 : words.length ≤ 100000) (hc0 : 0 ≤ c) (hc1 : c < 256) (hd0 : 0 ≤ dg) (hd1 : dg ≤ 15) :
    Calls Tryd.prog 16 #[.pointer (some ⟨b, 0, none⟩), .int .u8 c] w (StpR base b w (nextS ⟨5, word, words, dg, false⟩ c)) := by
  have HRD := hide1 h
  obtain ⟨wa, wc, sa, sc, h1, h2, h3⟩ := h.open_
  simp only at h1 h2 h3
  have hbl := h1.lt
  have hbase : base ≤ w.heap.size := by omega
  obtain ⟨c0, c1, c2, c3, c4⟩ := h1.cells
  obtain ⟨f0, f1, f2, f3, f4⟩ := h1.free
  have HR := hide1 h1
  have HL := hide1 h2
  have HS := hide1 h3
  generalize hn : word.length = n at *
  have HN := hide1 hn
  have HL := hide1 h2
  have HR := hide1 h1
  clear h h1 h2 h3 hn
  have HX := hide1 (hex_is c)
  obtain ⟨d, hd⟩ : ∃ d, hexD c = d := ⟨_, rfl⟩
  have hd2 : d ≤ 15 := by rw [← hd]; unfold hexD; repeat' split; all_goals omega
  have HD := hide1 hd
  clear hd
  by_cases hneg : d < 0
  · have HR1 := hide1 ((HRD.out.set_bad true).set_md 2)
    have HG : Hid (nextS ⟨5, word, words, dg, false⟩ c = ⟨2, word, words, dg, true⟩) := by
      show nextS ⟨5, word, words, dg, false⟩ c = _
      simp [nextS, lowS, HD.out, hneg]
    go_enter Tryd.func16, Tryd.ntmps16
    go_wp2_with (go_at_call 28; refine (HX.out _ hc0 hc1).mono ?_; rintro e w6 ⟨rfl, hw6⟩; have hw7 := hw6.symm; subst hw7; rw [HD.out])
    go_end0
    rw [HG.out]
    exact ⟨rfl, HR1.out, set_below (set_below (Below.refl _ _) hb) hb⟩
  have hd3 : 0 ≤ d := by omega
  obtain ⟨x, hx⟩ : ∃ x, 16 * dg + d = x := ⟨_, rfl⟩
  have hx0 : 0 ≤ x := by omega
  have hx1 : x < 256 := by omega
  have HG : Hid (nextS ⟨5, word, words, dg, false⟩ c = ⟨2, word ++ [x], words, dg, false⟩) := by
    show nextS ⟨5, word, words, dg, false⟩ c = _
    simp [nextS, lowS, HD.out, hneg, hx]
  have HNEW : Hid ((w.alloc (.cells #[.int .u8 x] 5)).cell? ⟨b, 3, none⟩ = some (.int .i64 dg)) := grown_cell ((Kept.refl w).alloc _ _) c3
  have HNC : Hid ((w.alloc (.cells #[.int .u8 x] 5)).cell? ⟨b, 1, none⟩ = some (.slice wa n wc)) := grown_cell ((Kept.refl w).alloc _ _) c1
  go_enter Tryd.func16, Tryd.ntmps16
  go_upto_region 21 with (go_at_call 28; refine (HX.out _ hc0 hc1).mono ?_; rintro e w6 ⟨rfl, hw6⟩; have hw7 := hw6.symm; subst hw7; rw [HD.out])
  refine wp_region_held_drew (S := fun w' => w'.cell? ⟨b, 3, none⟩ = some (.int .i64 dg)) (by kernel_rfl) c3 (fun hHeld => ?_)
  refine wpAnyH_take (i := 0) (v := .pointer (some ⟨b, 0, none⟩)) rfl (by kernel_rfl) (by kernel_rfl) (by kernel_rfl) (fun _ _ _ h => h) (Or.inl ⟨by rfl, fun w' hSw => ?_⟩) (by with_reducible assumption) ?_
  · clear hSw
    go_simp
  try simp only [Act.put, List.setIfInBounds_toArray, List.set_cons_zero, List.set_cons_succ]
  refine wpAnyH_take (i := 1) (v := .pointer (some ⟨b, 0, none⟩)) rfl (by kernel_rfl) (by kernel_rfl) (by kernel_rfl) (fun _ _ _ h => h) (Or.inl ⟨by rfl, fun w' hSw => ?_⟩) (by with_reducible assumption) ?_
  · clear hSw
    go_simp
  try simp only [Act.put, List.setIfInBounds_toArray, List.set_cons_zero, List.set_cons_succ]
  refine wpAnyH_take (i := 2) (v := .pointer (some ⟨b, 0, none⟩)) rfl (by kernel_rfl) (by kernel_rfl) (by kernel_rfl) (fun _ _ _ h => h) (Or.inl ⟨by rfl, fun w' hSw => ?_⟩) (by with_reducible assumption) ?_
  · clear hSw
    go_simp
  try simp only [Act.put, List.setIfInBounds_toArray, List.set_cons_zero, List.set_cons_succ]
  refine wpAnyH_take (i := 3) (v := .pointer (some ⟨b, 1, none⟩)) rfl (by kernel_rfl) (by kernel_rfl) (by kernel_rfl) (fun _ _ _ h => h) (Or.inl ⟨by rfl, fun w' hSw => ?_⟩) (by with_reducible assumption) ?_
  · clear hSw
    go_simp
  try simp only [Act.put, List.setIfInBounds_toArray, List.set_cons_zero, List.set_cons_succ]
  refine wpAnyH_take (i := 5) (v := .pointer (some ⟨b, 0, none⟩)) rfl (by kernel_rfl) (by kernel_rfl) (by kernel_rfl) (fun _ _ _ h => h) (Or.inl ⟨by rfl, fun w' hSw => ?_⟩) (by with_reducible assumption) ?_
  · clear hSw
    go_simp
  try simp only [Act.put, List.setIfInBounds_toArray, List.set_cons_zero, List.set_cons_succ]
  refine wpAnyH_take (i := 6) (v := .pointer (some ⟨b, 0, none⟩)) rfl (by kernel_rfl) (by kernel_rfl) (by kernel_rfl) (fun _ _ _ h => h) (Or.inl ⟨by rfl, fun w' hSw => ?_⟩) (by with_reducible assumption) ?_
  · clear hSw
    go_simp
  try simp only [Act.put, List.setIfInBounds_toArray, List.set_cons_zero, List.set_cons_succ]
  refine wpAnyH_take (i := 7) (v := .pointer (some ⟨b, 3, none⟩)) rfl (by kernel_rfl) (by kernel_rfl) (by kernel_rfl) (fun _ _ _ h => h) (Or.inl ⟨by rfl, fun w' hSw => ?_⟩) (by with_reducible assumption) ?_
  · clear hSw
    go_simp
  try simp only [Act.put, List.setIfInBounds_toArray, List.set_cons_zero, List.set_cons_succ]
  refine wpAnyH_take (i := 8) (v := .int .i64 dg) rfl (by kernel_rfl) (by kernel_rfl) (by kernel_rfl) (fun _ _ _ h => h) (Or.inl ⟨by rfl, fun w' hSw => ?_⟩) (by with_reducible assumption) ?_
  · have t1 := hSw
    go_simp
  try simp only [Act.put, List.setIfInBounds_toArray, List.set_cons_zero, List.set_cons_succ]
  refine wpAnyH_take (i := 9) (v := .int .i64 (16 * dg)) rfl (by kernel_rfl) (by kernel_rfl) (by kernel_rfl) (fun _ _ _ h => h) (Or.inl ⟨by rfl, fun w' hSw => ?_⟩) (by with_reducible assumption) ?_
  · clear hSw
    go_simp
    all_goals (rw [IntKind.wrap_i64]; omega)
  try simp only [Act.put, List.setIfInBounds_toArray, List.set_cons_zero, List.set_cons_succ]
  refine wpAnyH_take (i := 10) (v := .int .i64 d) rfl (by kernel_rfl) (by kernel_rfl) (by kernel_rfl) (fun _ _ _ h => h) (Or.inl ⟨by rfl, fun w' hSw => ?_⟩) (by with_reducible assumption) ?_
  · clear hSw
    go_simp
  try simp only [Act.put, List.setIfInBounds_toArray, List.set_cons_zero, List.set_cons_succ]
  refine wpAnyH_take (i := 11) (v := .int .i64 (16 * dg + d)) rfl (by kernel_rfl) (by kernel_rfl) (by kernel_rfl) (fun _ _ _ h => h) (Or.inl ⟨by rfl, fun w' hSw => ?_⟩) (by with_reducible assumption) ?_
  · clear hSw
    go_simp
    all_goals (rw [IntKind.wrap_i64]; omega)
  try simp only [Act.put, List.setIfInBounds_toArray, List.set_cons_zero, List.set_cons_succ]
  refine wpAnyH_take (i := 12) (v := .int .u8 x) rfl (by kernel_rfl) (by kernel_rfl) (by kernel_rfl) (fun _ _ _ h => h) (Or.inl ⟨by rfl, fun w' hSw => ?_⟩) (by with_reducible assumption) ?_
  · clear hSw
    go_simp
    all_goals (rw [IntKind.wrap_u8]; omega)
  try simp only [Act.put, List.setIfInBounds_toArray, List.set_cons_zero, List.set_cons_succ]
  refine wpAnyH_ready (rs := [4, 13]) (by kernel_rfl) (by simp) ?_
  refine AllReadyH.cons (i := 4) rfl (fun K hK => ?_) (AllReadyH.cons (i := 13) rfl (fun K hK => ?_) AllReadyH.nil)
  · go_simp
    refine hK.out _ _ c3 (fun hHeld2 => ?_)
    clear hK K
    try simp only [Act.put, List.setIfInBounds_toArray, List.set_cons_zero, List.set_cons_succ]
    refine wpAnyH_ready (rs := [13]) (by kernel_rfl) (by simp) ?_
    refine AllReadyH.cons (i := 13) rfl (fun K hK => ?_) AllReadyH.nil
    go_simp
    refine hK.out _ _ HNEW.out (fun hHeld3 => ?_)
    clear hK K
    try simp only [Act.put, List.setIfInBounds_toArray, List.set_cons_zero, List.set_cons_succ]
    refine wpAnyH_ready (rs := [14]) (by kernel_rfl) (by simp) ?_
    refine AllReadyH.cons (i := 14) rfl (fun K hK => ?_) AllReadyH.nil
    refine step_lo (E := u8E) rfl _ _ rfl base (.slice wa n wc) word n HN.out (by rfl) (HL.out.keep ((Kept.refl w).alloc _ _)) w.heap.size x (by rfl) (heap_alloc_new w _) (by show (n + 1) * 1 ≤ _; omega) (by unfold maxLen; omega) (Nat.le_trans hbase ((gtrans ((Kept.refl w).alloc _ _) (drew_kept _)).size)) ?_
    intro g9 c9 w9 ho9 hg9 hor9 hlt9
    obtain ⟨hC9, hR9, hB9⟩ := rd_app (gtrans ((Kept.refl w).alloc _ _) (drew_kept _)) HR.out HL.out HS.out ho9 hg9 hb hbase
    obtain ⟨y0, y1, y2, y3, y4⟩ := hC9.cells
    obtain ⟨z0, z1, z2, z3, z4⟩ := hC9.free
    have hCl9 : b < w9.heap.size := hC9.lt
    have HFIN := hide1 (And.intro hR9 hB9)
    have HC2 := hide1 (hC9.set_wv (.slice (some ⟨g9, 0, none⟩) (n + 1) c9))
    refine hK.out _ _ y3 (fun hHeld9 => ?_)
    clear hK K ho9 hg9 hor9 hR9 hB9 hC9
    try simp only [Act.put, List.setIfInBounds_toArray, List.set_cons_zero, List.set_cons_succ]
    refine wpAnyH_take (i := 15) (v := .pointer (some ⟨b, 0, none⟩)) rfl (by kernel_rfl) (by kernel_rfl) (by kernel_rfl) (fun _ _ _ h => h) (Or.inl ⟨by rfl, fun w' hSw => ?_⟩) (by with_reducible assumption) ?_
    · clear hSw
      go_simp
    try simp only [Act.put, List.setIfInBounds_toArray, List.set_cons_zero, List.set_cons_succ]
    refine wpAnyH_take (i := 16) (v := .pointer (some ⟨b, 1, none⟩)) rfl (by kernel_rfl) (by kernel_rfl) (by kernel_rfl) (fun _ _ _ h => h) (Or.inl ⟨by rfl, fun w' hSw => ?_⟩) (by with_reducible assumption) ?_
    · clear hSw
      go_simp
    try simp only [Act.put, List.setIfInBounds_toArray, List.set_cons_zero, List.set_cons_succ]
    refine wpAnyH_ready (rs := [17]) (by kernel_rfl) (by simp) ?_
    refine AllReadyH.cons (i := 17) rfl (fun K hK => ?_) AllReadyH.nil
    have HSX := hide1 (HC2.out.cells.2.2.2.1)
    go_simp
    refine hK.out _ _ HSX.out (fun hHeld10 => ?_)
    clear hK K
    try simp only [Act.put, List.setIfInBounds_toArray, List.set_cons_zero, List.set_cons_succ]
    refine wpAnyH_done (by kernel_rfl) ?_ _
    obtain ⟨W9, hW9⟩ : ∃ W9, w9.setCell ⟨b, 1, none⟩ (.slice (some ⟨g9, 0, none⟩) (n + 1) c9) = W9 := ⟨_, rfl⟩
    rw [hW9] at HC2 HFIN ⊢
    clear hHeld hHeld2 hHeld3 hHeld9 hHeld10 y0 y1 y2 y3 y4 z0 z1 z2 z3 z4 HSX hCl9 hlt9 c0 c1 c2 c3 c4 hW9
    obtain ⟨y0, y1, y2, y3, y4⟩ := HC2.out.cells
    obtain ⟨z0, z1, z2, z3, z4⟩ := HC2.out.free
    have hbl9 := HC2.out.lt
    have HFIN2 := hide1 (And.intro (HFIN.out.1.set_md 2) (set_below (o := 0) (x := .int .i64 2) HFIN.out.2 hb))
    go_wp2
    go_end0
    rw [HG.out]
    exact ⟨rfl, HFIN2.out⟩
  · go_simp
    refine hK.out _ _ HNEW.out (fun hHeld2 => ?_)
    clear hK K
    try simp only [Act.put, List.setIfInBounds_toArray, List.set_cons_zero, List.set_cons_succ]
    refine wpAnyH_ready (rs := [4]) (by kernel_rfl) (by simp) ?_
    refine AllReadyH.cons (i := 4) rfl (fun K hK => ?_) AllReadyH.nil
    have c8' : (w.alloc (.cells #[.int .u8 x] 5)).cell? ⟨b, 1, none⟩ = some (.slice wa n wc) := HNC.out
    go_simp
    refine hK.out _ _ HNEW.out (fun hHeld3 => ?_)
    clear hK K c8'
    try simp only [Act.put, List.setIfInBounds_toArray, List.set_cons_zero, List.set_cons_succ]
    refine wpAnyH_ready (rs := [14]) (by kernel_rfl) (by simp) ?_
    refine AllReadyH.cons (i := 14) rfl (fun K hK => ?_) AllReadyH.nil
    refine step_lo (E := u8E) rfl _ _ rfl base (.slice wa n wc) word n HN.out (by rfl) (HL.out.keep ((Kept.refl w).alloc _ _)) w.heap.size x (by rfl) (heap_alloc_new w _) (by show (n + 1) * 1 ≤ _; omega) (by unfold maxLen; omega) (Nat.le_trans hbase ((gtrans ((Kept.refl w).alloc _ _) (drew_kept _)).size)) ?_
    intro g9 c9 w9 ho9 hg9 hor9 hlt9
    obtain ⟨hC9, hR9, hB9⟩ := rd_app (gtrans ((Kept.refl w).alloc _ _) (drew_kept _)) HR.out HL.out HS.out ho9 hg9 hb hbase
    obtain ⟨y0, y1, y2, y3, y4⟩ := hC9.cells
    obtain ⟨z0, z1, z2, z3, z4⟩ := hC9.free
    have hCl9 : b < w9.heap.size := hC9.lt
    have HFIN := hide1 (And.intro hR9 hB9)
    have HC2 := hide1 (hC9.set_wv (.slice (some ⟨g9, 0, none⟩) (n + 1) c9))
    refine hK.out _ _ y3 (fun hHeld9 => ?_)
    clear hK K ho9 hg9 hor9 hR9 hB9 hC9
    try simp only [Act.put, List.setIfInBounds_toArray, List.set_cons_zero, List.set_cons_succ]
    refine wpAnyH_take (i := 15) (v := .pointer (some ⟨b, 0, none⟩)) rfl (by kernel_rfl) (by kernel_rfl) (by kernel_rfl) (fun _ _ _ h => h) (Or.inl ⟨by rfl, fun w' hSw => ?_⟩) (by with_reducible assumption) ?_
    · clear hSw
      go_simp
    try simp only [Act.put, List.setIfInBounds_toArray, List.set_cons_zero, List.set_cons_succ]
    refine wpAnyH_take (i := 16) (v := .pointer (some ⟨b, 1, none⟩)) rfl (by kernel_rfl) (by kernel_rfl) (by kernel_rfl) (fun _ _ _ h => h) (Or.inl ⟨by rfl, fun w' hSw => ?_⟩) (by with_reducible assumption) ?_
    · clear hSw
      go_simp
    try simp only [Act.put, List.setIfInBounds_toArray, List.set_cons_zero, List.set_cons_succ]
    refine wpAnyH_ready (rs := [17]) (by kernel_rfl) (by simp) ?_
    refine AllReadyH.cons (i := 17) rfl (fun K hK => ?_) AllReadyH.nil
    have HSX := hide1 (HC2.out.cells.2.2.2.1)
    go_simp
    refine hK.out _ _ HSX.out (fun hHeld10 => ?_)
    clear hK K
    try simp only [Act.put, List.setIfInBounds_toArray, List.set_cons_zero, List.set_cons_succ]
    refine wpAnyH_done (by kernel_rfl) ?_ _
    obtain ⟨W9, hW9⟩ : ∃ W9, w9.setCell ⟨b, 1, none⟩ (.slice (some ⟨g9, 0, none⟩) (n + 1) c9) = W9 := ⟨_, rfl⟩
    rw [hW9] at HC2 HFIN ⊢
    clear hHeld hHeld2 hHeld3 hHeld9 hHeld10 y0 y1 y2 y3 y4 z0 z1 z2 z3 z4 HSX hCl9 hlt9 c0 c1 c2 c3 c4 hW9
    obtain ⟨y0, y1, y2, y3, y4⟩ := HC2.out.cells
    obtain ⟨z0, z1, z2, z3, z4⟩ := HC2.out.free
    have hbl9 := HC2.out.lt
    have HFIN2 := hide1 (And.intro (HFIN.out.1.set_md 2) (set_below (o := 0) (x := .int .i64 2) HFIN.out.2 hb))
    go_wp2
    go_end0
    rw [HG.out]
    exact ⟨rfl, HFIN2.out⟩
set_option linter.unusedSimpArgs false in
set_option maxRecDepth 100000 in
set_option maxHeartbeats 4000000 in
theorem next6_is (base b : Nat) (dg : Int) (word : List Int) (words : List ByteArray) (c : Int) (w : World) (h : RdAt w base b ⟨6, word, words, dg, false⟩) (hb : base ≤ b) (hl : word.length ≤ 100000) (hl2 : words.length ≤ 100000) (hc0 : 0 ≤ c) (hc1 : c < 256) :
    Calls Tryd.prog 16 #[.pointer (some ⟨b, 0, none⟩), .int .u8 c] w (StpR base b w (nextS ⟨6, word, words, dg, false⟩ c)) := by
  have HRD := hide1 h
  obtain ⟨wa, wc, sa, sc, h1, h2, h3⟩ := h.open_
  simp only at h1 h2 h3
  have hbl := h1.lt
  have hbase : base ≤ w.heap.size := by omega
  obtain ⟨c0, c1, c2, c3, c4⟩ := h1.cells
  obtain ⟨f0, f1, f2, f3, f4⟩ := h1.free
  have HR := hide1 h1
  have HL := hide1 h2
  have HS := hide1 h3
  clear h h1 h2 h3
  by_cases q1 : c = 32
  · subst q1
    have HR1 := hide1 (HRD.out.set_md 0)
    go_enter Tryd.func16, Tryd.ntmps16
    go_wp2
    go_end0
    exact ⟨rfl, HR1.out, set_below (Below.refl _ _) hb⟩
  by_cases q2 : c = 9
  · subst q2
    have HR1 := hide1 (HRD.out.set_md 0)
    go_enter Tryd.func16, Tryd.ntmps16
    go_wp2
    go_end0
    exact ⟨rfl, HR1.out, set_below (Below.refl _ _) hb⟩
  have e1 : (c != 32) = true := bne_iff_ne.2 q1
  have e2 : (c != 9) = true := bne_iff_ne.2 q2
  have HG : Hid (nextS ⟨6, word, words, dg, false⟩ c = ⟨0, word, words, dg, true⟩) := by
    show nextS ⟨6, word, words, dg, false⟩ c = _
    simp [nextS, behindS, blank, q1, q2]
  have HR1 := hide1 ((HRD.out.set_bad true).set_md 0)
  go_enter Tryd.func16, Tryd.ntmps16
  go_wp2
  go_end0
  rw [HG.out]
  exact ⟨rfl, HR1.out, set_below (set_below (Below.refl _ _) hb) hb⟩
set_option linter.unusedSimpArgs false in
set_option maxRecDepth 100000 in
set_option maxHeartbeats 4000000 in
theorem next7_is (base b : Nat) (dg : Int) (word : List Int) (words : List ByteArray) (c : Int) (w : World) (h : RdAt w base b ⟨7, word, words, dg, false⟩) (hb : base ≤ b) (hl : word.length ≤ 100000) (hl2 : words.length ≤ 100000) (hc0 : 0 ≤ c) (hc1 : c < 256) :
    Calls Tryd.prog 16 #[.pointer (some ⟨b, 0, none⟩), .int .u8 c] w (StpR base b w (nextS ⟨7, word, words, dg, false⟩ c)) := by
  have HRD := hide1 h
  obtain ⟨wa, wc, sa, sc, h1, h2, h3⟩ := h.open_
  simp only at h1 h2 h3
  have hbl := h1.lt
  have hbase : base ≤ w.heap.size := by omega
  obtain ⟨c0, c1, c2, c3, c4⟩ := h1.cells
  obtain ⟨f0, f1, f2, f3, f4⟩ := h1.free
  have HR := hide1 h1
  have HL := hide1 h2
  have HS := hide1 h3
  clear h h1 h2 h3
  go_enter Tryd.func16, Tryd.ntmps16
  go_wp2
  go_end0
  exact ⟨rfl, HRD.out, Below.refl _ _⟩
/-- What a reader's state is while it goes on. -/
def StOk (st : St) : Prop := 0 ≤ st.md ∧ st.md ≤ 7 ∧ (st.md = 5 → 0 ≤ st.digit ∧ st.digit ≤ 15)
theorem next_is (base b : Nat) (st : St) (c : Int) (w : World) (h : RdAt w base b st) (hg : st.bad = false) (hok : StOk st) (hb : base ≤ b) (hl : st.word.length ≤ 100000) (hl2 : st.words.length ≤ 100000) (hc0 : 0 ≤ c) (hc1 : c < 256) :
    Calls Tryd.prog 16 #[.pointer (some ⟨b, 0, none⟩), .int .u8 c] w (StpR base b w (nextS st c)) := by
  obtain ⟨md, word, words, dg, bad⟩ := st
  simp only at hg hl hl2
  subst hg
  obtain ⟨o1, o2, o3⟩ := hok
  simp only at o1 o2 o3
  obtain rfl | rfl | rfl | rfl | rfl | rfl | rfl | rfl : md = 0 ∨ md = 1 ∨ md = 2 ∨ md = 3 ∨ md = 4 ∨ md = 5 ∨ md = 6 ∨ md = 7 := by omega
  · exact next0_is base b dg word words c w h hb hl hl2 hc0 hc1
  · exact next1_is base b dg word words c w h hb hl hl2 hc0 hc1
  · exact next2_is base b dg word words c w h hb hl hl2 hc0 hc1
  · exact next3_is base b dg word words c w h hb hl hl2 hc0 hc1
  · exact next4_is base b dg word words c w h hb hl hl2 hc0 hc1
  · exact next5_is base b dg word words c w h hb hl hl2 hc0 hc1 (o3 rfl).1 (o3 rfl).2
  · exact next6_is base b dg word words c w h hb hl hl2 hc0 hc1
  · exact next7_is base b dg word words c w h hb hl hl2 hc0 hc1
theorem hexD_le (c : Int) : hexD c ≤ 15 := by unfold hexD; repeat' split; all_goals omega
/-- A state that goes on is in order, and its lists have grown by one at most. -/
theorem next_ok {st : St} {c : Int} (hok : StOk st) (hg : st.bad = false) (hn : (nextS st c).bad = false) : StOk (nextS st c) := by
  obtain ⟨md, word, words, dg, bad⟩ := st
  have h15 := hexD_le c
  simp only at hg
  subst hg
  obtain ⟨o1, o2, o3⟩ := hok
  simp only at o1 o2 o3
  unfold StOk
  obtain rfl | rfl | rfl | rfl | rfl | rfl | rfl | rfl : md = 0 ∨ md = 1 ∨ md = 2 ∨ md = 3 ∨ md = 4 ∨ md = 5 ∨ md = 6 ∨ md = 7 := by omega
  · simp only [nextS, firstS, plainS, if_true] at hn ⊢
    repeat' split
    all_goals simp
  · simp only [nextS, endsS, plainS] at hn ⊢
    simp only [show ¬ ((1 : Int) = 0) by decide, if_false, if_true] at hn ⊢
    split
    all_goals simp
  · simp only [nextS, insideS, endsS, show ¬ ((2 : Int) = 0) by decide, show ¬ ((2 : Int) = 1) by decide, if_false, if_true] at hn ⊢
    repeat' split
    all_goals simp
  · simp only [nextS, escapedS, show ¬ ((3 : Int) = 0) by decide, show ¬ ((3 : Int) = 1) by decide, show ¬ ((3 : Int) = 2) by decide, if_false, if_true] at hn ⊢
    repeat' split
    all_goals simp
  · have e : nextS ⟨4, word, words, dg, false⟩ c = highS ⟨4, word, words, dg, false⟩ c := by simp [nextS]
    rw [e] at hn ⊢
    simp only [highS, decide_eq_false_iff_not] at hn ⊢
    omega
  · have e : nextS ⟨5, word, words, dg, false⟩ c = lowS ⟨5, word, words, dg, false⟩ c := by simp [nextS]
    rw [e]
    simp only [lowS]
    split
    all_goals simp
  · have e : nextS ⟨6, word, words, dg, false⟩ c = behindS ⟨6, word, words, dg, false⟩ c := by simp [nextS]
    rw [e]
    simp [behindS]
  · have e : nextS ⟨7, word, words, dg, false⟩ c = ⟨7, word, words, dg, false⟩ := by simp [nextS]
    rw [e]
    simp
theorem next_len (st : St) (c : Int) : (nextS st c).word.length ≤ st.word.length + 1 ∧ (nextS st c).words.length ≤ st.words.length + 1 := by
  simp only [nextS, firstS, insideS, escapedS, highS, lowS, behindS, plainS, endsS]
  repeat' split
  all_goals simp

end Sh
end Ex
end Go.Proofs.YtajmbplipjeojaaDoor
