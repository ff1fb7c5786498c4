import Derived.Test.YtajmbplipjeojaaDoorShD2
namespace Go.Proofs.YtajmbplipjeojaaDoor
open Go.RowKit
attribute [local go_sem] Oper.semAt_some
namespace Ex
namespace Sh

theorem RdAt.set_md {w : World} {base b : Nat} {md dg : Int} {word : List Int} {words : List ByteArray} {bad : Bool} (h : RdAt w base b ⟨md, word, words, dg, bad⟩) (x : Int) : RdAt (w.setCell ⟨b, 0, none⟩ (.int .i64 x)) base b ⟨x, word, words, dg, bad⟩ := by
  obtain ⟨wv, sv, h1, h2, h3⟩ := h
  exact ⟨wv, sv, h1.set_md x, lo_set h2 (lo_off h2 h1 u8_ne_rd), lo_set h3 (lo_off h3 h1 str_ne_rd)⟩
theorem RdAt.set_dg {w : World} {base b : Nat} {md dg : Int} {word : List Int} {words : List ByteArray} {bad : Bool} (h : RdAt w base b ⟨md, word, words, dg, bad⟩) (x : Int) : RdAt (w.setCell ⟨b, 3, none⟩ (.int .i64 x)) base b ⟨md, word, words, x, bad⟩ := by
  obtain ⟨wv, sv, h1, h2, h3⟩ := h
  exact ⟨wv, sv, h1.set_dg x, lo_set h2 (lo_off h2 h1 u8_ne_rd), lo_set h3 (lo_off h3 h1 str_ne_rd)⟩
theorem RdAt.set_bad {w : World} {base b : Nat} {md dg : Int} {word : List Int} {words : List ByteArray} {bad : Bool} (h : RdAt w base b ⟨md, word, words, dg, bad⟩) (x : Bool) : RdAt (w.setCell ⟨b, 4, none⟩ (.bool x)) base b ⟨md, word, words, dg, x⟩ := by
  obtain ⟨wv, sv, h1, h2, h3⟩ := h
  exact ⟨wv, sv, h1.set_bad x, lo_set h2 (lo_off h2 h1 u8_ne_rd), lo_set h3 (lo_off h3 h1 str_ne_rd)⟩
theorem RdAt.lt {w : World} {base b : Nat} {st : St} (h : RdAt w base b st) : b < w.heap.size := by
  obtain ⟨wv, sv, h1, h2, h3⟩ := h
  exact h1.lt
theorem odd_cases {c : Int} (h : oddB c = true) : c < 32 ∨ c = 127 ∨ c = 34 ∨ c = 92 := by
  simp only [oddB, Bool.or_eq_true, decide_eq_true_eq, beq_iff_eq] at h
  omega
theorem odd_not {c : Int} (h : oddB c = false) : ¬ c < 32 ∧ c ≠ 127 ∧ c ≠ 34 ∧ c ≠ 92 := by
  simp only [oddB, Bool.or_eq_false_iff, decide_eq_false_iff_not, beq_eq_false_iff_ne] at h
  omega
set_option linter.unusedSimpArgs false in
set_option maxRecDepth 100000 in
set_option maxHeartbeats 4000000 in
theorem plain_is (base b : Nat) (md dg : Int) (word : List Int) (words : List ByteArray) (c : Int) (w : World) (h : RdAt w base b ⟨md, word, words, dg, false⟩) (hb : base ≤ b) (hl : word.length ≤ 100000) :
    Calls Tryd.prog 25 #[.pointer (some ⟨b, 0, none⟩), .int .u8 c] w (StpR base b w ⟨md, word ++ [c], words, dg, oddB c⟩) := by
  by_cases hod : oddB c = true
  · have HB := hide1 (h.set_bad true)
    have HW := hide1 (set_below (o := 4) (x := .bool true) (Below.refl base w) hb)
    have hbl := h.lt
    have hod' := odd_cases hod
    have HOD := hide1 hod
    obtain ⟨wa, wc, sa, sc, h1, h2, h3⟩ := h.open_
    simp only at h1
    obtain ⟨c0, c1, c2, c3, c4⟩ := h1.cells
    obtain ⟨f0, f1, f2, f3, f4⟩ := h1.free
    clear h h1 h2 h3 hod
    go_enter Tryd.func25, Tryd.ntmps25
    rcases hod' with o1 | rfl | rfl | rfl
    all_goals
      go_upto_region 2 with fail
      clear c0 c1 c2 c3 c4 f0 f1 f2 f3 f4
      obtain ⟨W, hW⟩ : ∃ W, w.setCell ⟨b, 4, none⟩ (.bool true) = W := ⟨_, rfl⟩
      rw [hW] at HB HW ⊢
      have hbl2 : b < W.heap.size := HB.out.lt
      have hwW : True := trivial
      clear hW hbl
      obtain ⟨wa, wc, sa, sc, h1, h2, h3⟩ := HB.out.open_
      simp only at h1 h2 h3
      generalize hn : word.length = n at *
      have hbase : base ≤ W.heap.size := by omega
      obtain ⟨c0, c1, c2, c3, c4⟩ := h1.cells
      obtain ⟨f0, f1, f2, f3, f4⟩ := h1.free
      have HR := hide1 h1
      have HL := hide1 h2
      have HS := hide1 h3
      have HN := hide1 hn
      clear h1 h2 h3 hn HB
      go_wp2_with (at_builtin; go_must (refine wpl_lo (E := u8E) rfl _ _ rfl base (.slice wa n wc) word n HN.out (by rfl) (HL.out.keep ((Kept.refl W).alloc _ _)) W.heap.size _ (by rfl) (heap_alloc_new W _) (by show (n + 1) * 1 ≤ 140737488355328; omega) (by unfold maxLen; omega) (Nat.le_trans hbase ((Kept.refl W).alloc _ _).size) ?_); intro g9 c9 w9 ho9 hg9 hor9 hlt9; obtain ⟨hC9, hR9, hB9⟩ := rd_app ((Kept.refl W).alloc _ _) HR.out HL.out HS.out ho9 hg9 hb hbase; have HF := hide1 (And.intro hR9 hB9); obtain ⟨y0, y1, y2, y3, y4⟩ := hC9.cells; obtain ⟨z0, z1, z2, z3, z4⟩ := hC9.free; have hbl9 := hC9.lt; clear ho9 hg9 hor9 hR9 hB9 hC9)
      go_end0
      rw [HOD.out]
      exact ⟨rfl, HF.out.1, HW.out.trans HF.out.2⟩
  · have hod2 : oddB c = false := by simpa using hod
    have HOD := hide1 hod2
    obtain ⟨o1, o2, o3, o4⟩ := odd_not hod2
    have q2 : (c == 127) = false := beq_eq_false_iff_ne.2 o2
    have q3 : (c == 34) = false := beq_eq_false_iff_ne.2 o3
    have q4 : (c == 92) = false := beq_eq_false_iff_ne.2 o4
    clear hod hod2
    obtain ⟨wa, wc, sa, sc, h1, h2, h3⟩ := h.open_
    simp only at h1 h2 h3
    generalize hn : word.length = n at *
    have hbl := h1.lt
    have hbase : base ≤ w.heap.size := by omega
    obtain ⟨c0, c1, c2, c3, c4⟩ := h1.cells
    obtain ⟨f0, f1, f2, f3, f4⟩ := h1.free
    have HR := hide1 h1
    have HL := hide1 h2
    have HS := hide1 h3
    have HN := hide1 hn
    clear h h1 h2 h3 hn
    go_enter Tryd.func25, Tryd.ntmps25
    go_wp2_with (at_builtin; go_must (refine wpl_lo (E := u8E) rfl _ _ rfl base (.slice wa n wc) word n HN.out (by rfl) (HL.out.keep ((Kept.refl w).alloc _ _)) w.heap.size c (by rfl) (heap_alloc_new w _) (by show (n + 1) * 1 ≤ 140737488355328; omega) (by unfold maxLen; omega) (Nat.le_trans hbase ((Kept.refl w).alloc _ _).size) ?_); intro g9 c9 w9 ho9 hg9 hor9 hlt9; obtain ⟨hC9, hR9, hB9⟩ := rd_app ((Kept.refl w).alloc _ _) HR.out HL.out HS.out ho9 hg9 hb hbase; have HF := hide1 (And.intro hR9 hB9); obtain ⟨y0, y1, y2, y3, y4⟩ := hC9.cells; obtain ⟨z0, z1, z2, z3, z4⟩ := hC9.free; have hbl9 := hC9.lt; clear ho9 hg9 hor9 hR9 hB9 hC9)
    go_end0
    rw [HOD.out]
    exact ⟨rfl, HF.out.1, HF.out.2⟩
set_option linter.unusedSimpArgs false in
set_option maxRecDepth 100000 in
set_option maxHeartbeats 4000000 in
theorem first_is (base b : Nat) (dg : Int) (word : List Int) (words : List ByteArray) (md c : Int) (w : World) (h : RdAt w base b ⟨md, word, words, dg, false⟩) (hb : base ≤ b) (hl : word.length ≤ 100000) :
    Calls Tryd.prog 24 #[.pointer (some ⟨b, 0, none⟩), .int .u8 c] w (StpR base b w (firstS ⟨md, word, words, dg, false⟩ c)) := by
  have HRD := hide1 h
  have hbl := h.lt
  obtain ⟨wa, wc, sa, sc, h1, h2, h3⟩ := h.open_
  simp only at h1
  obtain ⟨c0, c1, c2, c3, c4⟩ := h1.cells
  obtain ⟨f0, f1, f2, f3, f4⟩ := h1.free
  clear h h1 h2 h3
  have HP : Hid (∀ W, RdAt W base b ⟨1, word, words, dg, false⟩ → Calls Tryd.prog 25 #[.pointer (some ⟨b, 0, none⟩), .int .u8 c] W (StpR base b W ⟨1, word ++ [c], words, dg, oddB c⟩)) := fun W hW => plain_is base b 1 dg word words c W hW hb hl
  by_cases q1 : c = 32
  · subst q1
    go_enter Tryd.func24, Tryd.ntmps24
    go_wp2
    go_end0
    exact ⟨rfl, HRD.out.set_md 0, set_below (Below.refl _ _) hb⟩
  by_cases q2 : c = 9
  · subst q2
    go_enter Tryd.func24, Tryd.ntmps24
    go_wp2
    go_end0
    exact ⟨rfl, HRD.out.set_md 0, set_below (Below.refl _ _) hb⟩
  by_cases q3 : c = 35
  · subst q3
    go_enter Tryd.func24, Tryd.ntmps24
    go_wp2
    go_end0
    exact ⟨rfl, HRD.out.set_md 7, set_below (Below.refl _ _) hb⟩
  by_cases q4 : c = 34
  · subst q4
    go_enter Tryd.func24, Tryd.ntmps24
    go_wp2
    go_end0
    exact ⟨rfl, HRD.out.set_md 2, set_below (Below.refl _ _) hb⟩
  have e1 : (c == 32) = false := beq_eq_false_iff_ne.2 q1
  have e2 : (c == 9) = false := beq_eq_false_iff_ne.2 q2
  have e3 : (c == 35) = false := beq_eq_false_iff_ne.2 q3
  have e4 : (c == 34) = false := beq_eq_false_iff_ne.2 q4
  have HF : Hid (firstS ⟨md, word, words, dg, false⟩ c = ⟨1, word ++ [c], words, dg, oddB c⟩) := by
    show firstS ⟨md, word, words, dg, false⟩ c = _
    simp [firstS, blank, q1, q2, q3, q4, plainS]
  go_enter Tryd.func24, Tryd.ntmps24
  go_wp2_with (go_at_call 25; refine (HP.out _ (HRD.out.set_md 1)).mono ?_; rintro e w6 ⟨rfl, hr6, hb6⟩)
  go_end0
  rw [HF.out]
  exact ⟨rfl, hr6, (set_below (Below.refl _ _) hb).trans hb6⟩
set_option linter.unusedSimpArgs false in
set_option maxRecDepth 100000 in
set_option maxHeartbeats 4000000 in
theorem inside_is (base b : Nat) (dg : Int) (word : List Int) (words : List ByteArray) (c : Int) (w : World) (h : RdAt w base b ⟨2, word, words, dg, false⟩) (hb : base ≤ b) (hl : word.length ≤ 100000) (hl2 : words.length ≤ 100000) :
    Calls Tryd.prog 26 #[.pointer (some ⟨b, 0, none⟩), .int .u8 c] w (StpR base b w (insideS ⟨2, word, words, dg, false⟩ c)) := by
  have HRD := hide1 h
  have HE : Hid (Calls Tryd.prog 17 #[.pointer (some ⟨b, 0, none⟩)] w (StpR base b w ⟨2, [], words ++ [bs word], dg, false⟩)) := ends_is base b 2 dg word words false w h hb hl2
  clear hl2
  obtain ⟨wa, wc, sa, sc, h1, h2, h3⟩ := h.open_
  simp only at h1 h2 h3
  generalize hn : word.length = n at *
  have hbl := h1.lt
  have hbase : base ≤ w.heap.size := by omega
  obtain ⟨c0, c1, c2, c3, c4⟩ := h1.cells
  obtain ⟨f0, f1, f2, f3, f4⟩ := h1.free
  have HR := hide1 h1
  have HL := hide1 h2
  have HS := hide1 h3
  have HN := hide1 hn
  clear h h1 h2 h3 hn
  by_cases q1 : c = 34
  · subst q1
    go_enter Tryd.func26, Tryd.ntmps26
    go_wp2_with (go_at_call 17; refine (HE.out).mono ?_; rintro e w6 ⟨rfl, hr6, hb6⟩; have HR6 := hide1 hr6; obtain ⟨wa6, wc6, sa6, sc6, j1, _, _⟩ := hr6.open_; simp only at j1; obtain ⟨y0, y1, y2, y3, y4⟩ := j1.cells; obtain ⟨z0, z1, z2, z3, z4⟩ := j1.free; have hbl6 := j1.lt; clear j1 hr6)
    go_end0
    exact ⟨rfl, HR6.out.set_md 6, set_below hb6 hb⟩
  have e1 : (c == 34) = false := beq_eq_false_iff_ne.2 q1
  by_cases q2 : c = 92
  · subst q2
    go_enter Tryd.func26, Tryd.ntmps26
    go_wp2
    go_end0
    exact ⟨rfl, HRD.out.set_md 3, set_below (Below.refl _ _) hb⟩
  have e2 : (c == 92) = false := beq_eq_false_iff_ne.2 q2
  by_cases q3 : c < 32
  · have HF : Hid (insideS ⟨2, word, words, dg, false⟩ c = ⟨2, word, words, dg, true⟩) := by
      show insideS ⟨2, word, words, dg, false⟩ c = _
      simp [insideS, q1, q2, q3]
    go_enter Tryd.func26, Tryd.ntmps26
    go_wp2
    go_end0
    rw [HF.out]
    exact ⟨rfl, HRD.out.set_bad true, set_below (Below.refl _ _) hb⟩
  by_cases q4 : c = 127
  · subst q4
    go_enter Tryd.func26, Tryd.ntmps26
    go_wp2
    go_end0
    exact ⟨rfl, HRD.out.set_bad true, set_below (Below.refl _ _) hb⟩
  have e4 : (c == 127) = false := beq_eq_false_iff_ne.2 q4
  have HG : Hid (insideS ⟨2, word, words, dg, false⟩ c = ⟨2, word ++ [c], words, dg, false⟩) := by
    show insideS ⟨2, word, words, dg, false⟩ c = _
    simp [insideS, q1, q2, q3, q4]
  go_enter Tryd.func26, Tryd.ntmps26
  go_wp2_with (at_builtin; go_must (refine wpl_lo (E := u8E) rfl _ _ rfl base (.slice wa n wc) word n HN.out (by rfl) (HL.out.keep ((Kept.refl w).alloc _ _)) w.heap.size c (by rfl) (heap_alloc_new w _) (by show (n + 1) * 1 ≤ 140737488355328; omega) (by unfold maxLen; omega) (Nat.le_trans hbase ((Kept.refl w).alloc _ _).size) ?_); intro g9 c9 w9 ho9 hg9 hor9 hlt9; obtain ⟨hC9, hR9, hB9⟩ := rd_app ((Kept.refl w).alloc _ _) HR.out HL.out HS.out ho9 hg9 hb hbase; have HF := hide1 (And.intro hR9 hB9); obtain ⟨y0, y1, y2, y3, y4⟩ := hC9.cells; obtain ⟨z0, z1, z2, z3, z4⟩ := hC9.free; have hbl9 := hC9.lt; clear ho9 hg9 hor9 hR9 hB9 hC9)
  go_end0
  rw [HG.out]
  exact ⟨rfl, HF.out.1, HF.out.2⟩
set_option linter.unusedSimpArgs false in
set_option maxRecDepth 100000 in
set_option maxHeartbeats 4000000 in
theorem escaped_is (base b : Nat) (dg : Int) (word : List Int) (words : List ByteArray) (c : Int) (w : World) (h : RdAt w base b ⟨3, word, words, dg, false⟩) (hb : base ≤ b) (hl : word.length ≤ 100000) :
    Calls Tryd.prog 27 #[.pointer (some ⟨b, 0, none⟩), .int .u8 c] w (StpR base b w (escapedS ⟨3, word, words, dg, false⟩ c)) := by
  have HB := hide1 (h.set_md 2)
  have HW := hide1 (set_below (o := 0) (x := .int .i64 2) (Below.refl base w) hb)
  have hbl := h.lt
  obtain ⟨wa, wc, sa, sc, h1, h2, h3⟩ := h.open_
  simp only at h1
  obtain ⟨c0, c1, c2, c3, c4⟩ := h1.cells
  obtain ⟨f0, f1, f2, f3, f4⟩ := h1.free
  clear h h1 h2 h3
  by_cases q1 : c = 92
  · subst q1
    go_enter Tryd.func27, Tryd.ntmps27
    go_upto_region 1 with fail
    clear c0 c1 c2 c3 c4 f0 f1 f2 f3 f4
    obtain ⟨W, hW⟩ : ∃ W, w.setCell ⟨b, 0, none⟩ (.int .i64 2) = W := ⟨_, rfl⟩
    rw [hW] at HB HW ⊢
    clear hW hbl
    obtain ⟨wa, wc, sa, sc, h1, h2, h3⟩ := HB.out.open_
    simp only at h1 h2 h3
    generalize hn : word.length = n at *
    have hbl2 : b < W.heap.size := HB.out.lt
    have hbase : base ≤ W.heap.size := by omega
    obtain ⟨c0, c1, c2, c3, c4⟩ := h1.cells
    obtain ⟨f0, f1, f2, f3, f4⟩ := h1.free
    have HR := hide1 h1
    have HL := hide1 h2
    have HS := hide1 h3
    have HN := hide1 hn
    clear h1 h2 h3 hn HB
    go_wp2_with (at_builtin; go_must (refine wpl_lo (E := u8E) rfl _ _ rfl base (.slice wa n wc) word n HN.out (by rfl) (HL.out.keep ((Kept.refl W).alloc _ _)) W.heap.size 92 (by rfl) (heap_alloc_new W _) (by show (n + 1) * 1 ≤ 140737488355328; omega) (by unfold maxLen; omega) (Nat.le_trans hbase ((Kept.refl W).alloc _ _).size) ?_); intro g9 c9 w9 ho9 hg9 hor9 hlt9; obtain ⟨hC9, hR9, hB9⟩ := rd_app ((Kept.refl W).alloc _ _) HR.out HL.out HS.out ho9 hg9 hb hbase; have HF := hide1 (And.intro hR9 hB9); obtain ⟨y0, y1, y2, y3, y4⟩ := hC9.cells; obtain ⟨z0, z1, z2, z3, z4⟩ := hC9.free; have hbl9 := hC9.lt; clear ho9 hg9 hor9 hR9 hB9 hC9)
    go_end0
    exact ⟨rfl, HF.out.1, HW.out.trans HF.out.2⟩
  by_cases q2 : c = 34
  · subst q2
    go_enter Tryd.func27, Tryd.ntmps27
    go_upto_region 1 with fail
    clear c0 c1 c2 c3 c4 f0 f1 f2 f3 f4
    obtain ⟨W, hW⟩ : ∃ W, w.setCell ⟨b, 0, none⟩ (.int .i64 2) = W := ⟨_, rfl⟩
    rw [hW] at HB HW ⊢
    clear hW hbl
    obtain ⟨wa, wc, sa, sc, h1, h2, h3⟩ := HB.out.open_
    simp only at h1 h2 h3
    generalize hn : word.length = n at *
    have hbl2 : b < W.heap.size := HB.out.lt
    have hbase : base ≤ W.heap.size := by omega
    obtain ⟨c0, c1, c2, c3, c4⟩ := h1.cells
    obtain ⟨f0, f1, f2, f3, f4⟩ := h1.free
    have HR := hide1 h1
    have HL := hide1 h2
    have HS := hide1 h3
    have HN := hide1 hn
    clear h1 h2 h3 hn HB
    go_wp2_with (at_builtin; go_must (refine wpl_lo (E := u8E) rfl _ _ rfl base (.slice wa n wc) word n HN.out (by rfl) (HL.out.keep ((Kept.refl W).alloc _ _)) W.heap.size 34 (by rfl) (heap_alloc_new W _) (by show (n + 1) * 1 ≤ 140737488355328; omega) (by unfold maxLen; omega) (Nat.le_trans hbase ((Kept.refl W).alloc _ _).size) ?_); intro g9 c9 w9 ho9 hg9 hor9 hlt9; obtain ⟨hC9, hR9, hB9⟩ := rd_app ((Kept.refl W).alloc _ _) HR.out HL.out HS.out ho9 hg9 hb hbase; have HF := hide1 (And.intro hR9 hB9); obtain ⟨y0, y1, y2, y3, y4⟩ := hC9.cells; obtain ⟨z0, z1, z2, z3, z4⟩ := hC9.free; have hbl9 := hC9.lt; clear ho9 hg9 hor9 hR9 hB9 hC9)
    go_end0
    exact ⟨rfl, HF.out.1, HW.out.trans HF.out.2⟩
  by_cases q3 : c = 110
  · subst q3
    go_enter Tryd.func27, Tryd.ntmps27
    go_upto_region 1 with fail
    clear c0 c1 c2 c3 c4 f0 f1 f2 f3 f4
    obtain ⟨W, hW⟩ : ∃ W, w.setCell ⟨b, 0, none⟩ (.int .i64 2) = W := ⟨_, rfl⟩
    rw [hW] at HB HW ⊢
    clear hW hbl
    obtain ⟨wa, wc, sa, sc, h1, h2, h3⟩ := HB.out.open_
    simp only at h1 h2 h3
    generalize hn : word.length = n at *
    have hbl2 : b < W.heap.size := HB.out.lt
    have hbase : base ≤ W.heap.size := by omega
    obtain ⟨c0, c1, c2, c3, c4⟩ := h1.cells
    obtain ⟨f0, f1, f2, f3, f4⟩ := h1.free
    have HR := hide1 h1
    have HL := hide1 h2
    have HS := hide1 h3
    have HN := hide1 hn
    clear h1 h2 h3 hn HB
    go_wp2_with (at_builtin; go_must (refine wpl_lo (E := u8E) rfl _ _ rfl base (.slice wa n wc) word n HN.out (by rfl) (HL.out.keep ((Kept.refl W).alloc _ _)) W.heap.size 10 (by rfl) (heap_alloc_new W _) (by show (n + 1) * 1 ≤ 140737488355328; omega) (by unfold maxLen; omega) (Nat.le_trans hbase ((Kept.refl W).alloc _ _).size) ?_); intro g9 c9 w9 ho9 hg9 hor9 hlt9; obtain ⟨hC9, hR9, hB9⟩ := rd_app ((Kept.refl W).alloc _ _) HR.out HL.out HS.out ho9 hg9 hb hbase; have HF := hide1 (And.intro hR9 hB9); obtain ⟨y0, y1, y2, y3, y4⟩ := hC9.cells; obtain ⟨z0, z1, z2, z3, z4⟩ := hC9.free; have hbl9 := hC9.lt; clear ho9 hg9 hor9 hR9 hB9 hC9)
    go_end0
    exact ⟨rfl, HF.out.1, HW.out.trans HF.out.2⟩
  by_cases q4 : c = 116
  · subst q4
    go_enter Tryd.func27, Tryd.ntmps27
    go_upto_region 1 with fail
    clear c0 c1 c2 c3 c4 f0 f1 f2 f3 f4
    obtain ⟨W, hW⟩ : ∃ W, w.setCell ⟨b, 0, none⟩ (.int .i64 2) = W := ⟨_, rfl⟩
    rw [hW] at HB HW ⊢
    clear hW hbl
    obtain ⟨wa, wc, sa, sc, h1, h2, h3⟩ := HB.out.open_
    simp only at h1 h2 h3
    generalize hn : word.length = n at *
    have hbl2 : b < W.heap.size := HB.out.lt
    have hbase : base ≤ W.heap.size := by omega
    obtain ⟨c0, c1, c2, c3, c4⟩ := h1.cells
    obtain ⟨f0, f1, f2, f3, f4⟩ := h1.free
    have HR := hide1 h1
    have HL := hide1 h2
    have HS := hide1 h3
    have HN := hide1 hn
    clear h1 h2 h3 hn HB
    go_wp2_with (at_builtin; go_must (refine wpl_lo (E := u8E) rfl _ _ rfl base (.slice wa n wc) word n HN.out (by rfl) (HL.out.keep ((Kept.refl W).alloc _ _)) W.heap.size 9 (by rfl) (heap_alloc_new W _) (by show (n + 1) * 1 ≤ 140737488355328; omega) (by unfold maxLen; omega) (Nat.le_trans hbase ((Kept.refl W).alloc _ _).size) ?_); intro g9 c9 w9 ho9 hg9 hor9 hlt9; obtain ⟨hC9, hR9, hB9⟩ := rd_app ((Kept.refl W).alloc _ _) HR.out HL.out HS.out ho9 hg9 hb hbase; have HF := hide1 (And.intro hR9 hB9); obtain ⟨y0, y1, y2, y3, y4⟩ := hC9.cells; obtain ⟨z0, z1, z2, z3, z4⟩ := hC9.free; have hbl9 := hC9.lt; clear ho9 hg9 hor9 hR9 hB9 hC9)
    go_end0
    exact ⟨rfl, HF.out.1, HW.out.trans HF.out.2⟩
  by_cases q5 : c = 120
  · subst q5
    go_enter Tryd.func27, Tryd.ntmps27
    go_upto_region 1 with fail
    clear c0 c1 c2 c3 c4 f0 f1 f2 f3 f4
    obtain ⟨W, hW⟩ : ∃ W, w.setCell ⟨b, 0, none⟩ (.int .i64 2) = W := ⟨_, rfl⟩
    rw [hW] at HB HW ⊢
    clear hW hbl
    obtain ⟨wa, wc, sa, sc, h1, h2, h3⟩ := HB.out.open_
    simp only at h1 h2 h3
    generalize hn : word.length = n at *
    have hbl2 : b < W.heap.size := HB.out.lt
    have hbase : base ≤ W.heap.size := by omega
    obtain ⟨c0, c1, c2, c3, c4⟩ := h1.cells
    obtain ⟨f0, f1, f2, f3, f4⟩ := h1.free
    have HR := hide1 h1
    have HL := hide1 h2
    have HS := hide1 h3
    have HN := hide1 hn
    have HB4 := hide1 (HB.out.set_md 4)
    clear h1 h2 h3 hn HB
    go_wp2
    go_end0
    exact ⟨rfl, HB4.out, set_below HW.out hb⟩
  have e1 : (c == 92) = false := beq_eq_false_iff_ne.2 q1
  have e2 : (c == 34) = false := beq_eq_false_iff_ne.2 q2
  have e3 : (c == 110) = false := beq_eq_false_iff_ne.2 q3
  have e4 : (c == 116) = false := beq_eq_false_iff_ne.2 q4
  have e5 : (c == 120) = false := beq_eq_false_iff_ne.2 q5
  have HG : Hid (escapedS ⟨3, word, words, dg, false⟩ c = ⟨2, word, words, dg, true⟩) := by
    show escapedS ⟨3, word, words, dg, false⟩ c = _
    simp [escapedS, q1, q2, q3, q4, q5]
  go_enter Tryd.func27, Tryd.ntmps27
  go_upto_region 1 with fail
  clear c0 c1 c2 c3 c4 f0 f1 f2 f3 f4
  obtain ⟨W, hW⟩ : ∃ W, w.setCell ⟨b, 0, none⟩ (.int .i64 2) = W := ⟨_, rfl⟩
  rw [hW] at HB HW ⊢
  clear hW hbl
  obtain ⟨wa, wc, sa, sc, h1, h2, h3⟩ := HB.out.open_
  simp only at h1 h2 h3
  generalize hn : word.length = n at *
  have hbl2 : b < W.heap.size := HB.out.lt
  have hbase : base ≤ W.heap.size := by omega
  obtain ⟨c0, c1, c2, c3, c4⟩ := h1.cells
  obtain ⟨f0, f1, f2, f3, f4⟩ := h1.free
  have HR := hide1 h1
  have HL := hide1 h2
  have HS := hide1 h3
  have HN := hide1 hn
  have HB4 := hide1 (HB.out.set_bad true)
  clear h1 h2 h3 hn HB
  go_wp2
  go_end0
  rw [HG.out]
  exact ⟨rfl, HB4.out, set_below HW.out hb⟩

end Sh
end Ex
end Go.Proofs.YtajmbplipjeojaaDoor
