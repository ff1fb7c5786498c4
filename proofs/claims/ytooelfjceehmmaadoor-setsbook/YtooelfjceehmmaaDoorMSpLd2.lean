import Derived.Test.YtooelfjceehmmaaDoorMSpLd3
namespace Go.Proofs.YtooelfjceehmmaaDoor
open Go.RowKit
attribute [local go_sem] Oper.semAt_some
namespace Ex

theorem lex_infoG : (Tryd.prog.info? 89).map (fun i => (i.zero.isSome, i.size, i.bytes)) = some (true, 8, 88) := by kernel_rfl
theorem str_infoG : (Tryd.prog.info? 9).map (fun i => (i.zero.isSome, i.size, i.bytes)) = some (true, 1, 16) := by kernel_rfl
theorem prod_infoG : (Tryd.prog.info? 40).map (fun i => (i.zero.isSome, i.size, i.bytes)) = some (true, 2, 32) := by kernel_rfl
theorem sym_infoG : (Tryd.prog.info? 58).map (fun i => (i.zero.isSome, i.size, i.bytes)) = some (true, 2, 16) := by kernel_rfl
theorem two_sbox (w : World) (x0 x1 x2 x3 y0 y1 y2 y3 : Value) : SBox ((w.alloc (.cells #[x0, x1, x2, x3] 26)).alloc (.cells #[y0, y1, y2, y3] 26)) w.heap.size x0 x1 x2 x3 ∧ SBox ((w.alloc (.cells #[x0, x1, x2, x3] 26)).alloc (.cells #[y0, y1, y2, y3] 26)) (w.heap.size + 1) y0 y1 y2 y3 ∧ Kept w ((w.alloc (.cells #[x0, x1, x2, x3] 26)).alloc (.cells #[y0, y1, y2, y3] 26)) ∧ ((w.alloc (.cells #[x0, x1, x2, x3] 26)).alloc (.cells #[y0, y1, y2, y3] 26)).heap.size = w.heap.size + 2 := by
  refine ⟨(SBox.new w x0 x1 x2 x3).keep ((Kept.refl _).alloc _ _), ?_, ((Kept.refl w).alloc _ _).alloc _ _, by simp⟩
  have h := SBox.new (w.alloc (.cells #[x0, x1, x2, x3] 26)) y0 y1 y2 y3
  rw [World.size_alloc] at h
  exact h
set_option linter.unusedSimpArgs false in
set_option maxRecDepth 100000 in
set_option maxHeartbeats 8000000 in
theorem lend_is (k : Nat) (lex : List (LexM k)) (names : List ByteArray) (ps : List ProdM) (al an ap : Option Addr) (nl cl nn cn np cp : Nat) (st : Int) (w : World) (hlex : lex.length = nl) (hnames : names.length = nn) (hps : ps.length = np) (hsz : nl * 88 ≤ 140737488351232 ∧ nn * 16 ≤ 140737488351232 ∧ np * 32 ≤ 140737488351232 ∧ ∀ p ∈ ps, p.2.length * 16 ≤ 140737488351232) (hl : LexAt w k (.slice al nl cl) lex) (hn : NamesAt w (.slice an nn cn) names) (hp : ProdsAt w (.slice ap np cp) ps) :
    Calls Tryd.prog 14 #[.agg #[.slice al nl cl, .slice an nn cn, .int .i64 st, .slice ap np cp]] w (LentR lex names ps nl nn np st w) := by
  have gl : (nl : Int) ≤ 1600000000000 := by omega
  have gn : (nn : Int) ≤ 8796093022000 := by omega
  have gp : (np : Int) ≤ 4398046511000 := by omega
  obtain ⟨h1, h2, h3, h4⟩ := two_sbox w (.slice al nl cl) (.slice an nn cn) (.int .i64 st) (.slice ap np cp) (.slice none 0 0) (.slice none 0 0) (.int .i64 0) (.slice none 0 0)
  have HB := hide1 h1
  have HR := hide1 h2
  have HK := hide1 h3
  have HWS := hide1 h4
  have HL := hide1 hl
  have HN := hide1 hn
  have HP := hide1 hp
  have HLEN := hide1 hlex
  have HNAM := hide1 hnames
  have HPS := hide1 hps
  have HROW := hide1 hsz.2.2.2
  obtain ⟨_, _, e0, hcl, _⟩ := hl.len
  simp only [Value.slice.injEq] at e0
  obtain ⟨rfl, en, rfl⟩ := e0
  clear en
  rw [hlex] at hcl
  obtain ⟨_, _, e0, hcn, _⟩ := SliceOf.len hn
  simp only [Value.slice.injEq] at e0
  obtain ⟨rfl, en, rfl⟩ := e0
  clear en
  rw [hnames] at hcn
  obtain ⟨_, _, e0, hcp, _⟩ := hp.len
  simp only [Value.slice.injEq] at e0
  obtain ⟨rfl, en, rfl⟩ := e0
  clear en
  rw [hps] at hcp
  clear h1 h2 h3 h4 hl hn hp hlex hnames hps hsz
  go_enter Tryd.func14, Tryd.ntmps14
  go_upto_region 1 with fail
  obtain ⟨W, hW⟩ : ∃ W, (w.alloc (.cells #[.slice al nl cl, .slice an nn cn, .int .i64 st, .slice ap np cp] 26)).alloc (.cells #[.slice none 0 0, .slice none 0 0, .int .i64 0, .slice none 0 0] 26) = W := ⟨_, rfl⟩
  rw [hW] at HB HR HK HWS ⊢
  clear hW
  obtain ⟨b, hb⟩ : ∃ b, w.heap.size = b := ⟨_, rfl⟩
  rw [hb] at HB HR HWS ⊢
  have HSB := hide1 hb
  clear hb
  obtain ⟨s0, s1, s2, s3⟩ := HB.out.facts
  obtain ⟨cur, hcur, hmk⟩ := run_rowG Tryd.underlying22 8 88 lex_infoG nl (by omega) (by omega) W
  go_upto_region 2 with fail
  clear s0 s1 s2 s3 hmk
  have HK1 : Hid (Kept W (W.alloc (.cells cur 89))) := (Kept.refl _).alloc _ _
  have HR1 := hide1 (row_alloc W cur 89)
  rw [hcur] at HR1
  obtain ⟨W1, hW1⟩ : ∃ W1, W.alloc (.cells cur 89) = W1 := ⟨_, rfl⟩
  rw [hW1] at HK1 HR1 ⊢
  clear hW1 hcur
  obtain ⟨g, hg⟩ : ∃ g, W.heap.size = g := ⟨_, rfl⟩
  rw [hg] at HR1 ⊢
  have HG : Hid (W.heap.size ≤ g) := Nat.le_of_eq hg
  clear hg
  go_wp2_with fail
  go_loopw [4] (LdI lex g (b + 1) ((nl + 1) * 8) W) (fun i _ => nl - (intOf i).toNat)
  case atStart => exact ⟨0, rfl, Nat.zero_le _, fun i l hi _ => (by omega), HR1, HK1.out⟩
  case round =>
    obtain ⟨j, rfl, hj, HIT, HRr, HKr⟩ := hrel
    rw [HLEN.out] at hj
    obtain ⟨s0, s1, s2, s3⟩ := (HB.out.keep HKr.out).facts
    by_cases hlt : (j : Int) < (nl : Int)
    · obtain ⟨l, hl⟩ : ∃ l, lex[j]? = some l := ⟨_, List.getElem?_eq_getElem (by have := HLEN.out; omega)⟩
      obtain ⟨cb, o2, cs, ea, hcb, hlen, hcell, v', hcs, hns, hkd⟩ := SliceOf.el HL.out hl
      subst ea hcs
      have HLJ := hide1 hl
      have HKD := hide1 hkd
      have hkw := gtrans HK.out HKr.out
      have HKW := hide1 hkw
      obtain ⟨nm, tv, p⟩ := l
      have q0 : wr.cell? ⟨cb, o2 + j * 8, none⟩ = some (.string nm) := grown_cell hkw (hcell 0 _ rfl)
      have q1 : wr.cell? ⟨cb, o2 + j * 8 + 1, none⟩ = some (.bool tv) := grown_cell hkw (hcell 1 _ rfl)
      have q2 : wr.cell? ⟨cb, o2 + j * 8 + 2, none⟩ = some (.int .i64 (kind p)) := grown_cell hkw (hcell 2 _ rfl)
      have q3 : wr.cell? ⟨cb, o2 + j * 8 + 3, none⟩ = some (.int .i64 (from_ p)) := grown_cell hkw (hcell 3 _ rfl)
      have q4 : wr.cell? ⟨cb, o2 + j * 8 + 4, none⟩ = some (.int .i64 (to_ p)) := grown_cell hkw (hcell 4 _ rfl)
      have q5 : wr.cell? ⟨cb, o2 + j * 8 + 5, none⟩ = some (.int .i64 (min_ p)) := grown_cell hkw (hcell 5 _ rfl)
      have q6 : wr.cell? ⟨cb, o2 + j * 8 + 6, none⟩ = some (.int .i64 (max_ p)) := grown_cell hkw (hcell 6 _ rfl)
      have q7 : wr.cell? ⟨cb, o2 + j * 8 + 7, none⟩ = some v' := grown_cell hkw (hcell 7 _ rfl)
      have gjc : (j : Int) < (cl : Int) := by omega
      clear hl hcell hkd hkw hns
      have HTW : Hid (∀ w', Kept wr w' → Calls Tryd.prog 33 #[.agg #[.int .i64 (kind p), .int .i64 (from_ p), .int .i64 (to_ p), .int .i64 (min_ p), .int .i64 (max_ p), v']] w' fun e w2 => ∃ v2, e = .returned (.agg #[.int .i64 (kind p), .int .i64 (from_ p), .int .i64 (to_ p), .int .i64 (min_ p), .int .i64 (max_ p), v2]) ∧ PatL g (b + 1) p v2 w2 ∧ Kept w' w2) := fun w' hk' => pat_twin (w0 := w) HKD.out (gtrans HKW.out hk') (by have := HG.out; have := HK.out.size; omega) (Nat.lt_of_lt_of_le HRr.out.lt hk'.size) (by have := HSB.out; omega) (Nat.lt_of_lt_of_le (HR.out.keep HKr.out).lt hk'.size)
      have HPUT : Hid (∀ w2 v2, Kept wr w2 → PatL g (b + 1) p v2 w2 → LexIt (put8 w2 g (j * 8) (.string nm) (.bool tv) (.int .i64 (kind p)) (.int .i64 (from_ p)) (.int .i64 (to_ p)) (.int .i64 (min_ p)) (.int .i64 (max_ p)) v2) g (b + 1) lex (j + 1)) := fun w2 v2 hk2 hp2 => LexIt.put (l := (nm, tv, p)) (HIT.out.keep hk2) (HRr.out.keep hk2) (by omega) HLJ.out hp2
      obtain ⟨kd, hkd⟩ : ∃ kd, kind p = kd := ⟨_, rfl⟩
      obtain ⟨fr, hfr⟩ : ∃ fr, from_ p = fr := ⟨_, rfl⟩
      obtain ⟨tt, hto⟩ : ∃ tt, to_ p = tt := ⟨_, rfl⟩
      obtain ⟨mn, hmn⟩ : ∃ mn, min_ p = mn := ⟨_, rfl⟩
      obtain ⟨mx, hmx⟩ : ∃ mx, max_ p = mx := ⟨_, rfl⟩
      rw [hkd, hfr, hto, hmn, hmx] at HTW HPUT
      rw [hkd] at q2
      rw [hfr] at q3
      rw [hto] at q4
      rw [hmn] at q5
      rw [hmx] at q6
      clear hkd hfr hto hmn hmx
      have HCG : Hid (cb ≠ g ∧ b ≠ g) := by have h1 := HG.out; have h2 := HK.out.size; have h3 := HWS.out; have h4 := HSB.out; exact ⟨by omega, by omega⟩
      go_upto_region 5 with fail
      clear s0 s1 s2 s3
      refine wp_region_held_drew (S := fun X => KeptBut g wr X) (by kernel_rfl) (but_refl g wr) (fun hHeld => ?_)
      refine wpAnyH_take (i := 0) (v := .slice (some ⟨g, 0, none⟩) (nl + 1) (nl + 1)) rfl (by kernel_rfl) (by kernel_rfl) (by kernel_rfl) (fun _ _ _ h => h) (Or.inl ⟨by rfl, fun w' hSw => ?_⟩) (by with_reducible assumption) ?_
      · clear hSw
        go_simp
      try simp only [Act.put, List.setIfInBounds_toArray, List.set_cons_zero, List.set_cons_succ]
      refine wpAnyH_take (i := 1) (v := .int .i64 (j : Int)) rfl (by kernel_rfl) (by kernel_rfl) (by kernel_rfl) (fun _ _ _ h => h) (Or.inl ⟨by rfl, fun w' hSw => ?_⟩) (by with_reducible assumption) ?_
      · clear hSw
        go_simp
      try simp only [Act.put, List.setIfInBounds_toArray, List.set_cons_zero, List.set_cons_succ]
      refine wpAnyH_take (i := 2) (v := .pointer (some ⟨b, 0, none⟩)) rfl (by kernel_rfl) (by kernel_rfl) (by kernel_rfl) (fun _ _ _ h => h) (Or.inl ⟨by rfl, fun w' hSw => ?_⟩) (by with_reducible assumption) ?_
      · clear hSw
        go_simp
      try simp only [Act.put, List.setIfInBounds_toArray, List.set_cons_zero, List.set_cons_succ]
      refine wpAnyH_take (i := 3) (v := .slice (some ⟨cb, o2, none⟩) nl cl) rfl (by kernel_rfl) (by kernel_rfl) (by kernel_rfl) (fun _ _ _ h => h) (Or.inl ⟨by rfl, fun w' hSw => ?_⟩) (by with_reducible assumption) ?_
      · have s0 := (SBox.facts (SBox.but (HB.out.keep HKr.out) hSw HCG.out.2)).1
        clear hSw
        go_simp
      try simp only [Act.put, List.setIfInBounds_toArray, List.set_cons_zero, List.set_cons_succ]
      refine wpAnyH_take (i := 4) (v := .int .i64 (j : Int)) rfl (by kernel_rfl) (by kernel_rfl) (by kernel_rfl) (fun _ _ _ h => h) (Or.inl ⟨by rfl, fun w' hSw => ?_⟩) (by with_reducible assumption) ?_
      · clear hSw
        go_simp
      try simp only [Act.put, List.setIfInBounds_toArray, List.set_cons_zero, List.set_cons_succ]
      refine wpAnyH_take (i := 5) (v := .pointer (some ⟨cb, o2 + j * 8, none⟩)) rfl (by kernel_rfl) (by kernel_rfl) (by kernel_rfl) (fun _ _ _ h => h) (Or.inl ⟨by rfl, fun w' hSw => ?_⟩) (by with_reducible assumption) ?_
      · clear hSw
        go_simp
      try simp only [Act.put, List.setIfInBounds_toArray, List.set_cons_zero, List.set_cons_succ]
      refine wpAnyH_take (i := 6) (v := .pointer (some ⟨cb, o2 + j * 8, none⟩)) rfl (by kernel_rfl) (by kernel_rfl) (by kernel_rfl) (fun _ _ _ h => h) (Or.inl ⟨by rfl, fun w' hSw => ?_⟩) (by with_reducible assumption) ?_
      · clear hSw
        go_simp
      try simp only [Act.put, List.setIfInBounds_toArray, List.set_cons_zero, List.set_cons_succ]
      refine wpAnyH_take (i := 7) (v := .string nm) rfl (by kernel_rfl) (by kernel_rfl) (by kernel_rfl) (fun _ _ _ h => h) (Or.inl ⟨by rfl, fun w' hSw => ?_⟩) (by with_reducible assumption) ?_
      · have s0 := but_cellS hSw q0 HCG.out.1
        clear hSw
        go_simp
      try simp only [Act.put, List.setIfInBounds_toArray, List.set_cons_zero, List.set_cons_succ]
      refine wpAnyH_take (i := 8) (v := .pointer (some ⟨b, 0, none⟩)) rfl (by kernel_rfl) (by kernel_rfl) (by kernel_rfl) (fun _ _ _ h => h) (Or.inl ⟨by rfl, fun w' hSw => ?_⟩) (by with_reducible assumption) ?_
      · clear hSw
        go_simp
      try simp only [Act.put, List.setIfInBounds_toArray, List.set_cons_zero, List.set_cons_succ]
      refine wpAnyH_take (i := 9) (v := .slice (some ⟨cb, o2, none⟩) nl cl) rfl (by kernel_rfl) (by kernel_rfl) (by kernel_rfl) (fun _ _ _ h => h) (Or.inl ⟨by rfl, fun w' hSw => ?_⟩) (by with_reducible assumption) ?_
      · have s0 := (SBox.facts (SBox.but (HB.out.keep HKr.out) hSw HCG.out.2)).1
        clear hSw
        go_simp
      try simp only [Act.put, List.setIfInBounds_toArray, List.set_cons_zero, List.set_cons_succ]
      refine wpAnyH_take (i := 10) (v := .int .i64 (j : Int)) rfl (by kernel_rfl) (by kernel_rfl) (by kernel_rfl) (fun _ _ _ h => h) (Or.inl ⟨by rfl, fun w' hSw => ?_⟩) (by with_reducible assumption) ?_
      · clear hSw
        go_simp
      try simp only [Act.put, List.setIfInBounds_toArray, List.set_cons_zero, List.set_cons_succ]
      refine wpAnyH_take (i := 11) (v := .pointer (some ⟨cb, o2 + j * 8, none⟩)) rfl (by kernel_rfl) (by kernel_rfl) (by kernel_rfl) (fun _ _ _ h => h) (Or.inl ⟨by rfl, fun w' hSw => ?_⟩) (by with_reducible assumption) ?_
      · clear hSw
        go_simp
      try simp only [Act.put, List.setIfInBounds_toArray, List.set_cons_zero, List.set_cons_succ]
      refine wpAnyH_take (i := 12) (v := .pointer (some ⟨cb, o2 + j * 8 + 1, none⟩)) rfl (by kernel_rfl) (by kernel_rfl) (by kernel_rfl) (fun _ _ _ h => h) (Or.inl ⟨by rfl, fun w' hSw => ?_⟩) (by with_reducible assumption) ?_
      · clear hSw
        go_simp
      try simp only [Act.put, List.setIfInBounds_toArray, List.set_cons_zero, List.set_cons_succ]
      refine wpAnyH_take (i := 13) (v := .bool tv) rfl (by kernel_rfl) (by kernel_rfl) (by kernel_rfl) (fun _ _ _ h => h) (Or.inl ⟨by rfl, fun w' hSw => ?_⟩) (by with_reducible assumption) ?_
      · have s0 := but_cellS hSw q1 HCG.out.1
        clear hSw
        go_simp
      try simp only [Act.put, List.setIfInBounds_toArray, List.set_cons_zero, List.set_cons_succ]
      refine wpAnyH_take (i := 14) (v := .pointer (some ⟨b, 0, none⟩)) rfl (by kernel_rfl) (by kernel_rfl) (by kernel_rfl) (fun _ _ _ h => h) (Or.inl ⟨by rfl, fun w' hSw => ?_⟩) (by with_reducible assumption) ?_
      · clear hSw
        go_simp
      try simp only [Act.put, List.setIfInBounds_toArray, List.set_cons_zero, List.set_cons_succ]
      refine wpAnyH_take (i := 15) (v := .slice (some ⟨cb, o2, none⟩) nl cl) rfl (by kernel_rfl) (by kernel_rfl) (by kernel_rfl) (fun _ _ _ h => h) (Or.inl ⟨by rfl, fun w' hSw => ?_⟩) (by with_reducible assumption) ?_
      · have s0 := (SBox.facts (SBox.but (HB.out.keep HKr.out) hSw HCG.out.2)).1
        clear hSw
        go_simp
      try simp only [Act.put, List.setIfInBounds_toArray, List.set_cons_zero, List.set_cons_succ]
      refine wpAnyH_take (i := 16) (v := .int .i64 (j : Int)) rfl (by kernel_rfl) (by kernel_rfl) (by kernel_rfl) (fun _ _ _ h => h) (Or.inl ⟨by rfl, fun w' hSw => ?_⟩) (by with_reducible assumption) ?_
      · clear hSw
        go_simp
      try simp only [Act.put, List.setIfInBounds_toArray, List.set_cons_zero, List.set_cons_succ]
      refine wpAnyH_take (i := 17) (v := .pointer (some ⟨cb, o2 + j * 8, none⟩)) rfl (by kernel_rfl) (by kernel_rfl) (by kernel_rfl) (fun _ _ _ h => h) (Or.inl ⟨by rfl, fun w' hSw => ?_⟩) (by with_reducible assumption) ?_
      · clear hSw
        go_simp
      try simp only [Act.put, List.setIfInBounds_toArray, List.set_cons_zero, List.set_cons_succ]
      refine wpAnyH_take (i := 18) (v := .pointer (some ⟨cb, o2 + j * 8 + 2, none⟩)) rfl (by kernel_rfl) (by kernel_rfl) (by kernel_rfl) (fun _ _ _ h => h) (Or.inl ⟨by rfl, fun w' hSw => ?_⟩) (by with_reducible assumption) ?_
      · clear hSw
        go_simp
      try simp only [Act.put, List.setIfInBounds_toArray, List.set_cons_zero, List.set_cons_succ]
      refine wpAnyH_take (i := 19) (v := .agg #[.int .i64 kd, .int .i64 fr, .int .i64 tt, .int .i64 mn, .int .i64 mx, v']) rfl (by kernel_rfl) (by kernel_rfl) (by kernel_rfl) (fun _ _ _ h => h) (Or.inl ⟨by rfl, fun w' hSw => ?_⟩) (by with_reducible assumption) ?_
      · have t2 := but_cellS hSw q2 HCG.out.1
        have t3 := but_cellS hSw q3 HCG.out.1
        have t4 := but_cellS hSw q4 HCG.out.1
        have t5 := but_cellS hSw q5 HCG.out.1
        have t6 := but_cellS hSw q6 HCG.out.1
        have t7 := but_cellS hSw q7 HCG.out.1
        clear hSw
        go_simp
      try simp only [Act.put, List.setIfInBounds_toArray, List.set_cons_zero, List.set_cons_succ]
      refine wpAnyH_ready (rs := [20]) (by kernel_rfl) (by simp) ?_
      refine AllReadyH.cons (i := 20) rfl (fun K hK => ?_) AllReadyH.nil
      go_simp
      go_wp2_with (go_at_call 33; refine (HTW.out _ (drew_kept wr)).mono ?_; rintro e w3 ⟨v2, rfl, hp3, hw3⟩; obtain ⟨a2, c2, e2⟩ := hp3.1.form; obtain ⟨n2, hn2⟩ : ∃ n2, (kids p).length = n2 := ⟨_, rfl⟩; rw [hn2] at e2; subst e2; clear hn2; have HP3 := hide1 hp3; have HK3 := hide1 (gtrans (drew_kept wr) hw3); clear hw3 hp3)
      refine hK.out _ _ (HK3.out.but g) (fun hHeld2 => ?_)
      clear hK K hHeld
      have hHeld := hHeld2
      clear hHeld2
      try simp only [Act.put, List.setIfInBounds_toArray, List.set_cons_zero, List.set_cons_succ]
      refine wpAnyH_take (i := 21) (v := .agg #[.string nm, .bool tv, .int .i64 kd, .int .i64 fr, .int .i64 tt, .int .i64 mn, .int .i64 mx, .slice a2 n2 c2]) rfl (by kernel_rfl) (by kernel_rfl) (by kernel_rfl) (fun _ _ _ h => h) (Or.inl ⟨by rfl, fun w' hSw => ?_⟩) (by with_reducible assumption) ?_
      · clear hSw
        go_simp
      try simp only [Act.put, List.setIfInBounds_toArray, List.set_cons_zero, List.set_cons_succ]
      refine wpAnyH_take (i := 22) (v := .pointer (some ⟨g, j * 8, none⟩)) rfl (by kernel_rfl) (by kernel_rfl) (by kernel_rfl) (fun _ _ _ h => h) (Or.inl ⟨by rfl, fun w' hSw => ?_⟩) (by with_reducible assumption) ?_
      · have hj1 : (j : Int) < (nl : Int) + 1 := by omega
        clear hSw
        go_simp
      try simp only [Act.put, List.setIfInBounds_toArray, List.set_cons_zero, List.set_cons_succ]
      refine wpAnyH_ready (rs := [23]) (by kernel_rfl) (by simp) ?_
      refine AllReadyH.cons (i := 23) rfl (fun K hK => ?_) AllReadyH.nil
      have t0 := (HRr.out.keep HK3.out).got (k := j * 8) (by omega)
      have z0 := (HRr.out.keep HK3.out).soft (k := j * 8) (by omega)
      have t1 := (HRr.out.keep HK3.out).got (k := j * 8 + 1) (by omega)
      have z1 := (HRr.out.keep HK3.out).soft (k := j * 8 + 1) (by omega)
      have t2 := (HRr.out.keep HK3.out).got (k := j * 8 + 2) (by omega)
      have z2 := (HRr.out.keep HK3.out).soft (k := j * 8 + 2) (by omega)
      have t3 := (HRr.out.keep HK3.out).got (k := j * 8 + 3) (by omega)
      have z3 := (HRr.out.keep HK3.out).soft (k := j * 8 + 3) (by omega)
      have t4 := (HRr.out.keep HK3.out).got (k := j * 8 + 4) (by omega)
      have z4 := (HRr.out.keep HK3.out).soft (k := j * 8 + 4) (by omega)
      have t5 := (HRr.out.keep HK3.out).got (k := j * 8 + 5) (by omega)
      have z5 := (HRr.out.keep HK3.out).soft (k := j * 8 + 5) (by omega)
      have t6 := (HRr.out.keep HK3.out).got (k := j * 8 + 6) (by omega)
      have z6 := (HRr.out.keep HK3.out).soft (k := j * 8 + 6) (by omega)
      have t7 := (HRr.out.keep HK3.out).got (k := j * 8 + 7) (by omega)
      have z7 := (HRr.out.keep HK3.out).soft (k := j * 8 + 7) (by omega)
      go_simp
      clear t0 z0 t1 z1 t2 z2 t3 z3 t4 z4 t5 z5 t6 z6 t7 z7
      refine hK.out _ _ (put8_but (HK3.out.but g)) (fun hHeld2 => ?_)
      clear hK K hHeld
      have hHeld := hHeld2
      clear hHeld2
      try simp only [Act.put, List.setIfInBounds_toArray, List.set_cons_zero, List.set_cons_succ]
      refine wpAnyH_done (by kernel_rfl) ?_ _
      clear hHeld
      clear q0 q1 q2 q3 q4 q5 q6 q7
      obtain ⟨W4, hW4⟩ : ∃ W4, put8 w3 g (j * 8) (.string nm) (.bool tv) (.int .i64 kd) (.int .i64 fr) (.int .i64 tt) (.int .i64 mn) (.int .i64 mx) (.slice a2 n2 c2) = W4 := ⟨_, rfl⟩
      have HIT4 := hide1 (HPUT.out w3 (.slice a2 n2 c2) HK3.out HP3.out)
      have HR4 := hide1 (put8_row (o := j * 8) (x0 := .string nm) (x1 := .bool tv) (x2 := .int .i64 kd) (x3 := .int .i64 fr) (x4 := .int .i64 tt) (x5 := .int .i64 mn) (x6 := .int .i64 mx) (x7 := .slice a2 n2 c2) (HRr.out.keep HK3.out))
      have HK4 : Hid (Kept W (put8 w3 g (j * 8) (.string nm) (.bool tv) (.int .i64 kd) (.int .i64 fr) (.int .i64 tt) (.int .i64 mn) (.int .i64 mx) (.slice a2 n2 c2))) := put8_kept (gtrans HKr.out HK3.out) HG.out
      rw [hW4] at HIT4 HR4 HK4
      unfold put8 at hW4
      rw [hW4]
      clear hW4
      go_wp2_with fail
      go_roundw
      case rel => exact ⟨j + 1, by go_num, by rw [HLEN.out]; omega, HIT4, HR4, HK4⟩
      case measure => simp [intOf]; omega
    · have hjn : j = nl := by omega
      subst hjn
      clear hlt hj
      have e8 : lex.length * 8 = j * 8 := by rw [HLEN.out]
      have HL6 : Hid (LexIt wr g (b + 1) lex lex.length) := by rw [HLEN.out]; exact HIT.out
      have t0 := RowG.got HRr.out (k := j * 8) (by omega)
      have z0 := RowG.soft HRr.out (k := j * 8) (by omega)
      have t1 := RowG.got HRr.out (k := j * 8 + 1) (by omega)
      have z1 := RowG.soft HRr.out (k := j * 8 + 1) (by omega)
      have t2 := RowG.got HRr.out (k := j * 8 + 2) (by omega)
      have z2 := RowG.soft HRr.out (k := j * 8 + 2) (by omega)
      have t3 := RowG.got HRr.out (k := j * 8 + 3) (by omega)
      have z3 := RowG.soft HRr.out (k := j * 8 + 3) (by omega)
      have t4 := RowG.got HRr.out (k := j * 8 + 4) (by omega)
      have z4 := RowG.soft HRr.out (k := j * 8 + 4) (by omega)
      have t5 := RowG.got HRr.out (k := j * 8 + 5) (by omega)
      have z5 := RowG.soft HRr.out (k := j * 8 + 5) (by omega)
      have t6 := RowG.got HRr.out (k := j * 8 + 6) (by omega)
      have z6 := RowG.soft HRr.out (k := j * 8 + 6) (by omega)
      have t7 := RowG.got HRr.out (k := j * 8 + 7) (by omega)
      have z7 := RowG.soft HRr.out (k := j * 8 + 7) (by omega)
      have hj1 : (j : Int) < (j : Int) + 1 := by omega
      go_upto_region 7 with fail
      clear t0 t1 t2 t3 t4 t5 t6 t7 z0 z1 z2 z3 z4 z5 z6 z7 s0 s1 s2 s3 hj1
      have HL7 := hide1 (HL6.out.past (o := j * 8) (x0 := .string markB) (x1 := .bool false) (x2 := .int .i64 0) (x3 := .int .i64 0) (x4 := .int .i64 0) (x5 := .int .i64 0) (x6 := .int .i64 0) (x7 := .slice none 0 0) (Nat.le_of_eq e8))
      have HM7 : Hid ((put8 wr g (j * 8) (.string markB) (.bool false) (.int .i64 0) (.int .i64 0) (.int .i64 0) (.int .i64 0) (.int .i64 0) (.slice none 0 0)).cell? ⟨g, lex.length * 8, none⟩ = some (.string markB)) := by rw [e8]; exact (put8_cells HRr.out (by omega)).1
      have HK7 : Hid (Kept W (put8 wr g (j * 8) (.string markB) (.bool false) (.int .i64 0) (.int .i64 0) (.int .i64 0) (.int .i64 0) (.int .i64 0) (.slice none 0 0))) := put8_kept HKr.out HG.out
      obtain ⟨W7, hW7⟩ : ∃ W7, put8 wr g (j * 8) (.string markB) (.bool false) (.int .i64 0) (.int .i64 0) (.int .i64 0) (.int .i64 0) (.int .i64 0) (.slice none 0 0) = W7 := ⟨_, rfl⟩
      rw [hW7] at HL7 HM7 HK7
      unfold put8 at hW7
      rw [hW7]
      clear hW7 e8 HL6 HIT HRr HKr
      have HB7 := hide1 (HB.out.keep HK7.out)
      have HKW7 := hide1 (gtrans HK.out HK7.out)
      obtain ⟨s0, s1, s2, s3⟩ := HB7.out.facts
      obtain ⟨cur2, hcur2, hmk2⟩ := run_rowG Tryd.underlying23 1 16 str_infoG nn (by omega) (by omega) W7
      go_upto_region 8 with fail
      clear s0 s1 s2 s3 hmk2
      have HK8 : Hid (Kept W7 (W7.alloc (.cells cur2 9))) := (Kept.refl _).alloc _ _
      have HR8 := hide1 (row_alloc W7 cur2 9)
      rw [hcur2] at HR8
      obtain ⟨W8, hW8⟩ : ∃ W8, W7.alloc (.cells cur2 9) = W8 := ⟨_, rfl⟩
      rw [hW8] at HK8 HR8 ⊢
      clear hW8 hcur2
      obtain ⟨gn', hgn⟩ : ∃ gn', W7.heap.size = gn' := ⟨_, rfl⟩
      rw [hgn] at HR8 ⊢
      have HGN : Hid (W7.heap.size ≤ gn') := Nat.le_of_eq hgn
      clear hgn
      obtain ⟨s0, s1, s2, s3⟩ := (HB7.out.keep HK8.out).facts
      obtain ⟨w9, hcp, hr9, he9, hk9⟩ := copy_is HNAM.out (HN.out.keep (gtrans HKW7.out HK8.out)) (by decide) str_one Tryd.underlying23 (by kernel_rfl) HR8.out 3
      have HR9 := hide1 hr9
      have HE9 := hide1 he9
      have HK9 : Hid (Kept W7 w9) := kept_ofBut HK8.out hk9 HGN.out
      clear hr9 he9 hk9
      go_upto_region 9 with fail
      clear s0 s1 s2 s3 hcp
      obtain ⟨s0, s1, s2, s3⟩ := (HB7.out.keep HK9.out).facts
      have t0 := RowG.got HR9.out (k := nn) (by omega)
      have z0 := RowG.soft HR9.out (k := nn) (by omega)
      have hn1 : (nn : Int) < (nn : Int) + 1 := by omega
      go_upto_region 10 with fail
      clear s0 s1 s2 s3 t0 z0 hn1
      have HE10 := hide1 (HE9.out.set (o := nn) (v := .string markB) (by rw [HNAM.out]; omega))
      have HM10 : Hid ((w9.setCell ⟨gn', nn, none⟩ (.string markB)).cell? ⟨gn', names.length, none⟩ = some (.string markB)) := by rw [HNAM.out]; exact HR9.out.same (by omega)
      have HK10 : Hid (Kept W7 (w9.setCell ⟨gn', nn, none⟩ (.string markB))) := keepB HK9.out HGN.out
      obtain ⟨W10, hW10⟩ : ∃ W10, w9.setCell ⟨gn', nn, none⟩ (.string markB) = W10 := ⟨_, rfl⟩
      rw [hW10] at HE10 HM10 HK10 ⊢
      clear hW10 HR9 HE9 HK9 HK8 HR8
      have HB10 := hide1 (HB7.out.keep HK10.out)
      have HKW10 := hide1 (gtrans HKW7.out HK10.out)
      have HR10 := hide1 (HR.out.keep (gtrans HK7.out HK10.out))
      have HBS : Hid (b + 1 < W10.heap.size) := HR10.out.lt
      obtain ⟨s0, s1, s2, s3⟩ := HB10.out.facts
      obtain ⟨cur3, hcur3, hmk3⟩ := run_rowG Tryd.underlying24 2 32 prod_infoG np (by omega) (by omega) W10
      go_upto_region 11 with fail
      clear s0 s1 s2 s3 hmk3
      have HK11 : Hid (Kept W10 (W10.alloc (.cells cur3 40))) := (Kept.refl _).alloc _ _
      have HR11 := hide1 (row_alloc W10 cur3 40)
      rw [hcur3] at HR11
      obtain ⟨W11, hW11⟩ : ∃ W11, W10.alloc (.cells cur3 40) = W11 := ⟨_, rfl⟩
      rw [hW11] at HK11 HR11 ⊢
      clear hW11 hcur3
      obtain ⟨gq, hgq⟩ : ∃ gq, W10.heap.size = gq := ⟨_, rfl⟩
      rw [hgq] at HR11 HBS ⊢
      have HGQ : Hid (W10.heap.size ≤ gq) := Nat.le_of_eq hgq
      clear hgq
      go_wp2_with fail
      go_loopw [7] (LdJ ps gq ((np + 1) * 2) W10) (fun i _ => np - (intOf i).toNat)
      case atStart => exact ⟨0, rfl, Nat.zero_le _, fun i l hi _ => (by omega), HR11, HK11.out⟩
      case round =>
        obtain ⟨m, rfl, hm, HPI, HRm, HKm⟩ := hrel
        rw [HPS.out] at hm
        obtain ⟨s0, s1, s2, s3⟩ := (HB10.out.keep HKm.out).facts
        by_cases hlt : (m : Int) < (np : Int)
        · obtain ⟨p, hp⟩ : ∃ p, ps[m]? = some p := ⟨_, List.getElem?_eq_getElem (by have := HPS.out; omega)⟩
          obtain ⟨cb, o2, cs, ea, hcb, hlen, hcell, v', hcs, hrt⟩ := SliceOf.el HP.out hp
          subst ea hcs
          have hkw := gtrans HKW10.out HKm.out
          have HKW := hide1 hkw
          have k0 : wr.cell? ⟨cb, o2 + m * 2, none⟩ = some (.int .i64 p.1) := grown_cell hkw (hcell 0 _ rfl)
          have k1 := grown_cell hkw (hcell 1 _ rfl)
          have gmc : (m : Int) < (cp : Int) := by omega
          have HPM := hide1 hp
          have hp16 := HROW.out p (List.mem_of_getElem? hp)
          obtain ⟨ar, cr, rfl, hcr, hnr⟩ := hrt.len
          obtain ⟨nr, hnr2⟩ : ∃ nr, p.2.length = nr := ⟨_, rfl⟩
          rw [hnr2] at hrt hcr hnr k1 hp16
          have HNR := hide1 hnr2
          have HRT := hide1 hrt
          obtain ⟨l, hl⟩ : ∃ l, p.1 = l := ⟨_, rfl⟩
          have HLE := hide1 hl
          rw [hl] at k0
          have gnr : (nr : Int) ≤ 8796093022000 := by omega
          have HPB := hide1 (PBox.new wr (.int .i64 l) (.slice ar nr cr))
          have HK12 : Hid (Kept wr (wr.alloc (.cells #[.int .i64 l, .slice ar nr cr] 40))) := (Kept.refl wr).alloc _ _
          clear hp hcell hrt hnr2 hl hkw hp16
          go_upto_region 15 with fail
          clear k0 k1 s0 s1 s2 s3
          obtain ⟨W12, hW12⟩ : ∃ W12, wr.alloc (.cells #[.int .i64 l, .slice ar nr cr] 40) = W12 := ⟨_, rfl⟩
          rw [hW12] at HPB HK12 ⊢
          clear hW12
          obtain ⟨pb, hpb⟩ : ∃ pb, wr.heap.size = pb := ⟨_, rfl⟩
          rw [hpb] at HPB ⊢
          have HPG : Hid (gq < pb) := by rw [← hpb]; exact HRm.out.lt
          clear hpb
          obtain ⟨p0, p1⟩ := HPB.out.cells
          obtain ⟨cur4, hcur4, hmk4⟩ := run_rowG Tryd.underlying38 2 16 sym_infoG nr (by omega) (by omega) W12
          go_upto_region 16 with fail
          clear p0 p1 hmk4
          have HK13 : Hid (Kept W12 (W12.alloc (.cells cur4 58))) := (Kept.refl _).alloc _ _
          have HR13 := hide1 (row_alloc W12 cur4 58)
          rw [hcur4] at HR13
          obtain ⟨W13, hW13⟩ : ∃ W13, W12.alloc (.cells cur4 58) = W13 := ⟨_, rfl⟩
          rw [hW13] at HK13 HR13 ⊢
          clear hW13 hcur4
          obtain ⟨gr, hgr⟩ : ∃ gr, W12.heap.size = gr := ⟨_, rfl⟩
          rw [hgr] at HR13 ⊢
          have HGR : Hid (W12.heap.size ≤ gr) := Nat.le_of_eq hgr
          have HPR : Hid (pb < gr) := by rw [← hgr]; exact HPB.out.lt
          clear hgr
          obtain ⟨p0, p1⟩ := (HPB.out.keep HK13.out).cells
          obtain ⟨w14, hcp, hr14, he14, hk14⟩ := copy_is HNR.out (HRT.out.keep (gtrans HKW.out (gtrans HK12.out HK13.out))) (by decide) sym_one Tryd.underlying38 (by kernel_rfl) HR13.out 3
          have HR14 := hide1 hr14
          have HE14 := hide1 he14
          have HK14 : Hid (Kept W12 w14) := kept_ofBut HK13.out hk14 HGR.out
          clear hr14 he14 hk14
          go_upto_region 17 with fail
          clear p0 p1 hcp
          obtain ⟨p0, p1⟩ := (HPB.out.keep HK14.out).cells
          have t0 := RowG.got HR14.out (k := nr * 2) (by omega)
          have z0 := RowG.soft HR14.out (k := nr * 2) (by omega)
          have t1 := RowG.got HR14.out (k := nr * 2 + 1) (by omega)
          have z1 := RowG.soft HR14.out (k := nr * 2 + 1) (by omega)
          have hn1 : (nr : Int) < (nr : Int) + 1 := by omega
          go_upto_region 18 with fail
          clear p0 p1 t0 t1 z0 z1 hn1
          have HE15 := hide1 ((HE14.out.set (o := nr * 2) (v := .int .i64 77) (by rw [HNR.out]; omega)).set (o := nr * 2 + 1) (v := .int .i64 0) (by rw [HNR.out]; omega))
          have HM15 : Hid (((w14.setCell ⟨gr, nr * 2, none⟩ (.int .i64 77)).setCell ⟨gr, nr * 2 + 1, none⟩ (.int .i64 0)).cell? ⟨gr, nr * 2, none⟩ = some (.int .i64 77)) := by show _ = _; rw [set_other (by omega)]; exact HR14.out.same (by omega)
          have HK15 : Hid (Kept W12 ((w14.setCell ⟨gr, nr * 2, none⟩ (.int .i64 77)).setCell ⟨gr, nr * 2 + 1, none⟩ (.int .i64 0))) := keepB (keepB HK14.out HGR.out) HGR.out
          obtain ⟨W15, hW15⟩ : ∃ W15, (w14.setCell ⟨gr, nr * 2, none⟩ (.int .i64 77)).setCell ⟨gr, nr * 2 + 1, none⟩ (.int .i64 0) = W15 := ⟨_, rfl⟩
          rw [hW15] at HE15 HM15 HK15 ⊢
          clear hW15 HR14 HE14 HK14 HR13 HK13
          have HK16 := hide1 (gtrans HK12.out HK15.out)
          have HPB15 := hide1 (HPB.out.keep HK15.out)
          have HRQ := hide1 (HRm.out.keep HK16.out)
          have HGS : Hid (gr < W15.heap.size) := World.block_lt_of_cell? W15 _ HM15.out
          have HPQ : Hid (pb ≠ gq) := by have := HPG.out; show _ ≠ _; omega
          refine wp_region_held_drew (S := fun X => KeptBut gq W15 X) (by kernel_rfl) (but_refl gq W15) (fun hHeld => ?_)
          have HKD := hide1 (drew_kept W15)
          generalize W15.drew = D at HKD hHeld ⊢
          have HRD := hide1 (HRQ.out.keep HKD.out)
          have HPI2 := hide1 (PrIt.put (HPI.out.keep (gtrans HK16.out HKD.out)) HRD.out (by omega) HPM.out HLE.out HNR.out (show gq < gr by have := HPG.out; have := HPR.out; omega) (Nat.lt_of_lt_of_le HGS.out HKD.out.size) (HE15.out.keep HKD.out) (grown_cell HKD.out HM15.out))
          have HRQ2 := hide1 ((HRD.out.set (m * 2) (.int .i64 l)).set (m * 2 + 1) (.slice (some ⟨gr, 0, none⟩) nr (nr + 1)))
          have HK17 : Hid (Kept W10 ((D.setCell ⟨gq, m * 2, none⟩ (.int .i64 l)).setCell ⟨gq, m * 2 + 1, none⟩ (.slice (some ⟨gr, 0, none⟩) nr (nr + 1)))) := keepB (keepB (gtrans HKm.out (gtrans HK16.out HKD.out)) HGQ.out) HGQ.out
          refine wpAnyH_take (i := 0) (v := .slice (some ⟨gq, 0, none⟩) (np + 1) (np + 1)) rfl (by kernel_rfl) (by kernel_rfl) (by kernel_rfl) (fun _ _ _ h => h) (Or.inl ⟨by rfl, fun w' hSw => ?_⟩) (by with_reducible assumption) ?_
          · clear hSw
            go_simp
          try simp only [Act.put, List.setIfInBounds_toArray, List.set_cons_zero, List.set_cons_succ]
          refine wpAnyH_take (i := 1) (v := .int .i64 (m : Int)) rfl (by kernel_rfl) (by kernel_rfl) (by kernel_rfl) (fun _ _ _ h => h) (Or.inl ⟨by rfl, fun w' hSw => ?_⟩) (by with_reducible assumption) ?_
          · clear hSw
            go_simp
          try simp only [Act.put, List.setIfInBounds_toArray, List.set_cons_zero, List.set_cons_succ]
          refine wpAnyH_take (i := 2) (v := .pointer (some ⟨pb, 0, none⟩)) rfl (by kernel_rfl) (by kernel_rfl) (by kernel_rfl) (fun _ _ _ h => h) (Or.inl ⟨by rfl, fun w' hSw => ?_⟩) (by with_reducible assumption) ?_
          · clear hSw
            go_simp
          try simp only [Act.put, List.setIfInBounds_toArray, List.set_cons_zero, List.set_cons_succ]
          refine wpAnyH_take (i := 3) (v := .int .i64 l) rfl (by kernel_rfl) (by kernel_rfl) (by kernel_rfl) (fun _ _ _ h => h) (Or.inl ⟨by rfl, fun w' hSw => ?_⟩) (by with_reducible assumption) ?_
          · have s0 := (PBox.but HPB15.out hSw HPQ.out).cells.1
            clear hSw
            go_simp
          try simp only [Act.put, List.setIfInBounds_toArray, List.set_cons_zero, List.set_cons_succ]
          refine wpAnyH_take (i := 4) (v := .slice (some ⟨gr, 0, none⟩) (nr + 1) (nr + 1)) rfl (by kernel_rfl) (by kernel_rfl) (by kernel_rfl) (fun _ _ _ h => h) (Or.inl ⟨by rfl, fun w' hSw => ?_⟩) (by with_reducible assumption) ?_
          · clear hSw
            go_simp
          try simp only [Act.put, List.setIfInBounds_toArray, List.set_cons_zero, List.set_cons_succ]
          refine wpAnyH_take (i := 5) (v := .pointer (some ⟨pb, 1, none⟩)) rfl (by kernel_rfl) (by kernel_rfl) (by kernel_rfl) (fun _ _ _ h => h) (Or.inl ⟨by rfl, fun w' hSw => ?_⟩) (by with_reducible assumption) ?_
          · clear hSw
            go_simp
          try simp only [Act.put, List.setIfInBounds_toArray, List.set_cons_zero, List.set_cons_succ]
          refine wpAnyH_take (i := 6) (v := .slice ar nr cr) rfl (by kernel_rfl) (by kernel_rfl) (by kernel_rfl) (fun _ _ _ h => h) (Or.inl ⟨by rfl, fun w' hSw => ?_⟩) (by with_reducible assumption) ?_
          · have s0 := (PBox.but HPB15.out hSw HPQ.out).cells.2
            clear hSw
            go_simp
          try simp only [Act.put, List.setIfInBounds_toArray, List.set_cons_zero, List.set_cons_succ]
          refine wpAnyH_take (i := 7) (v := .int .i64 (nr : Int)) rfl (by kernel_rfl) (by kernel_rfl) (by kernel_rfl) (fun _ _ _ h => h) (Or.inl ⟨by rfl, fun w' hSw => ?_⟩) (by with_reducible assumption) ?_
          · clear hSw
            go_simp
          try simp only [Act.put, List.setIfInBounds_toArray, List.set_cons_zero, List.set_cons_succ]
          refine wpAnyH_take (i := 8) (v := .slice (some ⟨gr, 0, none⟩) nr (nr + 1)) rfl (by kernel_rfl) (by kernel_rfl) (by kernel_rfl) (fun _ _ _ h => h) (Or.inl ⟨by rfl, fun w' hSw => ?_⟩) (by with_reducible assumption) ?_
          · have hn1 : (nr : Int) ≤ (nr : Int) + 1 := by omega
            clear hSw
            go_simp
          try simp only [Act.put, List.setIfInBounds_toArray, List.set_cons_zero, List.set_cons_succ]
          refine wpAnyH_take (i := 9) (v := .agg #[.int .i64 l, .slice (some ⟨gr, 0, none⟩) nr (nr + 1)]) rfl (by kernel_rfl) (by kernel_rfl) (by kernel_rfl) (fun _ _ _ h => h) (Or.inl ⟨by rfl, fun w' hSw => ?_⟩) (by with_reducible assumption) ?_
          · clear hSw
            go_simp
          try simp only [Act.put, List.setIfInBounds_toArray, List.set_cons_zero, List.set_cons_succ]
          refine wpAnyH_take (i := 10) (v := .pointer (some ⟨gq, m * 2, none⟩)) rfl (by kernel_rfl) (by kernel_rfl) (by kernel_rfl) (fun _ _ _ h => h) (Or.inl ⟨by rfl, fun w' hSw => ?_⟩) (by with_reducible assumption) ?_
          · have hm1 : (m : Int) < (np : Int) + 1 := by omega
            clear hSw
            go_simp
          try simp only [Act.put, List.setIfInBounds_toArray, List.set_cons_zero, List.set_cons_succ]
          have hc0 : m * 2 < (np + 1) * 2 := by omega
          have hc1 : m * 2 + 1 < (np + 1) * 2 := by omega
          have t0 := HRD.out.got hc0
          have z0 := HRD.out.soft hc0
          have t1 := HRD.out.got hc1
          have z1 := HRD.out.soft hc1
          clear hc0 hc1
          refine wpAnyH_ready (rs := [11]) (by kernel_rfl) (by simp) ?_
          refine AllReadyH.cons (i := 11) rfl (fun K hK => ?_) AllReadyH.nil
          go_simp
          clear t0 t1 z0 z1
          refine hK.out _ _ (but_set (but_set (HKD.out.but gq) _ _) _ _) (fun hHeld2 => ?_)
          clear hK K hHeld
          have hHeld := hHeld2
          clear hHeld2
          try simp only [Act.put, List.setIfInBounds_toArray, List.set_cons_zero, List.set_cons_succ]
          refine wpAnyH_done (by kernel_rfl) ?_ _
          clear hHeld
          obtain ⟨W17, hW17⟩ : ∃ W17, (D.setCell ⟨gq, m * 2, none⟩ (.int .i64 l)).setCell ⟨gq, m * 2 + 1, none⟩ (.slice (some ⟨gr, 0, none⟩) nr (nr + 1)) = W17 := ⟨_, rfl⟩
          rw [hW17] at HPI2 HRQ2 HK17 ⊢
          clear hW17
          go_wp2_with fail
          go_roundw
          case rel => exact ⟨m + 1, by go_num, by rw [HPS.out]; omega, HPI2, HRQ2, HK17⟩
          case measure => simp [intOf]; omega
        · have hmn : m = np := by omega
          subst hmn
          clear hlt hm
          have e2 : ps.length * 2 = m * 2 := by rw [HPS.out]
          have HP6 : Hid (PrIt wr gq ps ps.length) := by rw [HPS.out]; exact HPI.out
          have t0 := RowG.got HRm.out (k := m * 2) (by omega)
          have z0 := RowG.soft HRm.out (k := m * 2) (by omega)
          have t1 := RowG.got HRm.out (k := m * 2 + 1) (by omega)
          have z1 := RowG.soft HRm.out (k := m * 2 + 1) (by omega)
          have hj1 : (m : Int) < (m : Int) + 1 := by omega
          go_upto_region 20 with fail
          clear t0 t1 z0 z1 s0 s1 s2 s3 hj1
          have HP7 := hide1 ((HP6.out.set (o := m * 2) (x := .int .i64 (-77)) (by omega)).set (o := m * 2 + 1) (x := .slice none 0 0) (by omega))
          have HM17 : Hid (((wr.setCell ⟨gq, m * 2, none⟩ (.int .i64 (-77))).setCell ⟨gq, m * 2 + 1, none⟩ (.slice none 0 0)).cell? ⟨gq, ps.length * 2, none⟩ = some (.int .i64 (-77))) := by show _ = _; rw [e2, set_other (by omega)]; exact HRm.out.same (by omega)
          have HK17 : Hid (Kept W10 ((wr.setCell ⟨gq, m * 2, none⟩ (.int .i64 (-77))).setCell ⟨gq, m * 2 + 1, none⟩ (.slice none 0 0))) := keepB (keepB HKm.out HGQ.out) HGQ.out
          obtain ⟨W17, hW17⟩ : ∃ W17, (wr.setCell ⟨gq, m * 2, none⟩ (.int .i64 (-77))).setCell ⟨gq, m * 2 + 1, none⟩ (.slice none 0 0) = W17 := ⟨_, rfl⟩
          rw [hW17] at HP7 HM17 HK17 ⊢
          clear hW17 e2 HP6 HPI HRm HKm
          have HB17 := hide1 (HB10.out.keep HK17.out)
          have HR17 := hide1 (HR10.out.keep HK17.out)
          have HL17 := hide1 (HL7.out.keep (gtrans HK10.out HK17.out))
          have HQ17 := hide1 (grown_cell (gtrans HK10.out HK17.out) HM7.out)
          have HE17 := hide1 (HE10.out.keep HK17.out)
          have HN17 := hide1 (grown_cell HK17.out HM10.out)
          have HKW17 := hide1 (gtrans HKW10.out HK17.out)
          refine wp_region_held_drew (S := fun X => KeptBut (b + 1) W17 X) (by kernel_rfl) (but_refl (b + 1) W17) (fun hHeld => ?_)
          have HKD := hide1 (drew_kept W17)
          generalize W17.drew = D at HKD hHeld ⊢
          have HRD := hide1 (HR17.out.keep HKD.out)
          have HKWD := hide1 (gtrans HKW17.out HKD.out)
          refine wpAnyH_take (i := 0) (v := .slice (some ⟨g, 0, none⟩) (j + 1) (j + 1)) rfl (by kernel_rfl) (by kernel_rfl) (by kernel_rfl) (fun _ _ _ h => h) (Or.inl ⟨by rfl, fun w' hSw => ?_⟩) (by with_reducible assumption) ?_
          · clear hSw
            go_simp
          try simp only [Act.put, List.setIfInBounds_toArray, List.set_cons_zero, List.set_cons_succ]
          refine wpAnyH_take (i := 1) (v := .pointer (some ⟨b, 0, none⟩)) rfl (by kernel_rfl) (by kernel_rfl) (by kernel_rfl) (fun _ _ _ h => h) (Or.inl ⟨by rfl, fun w' hSw => ?_⟩) (by with_reducible assumption) ?_
          · clear hSw
            go_simp
          try simp only [Act.put, List.setIfInBounds_toArray, List.set_cons_zero, List.set_cons_succ]
          refine wpAnyH_take (i := 2) (v := .slice al j cl) rfl (by kernel_rfl) (by kernel_rfl) (by kernel_rfl) (fun _ _ _ h => h) (Or.inl ⟨by rfl, fun w' hSw => ?_⟩) (by with_reducible assumption) ?_
          · have s0 := (SBox.facts (SBox.but HB17.out hSw (show b ≠ b + 1 by omega))).1
            clear hSw
            go_simp
          try simp only [Act.put, List.setIfInBounds_toArray, List.set_cons_zero, List.set_cons_succ]
          refine wpAnyH_take (i := 3) (v := .int .i64 (j : Int)) rfl (by kernel_rfl) (by kernel_rfl) (by kernel_rfl) (fun _ _ _ h => h) (Or.inl ⟨by rfl, fun w' hSw => ?_⟩) (by with_reducible assumption) ?_
          · clear hSw
            go_simp
          try simp only [Act.put, List.setIfInBounds_toArray, List.set_cons_zero, List.set_cons_succ]
          refine wpAnyH_take (i := 4) (v := .slice (some ⟨g, 0, none⟩) j (j + 1)) rfl (by kernel_rfl) (by kernel_rfl) (by kernel_rfl) (fun _ _ _ h => h) (Or.inl ⟨by rfl, fun w' hSw => ?_⟩) (by with_reducible assumption) ?_
          · have hn1 : (j : Int) ≤ (j : Int) + 1 := by omega
            clear hSw
            go_simp
          try simp only [Act.put, List.setIfInBounds_toArray, List.set_cons_zero, List.set_cons_succ]
          refine wpAnyH_take (i := 5) (v := .slice (some ⟨gn', 0, none⟩) (nn + 1) (nn + 1)) rfl (by kernel_rfl) (by kernel_rfl) (by kernel_rfl) (fun _ _ _ h => h) (Or.inl ⟨by rfl, fun w' hSw => ?_⟩) (by with_reducible assumption) ?_
          · clear hSw
            go_simp
          try simp only [Act.put, List.setIfInBounds_toArray, List.set_cons_zero, List.set_cons_succ]
          refine wpAnyH_take (i := 6) (v := .pointer (some ⟨b, 1, none⟩)) rfl (by kernel_rfl) (by kernel_rfl) (by kernel_rfl) (fun _ _ _ h => h) (Or.inl ⟨by rfl, fun w' hSw => ?_⟩) (by with_reducible assumption) ?_
          · clear hSw
            go_simp
          try simp only [Act.put, List.setIfInBounds_toArray, List.set_cons_zero, List.set_cons_succ]
          refine wpAnyH_take (i := 7) (v := .slice an nn cn) rfl (by kernel_rfl) (by kernel_rfl) (by kernel_rfl) (fun _ _ _ h => h) (Or.inl ⟨by rfl, fun w' hSw => ?_⟩) (by with_reducible assumption) ?_
          · have s0 := (SBox.facts (SBox.but HB17.out hSw (show b ≠ b + 1 by omega))).2.1
            clear hSw
            go_simp
          try simp only [Act.put, List.setIfInBounds_toArray, List.set_cons_zero, List.set_cons_succ]
          refine wpAnyH_take (i := 8) (v := .int .i64 (nn : Int)) rfl (by kernel_rfl) (by kernel_rfl) (by kernel_rfl) (fun _ _ _ h => h) (Or.inl ⟨by rfl, fun w' hSw => ?_⟩) (by with_reducible assumption) ?_
          · clear hSw
            go_simp
          try simp only [Act.put, List.setIfInBounds_toArray, List.set_cons_zero, List.set_cons_succ]
          refine wpAnyH_take (i := 9) (v := .slice (some ⟨gn', 0, none⟩) nn (nn + 1)) rfl (by kernel_rfl) (by kernel_rfl) (by kernel_rfl) (fun _ _ _ h => h) (Or.inl ⟨by rfl, fun w' hSw => ?_⟩) (by with_reducible assumption) ?_
          · have hn1 : (nn : Int) ≤ (nn : Int) + 1 := by omega
            clear hSw
            go_simp
          try simp only [Act.put, List.setIfInBounds_toArray, List.set_cons_zero, List.set_cons_succ]
          refine wpAnyH_take (i := 10) (v := .pointer (some ⟨b, 2, none⟩)) rfl (by kernel_rfl) (by kernel_rfl) (by kernel_rfl) (fun _ _ _ h => h) (Or.inl ⟨by rfl, fun w' hSw => ?_⟩) (by with_reducible assumption) ?_
          · clear hSw
            go_simp
          try simp only [Act.put, List.setIfInBounds_toArray, List.set_cons_zero, List.set_cons_succ]
          refine wpAnyH_take (i := 11) (v := .int .i64 st) rfl (by kernel_rfl) (by kernel_rfl) (by kernel_rfl) (fun _ _ _ h => h) (Or.inl ⟨by rfl, fun w' hSw => ?_⟩) (by with_reducible assumption) ?_
          · have s0 := (SBox.facts (SBox.but HB17.out hSw (show b ≠ b + 1 by omega))).2.2.1
            clear hSw
            go_simp
          try simp only [Act.put, List.setIfInBounds_toArray, List.set_cons_zero, List.set_cons_succ]
          refine wpAnyH_take (i := 12) (v := .slice (some ⟨gq, 0, none⟩) (m + 1) (m + 1)) rfl (by kernel_rfl) (by kernel_rfl) (by kernel_rfl) (fun _ _ _ h => h) (Or.inl ⟨by rfl, fun w' hSw => ?_⟩) (by with_reducible assumption) ?_
          · clear hSw
            go_simp
          try simp only [Act.put, List.setIfInBounds_toArray, List.set_cons_zero, List.set_cons_succ]
          refine wpAnyH_take (i := 13) (v := .pointer (some ⟨b, 3, none⟩)) rfl (by kernel_rfl) (by kernel_rfl) (by kernel_rfl) (fun _ _ _ h => h) (Or.inl ⟨by rfl, fun w' hSw => ?_⟩) (by with_reducible assumption) ?_
          · clear hSw
            go_simp
          try simp only [Act.put, List.setIfInBounds_toArray, List.set_cons_zero, List.set_cons_succ]
          refine wpAnyH_take (i := 14) (v := .slice ap m cp) rfl (by kernel_rfl) (by kernel_rfl) (by kernel_rfl) (fun _ _ _ h => h) (Or.inl ⟨by rfl, fun w' hSw => ?_⟩) (by with_reducible assumption) ?_
          · have s0 := (SBox.facts (SBox.but HB17.out hSw (show b ≠ b + 1 by omega))).2.2.2
            clear hSw
            go_simp
          try simp only [Act.put, List.setIfInBounds_toArray, List.set_cons_zero, List.set_cons_succ]
          refine wpAnyH_take (i := 15) (v := .int .i64 (m : Int)) rfl (by kernel_rfl) (by kernel_rfl) (by kernel_rfl) (fun _ _ _ h => h) (Or.inl ⟨by rfl, fun w' hSw => ?_⟩) (by with_reducible assumption) ?_
          · clear hSw
            go_simp
          try simp only [Act.put, List.setIfInBounds_toArray, List.set_cons_zero, List.set_cons_succ]
          refine wpAnyH_take (i := 16) (v := .slice (some ⟨gq, 0, none⟩) m (m + 1)) rfl (by kernel_rfl) (by kernel_rfl) (by kernel_rfl) (fun _ _ _ h => h) (Or.inl ⟨by rfl, fun w' hSw => ?_⟩) (by with_reducible assumption) ?_
          · have hn1 : (m : Int) ≤ (m : Int) + 1 := by omega
            clear hSw
            go_simp
          try simp only [Act.put, List.setIfInBounds_toArray, List.set_cons_zero, List.set_cons_succ]
          refine wpAnyH_take (i := 17) (v := .agg #[.slice (some ⟨g, 0, none⟩) j (j + 1), .slice (some ⟨gn', 0, none⟩) nn (nn + 1), .int .i64 st, .slice (some ⟨gq, 0, none⟩) m (m + 1)]) rfl (by kernel_rfl) (by kernel_rfl) (by kernel_rfl) (fun _ _ _ h => h) (Or.inl ⟨by rfl, fun w' hSw => ?_⟩) (by with_reducible assumption) ?_
          · clear hSw
            go_simp
          try simp only [Act.put, List.setIfInBounds_toArray, List.set_cons_zero, List.set_cons_succ]
          refine wpAnyH_ready (rs := [18]) (by kernel_rfl) (by simp) ?_
          refine AllReadyH.cons (i := 18) rfl (fun K hK => ?_) AllReadyH.nil
          have t0 := HRD.out.facts.1
          have z0 := sbox_free HRD.out 0
          have t1 := HRD.out.facts.2.1
          have z1 := sbox_free HRD.out 1
          have t2 := HRD.out.facts.2.2.1
          have z2 := sbox_free HRD.out 2
          have t3 := HRD.out.facts.2.2.2
          have z3 := sbox_free HRD.out 3
          go_simp
          clear t0 t1 t2 t3 z0 z1 z2 z3
          refine hK.out _ _ (but_set (but_set (but_set (but_set (HKD.out.but (b + 1)) _ _) _ _) _ _) _ _) (fun hHeld2 => ?_)
          clear hK K hHeld
          have hHeld := hHeld2
          clear hHeld2
          try simp only [Act.put, List.setIfInBounds_toArray, List.set_cons_zero, List.set_cons_succ]
          refine wpAnyH_done (by kernel_rfl) ?_ _
          clear hHeld
          go_wp2_with fail
          refine bodyPost_ret (results_cell_row rfl _ _ (b + 1) 26 _ (0, 0) _ rfl (HRD.out.fill _ _ _ _) Tryd.underlying26 rfl (spec4_size _ _ _ _)) rfl ?_
          have hgb : b + 1 < g := by have := HG.out; have := HWS.out; omega
          have hnb : b + 1 < gn' := by have := HGN.out; have := HK7.out.size; have := HWS.out; omega
          have hqb : b + 1 < gq := HBS.out
          exact ⟨g, gn', gq, rfl, lent_box HKD.out HL17.out HQ17.out HE17.out HN17.out HP7.out HM17.out hgb hnb hqb, keepB (keepB (keepB (keepB HKWD.out (by have := HSB.out; omega)) (by have := HSB.out; omega)) (by have := HSB.out; omega)) (by have := HSB.out; omega)⟩

end Ex
end Go.Proofs.YtooelfjceehmmaaDoor
