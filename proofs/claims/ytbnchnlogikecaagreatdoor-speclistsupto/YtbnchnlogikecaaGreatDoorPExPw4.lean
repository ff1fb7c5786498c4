import Derived.Test.YtbnchnlogikecaaGreatDoorPExDg5
namespace Go.Proofs.YtbnchnlogikecaaGreatDoor
open Go.RowKit
attribute [local go_sem] Oper.semAt_some
set_option linter.unusedSimpArgs false
set_option maxRecDepth 100000
set_option maxHeartbeats 4000000
namespace Ex
def timesA (mn mx : Int) : List Int :=
  if mn = 0 ∧ mx = -1 then [42] else if mn = 1 ∧ mx = -1 then [43] else if mn = 0 ∧ mx = 1 then [63]
  else if mx = mn then 123 :: (decW mn ++ [125]) else if mx = -1 then 123 :: (decW mn ++ [44, 125]) else 123 :: (decW mn ++ 44 :: (decW mx ++ [125]))
theorem timesA_len (mn mx : Int) : (timesA mn mx).length ≤ 11 := by
  have h1 := (decW_len mn).2
  have h2 := (decW_len mx).2
  unfold timesA
  (repeat' split) <;> simp <;> omega
theorem PowAt.grown {w w' : World} {base : Nat} {v : Value} {xs : List Int} (h : PowAt w) (ho : OutAt w base v xs) (hb : 1 < base) (hg : w.grownBy w' v.ownBlock) : PowAt w' :=
  ⟨hg.cell h.1 (fun e => absurd (ho.lt 1 e.symm).1 (by omega)), hg.cell h.2 (fun e => absurd (ho.lt 1 e.symm).1 (by omega))⟩
theorem writeTimesA_is (base : Nat) (w : World) (v : Value) (xs : List Int) (mn mx : Int) (ho : OutAt w base v xs) (hb : base ≤ w.heap.size) (hl : xs.length ≤ 800000000) (h0 : 0 ≤ mn) (h1 : mn ≤ 1000) (h2 : mx = -1 ∨ mn ≤ mx ∧ mx ≤ 1000) (hP : PowAt w) (hPB : 1 < base) :
    Calls Tryz.prog 64 #[v, .int .i64 mn, .int .i64 mx] w fun r w' => WGives base w v (xs ++ timesA mn mx) r w' := by
  obtain ⟨a, cap, rfl⟩ := ho.form
  have HO := hide1 ho
  have HP := hide1 hP
  have HPB := hide1 hPB
  have HG := hide1 (grown_kept (Kept.refl w) (Value.slice a xs.length cap).ownBlock)
  have HW := hide1 (Own1.refl w (Value.slice a xs.length cap))
  clear ho hP hPB
  go_enter Tryz.func64, Tryz.ntmps64
  by_cases hm : mx = -1
  · clear h2
    subst hm
    by_cases hm0 : mn = 0
    · subst hm0
      go_wp2_with (first
        | (at_builtin; refine wpl_out_one rfl _ _ rfl w _ base _ _ xs xs.length rfl 42 _ (by rfl) HO.out HG.out HW.out (by rfl) (by omega) hb ?_; intro g9 c9 w9 cs1 hcs hcl ho9 hg9 hw9; have HO1 := hide1 ho9; have HG1 := hide1 hg9; have HW1 := hide1 hw9; have HCS1 := hide1 hcs; have hcl1 : cs1.length ≤ xs.length + 1 := (by omega); clear ho9 hg9 hw9 hcs hcl))
      go_ret
      have e : xs ++ timesA 0 (-1) = cs1 := by rw [HCS1.out]; rfl
      rw [e]
      exact ⟨_, rfl, HO1.out, HG1.out, HW1.out⟩
    · by_cases hm1 : mn = 1
      · subst hm1
        go_wp2_with (first
          | (at_builtin; refine wpl_out_one rfl _ _ rfl w _ base _ _ xs xs.length rfl 43 _ (by rfl) HO.out HG.out HW.out (by rfl) (by omega) hb ?_; intro g9 c9 w9 cs1 hcs hcl ho9 hg9 hw9; have HO1 := hide1 ho9; have HG1 := hide1 hg9; have HW1 := hide1 hw9; have HCS1 := hide1 hcs; have hcl1 : cs1.length ≤ xs.length + 1 := (by omega); clear ho9 hg9 hw9 hcs hcl))
        go_ret
        have e : xs ++ timesA 1 (-1) = cs1 := by rw [HCS1.out]; rfl
        rw [e]
        exact ⟨_, rfl, HO1.out, HG1.out, HW1.out⟩
      · have HT : Hid (timesA mn (-1) = 123 :: (decW mn ++ [44, 125])) := by
          show _ = _
          unfold timesA
          rw [if_neg (by omega), if_neg (by omega), if_neg (by omega), if_neg (by omega), if_pos rfl]
        go_wp2_with (first
          | (have _g := HO3; clear _g; at_builtin; refine wpl_out_one rfl _ _ rfl w _ base _ _ cs3 cs3.length rfl 125 _ (by rfl) HO3.out HG3.out HW3.out (by rfl) (by omega) hb ?_; intro g9 c9 w9 cs4 hcs hcl ho9 hg9 hw9; have HO4 := hide1 ho9; have HG4 := hide1 hg9; have HW4 := hide1 hw9; have HCS4 := hide1 hcs; have hcl4 : cs4.length ≤ xs.length + 7 := (by omega); clear ho9 hg9 hw9 hcs hcl)
          | (have _g := HO2; clear _g; at_builtin; refine wpl_out_one rfl _ _ rfl w _ base _ _ cs2 cs2.length rfl 44 _ (by rfl) HO2.out HG2.out HW2.out (by rfl) (by omega) hb ?_; intro g9 c9 w9 cs3 hcs hcl ho9 hg9 hw9; have HO3 := hide1 ho9; have HG3 := hide1 hg9; have HW3 := hide1 hw9; have HCS3 := hide1 hcs; have hcl3 : cs3.length ≤ xs.length + 6 := (by omega); clear ho9 hg9 hw9 hcs hcl)
          | (have _g := HO1; clear _g; go_at_call 82; refine (AppendInt2_is base _ _ cs1 mn (by exact HO1.out) (by have := HG1.out.size; omega) (by omega) (by omega) (by omega) (HP.out.grown HO.out HPB.out HG1.out)).mono ?_; rintro r w8 ⟨v8, rfl, ho8, hg8, hw8⟩; obtain ⟨cs2, hcs⟩ : ∃ l, cs1 ++ decW mn = l := ⟨_, rfl⟩; rw [hcs] at ho8; have hcl2 : cs2.length ≤ xs.length + 5 := (by rw [← hcs, List.length_append]; have := (decW_len mn).2; omega); obtain ⟨a8, c8, e8⟩ := ho8.form; subst e8; have HO2 := hide1 ho8; have HG2 := hide1 (grown_trans HG1.out HW1.out hg8); have HW2 := hide1 (HW1.out.trans hw8 HG1.out.size); have HCS2 := hide1 hcs.symm; clear ho8 hg8 hw8 hcs)
          | (at_builtin; refine wpl_out_one rfl _ _ rfl w _ base _ _ xs xs.length rfl 123 _ (by rfl) HO.out HG.out HW.out (by rfl) (by omega) hb ?_; intro g9 c9 w9 cs1 hcs hcl ho9 hg9 hw9; have HO1 := hide1 ho9; have HG1 := hide1 hg9; have HW1 := hide1 hw9; have HCS1 := hide1 hcs; have hcl1 : cs1.length ≤ xs.length + 1 := (by omega); clear ho9 hg9 hw9 hcs hcl))
        go_ret
        have e : xs ++ timesA mn (-1) = cs4 := by rw [HT.out, HCS4.out, HCS3.out, HCS2.out, HCS1.out]; simp
        rw [e]
        exact ⟨_, rfl, HO4.out, HG4.out, HW4.out⟩
  · have h2 : mn ≤ mx ∧ mx ≤ 1000 := by omega
    have hn1 : (mx == -1) = false := by simpa using hm
    by_cases he : mx = mn
    · subst he
      have HT : Hid (timesA mx mx = 123 :: (decW mx ++ [125])) := by
        show _ = _
        unfold timesA
        rw [if_neg (by omega), if_neg (by omega), if_neg (by omega), if_pos rfl]
      have hnn : ¬ (mx = 0 ∧ mx = 1) := by omega
      by_cases hz : mx = 0
      · subst hz
        go_wp2_with (first
          | (have _g := HO2; clear _g; at_builtin; refine wpl_out_one rfl _ _ rfl w _ base _ _ cs2 cs2.length rfl 125 _ (by rfl) HO2.out HG2.out HW2.out (by rfl) (by omega) hb ?_; intro g9 c9 w9 cs3 hcs hcl ho9 hg9 hw9; have HO3 := hide1 ho9; have HG3 := hide1 hg9; have HW3 := hide1 hw9; have HCS3 := hide1 hcs; have hcl3 : cs3.length ≤ xs.length + 6 := (by omega); clear ho9 hg9 hw9 hcs hcl)
          | (have _g := HO1; clear _g; go_at_call 82; refine (AppendInt2_is base _ _ cs1 0 (by exact HO1.out) (by have := HG1.out.size; omega) (by omega) (by omega) (by omega) (HP.out.grown HO.out HPB.out HG1.out)).mono ?_; rintro r w8 ⟨v8, rfl, ho8, hg8, hw8⟩; obtain ⟨cs2, hcs⟩ : ∃ l, cs1 ++ decW 0 = l := ⟨_, rfl⟩; rw [hcs] at ho8; have hcl2 : cs2.length ≤ xs.length + 5 := (by rw [← hcs, List.length_append]; have := (decW_len 0).2; omega); obtain ⟨a8, c8, e8⟩ := ho8.form; subst e8; have HO2 := hide1 ho8; have HG2 := hide1 (grown_trans HG1.out HW1.out hg8); have HW2 := hide1 (HW1.out.trans hw8 HG1.out.size); have HCS2 := hide1 hcs.symm; clear ho8 hg8 hw8 hcs)
          | (at_builtin; refine wpl_out_one rfl _ _ rfl w _ base _ _ xs xs.length rfl 123 _ (by rfl) HO.out HG.out HW.out (by rfl) (by omega) hb ?_; intro g9 c9 w9 cs1 hcs hcl ho9 hg9 hw9; have HO1 := hide1 ho9; have HG1 := hide1 hg9; have HW1 := hide1 hw9; have HCS1 := hide1 hcs; have hcl1 : cs1.length ≤ xs.length + 1 := (by omega); clear ho9 hg9 hw9 hcs hcl))
        go_ret
        have e : xs ++ timesA 0 0 = cs3 := by rw [HT.out, HCS3.out, HCS2.out, HCS1.out]; simp
        rw [e]
        exact ⟨_, rfl, HO3.out, HG3.out, HW3.out⟩
      · have hz0 : (mx == 0) = false := by simpa using hz
        by_cases hu : mx = 1
        · subst hu
          go_wp2_with (first
            | (have _g := HO2; clear _g; at_builtin; refine wpl_out_one rfl _ _ rfl w _ base _ _ cs2 cs2.length rfl 125 _ (by rfl) HO2.out HG2.out HW2.out (by rfl) (by omega) hb ?_; intro g9 c9 w9 cs3 hcs hcl ho9 hg9 hw9; have HO3 := hide1 ho9; have HG3 := hide1 hg9; have HW3 := hide1 hw9; have HCS3 := hide1 hcs; have hcl3 : cs3.length ≤ xs.length + 6 := (by omega); clear ho9 hg9 hw9 hcs hcl)
            | (have _g := HO1; clear _g; go_at_call 82; refine (AppendInt2_is base _ _ cs1 1 (by exact HO1.out) (by have := HG1.out.size; omega) (by omega) (by omega) (by omega) (HP.out.grown HO.out HPB.out HG1.out)).mono ?_; rintro r w8 ⟨v8, rfl, ho8, hg8, hw8⟩; obtain ⟨cs2, hcs⟩ : ∃ l, cs1 ++ decW 1 = l := ⟨_, rfl⟩; rw [hcs] at ho8; have hcl2 : cs2.length ≤ xs.length + 5 := (by rw [← hcs, List.length_append]; have := (decW_len 1).2; omega); obtain ⟨a8, c8, e8⟩ := ho8.form; subst e8; have HO2 := hide1 ho8; have HG2 := hide1 (grown_trans HG1.out HW1.out hg8); have HW2 := hide1 (HW1.out.trans hw8 HG1.out.size); have HCS2 := hide1 hcs.symm; clear ho8 hg8 hw8 hcs)
            | (at_builtin; refine wpl_out_one rfl _ _ rfl w _ base _ _ xs xs.length rfl 123 _ (by rfl) HO.out HG.out HW.out (by rfl) (by omega) hb ?_; intro g9 c9 w9 cs1 hcs hcl ho9 hg9 hw9; have HO1 := hide1 ho9; have HG1 := hide1 hg9; have HW1 := hide1 hw9; have HCS1 := hide1 hcs; have hcl1 : cs1.length ≤ xs.length + 1 := (by omega); clear ho9 hg9 hw9 hcs hcl))
          go_ret
          have e : xs ++ timesA 1 1 = cs3 := by rw [HT.out, HCS3.out, HCS2.out, HCS1.out]; simp
          rw [e]
          exact ⟨_, rfl, HO3.out, HG3.out, HW3.out⟩
        · have hu0 : (mx == 1) = false := by simpa using hu
          go_wp2_with (first
            | (have _g := HO2; clear _g; at_builtin; refine wpl_out_one rfl _ _ rfl w _ base _ _ cs2 cs2.length rfl 125 _ (by rfl) HO2.out HG2.out HW2.out (by rfl) (by omega) hb ?_; intro g9 c9 w9 cs3 hcs hcl ho9 hg9 hw9; have HO3 := hide1 ho9; have HG3 := hide1 hg9; have HW3 := hide1 hw9; have HCS3 := hide1 hcs; have hcl3 : cs3.length ≤ xs.length + 6 := (by omega); clear ho9 hg9 hw9 hcs hcl)
            | (have _g := HO1; clear _g; go_at_call 82; refine (AppendInt2_is base _ _ cs1 mx (by exact HO1.out) (by have := HG1.out.size; omega) (by omega) (by omega) (by omega) (HP.out.grown HO.out HPB.out HG1.out)).mono ?_; rintro r w8 ⟨v8, rfl, ho8, hg8, hw8⟩; obtain ⟨cs2, hcs⟩ : ∃ l, cs1 ++ decW mx = l := ⟨_, rfl⟩; rw [hcs] at ho8; have hcl2 : cs2.length ≤ xs.length + 5 := (by rw [← hcs, List.length_append]; have := (decW_len mx).2; omega); obtain ⟨a8, c8, e8⟩ := ho8.form; subst e8; have HO2 := hide1 ho8; have HG2 := hide1 (grown_trans HG1.out HW1.out hg8); have HW2 := hide1 (HW1.out.trans hw8 HG1.out.size); have HCS2 := hide1 hcs.symm; clear ho8 hg8 hw8 hcs)
            | (at_builtin; refine wpl_out_one rfl _ _ rfl w _ base _ _ xs xs.length rfl 123 _ (by rfl) HO.out HG.out HW.out (by rfl) (by omega) hb ?_; intro g9 c9 w9 cs1 hcs hcl ho9 hg9 hw9; have HO1 := hide1 ho9; have HG1 := hide1 hg9; have HW1 := hide1 hw9; have HCS1 := hide1 hcs; have hcl1 : cs1.length ≤ xs.length + 1 := (by omega); clear ho9 hg9 hw9 hcs hcl))
          go_ret
          have e : xs ++ timesA mx mx = cs3 := by rw [HT.out, HCS3.out, HCS2.out, HCS1.out]; simp
          rw [e]
          exact ⟨_, rfl, HO3.out, HG3.out, HW3.out⟩
    · have he0 : (mx == mn) = false := by simpa using he
      by_cases hq : mn = 0 ∧ mx = 1
      · obtain ⟨rfl, rfl⟩ := hq
        go_wp2_with (first
          | (at_builtin; refine wpl_out_one rfl _ _ rfl w _ base _ _ xs xs.length rfl 63 _ (by rfl) HO.out HG.out HW.out (by rfl) (by omega) hb ?_; intro g9 c9 w9 cs1 hcs hcl ho9 hg9 hw9; have HO1 := hide1 ho9; have HG1 := hide1 hg9; have HW1 := hide1 hw9; have HCS1 := hide1 hcs; have hcl1 : cs1.length ≤ xs.length + 1 := (by omega); clear ho9 hg9 hw9 hcs hcl))
        go_ret
        have e : xs ++ timesA 0 1 = cs1 := by rw [HCS1.out]; rfl
        rw [e]
        exact ⟨_, rfl, HO1.out, HG1.out, HW1.out⟩
      · have HT : Hid (timesA mn mx = 123 :: (decW mn ++ 44 :: (decW mx ++ [125]))) := by
          show _ = _
          unfold timesA
          rw [if_neg (by omega), if_neg (by omega), if_neg (by omega), if_neg (by omega), if_neg (by omega)]
        by_cases hz : mn = 0
        · subst hz
          have hx1 : (mx == 1) = false := by rw [beq_eq_false_iff_ne]; omega
          go_wp2_with (first
            | (have _g := HO4; clear _g; at_builtin; refine wpl_out_one rfl _ _ rfl w _ base _ _ cs4 cs4.length rfl 125 _ (by rfl) HO4.out HG4.out HW4.out (by rfl) (by omega) hb ?_; intro g9 c9 w9 cs5 hcs hcl ho9 hg9 hw9; have HO5 := hide1 ho9; have HG5 := hide1 hg9; have HW5 := hide1 hw9; have HCS5 := hide1 hcs; have hcl5 : cs5.length ≤ xs.length + 11 := (by omega); clear ho9 hg9 hw9 hcs hcl)
            | (have _g := HO3; clear _g; go_at_call 82; refine (AppendInt2_is base _ _ cs3 mx (by exact HO3.out) (by have := HG3.out.size; omega) (by omega) (by omega) (by omega) (HP.out.grown HO.out HPB.out HG3.out)).mono ?_; rintro r w8 ⟨v8, rfl, ho8, hg8, hw8⟩; obtain ⟨cs4, hcs⟩ : ∃ l, cs3 ++ decW mx = l := ⟨_, rfl⟩; rw [hcs] at ho8; have hcl4 : cs4.length ≤ xs.length + 10 := (by rw [← hcs, List.length_append]; have := (decW_len mx).2; omega); obtain ⟨a8, c8, e8⟩ := ho8.form; subst e8; have HO4 := hide1 ho8; have HG4 := hide1 (grown_trans HG3.out HW3.out hg8); have HW4 := hide1 (HW3.out.trans hw8 HG3.out.size); have HCS4 := hide1 hcs.symm; clear ho8 hg8 hw8 hcs)
            | (have _g := HO2; clear _g; at_builtin; refine wpl_out_one rfl _ _ rfl w _ base _ _ cs2 cs2.length rfl 44 _ (by rfl) HO2.out HG2.out HW2.out (by rfl) (by omega) hb ?_; intro g9 c9 w9 cs3 hcs hcl ho9 hg9 hw9; have HO3 := hide1 ho9; have HG3 := hide1 hg9; have HW3 := hide1 hw9; have HCS3 := hide1 hcs; have hcl3 : cs3.length ≤ xs.length + 6 := (by omega); clear ho9 hg9 hw9 hcs hcl)
            | (have _g := HO1; clear _g; go_at_call 82; refine (AppendInt2_is base _ _ cs1 0 (by exact HO1.out) (by have := HG1.out.size; omega) (by omega) (by omega) (by omega) (HP.out.grown HO.out HPB.out HG1.out)).mono ?_; rintro r w8 ⟨v8, rfl, ho8, hg8, hw8⟩; obtain ⟨cs2, hcs⟩ : ∃ l, cs1 ++ decW 0 = l := ⟨_, rfl⟩; rw [hcs] at ho8; have hcl2 : cs2.length ≤ xs.length + 5 := (by rw [← hcs, List.length_append]; have := (decW_len 0).2; omega); obtain ⟨a8, c8, e8⟩ := ho8.form; subst e8; have HO2 := hide1 ho8; have HG2 := hide1 (grown_trans HG1.out HW1.out hg8); have HW2 := hide1 (HW1.out.trans hw8 HG1.out.size); have HCS2 := hide1 hcs.symm; clear ho8 hg8 hw8 hcs)
            | (at_builtin; refine wpl_out_one rfl _ _ rfl w _ base _ _ xs xs.length rfl 123 _ (by rfl) HO.out HG.out HW.out (by rfl) (by omega) hb ?_; intro g9 c9 w9 cs1 hcs hcl ho9 hg9 hw9; have HO1 := hide1 ho9; have HG1 := hide1 hg9; have HW1 := hide1 hw9; have HCS1 := hide1 hcs; have hcl1 : cs1.length ≤ xs.length + 1 := (by omega); clear ho9 hg9 hw9 hcs hcl))
          go_ret
          have e : xs ++ timesA 0 mx = cs5 := by rw [HT.out, HCS5.out, HCS4.out, HCS3.out, HCS2.out, HCS1.out]; simp
          rw [e]
          exact ⟨_, rfl, HO5.out, HG5.out, HW5.out⟩
        · have hz0 : (mn == 0) = false := by simpa using hz
          by_cases hu : mn = 1
          · subst hu
            go_wp2_with (first
              | (have _g := HO4; clear _g; at_builtin; refine wpl_out_one rfl _ _ rfl w _ base _ _ cs4 cs4.length rfl 125 _ (by rfl) HO4.out HG4.out HW4.out (by rfl) (by omega) hb ?_; intro g9 c9 w9 cs5 hcs hcl ho9 hg9 hw9; have HO5 := hide1 ho9; have HG5 := hide1 hg9; have HW5 := hide1 hw9; have HCS5 := hide1 hcs; have hcl5 : cs5.length ≤ xs.length + 11 := (by omega); clear ho9 hg9 hw9 hcs hcl)
              | (have _g := HO3; clear _g; go_at_call 82; refine (AppendInt2_is base _ _ cs3 mx (by exact HO3.out) (by have := HG3.out.size; omega) (by omega) (by omega) (by omega) (HP.out.grown HO.out HPB.out HG3.out)).mono ?_; rintro r w8 ⟨v8, rfl, ho8, hg8, hw8⟩; obtain ⟨cs4, hcs⟩ : ∃ l, cs3 ++ decW mx = l := ⟨_, rfl⟩; rw [hcs] at ho8; have hcl4 : cs4.length ≤ xs.length + 10 := (by rw [← hcs, List.length_append]; have := (decW_len mx).2; omega); obtain ⟨a8, c8, e8⟩ := ho8.form; subst e8; have HO4 := hide1 ho8; have HG4 := hide1 (grown_trans HG3.out HW3.out hg8); have HW4 := hide1 (HW3.out.trans hw8 HG3.out.size); have HCS4 := hide1 hcs.symm; clear ho8 hg8 hw8 hcs)
              | (have _g := HO2; clear _g; at_builtin; refine wpl_out_one rfl _ _ rfl w _ base _ _ cs2 cs2.length rfl 44 _ (by rfl) HO2.out HG2.out HW2.out (by rfl) (by omega) hb ?_; intro g9 c9 w9 cs3 hcs hcl ho9 hg9 hw9; have HO3 := hide1 ho9; have HG3 := hide1 hg9; have HW3 := hide1 hw9; have HCS3 := hide1 hcs; have hcl3 : cs3.length ≤ xs.length + 6 := (by omega); clear ho9 hg9 hw9 hcs hcl)
              | (have _g := HO1; clear _g; go_at_call 82; refine (AppendInt2_is base _ _ cs1 1 (by exact HO1.out) (by have := HG1.out.size; omega) (by omega) (by omega) (by omega) (HP.out.grown HO.out HPB.out HG1.out)).mono ?_; rintro r w8 ⟨v8, rfl, ho8, hg8, hw8⟩; obtain ⟨cs2, hcs⟩ : ∃ l, cs1 ++ decW 1 = l := ⟨_, rfl⟩; rw [hcs] at ho8; have hcl2 : cs2.length ≤ xs.length + 5 := (by rw [← hcs, List.length_append]; have := (decW_len 1).2; omega); obtain ⟨a8, c8, e8⟩ := ho8.form; subst e8; have HO2 := hide1 ho8; have HG2 := hide1 (grown_trans HG1.out HW1.out hg8); have HW2 := hide1 (HW1.out.trans hw8 HG1.out.size); have HCS2 := hide1 hcs.symm; clear ho8 hg8 hw8 hcs)
              | (at_builtin; refine wpl_out_one rfl _ _ rfl w _ base _ _ xs xs.length rfl 123 _ (by rfl) HO.out HG.out HW.out (by rfl) (by omega) hb ?_; intro g9 c9 w9 cs1 hcs hcl ho9 hg9 hw9; have HO1 := hide1 ho9; have HG1 := hide1 hg9; have HW1 := hide1 hw9; have HCS1 := hide1 hcs; have hcl1 : cs1.length ≤ xs.length + 1 := (by omega); clear ho9 hg9 hw9 hcs hcl))
            go_ret
            have e : xs ++ timesA 1 mx = cs5 := by rw [HT.out, HCS5.out, HCS4.out, HCS3.out, HCS2.out, HCS1.out]; simp
            rw [e]
            exact ⟨_, rfl, HO5.out, HG5.out, HW5.out⟩
          · have hu0 : (mn == 1) = false := by simpa using hu
            go_wp2_with (first
              | (have _g := HO4; clear _g; at_builtin; refine wpl_out_one rfl _ _ rfl w _ base _ _ cs4 cs4.length rfl 125 _ (by rfl) HO4.out HG4.out HW4.out (by rfl) (by omega) hb ?_; intro g9 c9 w9 cs5 hcs hcl ho9 hg9 hw9; have HO5 := hide1 ho9; have HG5 := hide1 hg9; have HW5 := hide1 hw9; have HCS5 := hide1 hcs; have hcl5 : cs5.length ≤ xs.length + 11 := (by omega); clear ho9 hg9 hw9 hcs hcl)
              | (have _g := HO3; clear _g; go_at_call 82; refine (AppendInt2_is base _ _ cs3 mx (by exact HO3.out) (by have := HG3.out.size; omega) (by omega) (by omega) (by omega) (HP.out.grown HO.out HPB.out HG3.out)).mono ?_; rintro r w8 ⟨v8, rfl, ho8, hg8, hw8⟩; obtain ⟨cs4, hcs⟩ : ∃ l, cs3 ++ decW mx = l := ⟨_, rfl⟩; rw [hcs] at ho8; have hcl4 : cs4.length ≤ xs.length + 10 := (by rw [← hcs, List.length_append]; have := (decW_len mx).2; omega); obtain ⟨a8, c8, e8⟩ := ho8.form; subst e8; have HO4 := hide1 ho8; have HG4 := hide1 (grown_trans HG3.out HW3.out hg8); have HW4 := hide1 (HW3.out.trans hw8 HG3.out.size); have HCS4 := hide1 hcs.symm; clear ho8 hg8 hw8 hcs)
              | (have _g := HO2; clear _g; at_builtin; refine wpl_out_one rfl _ _ rfl w _ base _ _ cs2 cs2.length rfl 44 _ (by rfl) HO2.out HG2.out HW2.out (by rfl) (by omega) hb ?_; intro g9 c9 w9 cs3 hcs hcl ho9 hg9 hw9; have HO3 := hide1 ho9; have HG3 := hide1 hg9; have HW3 := hide1 hw9; have HCS3 := hide1 hcs; have hcl3 : cs3.length ≤ xs.length + 6 := (by omega); clear ho9 hg9 hw9 hcs hcl)
              | (have _g := HO1; clear _g; go_at_call 82; refine (AppendInt2_is base _ _ cs1 mn (by exact HO1.out) (by have := HG1.out.size; omega) (by omega) (by omega) (by omega) (HP.out.grown HO.out HPB.out HG1.out)).mono ?_; rintro r w8 ⟨v8, rfl, ho8, hg8, hw8⟩; obtain ⟨cs2, hcs⟩ : ∃ l, cs1 ++ decW mn = l := ⟨_, rfl⟩; rw [hcs] at ho8; have hcl2 : cs2.length ≤ xs.length + 5 := (by rw [← hcs, List.length_append]; have := (decW_len mn).2; omega); obtain ⟨a8, c8, e8⟩ := ho8.form; subst e8; have HO2 := hide1 ho8; have HG2 := hide1 (grown_trans HG1.out HW1.out hg8); have HW2 := hide1 (HW1.out.trans hw8 HG1.out.size); have HCS2 := hide1 hcs.symm; clear ho8 hg8 hw8 hcs)
              | (at_builtin; refine wpl_out_one rfl _ _ rfl w _ base _ _ xs xs.length rfl 123 _ (by rfl) HO.out HG.out HW.out (by rfl) (by omega) hb ?_; intro g9 c9 w9 cs1 hcs hcl ho9 hg9 hw9; have HO1 := hide1 ho9; have HG1 := hide1 hg9; have HW1 := hide1 hw9; have HCS1 := hide1 hcs; have hcl1 : cs1.length ≤ xs.length + 1 := (by omega); clear ho9 hg9 hw9 hcs hcl))
            go_ret
            have e : xs ++ timesA mn mx = cs5 := by rw [HT.out, HCS5.out, HCS4.out, HCS3.out, HCS2.out, HCS1.out]; simp
            rw [e]
            exact ⟨_, rfl, HO5.out, HG5.out, HW5.out⟩
end Ex
end Go.Proofs.YtbnchnlogikecaaGreatDoor
