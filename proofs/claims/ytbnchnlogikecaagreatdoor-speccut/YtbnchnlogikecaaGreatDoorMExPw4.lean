import Derived.Test.YtbnchnlogikecaaGreatDoorMExDg5
import Derived.Test.YtbnchnlogikecaaGreatDoorMExWr6
namespace Go.Proofs.YtbnchnlogikecaaGreatDoor
open Go.RowKit
attribute [local go_sem] Oper.semAt_some
namespace Ex

/-- A repetition's times. -/
def timesA (mn mx : Int) : List Int :=
  if mn = 0 ∧ mx = -1 then [42] else if mn = 1 ∧ mx = -1 then [43] else if mn = 0 ∧ mx = 1 then [63]
  else if mx = mn then 123 :: (decW mn ++ [125]) else if mx = -1 then 123 :: (decW mn ++ [44, 125]) else 123 :: (decW mn ++ 44 :: (decW mx ++ [125]))
theorem timesA_len (mn mx : Int) : (timesA mn mx).length ≤ 11 := by
  have h1 := (decW_len mn).2
  have h2 := (decW_len mx).2
  unfold timesA
  (repeat' split) <;> simp <;> omega
theorem PowAt.grown {w w' : World} {base : Nat} {v : Value} {xs : List Int} (h : PowAt w) (ho : OutAt w base v xs) (hb : 1 < base) (hg : w.grownBy w' v.ownBlock) : PowAt w' :=
  ⟨hg.cell h.1 (fun e => absurd (ho.lt 1 e.symm).1 (by omega)), hg.cell h.2 (fun e => absurd (ho.lt 1 e.symm).1 (by omega))⟩
set_option linter.unusedSimpArgs false in
set_option maxRecDepth 100000 in
set_option maxHeartbeats 4000000 in
theorem writeTimesA_is (base : Nat) (w : World) (v : Value) (xs : List Int) (mn mx : Int) (ho : OutAt w base v xs) (hb : base ≤ w.heap.size) (hl : xs.length ≤ 800000000) (h0 : 0 ≤ mn) (h1 : mn ≤ 1000) (h2 : mx = -1 ∨ mn ≤ mx ∧ mx ≤ 1000) (hP : PowAt w) (hPB : 1 < base) :
    Calls Tryz.prog 64 #[v, .int .i64 mn, .int .i64 mx] w fun r w' => WGives base w v (xs ++ timesA mn mx) r w' := by
  obtain ⟨a, cap, rfl⟩ := ho.form
  have HO := hide1 ho
  have HP := hide1 hP
  have HPB := hide1 hPB
  have HG := hide1 (grown_kept (Kept.refl w) (Value.slice a xs.length cap).ownBlock)
  have HW := hide1 (Own1.refl w (Value.slice a xs.length cap))
  clear ho hP hPB
  go_enter Tryz.func64, Tryz.ntmps64
  by_cases hm : mx = -1
  · clear h2
    subst hm
    by_cases hm0 : mn = 0
    · subst hm0
      go_wp2_with (first
        | (at_builtin; refine wpl_out_one rfl _ _ rfl w _ base _ _ xs xs.length rfl 42 _ (by rfl) HO.out HG.out HW.out (by rfl) (by omega) hb ?_; intro g9 c9 w9 cs1 hcs hcl ho9 hg9 hw9; have HO1 := hide1 ho9; have HG1 := hide1 hg9; have HW1 := hide1 hw9; have HCS1 := hide1 hcs; have hcl1 : cs1.length ≤ xs.length + 1 := (by omega); clear ho9 hg9 hw9 hcs hcl))
      go_ret
      have e : xs ++ timesA 0 (-1) = cs1 := by rw [HCS1.out]; rfl
      rw [e]
      exact ⟨_, rfl, HO1.out, HG1.out, HW1.out⟩
    · by_cases hm1 : mn = 1
      · subst hm1
        go_wp2_with (first
          | (at_builtin; refine wpl_out_one rfl _ _ rfl w _ base _ _ xs xs.length rfl 43 _ (by rfl) HO.out HG.out HW.out (by rfl) (by omega) hb ?_; intro g9 c9 w9 cs1 hcs hcl ho9 hg9 hw9; have HO1 := hide1 ho9; have HG1 := hide1 hg9; have HW1 := hide1 hw9; have HCS1 := hide1 hcs; have hcl1 : cs1.length ≤ xs.length + 1 := (by omega); clear ho9 hg9 hw9 hcs hcl))
        go_ret
        have e : xs ++ timesA 1 (-1) = cs1 := by rw [HCS1.out]; rfl
        rw [e]
        exact ⟨_, rfl, HO1.out, HG1.out, HW1.out⟩
      · have HT : Hid (timesA mn (-1) = 123 :: (decW mn ++ [44, 125])) := by
          show _ = _
          unfold timesA
          rw [if_neg (by omega), if_neg (by omega), if_neg (by omega), if_neg (by omega), if_pos rfl]
        go_wp2_with (first
          | (have _g := HO3; clear _g; at_builtin; refine wpl_out_one rfl _ _ rfl w _ base _ _ cs3 cs3.length rfl 125 _ (by rfl) HO3.out HG3.out HW3.out (by rfl) (by omega) hb ?_; intro g9 c9 w9 cs4 hcs hcl ho9 hg9 hw9; have HO4 := hide1 ho9; have HG4 := hide1 hg9; have HW4 := hide1 hw9; have HCS4 := hide1 hcs; have hcl4 : cs4.length ≤ xs.length + 7 := (by omega); clear ho9 hg9 hw9 hcs hcl)
          | (have _g := HO2; clear _g; at_builtin; refine wpl_out_one rfl _ _ rfl w _ base _ _ cs2 cs2.length rfl 44 _ (by rfl) HO2.out HG2.out HW2.out (by rfl) (by omega) hb ?_; intro g9 c9 w9 cs3 hcs hcl ho9 hg9 hw9; have HO3 := hide1 ho9; have HG3 := hide1 hg9; have HW3 := hide1 hw9; have HCS3 := hide1 hcs; have hcl3 : cs3.length ≤ xs.length + 6 := (by omega); clear ho9 hg9 hw9 hcs hcl)
          | (have _g := HO1; clear _g; go_at_call 82; refine (AppendInt2_is base _ _ cs1 mn (by exact HO1.out) (by have := HG1.out.size; omega) (by omega) (by omega) (by omega) (HP.out.grown HO.out HPB.out HG1.out)).mono ?_; rintro r w8 ⟨v8, rfl, ho8, hg8, hw8⟩; obtain ⟨cs2, hcs⟩ : ∃ l, cs1 ++ decW mn = l := ⟨_, rfl⟩; rw [hcs] at ho8; have hcl2 : cs2.length ≤ xs.length + 5 := (by rw [← hcs, List.length_append]; have := (decW_len mn).2; omega); obtain ⟨a8, c8, e8⟩ := ho8.form; subst e8; have HO2 := hide1 ho8; have HG2 := hide1 (grown_trans HG1.out HW1.out hg8); have HW2 := hide1 (HW1.out.trans hw8 HG1.out.size); have HCS2 := hide1 hcs.symm; clear ho8 hg8 hw8 hcs)
          | (at_builtin; refine wpl_out_one rfl _ _ rfl w _ base _ _ xs xs.length rfl 123 _ (by rfl) HO.out HG.out HW.out (by rfl) (by omega) hb ?_; intro g9 c9 w9 cs1 hcs hcl ho9 hg9 hw9; have HO1 := hide1 ho9; have HG1 := hide1 hg9; have HW1 := hide1 hw9; have HCS1 := hide1 hcs; have hcl1 : cs1.length ≤ xs.length + 1 := (by omega); clear ho9 hg9 hw9 hcs hcl))
        go_ret
        have e : xs ++ timesA mn (-1) = cs4 := by rw [HT.out, HCS4.out, HCS3.out, HCS2.out, HCS1.out]; simp
        rw [e]
        exact ⟨_, rfl, HO4.out, HG4.out, HW4.out⟩
  · have h2 : mn ≤ mx ∧ mx ≤ 1000 := by omega
    have hn1 : (mx == -1) = false := by simpa using hm
    by_cases he : mx = mn
    · subst he
      have HT : Hid (timesA mx mx = 123 :: (decW mx ++ [125])) := by
        show _ = _
        unfold timesA
        rw [if_neg (by omega), if_neg (by omega), if_neg (by omega), if_pos rfl]
      have hnn : ¬ (mx = 0 ∧ mx = 1) := by omega
      by_cases hz : mx = 0
      · subst hz
        go_wp2_with (first
          | (have _g := HO2; clear _g; at_builtin; refine wpl_out_one rfl _ _ rfl w _ base _ _ cs2 cs2.length rfl 125 _ (by rfl) HO2.out HG2.out HW2.out (by rfl) (by omega) hb ?_; intro g9 c9 w9 cs3 hcs hcl ho9 hg9 hw9; have HO3 := hide1 ho9; have HG3 := hide1 hg9; have HW3 := hide1 hw9; have HCS3 := hide1 hcs; have hcl3 : cs3.length ≤ xs.length + 6 := (by omega); clear ho9 hg9 hw9 hcs hcl)
          | (have _g := HO1; clear _g; go_at_call 82; refine (AppendInt2_is base _ _ cs1 0 (by exact HO1.out) (by have := HG1.out.size; omega) (by omega) (by omega) (by omega) (HP.out.grown HO.out HPB.out HG1.out)).mono ?_; rintro r w8 ⟨v8, rfl, ho8, hg8, hw8⟩; obtain ⟨cs2, hcs⟩ : ∃ l, cs1 ++ decW 0 = l := ⟨_, rfl⟩; rw [hcs] at ho8; have hcl2 : cs2.length ≤ xs.length + 5 := (by rw [← hcs, List.length_append]; have := (decW_len 0).2; omega); obtain ⟨a8, c8, e8⟩ := ho8.form; subst e8; have HO2 := hide1 ho8; have HG2 := hide1 (grown_trans HG1.out HW1.out hg8); have HW2 := hide1 (HW1.out.trans hw8 HG1.out.size); have HCS2 := hide1 hcs.symm; clear ho8 hg8 hw8 hcs)
          | (at_builtin; refine wpl_out_one rfl _ _ rfl w _ base _ _ xs xs.length rfl 123 _ (by rfl) HO.out HG.out HW.out (by rfl) (by omega) hb ?_; intro g9 c9 w9 cs1 hcs hcl ho9 hg9 hw9; have HO1 := hide1 ho9; have HG1 := hide1 hg9; have HW1 := hide1 hw9; have HCS1 := hide1 hcs; have hcl1 : cs1.length ≤ xs.length + 1 := (by omega); clear ho9 hg9 hw9 hcs hcl))
        go_ret
        have e : xs ++ timesA 0 0 = cs3 := by rw [HT.out, HCS3.out, HCS2.out, HCS1.out]; simp
        rw [e]
        exact ⟨_, rfl, HO3.out, HG3.out, HW3.out⟩
      · have hz0 : (mx == 0) = false := by simpa using hz
        by_cases hu : mx = 1
        · subst hu
          go_wp2_with (first
            | (have _g := HO2; clear _g; at_builtin; refine wpl_out_one rfl _ _ rfl w _ base _ _ cs2 cs2.length rfl 125 _ (by rfl) HO2.out HG2.out HW2.out (by rfl) (by omega) hb ?_; intro g9 c9 w9 cs3 hcs hcl ho9 hg9 hw9; have HO3 := hide1 ho9; have HG3 := hide1 hg9; have HW3 := hide1 hw9; have HCS3 := hide1 hcs; have hcl3 : cs3.length ≤ xs.length + 6 := (by omega); clear ho9 hg9 hw9 hcs hcl)
            | (have _g := HO1; clear _g; go_at_call 82; refine (AppendInt2_is base _ _ cs1 1 (by exact HO1.out) (by have := HG1.out.size; omega) (by omega) (by omega) (by omega) (HP.out.grown HO.out HPB.out HG1.out)).mono ?_; rintro r w8 ⟨v8, rfl, ho8, hg8, hw8⟩; obtain ⟨cs2, hcs⟩ : ∃ l, cs1 ++ decW 1 = l := ⟨_, rfl⟩; rw [hcs] at ho8; have hcl2 : cs2.length ≤ xs.length + 5 := (by rw [← hcs, List.length_append]; have := (decW_len 1).2; omega); obtain ⟨a8, c8, e8⟩ := ho8.form; subst e8; have HO2 := hide1 ho8; have HG2 := hide1 (grown_trans HG1.out HW1.out hg8); have HW2 := hide1 (HW1.out.trans hw8 HG1.out.size); have HCS2 := hide1 hcs.symm; clear ho8 hg8 hw8 hcs)
            | (at_builtin; refine wpl_out_one rfl _ _ rfl w _ base _ _ xs xs.length rfl 123 _ (by rfl) HO.out HG.out HW.out (by rfl) (by omega) hb ?_; intro g9 c9 w9 cs1 hcs hcl ho9 hg9 hw9; have HO1 := hide1 ho9; have HG1 := hide1 hg9; have HW1 := hide1 hw9; have HCS1 := hide1 hcs; have hcl1 : cs1.length ≤ xs.length + 1 := (by omega); clear ho9 hg9 hw9 hcs hcl))
          go_ret
          have e : xs ++ timesA 1 1 = cs3 := by rw [HT.out, HCS3.out, HCS2.out, HCS1.out]; simp
          rw [e]
          exact ⟨_, rfl, HO3.out, HG3.out, HW3.out⟩
        · have hu0 : (mx == 1) = false := by simpa using hu
          go_wp2_with (first
            | (have _g := HO2; clear _g; at_builtin; refine wpl_out_one rfl _ _ rfl w _ base _ _ cs2 cs2.length rfl 125 _ (by rfl) HO2.out HG2.out HW2.out (by rfl) (by omega) hb ?_; intro g9 c9 w9 cs3 hcs hcl ho9 hg9 hw9; have HO3 := hide1 ho9; have HG3 := hide1 hg9; have HW3 := hide1 hw9; have HCS3 := hide1 hcs; have hcl3 : cs3.length ≤ xs.length + 6 := (by omega); clear ho9 hg9 hw9 hcs hcl)
            | (have _g := HO1; clear _g; go_at_call 82; refine (AppendInt2_is base _ _ cs1 mx (by exact HO1.out) (by have := HG1.out.size; omega) (by omega) (by omega) (by omega) (HP.out.grown HO.out HPB.out HG1.out)).mono ?_; rintro r w8 ⟨v8, rfl, ho8, hg8, hw8⟩; obtain ⟨cs2, hcs⟩ : ∃ l, cs1 ++ decW mx = l := ⟨_, rfl⟩; rw [hcs] at ho8; have hcl2 : cs2.length ≤ xs.length + 5 := (by rw [← hcs, List.length_append]; have := (decW_len mx).2; omega); obtain ⟨a8, c8, e8⟩ := ho8.form; subst e8; have HO2 := hide1 ho8; have HG2 := hide1 (grown_trans HG1.out HW1.out hg8); have HW2 := hide1 (HW1.out.trans hw8 HG1.out.size); have HCS2 := hide1 hcs.symm; clear ho8 hg8 hw8 hcs)
            | (at_builtin; refine wpl_out_one rfl _ _ rfl w _ base _ _ xs xs.length rfl 123 _ (by rfl) HO.out HG.out HW.out (by rfl) (by omega) hb ?_; intro g9 c9 w9 cs1 hcs hcl ho9 hg9 hw9; have HO1 := hide1 ho9; have HG1 := hide1 hg9; have HW1 := hide1 hw9; have HCS1 := hide1 hcs; have hcl1 : cs1.length ≤ xs.length + 1 := (by omega); clear ho9 hg9 hw9 hcs hcl))
          go_ret
          have e : xs ++ timesA mx mx = cs3 := by rw [HT.out, HCS3.out, HCS2.out, HCS1.out]; simp
          rw [e]
          exact ⟨_, rfl, HO3.out, HG3.out, HW3.out⟩
    · have he0 : (mx == mn) = false := by simpa using he
      by_cases hq : mn = 0 ∧ mx = 1
      · obtain ⟨rfl, rfl⟩ := hq
        go_wp2_with (first
          | (at_builtin; refine wpl_out_one rfl _ _ rfl w _ base _ _ xs xs.length rfl 63 _ (by rfl) HO.out HG.out HW.out (by rfl) (by omega) hb ?_; intro g9 c9 w9 cs1 hcs hcl ho9 hg9 hw9; have HO1 := hide1 ho9; have HG1 := hide1 hg9; have HW1 := hide1 hw9; have HCS1 := hide1 hcs; have hcl1 : cs1.length ≤ xs.length + 1 := (by omega); clear ho9 hg9 hw9 hcs hcl))
        go_ret
        have e : xs ++ timesA 0 1 = cs1 := by rw [HCS1.out]; rfl
        rw [e]
        exact ⟨_, rfl, HO1.out, HG1.out, HW1.out⟩
      · have HT : Hid (timesA mn mx = 123 :: (decW mn ++ 44 :: (decW mx ++ [125]))) := by
          show _ = _
          unfold timesA
          rw [if_neg (by omega), if_neg (by omega), if_neg (by omega), if_neg (by omega), if_neg (by omega)]
        by_cases hz : mn = 0
        · subst hz
          have hx1 : (mx == 1) = false := by rw [beq_eq_false_iff_ne]; omega
          go_wp2_with (first
            | (have _g := HO4; clear _g; at_builtin; refine wpl_out_one rfl _ _ rfl w _ base _ _ cs4 cs4.length rfl 125 _ (by rfl) HO4.out HG4.out HW4.out (by rfl) (by omega) hb ?_; intro g9 c9 w9 cs5 hcs hcl ho9 hg9 hw9; have HO5 := hide1 ho9; have HG5 := hide1 hg9; have HW5 := hide1 hw9; have HCS5 := hide1 hcs; have hcl5 : cs5.length ≤ xs.length + 11 := (by omega); clear ho9 hg9 hw9 hcs hcl)
            | (have _g := HO3; clear _g; go_at_call 82; refine (AppendInt2_is base _ _ cs3 mx (by exact HO3.out) (by have := HG3.out.size; omega) (by omega) (by omega) (by omega) (HP.out.grown HO.out HPB.out HG3.out)).mono ?_; rintro r w8 ⟨v8, rfl, ho8, hg8, hw8⟩; obtain ⟨cs4, hcs⟩ : ∃ l, cs3 ++ decW mx = l := ⟨_, rfl⟩; rw [hcs] at ho8; have hcl4 : cs4.length ≤ xs.length + 10 := (by rw [← hcs, List.length_append]; have := (decW_len mx).2; omega); obtain ⟨a8, c8, e8⟩ := ho8.form; subst e8; have HO4 := hide1 ho8; have HG4 := hide1 (grown_trans HG3.out HW3.out hg8); have HW4 := hide1 (HW3.out.trans hw8 HG3.out.size); have HCS4 := hide1 hcs.symm; clear ho8 hg8 hw8 hcs)
            | (have _g := HO2; clear _g; at_builtin; refine wpl_out_one rfl _ _ rfl w _ base _ _ cs2 cs2.length rfl 44 _ (by rfl) HO2.out HG2.out HW2.out (by rfl) (by omega) hb ?_; intro g9 c9 w9 cs3 hcs hcl ho9 hg9 hw9; have HO3 := hide1 ho9; have HG3 := hide1 hg9; have HW3 := hide1 hw9; have HCS3 := hide1 hcs; have hcl3 : cs3.length ≤ xs.length + 6 := (by omega); clear ho9 hg9 hw9 hcs hcl)
            | (have _g := HO1; clear _g; go_at_call 82; refine (AppendInt2_is base _ _ cs1 0 (by exact HO1.out) (by have := HG1.out.size; omega) (by omega) (by omega) (by omega) (HP.out.grown HO.out HPB.out HG1.out)).mono ?_; rintro r w8 ⟨v8, rfl, ho8, hg8, hw8⟩; obtain ⟨cs2, hcs⟩ : ∃ l, cs1 ++ decW 0 = l := ⟨_, rfl⟩; rw [hcs] at ho8; have hcl2 : cs2.length ≤ xs.length + 5 := (by rw [← hcs, List.length_append]; have := (decW_len 0).2; omega); obtain ⟨a8, c8, e8⟩ := ho8.form; subst e8; have HO2 := hide1 ho8; have HG2 := hide1 (grown_trans HG1.out HW1.out hg8); have HW2 := hide1 (HW1.out.trans hw8 HG1.out.size); have HCS2 := hide1 hcs.symm; clear ho8 hg8 hw8 hcs)
            | (at_builtin; refine wpl_out_one rfl _ _ rfl w _ base _ _ xs xs.length rfl 123 _ (by rfl) HO.out HG.out HW.out (by rfl) (by omega) hb ?_; intro g9 c9 w9 cs1 hcs hcl ho9 hg9 hw9; have HO1 := hide1 ho9; have HG1 := hide1 hg9; have HW1 := hide1 hw9; have HCS1 := hide1 hcs; have hcl1 : cs1.length ≤ xs.length + 1 := (by omega); clear ho9 hg9 hw9 hcs hcl))
          go_ret
          have e : xs ++ timesA 0 mx = cs5 := by rw [HT.out, HCS5.out, HCS4.out, HCS3.out, HCS2.out, HCS1.out]; simp
          rw [e]
          exact ⟨_, rfl, HO5.out, HG5.out, HW5.out⟩
        · have hz0 : (mn == 0) = false := by simpa using hz
          by_cases hu : mn = 1
          · subst hu
            go_wp2_with (first
              | (have _g := HO4; clear _g; at_builtin; refine wpl_out_one rfl _ _ rfl w _ base _ _ cs4 cs4.length rfl 125 _ (by rfl) HO4.out HG4.out HW4.out (by rfl) (by omega) hb ?_; intro g9 c9 w9 cs5 hcs hcl ho9 hg9 hw9; have HO5 := hide1 ho9; have HG5 := hide1 hg9; have HW5 := hide1 hw9; have HCS5 := hide1 hcs; have hcl5 : cs5.length ≤ xs.length + 11 := (by omega); clear ho9 hg9 hw9 hcs hcl)
              | (have _g := HO3; clear _g; go_at_call 82; refine (AppendInt2_is base _ _ cs3 mx (by exact HO3.out) (by have := HG3.out.size; omega) (by omega) (by omega) (by omega) (HP.out.grown HO.out HPB.out HG3.out)).mono ?_; rintro r w8 ⟨v8, rfl, ho8, hg8, hw8⟩; obtain ⟨cs4, hcs⟩ : ∃ l, cs3 ++ decW mx = l := ⟨_, rfl⟩; rw [hcs] at ho8; have hcl4 : cs4.length ≤ xs.length + 10 := (by rw [← hcs, List.length_append]; have := (decW_len mx).2; omega); obtain ⟨a8, c8, e8⟩ := ho8.form; subst e8; have HO4 := hide1 ho8; have HG4 := hide1 (grown_trans HG3.out HW3.out hg8); have HW4 := hide1 (HW3.out.trans hw8 HG3.out.size); have HCS4 := hide1 hcs.symm; clear ho8 hg8 hw8 hcs)
              | (have _g := HO2; clear _g; at_builtin; refine wpl_out_one rfl _ _ rfl w _ base _ _ cs2 cs2.length rfl 44 _ (by rfl) HO2.out HG2.out HW2.out (by rfl) (by omega) hb ?_; intro g9 c9 w9 cs3 hcs hcl ho9 hg9 hw9; have HO3 := hide1 ho9; have HG3 := hide1 hg9; have HW3 := hide1 hw9; have HCS3 := hide1 hcs; have hcl3 : cs3.length ≤ xs.length + 6 := (by omega); clear ho9 hg9 hw9 hcs hcl)
              | (have _g := HO1; clear _g; go_at_call 82; refine (AppendInt2_is base _ _ cs1 1 (by exact HO1.out) (by have := HG1.out.size; omega) (by omega) (by omega) (by omega) (HP.out.grown HO.out HPB.out HG1.out)).mono ?_; rintro r w8 ⟨v8, rfl, ho8, hg8, hw8⟩; obtain ⟨cs2, hcs⟩ : ∃ l, cs1 ++ decW 1 = l := ⟨_, rfl⟩; rw [hcs] at ho8; have hcl2 : cs2.length ≤ xs.length + 5 := (by rw [← hcs, List.length_append]; have := (decW_len 1).2; omega); obtain ⟨a8, c8, e8⟩ := ho8.form; subst e8; have HO2 := hide1 ho8; have HG2 := hide1 (grown_trans HG1.out HW1.out hg8); have HW2 := hide1 (HW1.out.trans hw8 HG1.out.size); have HCS2 := hide1 hcs.symm; clear ho8 hg8 hw8 hcs)
              | (at_builtin; refine wpl_out_one rfl _ _ rfl w _ base _ _ xs xs.length rfl 123 _ (by rfl) HO.out HG.out HW.out (by rfl) (by omega) hb ?_; intro g9 c9 w9 cs1 hcs hcl ho9 hg9 hw9; have HO1 := hide1 ho9; have HG1 := hide1 hg9; have HW1 := hide1 hw9; have HCS1 := hide1 hcs; have hcl1 : cs1.length ≤ xs.length + 1 := (by omega); clear ho9 hg9 hw9 hcs hcl))
            go_ret
            have e : xs ++ timesA 1 mx = cs5 := by rw [HT.out, HCS5.out, HCS4.out, HCS3.out, HCS2.out, HCS1.out]; simp
            rw [e]
            exact ⟨_, rfl, HO5.out, HG5.out, HW5.out⟩
          · have hu0 : (mn == 1) = false := by simpa using hu
            go_wp2_with (first
              | (have _g := HO4; clear _g; at_builtin; refine wpl_out_one rfl _ _ rfl w _ base _ _ cs4 cs4.length rfl 125 _ (by rfl) HO4.out HG4.out HW4.out (by rfl) (by omega) hb ?_; intro g9 c9 w9 cs5 hcs hcl ho9 hg9 hw9; have HO5 := hide1 ho9; have HG5 := hide1 hg9; have HW5 := hide1 hw9; have HCS5 := hide1 hcs; have hcl5 : cs5.length ≤ xs.length + 11 := (by omega); clear ho9 hg9 hw9 hcs hcl)
              | (have _g := HO3; clear _g; go_at_call 82; refine (AppendInt2_is base _ _ cs3 mx (by exact HO3.out) (by have := HG3.out.size; omega) (by omega) (by omega) (by omega) (HP.out.grown HO.out HPB.out HG3.out)).mono ?_; rintro r w8 ⟨v8, rfl, ho8, hg8, hw8⟩; obtain ⟨cs4, hcs⟩ : ∃ l, cs3 ++ decW mx = l := ⟨_, rfl⟩; rw [hcs] at ho8; have hcl4 : cs4.length ≤ xs.length + 10 := (by rw [← hcs, List.length_append]; have := (decW_len mx).2; omega); obtain ⟨a8, c8, e8⟩ := ho8.form; subst e8; have HO4 := hide1 ho8; have HG4 := hide1 (grown_trans HG3.out HW3.out hg8); have HW4 := hide1 (HW3.out.trans hw8 HG3.out.size); have HCS4 := hide1 hcs.symm; clear ho8 hg8 hw8 hcs)
              | (have _g := HO2; clear _g; at_builtin; refine wpl_out_one rfl _ _ rfl w _ base _ _ cs2 cs2.length rfl 44 _ (by rfl) HO2.out HG2.out HW2.out (by rfl) (by omega) hb ?_; intro g9 c9 w9 cs3 hcs hcl ho9 hg9 hw9; have HO3 := hide1 ho9; have HG3 := hide1 hg9; have HW3 := hide1 hw9; have HCS3 := hide1 hcs; have hcl3 : cs3.length ≤ xs.length + 6 := (by omega); clear ho9 hg9 hw9 hcs hcl)
              | (have _g := HO1; clear _g; go_at_call 82; refine (AppendInt2_is base _ _ cs1 mn (by exact HO1.out) (by have := HG1.out.size; omega) (by omega) (by omega) (by omega) (HP.out.grown HO.out HPB.out HG1.out)).mono ?_; rintro r w8 ⟨v8, rfl, ho8, hg8, hw8⟩; obtain ⟨cs2, hcs⟩ : ∃ l, cs1 ++ decW mn = l := ⟨_, rfl⟩; rw [hcs] at ho8; have hcl2 : cs2.length ≤ xs.length + 5 := (by rw [← hcs, List.length_append]; have := (decW_len mn).2; omega); obtain ⟨a8, c8, e8⟩ := ho8.form; subst e8; have HO2 := hide1 ho8; have HG2 := hide1 (grown_trans HG1.out HW1.out hg8); have HW2 := hide1 (HW1.out.trans hw8 HG1.out.size); have HCS2 := hide1 hcs.symm; clear ho8 hg8 hw8 hcs)
              | (at_builtin; refine wpl_out_one rfl _ _ rfl w _ base _ _ xs xs.length rfl 123 _ (by rfl) HO.out HG.out HW.out (by rfl) (by omega) hb ?_; intro g9 c9 w9 cs1 hcs hcl ho9 hg9 hw9; have HO1 := hide1 ho9; have HG1 := hide1 hg9; have HW1 := hide1 hw9; have HCS1 := hide1 hcs; have hcl1 : cs1.length ≤ xs.length + 1 := (by omega); clear ho9 hg9 hw9 hcs hcl))
            go_ret
            have e : xs ++ timesA mn mx = cs5 := by rw [HT.out, HCS5.out, HCS4.out, HCS3.out, HCS2.out, HCS1.out]; simp
            rw [e]
            exact ⟨_, rfl, HO5.out, HG5.out, HW5.out⟩

end Ex
end Go.Proofs.YtbnchnlogikecaaGreatDoor
namespace Go.Proofs.YtbnchnlogikecaaGreatDoor
open Go.RowKit
attribute [local go_sem] Oper.semAt_some
namespace Ex

theorem box_far {w w' : World} {v : Value} {g : Nat} {x0 x1 x2 x3 x4 x5 : Value} (hg : w.grownBy w' v.ownBlock) (h : w.cell? ⟨g, 0, none⟩ = some x0 ∧ w.cell? ⟨g, 1, none⟩ = some x1 ∧ w.cell? ⟨g, 2, none⟩ = some x2 ∧ w.cell? ⟨g, 3, none⟩ = some x3 ∧ w.cell? ⟨g, 4, none⟩ = some x4 ∧ w.cell? ⟨g, 5, none⟩ = some x5) (hn : some g ≠ v.ownBlock) :
    w'.cell? ⟨g, 0, none⟩ = some x0 ∧ w'.cell? ⟨g, 1, none⟩ = some x1 ∧ w'.cell? ⟨g, 2, none⟩ = some x2 ∧ w'.cell? ⟨g, 3, none⟩ = some x3 ∧ w'.cell? ⟨g, 4, none⟩ = some x4 ∧ w'.cell? ⟨g, 5, none⟩ = some x5 :=
  ⟨hg.cell h.1 hn, hg.cell h.2.1 hn, hg.cell h.2.2.1 hn, hg.cell h.2.2.2.1 hn, hg.cell h.2.2.2.2.1 hn, hg.cell h.2.2.2.2.2 hn⟩
/-- A part, in brackets or not. -/
def partW {n : Nat} (q : PatN (n + 1)) (k : Int) (ys : List Int) : List Int := if bracketP q k then 40 :: (ys ++ [41]) else ys
/-- What write does with one pattern. -/
def WriteC (n : Nat) (q : PatN (n + 1)) (ys : List Int) : Prop :=
  ∀ (S : Nat → Prop) (vk : Value) (base : Nat) (w : World) (v : Value) (xs : List Int), OutAt w base v xs → base ≤ w.heap.size → xs.length + ys.length ≤ 600000000 → KidsAt S w n (kids q) vk → (∀ d, S d → v.ownBlock ≠ some d) →
    Calls Tryz.prog 46 #[v, valOf q vk] w fun r w' => WGives base w v (xs ++ ys) r w'

set_option linter.unusedSimpArgs false in
set_option maxRecDepth 100000 in
set_option maxHeartbeats 4000000 in
theorem writePart_is (n : Nat) (q : PatN (n + 1)) (ys : List Int) (hC : WriteC n q ys) (k : Int) (S : Nat → Prop) (vk : Value) (base : Nat) (w : World) (v : Value) (xs : List Int) (ho : OutAt w base v xs) (hb : base ≤ w.heap.size) (hl : xs.length + (partW q k ys).length ≤ 600000000) (hk : KidsAt S w n (kids q) vk) (hS : ∀ d, S d → v.ownBlock ≠ some d) :
    Calls Tryz.prog 65 #[v, valOf q vk, .int .i64 k] w fun r w' => WGives base w v (xs ++ partW q k ys) r w' := by
  obtain ⟨a, cap, rfl⟩ := ho.form
  have HO := hide1 ho
  have HOL := hide1 (fun d e => (ho.lt d e).2)
  have HK := hide1 hk
  have HS := hide1 hS
  have HC := hide1 hC
  obtain ⟨ak, ck, rfl⟩ := hk.form
  obtain ⟨b, hbb⟩ : ∃ b, bracketP q k = b := ⟨_, rfl⟩
  have HB := hide1 hbb
  have HP : Hid (partW q k ys = if b then 40 :: (ys ++ [41]) else ys) := by show _ = _; unfold partW; rw [hbb]
  rw [HP.out] at hl
  rw [HP.out, valOf_eq]
  clear ho hS hC hbb
  go_enter Tryz.func65, Tryz.ntmps65
  cases b with
  | false =>
    rw [if_neg (by decide)] at hl ⊢
    obtain ⟨zs, hzs⟩ : ∃ zs, xs ++ ys = zs := ⟨_, rfl⟩
    have HZS := hide1 hzs
    rw [hzs]
    clear hzs
    go_wp2_with (first
      | (go_at_call 83; refine (bracketed_is S n q _ k _ (HK.out.kept ((Kept.refl _).alloc _ _))).mono ?_; rintro e w6 ⟨rfl, hk6⟩; rw [HB.out]; have HK6 := hide1 (gtrans ((Kept.refl w).alloc _ _) hk6); have HBX := hide1 ((BoxAt.new w _ _ _ _ _ _).keep hk6); obtain ⟨⟨q0, q1, q2, q3, q4, q5⟩, _⟩ := HBX.out.facts; clear hk6)
      | (go_at_call 46; refine (HC.out S _ base _ _ xs (HO.out.keep HK6.out) (by have := HK6.out.size; omega) (by omega) (HK.out.kept HK6.out) HS.out).mono ?_; rintro r w7 ⟨v7, rfl, ho7, hg7, hw7⟩; rw [HZS.out] at ho7; obtain ⟨a7, c7, e7⟩ := ho7.form; subst e7; have HO7 := hide1 ho7; have HG7 := hide1 (grown_pre HK6.out hg7); have HW7 := hide1 (hw7.pre HK6.out.size); clear ho7 hg7 hw7))
    go_ret
    exact ⟨_, rfl, HO7.out, HG7.out, HW7.out⟩
  | true =>
    rw [if_pos rfl] at hl ⊢
    simp only [List.length_cons, List.length_append, List.length_nil] at hl
    go_wp2_with (first
      | (go_at_call 83; refine (bracketed_is S n q _ k _ (HK.out.kept ((Kept.refl _).alloc _ _))).mono ?_; rintro e w6 ⟨rfl, hk6⟩; rw [HB.out]; have HK6 := hide1 (gtrans ((Kept.refl w).alloc _ _) hk6); have HBX := hide1 ((BoxAt.new w _ _ _ _ _ _).keep hk6); obtain ⟨⟨q0, q1, q2, q3, q4, q5⟩, _⟩ := HBX.out.facts; clear hk6))
    obtain ⟨zs, hzs⟩ : ∃ zs, xs ++ [40] ++ ys = zs := ⟨_, rfl⟩
    have HZS := hide1 hzs
    have hzl : zs.length ≤ xs.length + ys.length + 1 := by rw [← hzs]; simp; omega
    have HNB : Hid (some w.heap.size ≠ (Value.slice a xs.length cap).ownBlock) := fun e => by have := HOL.out _ e.symm; omega
    have hs6 := HBX.out.lt
    clear hzs
    go_region_held3 (fun w' => w'.cell? ⟨w.heap.size, 0, none⟩ = some (.int .i64 (kind q)) ∧ w'.cell? ⟨w.heap.size, 1, none⟩ = some (.int .i64 (from_ q)) ∧ w'.cell? ⟨w.heap.size, 2, none⟩ = some (.int .i64 (to_ q)) ∧ w'.cell? ⟨w.heap.size, 3, none⟩ = some (.int .i64 (min_ q)) ∧ w'.cell? ⟨w.heap.size, 4, none⟩ = some (.int .i64 (max_ q)) ∧ w'.cell? ⟨w.heap.size, 5, none⟩ = some (.slice ak (kids q).length ck)) (first | assumption | go_keep)
      ((first
        | (go_at_call 46; refine (HC.out (fun d => S d ∧ d < w.heap.size) _ base _ _ (xs ++ [40]) (by exact ho1) (by have := hg1'.size; have := HK6.out.size; omega) (by simp; omega) (KidsAt.mono (grown_holds hg1' (fun d hd => HS.out d hd.1)) (fun _ h => h) _ _ _ (HK.out.tight.kept HK6.out)) (fun d hd e => own_far2 hw1' (by have := HK6.out.size; omega) (fun e2 => HS.out d hd.1 e2.symm) e.symm)).mono ?_; rintro r w8 ⟨v8, rfl, ho8, hg8, hw8⟩; rw [HZS.out] at ho8; have kk := box_far hg8 k1 n1)
        | (refine step_out_bytes (by rfl) _ _ (by rfl) _ base _ xs xs.length rfl (by rfl) (HO.out.keep (gtrans HK6.out (by first | exact (Kept.refl _).alloc _ _ | exact Kept.alloc (drew_kept _) _ _ | exact gtrans ((Kept.refl _).alloc _ _) (drew_kept _) | exact gtrans (drew_kept _) ((Kept.refl _).alloc _ _) | exact gtrans (gtrans (drew_kept _) ((Kept.refl _).alloc _ _)) (drew_kept _)))) _ [40] 1 rfl (by rfl) (one_lit _ _ _) (by omega) (by omega) (by have := HK6.out.size; simp; omega) ?_; intro g1 c1 w1 ho1 hg1 hw1; have hg1' := grown_pre (w := w6) (by first | exact (Kept.refl _).alloc _ _ | exact Kept.alloc (drew_kept _) _ _ | exact gtrans ((Kept.refl _).alloc _ _) (drew_kept _) | exact gtrans (drew_kept _) ((Kept.refl _).alloc _ _) | exact gtrans (gtrans (drew_kept _) ((Kept.refl _).alloc _ _)) (drew_kept _)) hg1; have hw1' := Own1.pre (w := w6) hw1 (Kept.size (by first | exact (Kept.refl _).alloc _ _ | exact Kept.alloc (drew_kept _) _ _ | exact gtrans ((Kept.refl _).alloc _ _) (drew_kept _) | exact gtrans (drew_kept _) ((Kept.refl _).alloc _ _) | exact gtrans (gtrans (drew_kept _) ((Kept.refl _).alloc _ _)) (drew_kept _))); have k1 := box_far hg1' ⟨q0, q1, q2, q3, q4, q5⟩ HNB.out; have n1 := own_far2 hw1' (x := w.heap.size) hs6 HNB.out)))
    obtain ⟨a8, c8, e8⟩ := ho8.form
    subst e8
    have HO8 := hide1 ho8
    have HG8 := hide1 (grown_pre HK6.out (grown_trans hg1' hw1' hg8))
    have HW8 := hide1 ((hw1'.trans hw8 hg1'.size).pre HK6.out.size)
    clear ho1 hg1 hw1 hg1' hw1' k1 n1 ho8 hg8 hw8 kk
    go_wp2_with (first
      | (at_builtin; refine wpl_out_one rfl _ _ rfl w _ base _ _ zs zs.length rfl 41 _ (by rfl) HO8.out HG8.out HW8.out (by rfl) (by omega) hb ?_; intro g9 c9 w9 cs hcs hcl ho9 hg9 hw9; have HO9 := hide1 ho9; have HG9 := hide1 hg9; have HW9 := hide1 hw9; have HCS := hide1 hcs; have HCL := hide1 hcl; clear ho9 hg9 hw9 hcs hcl))
    go_ret
    have e : xs ++ 40 :: (ys ++ [41]) = cs := by rw [HCS.out, ← HZS.out]; simp
    rw [e]
    exact ⟨_, rfl, HO9.out, HG9.out, HW9.out⟩

end Ex
end Go.Proofs.YtbnchnlogikecaaGreatDoor
