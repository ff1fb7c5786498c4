import Derived.Test.YtbnchnlogikecaaGreatDoorMGs5
import Derived.Deep.DeepMust
import Derived.Deep.Cut
import Derived.BigQuiet
import Derived.Deep.RegionHeld3
namespace Go.Proofs.YtbnchnlogikecaaGreatDoor
open Go.RowKit
attribute [local go_sem] Oper.semAt_some
set_option linter.unusedVariables false
namespace Ex
namespace Gs

set_option linter.unusedSimpArgs false in
set_option maxRecDepth 100000 in
set_option maxHeartbeats 4000000 in
theorem sign_ok (T : ByteArray) (hT : T.size ≤ 100000) (b k : Nat) (w : World) (hs : ScAt w b T k) (hk : k ≤ T.size) (kd : Int) (hkd : (nextM T k).kd = kd) :
    Calls Tryz.prog 90 #[.pointer (some ⟨b, 0, none⟩), .int .i64 kd] w fun e w' => e = .returned (.tuple #[]) ∧ Mv b (nextM T k).nx w w' := by
  obtain ⟨N, hN⟩ : ∃ N, nextM T k = N := ⟨_, rfl⟩
  have HN := hide1 (next_is T hT b k)
  rw [hN] at hkd HN ⊢
  subst hkd
  have HS := hide1 hs
  have HK := hide1 hk
  have hbw := (Array.getElem?_eq_some_iff.1 hs.choose_spec.choose_spec.1).1
  clear hs hk hT hN
  go_enter Tryz.func90, Tryz.ntmps90
  go_upto_region 2 with (go_at_call 49; go_must (refine (HN.out _ HS.out HK.out).mono ?_; rintro e w1 ⟨rfl, hm1⟩; have HM1 := hide1 hm1; clear hm1))
  go_end0
  exact ⟨rfl, HM1.out.kept HS.out ((Kept.refl _).alloc _ _)⟩
set_option linter.unusedSimpArgs false in
set_option maxRecDepth 100000 in
set_option maxHeartbeats 4000000 in
theorem sign_bad (T : ByteArray) (hT : T.size ≤ 100000) (b k : Nat) (w : World) (hs : ScAt w b T k) (hk : k ≤ T.size) (kd : Int) (hkd : (nextM T k).kd ≠ kd) :
    Calls Tryz.prog 90 #[.pointer (some ⟨b, 0, none⟩), .int .i64 kd] w fun e w' => e = thrown 60 ((nextM T k).pl : Int) ⟨#[]⟩ ∧ KeptBut b w w' := by
  obtain ⟨N, hN⟩ : ∃ N, nextM T k = N := ⟨_, rfl⟩
  have HN := hide1 (next_is T hT b k)
  rw [hN] at hkd HN ⊢
  have hne : (N.kd != kd) = true := by simpa using hkd
  have HS := hide1 hs
  have HK := hide1 hk
  have hbw := (Array.getElem?_eq_some_iff.1 hs.choose_spec.choose_spec.1).1
  clear hs hk hT hN hkd
  go_enter Tryz.func90, Tryz.ntmps90
  go_wp2_with (first
    | (go_at_call 49; go_must (refine (HN.out _ HS.out HK.out).mono ?_; rintro e w1 ⟨rfl, hm1⟩; have HM1 := hide1 hm1; clear hm1))
    | (go_at_call 108; go_must (refine (wrong_is _ _ _ _).mono ?_; rintro e w7 ⟨rfl, hk7⟩; unfold thrown)))
  exact ⟨rfl, rfl, (HM1.out.kept HS.out (gtrans ((Kept.refl _).alloc _ _) hk7)).1⟩
/-- Why a token may not stand in a right side; 0: it may. -/
def paE (N : Tok) : Int := if N.kd = 2 ∧ N.wd ≠ errW then nmE 2 N.wd else if N.kd ≠ 2 ∧ N.kd ≠ 124 ∧ N.kd ≠ 59 then 60 else 0
set_option linter.unusedSimpArgs false in
set_option maxRecDepth 100000 in
set_option maxHeartbeats 4000000 in
theorem part_ok (T : ByteArray) (hT : T.size ≤ 100000) (b k : Nat) (w : World) (hs : ScAt w b T k) (hk : k ≤ T.size) (hp : paE (nextM T k) = 0) :
    Calls Tryz.prog 109 #[.pointer (some ⟨b, 0, none⟩)] w fun e w' => e = .returned (.agg #[.int .i64 (nextM T k).kd, .int .i64 ((nextM T k).pl : Int), .string (nextM T k).wd]) ∧ Mv b (nextM T k).nx w w' := by
  obtain ⟨N, hN⟩ : ∃ N, nextM T k = N := ⟨_, rfl⟩
  have HN := hide1 (next_is T hT b k)
  rw [hN] at hp HN ⊢
  obtain ⟨kd, pl, wd, nx⟩ := N
  dsimp only at HN ⊢
  unfold paE at hp
  dsimp only at hp
  have HS := hide1 hs
  have HK := hide1 hk
  have hbw := (Array.getElem?_eq_some_iff.1 hs.choose_spec.choose_spec.1).1
  clear hs hk hT hN
  go_enter Tryz.func109, Tryz.ntmps109
  have hbg : w.heap.size ≠ b := by omega
  have HB0 := hide1 (show TkB (w.alloc (.cells #[.int .i64 0, .int .i64 0, .string ⟨#[]⟩] 104)) w.heap.size 0 0 ⟨#[]⟩ from heap_alloc_new w _)
  have HM0 : Hid (Mv b k w (w.alloc (.cells #[.int .i64 0, .int .i64 0, .string ⟨#[]⟩] 104))) := (Mv.refl HS.out).kept HS.out ((Kept.refl w).alloc _ _)
  go_upto_region 1 with fail
  obtain ⟨gt, hgt⟩ : ∃ gt, w.heap.size = gt := ⟨_, rfl⟩
  have HGT := hide1 hgt
  generalize w.alloc (.cells #[.int .i64 0, .int .i64 0, .string ⟨#[]⟩] 104) = W0 at HB0 HM0 ⊢
  rw [hgt] at HB0 hbg ⊢
  clear hgt
  go_upto_region 2 with (go_at_call 49; go_must (refine (HN.out _ (HM0.out.at_ HS.out) HK.out).mono ?_; rintro e w1 ⟨rfl, hm1⟩; have HM1 := hide1 (HM0.out.trans hm1); have HB1 := hide1 (HB0.out.mv hm1 hbg); clear hm1))
  have HB2 := hide1 (fact3 w1 kd pl wd)
  have HM2 := hide1 (HM1.out.kept HS.out ((Kept.refl w1).alloc #[.int .i64 kd, .int .i64 (pl : Int), .string wd] 104))
  have HB3 := hide1 (HB1.out.keep ((Kept.refl w1).alloc #[.int .i64 kd, .int .i64 (pl : Int), .string wd] 104))
  have hgt1 : gt < w1.heap.size := (Array.getElem?_eq_some_iff.1 HB1.out).1
  obtain ⟨g2, hg2⟩ : ∃ g2, w1.heap.size = g2 := ⟨_, rfl⟩
  generalize w1.alloc (.cells #[.int .i64 kd, .int .i64 (pl : Int), .string wd] 104) = W2 at HB2 HM2 HB3 ⊢
  rw [hg2] at HB2 hgt1 ⊢
  clear hg2
  obtain ⟨⟨t0, t1, t2⟩, -⟩ := HB2.out.facts
  obtain ⟨⟨r0, r1, r2⟩, x0, x1, x2⟩ := HB3.out.facts
  by_cases h1 : kd = 2
  · subst h1
    by_cases h2 : wd = errW
    · have hb : (wd.toList == [101, 114, 114, 111, 114]) = true := by rw [h2, errW_list]; rfl
      clear h2 hp
      go_wp2_with fail
      have hend := tok_end HM2.out HB3.out (by have := HGT.out; omega) hbg 2 pl wd
      refine bodyPost_ret (tok_returns rfl _ _ gt _ _ _ rfl hend.1) rfl ?_
      exact ⟨rfl, hend.2⟩
    · have hb : (wd.toList == [101, 114, 114, 111, 114]) = false := by
        have h := bytes_ne h2
        rw [errW_list] at h
        exact h
      have HE : Hid (nmE 2 wd = 0) := by rw [if_pos ⟨rfl, h2⟩] at hp; exact hp
      clear h2 hp
      go_wp2_with (go_at_call 107; go_must (refine (checkName_ok _ _ _ _ HE.out).mono ?_; rintro e w6 ⟨rfl, hk6⟩; have HM6 := hide1 (HM2.out.kept HS.out hk6); have HB6 := hide1 (HB3.out.keep hk6); obtain ⟨⟨u0, u1, u2⟩, -⟩ := (HB2.out.keep hk6).facts; obtain ⟨⟨v0, v1, v2⟩, y0, y1, y2⟩ := HB6.out.facts; clear hk6))
      have hend := tok_end HM6.out HB6.out (by have := HGT.out; omega) hbg 2 pl wd
      refine bodyPost_ret (tok_returns rfl _ _ gt _ _ _ rfl hend.1) rfl ?_
      exact ⟨rfl, hend.2⟩
  · rw [if_neg (fun e => h1 e.1)] at hp
    have h3 : kd = 124 ∨ kd = 59 := by
      by_cases h4 : kd ≠ 2 ∧ kd ≠ 124 ∧ kd ≠ 59
      · rw [if_pos h4] at hp; cases hp
      · omega
    clear hp h1
    rcases h3 with rfl | rfl
    · go_wp2_with fail
      have hend := tok_end HM2.out HB3.out (by have := HGT.out; omega) hbg 124 pl wd
      refine bodyPost_ret (tok_returns rfl _ _ gt _ _ _ rfl hend.1) rfl ?_
      exact ⟨rfl, hend.2⟩
    · go_wp2_with fail
      have hend := tok_end HM2.out HB3.out (by have := HGT.out; omega) hbg 59 pl wd
      refine bodyPost_ret (tok_returns rfl _ _ gt _ _ _ rfl hend.1) rfl ?_
      exact ⟨rfl, hend.2⟩

end Gs
end Ex
end Go.Proofs.YtbnchnlogikecaaGreatDoor
namespace Go.Proofs.YtbnchnlogikecaaGreatDoor
open Go.RowKit
attribute [local go_sem] Oper.semAt_some
set_option linter.unusedVariables false
namespace Ex
namespace Gs

set_option linter.unusedSimpArgs false in
set_option maxRecDepth 100000 in
set_option maxHeartbeats 4000000 in
theorem part_bad (T : ByteArray) (hT : T.size ≤ 100000) (b k : Nat) (w : World) (hs : ScAt w b T k) (hk : k ≤ T.size) (hp : paE (nextM T k) ≠ 0) :
    Calls Tryz.prog 109 #[.pointer (some ⟨b, 0, none⟩)] w fun e w' => e = thrown (paE (nextM T k)) ((nextM T k).pl : Int) (if paE (nextM T k) = 2 then (nextM T k).wd.extract 0 64 else ⟨#[]⟩) ∧ KeptBut b w w' := by
  obtain ⟨N, hN⟩ : ∃ N, nextM T k = N := ⟨_, rfl⟩
  have HN := hide1 (next_is T hT b k)
  rw [hN] at hp HN ⊢
  obtain ⟨kd, pl, wd, nx⟩ := N
  dsimp only at HN ⊢
  obtain ⟨pe, hpe⟩ : ∃ x, paE ⟨kd, pl, wd, nx⟩ = x := ⟨_, rfl⟩
  rw [hpe] at hp ⊢
  obtain ⟨nv, hnv⟩ : ∃ x : ByteArray, (if pe = 2 then wd.extract 0 64 else ⟨#[]⟩) = x := ⟨_, rfl⟩
  rw [hnv]
  have HNV := hide1 hnv
  clear hnv
  unfold paE at hpe
  dsimp only at hpe
  have HS := hide1 hs
  have HK := hide1 hk
  have hbw := (Array.getElem?_eq_some_iff.1 hs.choose_spec.choose_spec.1).1
  clear hs hk hT hN
  go_enter Tryz.func109, Tryz.ntmps109
  have hbg : w.heap.size ≠ b := by omega
  have HB0 := hide1 (show TkB (w.alloc (.cells #[.int .i64 0, .int .i64 0, .string ⟨#[]⟩] 104)) w.heap.size 0 0 ⟨#[]⟩ from heap_alloc_new w _)
  have HM0 : Hid (Mv b k w (w.alloc (.cells #[.int .i64 0, .int .i64 0, .string ⟨#[]⟩] 104))) := (Mv.refl HS.out).kept HS.out ((Kept.refl w).alloc _ _)
  go_upto_region 1 with fail
  obtain ⟨gt, hgt⟩ : ∃ gt, w.heap.size = gt := ⟨_, rfl⟩
  have HGT := hide1 hgt
  generalize w.alloc (.cells #[.int .i64 0, .int .i64 0, .string ⟨#[]⟩] 104) = W0 at HB0 HM0 ⊢
  rw [hgt] at HB0 hbg ⊢
  clear hgt
  go_upto_region 2 with (go_at_call 49; go_must (refine (HN.out _ (HM0.out.at_ HS.out) HK.out).mono ?_; rintro e w1 ⟨rfl, hm1⟩; have HM1 := hide1 (HM0.out.trans hm1); have HB1 := hide1 (HB0.out.mv hm1 hbg); clear hm1))
  have HB2 := hide1 (fact3 w1 kd pl wd)
  have HM2 := hide1 (HM1.out.kept HS.out ((Kept.refl w1).alloc #[.int .i64 kd, .int .i64 (pl : Int), .string wd] 104))
  have HB3 := hide1 (HB1.out.keep ((Kept.refl w1).alloc #[.int .i64 kd, .int .i64 (pl : Int), .string wd] 104))
  have hgt1 : gt < w1.heap.size := (Array.getElem?_eq_some_iff.1 HB1.out).1
  obtain ⟨g2, hg2⟩ : ∃ g2, w1.heap.size = g2 := ⟨_, rfl⟩
  generalize w1.alloc (.cells #[.int .i64 kd, .int .i64 (pl : Int), .string wd] 104) = W2 at HB2 HM2 HB3 ⊢
  rw [hg2] at HB2 hgt1 ⊢
  clear hg2
  obtain ⟨⟨t0, t1, t2⟩, -⟩ := HB2.out.facts
  obtain ⟨⟨r0, r1, r2⟩, x0, x1, x2⟩ := HB3.out.facts
  by_cases h1 : kd = 2
  · subst h1
    by_cases h2 : wd = errW
    · rw [if_neg (fun e => e.2 h2), if_neg (fun e => e.1 rfl)] at hpe
      exact absurd hpe.symm hp
    · have hb : (wd.toList == [101, 114, 114, 111, 114]) = false := by
        have h := bytes_ne h2
        rw [errW_list] at h
        exact h
      rw [if_pos ⟨rfl, h2⟩] at hpe
      have HE := hide1 (show nmE 2 wd ≠ 0 by rw [hpe]; exact hp)
      have HPE := hide1 hpe
      clear h2 hp hpe
      go_wp2_with (go_at_call 107; go_must (refine (checkName_bad _ _ _ _ HE.out).mono ?_; rintro e w6 ⟨rfl, hk6⟩; rw [HPE.out, HNV.out]; unfold thrown))
      exact ⟨rfl, rfl, (HM2.out.kept HS.out hk6).1⟩
  · rw [if_neg (fun e => h1 e.1)] at hpe
    have h3 : kd ≠ 124 ∧ kd ≠ 59 := by
      by_cases h4 : kd ≠ 2 ∧ kd ≠ 124 ∧ kd ≠ 59
      · exact h4.2
      · rw [if_neg h4] at hpe
        exact absurd hpe.symm hp
    rw [if_pos ⟨h1, h3⟩] at hpe
    have hnv := HNV.out
    rw [← hpe, if_neg (by decide)] at hnv
    subst hnv
    subst hpe
    have e1 : (kd == 2) = false := by simpa using h1
    have e1' : (kd != 2) = true := by simpa using h1
    have e2 : (kd != 124) = true := by simpa using h3.1
    have e3 : (kd != 59) = true := by simpa using h3.2
    clear hp h1 h3
    go_wp2_with (go_at_call 108; go_must (refine (wrong_is _ _ _ _).mono ?_; rintro e w7 ⟨rfl, hk7⟩; unfold thrown))
    exact ⟨rfl, rfl, (HM2.out.kept HS.out hk7).1⟩

end Gs
end Ex
end Go.Proofs.YtbnchnlogikecaaGreatDoor
namespace Go.Proofs.YtbnchnlogikecaaGreatDoor
open Go.RowKit
attribute [local go_sem] Oper.semAt_some
set_option linter.unusedVariables false
namespace Ex
namespace Gs

/-- The slash that ends a pattern. -/
def closF (T : ByteArray) : Nat → Nat → Option Nat
  | 0, _ => none
  | f + 1, i => if i < T.size then (if peekP T i = 92 then closF T f (i + 2) else if peekP T i = 47 then some i else closF T f (i + 1)) else none
def closU (T : ByteArray) (o : Nat) : Option Nat := closF T (T.size + 1) (o + 1)
theorem clos_step {T : ByteArray} {f i : Nat} (h : i < T.size) (hf : T.size - i ≤ f) : ∃ f', T.size - (i + 1) ≤ f' ∧ closF T f i = if peekP T i = 92 then closF T f' (i + 2) else if peekP T i = 47 then some i else closF T f' (i + 1) := by
  obtain ⟨g, rfl⟩ : ∃ g, f = g + 1 := ⟨f - 1, by omega⟩
  exact ⟨g, by omega, by rw [closF, if_pos h]⟩
theorem clos_end {T : ByteArray} {f i : Nat} (h : ¬ i < T.size) : closF T f i = none := by
  cases f with
  | zero => rfl
  | succ f => rw [closF, if_neg h]
set_option linter.unusedSimpArgs false in
set_option maxRecDepth 100000 in
set_option maxHeartbeats 4000000 in
theorem closing_is (T : ByteArray) (hT : T.size ≤ 100000) (b k o : Nat) (w : World) (hs : ScAt w b T k) (ho : o < T.size) :
    Calls Tryz.prog 120 #[.pointer (some ⟨b, 0, none⟩), .int .i64 (o : Int)] w fun e w' => (match closU T o with
      | some i => i < T.size ∧ o < i ∧ e = .returned (.tuple #[.int .i64 (i : Int), .bool (decide (firstIdx (T.extract o i) 10 < 0))])
      | none => e = .returned (.tuple #[.int .i64 0, .bool false])) ∧ Kept w w' := by
  have HS := hide1 hs
  have gT : (T.size : Int) ≤ 100000 := by omega
  have go' : (o : Int) < (T.size : Int) := by omega
  have hbw := (Array.getElem?_eq_some_iff.1 hs.choose_spec.choose_spec.1).1
  obtain ⟨cl, hcl⟩ : ∃ c, closU T o = c := ⟨_, rfl⟩
  have HCL := hide1 hcl
  rw [hcl]
  have HO := hide1 ho
  clear hs hT hcl ho
  go_enter Tryz.func120, Tryz.ntmps120
  go_wp2_with fail
  go_loopw [6] (fun iv wr => ∃ (i f : Nat), iv = .int .i64 (i : Int) ∧ o < i ∧ i ≤ T.size + 1 ∧ Hid (T.size - i ≤ f) ∧ Hid (closF T f i = cl) ∧ Hid (Kept w wr)) (fun iv _ => T.size + 1 - (intOf iv).toNat)
  case atStart => exact ⟨o + 1, T.size + 1, by go_num, by omega, by have := HO.out; omega, (show _ ≤ _ by omega), HCL.out, Kept.refl _⟩
  case round =>
    obtain ⟨i, f, rfl, hoi, hi, hf, hq, hk⟩ := hrel
    obtain ⟨c, t, hc⟩ := HS.out
    have HS2 : Hid (ScAt wr b T k) := ⟨c, t, (hk.out.2.2.2.2 b hbw).trans hc.1, hc.2⟩
    obtain ⟨c0, c1, z1⟩ := HS2.out.cells
    have hbr := (Array.getElem?_eq_some_iff.1 HS2.out.choose_spec.choose_spec.1).1
    clear hc
    by_cases hlt : (i : Int) < (T.size : Int)
    · have hil : i < T.size := by omega
      have hpk : peekP T (i : Int) = ((T[i]'hil).toNat : Int) := by unfold peekP; rw [dif_pos (by omega)]; rfl
      obtain ⟨f', hf', hst⟩ := clos_step hil hf.out
      rw [hpk, hq.out] at hst
      obtain ⟨ch, hch⟩ : ∃ c, ((T[i]'hil).toNat : Int) = c := ⟨_, rfl⟩
      rw [hch] at hst
      have HF := hide1 hf'
      clear hpk hq hf hf'
      by_cases h92 : ch = 92
      · rw [if_pos h92] at hst
        subst h92
        have HQ := hide1 hst.symm
        clear hst
        go_wp2_with (go_quiet (fail))
        exact ⟨⟨i + 2, f', by congr 1, by omega, by omega, (show _ ≤ _ by have := HF.out; omega), HQ, hk⟩, by simp [intOf]; omega⟩
      · rw [if_neg h92] at hst
        have e92 : (ch == 92) = false := by simpa using h92
        by_cases h47 : ch = 47
        · rw [if_pos h47] at hst
          subst hst
          subst h47
          obtain ⟨fi, hfi⟩ : ∃ fi, firstIdx (T.extract o i) 10 = fi := ⟨_, rfl⟩
          have HFI := hide1 hfi
          have HIX : Hid (∀ w, Calls Tryz.prog 99 #[.string (T.extract o i), .int .u8 10] w fun e w' => e = .returned (.int .i64 fi) ∧ ∃ m, w' = w.drewN m) := fun w => (index_is (T.extract o i) 10 w).mono (fun e w' h => ⟨by rw [h.1, ← hfi]; rfl, 0, h.2⟩)
          have goi : (o : Int) ≤ (i : Int) := by omega
          have gis : (i : Int) ≤ (T.size : Int) := by omega
          clear hfi h92
          go_wp2_with (go_at_call 99; refine (HIX.out _).mono ?_; rintro e w6 ⟨rfl, m6, rfl⟩)
          go_ret2
          rw [HFI.out]
          first
            | exact ⟨rfl, hk.out⟩
            | exact ⟨⟨hil, hoi, rfl⟩, hk.out⟩
            | exact hk.out
            | trace_state
        · rw [if_neg h47] at hst
          have e47 : (ch == 47) = false := by simpa using h47
          have HQ := hide1 hst.symm
          clear hst h92 h47
          go_wp2_with (go_quiet (fail))
          exact ⟨⟨i + 1, f', by congr 1, by omega, by omega, (show _ ≤ _ by exact HF.out), HQ, hk⟩, by simp [intOf]; omega⟩
    · have hce := clos_end (T := T) (f := f) (i := i) (by omega)
      have hcn : none = cl := hce.symm.trans hq.out
      subst hcn
      clear hq hce
      go_wp2_with (go_quiet (fail))
      go_ret2
      first
        | exact ⟨rfl, hk.out⟩
        | exact hk.out
        | trace_state

end Gs
end Ex
end Go.Proofs.YtbnchnlogikecaaGreatDoor
