import Derived.Test.YtbnchnlogikecaaGreatDoorPExO7
import Derived.Deep.DeepMust
import Derived.Deep.Cut
import Derived.BigQuiet
import Derived.Deep.RegionHeld3
namespace Go.Proofs.YtbnchnlogikecaaGreatDoor
open Go.RowKit
attribute [local go_sem] Oper.semAt_some
set_option linter.unusedVariables false
set_option linter.unusedSimpArgs false
set_option maxRecDepth 100000
set_option maxHeartbeats 4000000
namespace Ex
namespace Gs
theorem closF_lt {T : ByteArray} : ∀ (f i j : Nat), closF T f i = some j → i ≤ j ∧ j < T.size
  | 0, i, j, h => by rw [closF] at h; cases h
  | f + 1, i, j, h => by
    rw [closF] at h
    split at h
    · split at h
      · have := closF_lt f _ _ h; omega
      · split at h
        · injection h with h; omega
        · have := closF_lt f _ _ h; omega
    · cases h
theorem clE_lt {T : ByteArray} {o i : Nat} (h : clE T o = some i) : i < T.size ∧ o < i := by
  unfold clE at h
  cases hc : closU T o with
  | none => rw [hc] at h; cases h
  | some j =>
    rw [hc] at h
    dsimp only at h
    have h2 := closF_lt _ _ _ hc
    by_cases hf : firstIdx (T.extract o j) 10 < 0
    · rw [if_pos hf] at h; injection h with h; omega
    · rw [if_neg hf] at h; cases h
theorem pattern_ill (T : ByteArray) (hT : T.size ≤ 100000) (b k i : Nat) (w : World) (hs : ScAt w b T k) (hk : k ≤ T.size) (hp : opens T k) (hcl : clE T (skipB T k) = some i) (he : (parseM (T.extract (skipB T k + 1) i)).2.1 ≠ 0) (hf0 : 0 ≤ (parseM (T.extract (skipB T k + 1) i)).2.2) (hf1 : (parseM (T.extract (skipB T k + 1) i)).2.2 ≤ 100000) :
    Calls Tryz.prog 114 #[.pointer (some ⟨b, 0, none⟩)] w fun e w' => e = thrown 64 (((skipB T k : Nat) : Int) + 1 + (parseM (T.extract (skipB T k + 1) i)).2.2) ⟨#[]⟩ ∧ KeptBut b w w' := by
  have HB := hide1 (blanks_is T hT b k)
  obtain ⟨o, ho⟩ : ∃ o, skipB T k = o := ⟨_, rfl⟩
  unfold opens at hp
  rw [ho] at hp HB hcl he hf0 hf1 ⊢
  obtain ⟨hil, h47⟩ := hp
  have hcs : i < T.size ∧ o < i := clE_lt hcl
  have HPA : Hid (∀ w, Calls Tryz.prog 121 #[.string (T.extract (o + 1) i)] w fun r w' => Hid (∃ v, r = .returned (.tuple #[v, .agg #[.int .i64 (parseM (T.extract (o + 1) i)).2.1, .int .i64 (parseM (T.extract (o + 1) i)).2.2, .string ByteArray.empty]]) ∧ PatU (fun d => w.heap.size ≤ d) w' (parseM (T.extract (o + 1) i)).1 v) ∧ Kept w w') := fun w => ParseU_is _ w (by have h7 : (T.extract (o + 1) i).size = min i T.size - (o + 1) := ByteArray.size_extract; omega)
  obtain ⟨PM, hPM⟩ : ∃ m, parseM (T.extract (o + 1) i) = m := ⟨_, rfl⟩
  rw [hPM] at HPA he hf0 hf1 ⊢
  obtain ⟨pat, fe, fa⟩ := PM
  dsimp only at HPA he hf0 hf1 ⊢
  have HS := hide1 hs
  have HK := hide1 hk
  have gT : (T.size : Int) ≤ 100000 := by omega
  have gL : (o : Int) < (T.size : Int) := by omega
  have goi : (o : Int) + 1 ≤ (i : Int) := by omega
  have g01 : (0 : Int) ≤ (o : Int) + 1 := by omega
  have gi0 : (0 : Int) ≤ (i : Int) := by omega
  have giT : (i : Int) ≤ (T.size : Int) := by omega
  have HC : Hid (∀ w, ScAt w b T o → Calls Tryz.prog 120 #[.pointer (some ⟨b, 0, none⟩), .int .i64 (o : Int)] w fun e w' => e = .returned (.tuple #[.int .i64 (i : Int), .bool true]) ∧ Hid (i < T.size ∧ o < i) ∧ Kept w w') := fun w h => closing_yes T hT b o o i w h hil hcl
  have hbw := (Array.getElem?_eq_some_iff.1 hs.choose_spec.choose_spec.1).1
  clear hs hT hk ho hcl hPM
  have HM0 : Hid (Mv b k w (w.alloc (.cells #[.int .i64 0, .int .i64 0, .int .i64 0, .int .i64 0, .int .i64 0, .slice none 0 0] 70))) := (Mv.refl HS.out).kept HS.out ((Kept.refl w).alloc _ _)
  have e1 : ((o : Int) == (T.size : Int)) = false := by simp; omega
  have e2 : (fe != 0) = true := by simpa using he
  have hpk : peekP T (o : Int) = ((T[o]'hil).toNat : Int) := by unfold peekP; rw [dif_pos (by omega)]; rfl
  obtain ⟨ch, hch⟩ : ∃ c, ((T[o]'hil).toNat : Int) = c := ⟨_, rfl⟩
  obtain rfl : ch = 47 := by rw [← hch, ← hpk]; exact h47
  clear hpk h47 he
  go_enter Tryz.func114, Tryz.ntmps114
  go_wp2_with (first
    | (go_at_call 84; go_must (refine (HB.out _ (HM0.out.at_ HS.out) HK.out).mono ?_; rintro e w6 ⟨rfl, hm6⟩; have HM6 := hide1 (HM0.out.trans hm6); obtain ⟨c0, c1, z1⟩ := (HM6.out.at_ HS.out).cells; clear hm6))
    | (go_at_call 120; go_must (refine (HC.out _ (HM6.out.at_ HS.out)).mono ?_; rintro e w8 ⟨rfl, hic, hk8⟩; have HM8 := hide1 (HM6.out.kept HS.out hk8); obtain ⟨c0, c1, z1⟩ := (HM8.out.at_ HS.out).cells; clear hk8))
    | (go_at_call 121; go_must (refine (HPA.out _).mono ?_; rintro e w9 ⟨hv9, hk9⟩; obtain ⟨v9, rfl, v8, rfl, hkk⟩ := hv9.out; rw [valOf_eq]; obtain ⟨a9, n9, e9⟩ := hkk.form; subst e9; have HM9 := hide1 (HM8.out.kept HS.out hk9); obtain ⟨c0, c1, z1⟩ := (HM9.out.at_ HS.out).cells; clear hkk hv9))
    | (go_at_call 51; go_must (refine (fail_is _ _ _ _).mono ?_; rintro e w7 ⟨rfl, hk7⟩; unfold thrown)))
  exact ⟨rfl, rfl, (HM9.out.kept HS.out (gtrans (((Kept.refl _).alloc _ _).alloc _ _) hk7)).1⟩
theorem pattern_ok (T : ByteArray) (hT : T.size ≤ 100000) (b k i : Nat) (w : World) (hs : ScAt w b T k) (hk : k ≤ T.size) (hp : opens T k) (hcl : clE T (skipB T k) = some i) (he : (parseM (T.extract (skipB T k + 1) i)).2.1 = 0) :
    Calls Tryz.prog 114 #[.pointer (some ⟨b, 0, none⟩)] w fun e w' => (∃ v, e = .returned v ∧ PatU (fun d => w.heap.size ≤ d) w' (parseM (T.extract (skipB T k + 1) i)).1 v) ∧ Mv b (i + 1) w w' := by
  have HB := hide1 (blanks_is T hT b k)
  obtain ⟨o, ho⟩ : ∃ o, skipB T k = o := ⟨_, rfl⟩
  unfold opens at hp
  rw [ho] at hp HB hcl he ⊢
  obtain ⟨hil, h47⟩ := hp
  have hcs : i < T.size ∧ o < i := clE_lt hcl
  have HPA : Hid (∀ w, Calls Tryz.prog 121 #[.string (T.extract (o + 1) i)] w fun r w' => Hid (∃ v, r = .returned (.tuple #[v, .agg #[.int .i64 (parseM (T.extract (o + 1) i)).2.1, .int .i64 (parseM (T.extract (o + 1) i)).2.2, .string ByteArray.empty]]) ∧ PatU (fun d => w.heap.size ≤ d) w' (parseM (T.extract (o + 1) i)).1 v) ∧ Kept w w') := fun w => ParseU_is _ w (by have h7 : (T.extract (o + 1) i).size = min i T.size - (o + 1) := ByteArray.size_extract; omega)
  obtain ⟨PM, hPM⟩ : ∃ m, parseM (T.extract (o + 1) i) = m := ⟨_, rfl⟩
  rw [hPM] at HPA he ⊢
  obtain ⟨pat, fe, fa⟩ := PM
  dsimp only at HPA he ⊢
  have HS := hide1 hs
  have HK := hide1 hk
  have gT : (T.size : Int) ≤ 100000 := by omega
  have gL : (o : Int) < (T.size : Int) := by omega
  have goi : (o : Int) + 1 ≤ (i : Int) := by omega
  have g01 : (0 : Int) ≤ (o : Int) + 1 := by omega
  have gi0 : (0 : Int) ≤ (i : Int) := by omega
  have giT : (i : Int) ≤ (T.size : Int) := by omega
  have HC : Hid (∀ w, ScAt w b T o → Calls Tryz.prog 120 #[.pointer (some ⟨b, 0, none⟩), .int .i64 (o : Int)] w fun e w' => e = .returned (.tuple #[.int .i64 (i : Int), .bool true]) ∧ Hid (i < T.size ∧ o < i) ∧ Kept w w') := fun w h => closing_yes T hT b o o i w h hil hcl
  have hbw := (Array.getElem?_eq_some_iff.1 hs.choose_spec.choose_spec.1).1
  clear hs hT hk ho hcl hPM
  have HM0 : Hid (Mv b k w (w.alloc (.cells #[.int .i64 0, .int .i64 0, .int .i64 0, .int .i64 0, .int .i64 0, .slice none 0 0] 70))) := (Mv.refl HS.out).kept HS.out ((Kept.refl w).alloc _ _)
  have e1 : ((o : Int) == (T.size : Int)) = false := by simp; omega
  subst he
  have hpk : peekP T (o : Int) = ((T[o]'hil).toNat : Int) := by unfold peekP; rw [dif_pos (by omega)]; rfl
  obtain ⟨ch, hch⟩ : ∃ c, ((T[o]'hil).toNat : Int) = c := ⟨_, rfl⟩
  obtain rfl : ch = 47 := by rw [← hch, ← hpk]; exact h47
  clear hpk h47
  have hbg : w.heap.size ≠ b := by omega
  have HB0 := hide1 (BoxAt.new w (.int .i64 0) (.int .i64 0) (.int .i64 0) (.int .i64 0) (.int .i64 0) (.slice none 0 0))
  go_enter Tryz.func114, Tryz.ntmps114
  go_upto_region 11 with (first
    | (go_at_call 84; go_must (refine (HB.out _ (HM0.out.at_ HS.out) HK.out).mono ?_; rintro e w6 ⟨rfl, hm6⟩; have HM6 := hide1 (HM0.out.trans hm6); have HB6 : Hid (BoxAt w6 w.heap.size (.int .i64 0) (.int .i64 0) (.int .i64 0) (.int .i64 0) (.int .i64 0) (.slice none 0 0)) := (hm6.1.2.2.2.2 _ HB0.out.lt hbg).trans HB0.out; obtain ⟨c0, c1, z1⟩ := (HM6.out.at_ HS.out).cells; clear hm6))
    | (go_at_call 120; go_must (refine (HC.out _ (HM6.out.at_ HS.out)).mono ?_; rintro e w8 ⟨rfl, hic, hk8⟩; have HM8 := hide1 (HM6.out.kept HS.out hk8); have HB8 := hide1 (HB6.out.keep hk8); obtain ⟨c0, c1, z1⟩ := (HM8.out.at_ HS.out).cells; clear hk8))
    | (go_at_call 121; go_must (refine (HPA.out _).mono ?_; rintro e w9 ⟨hv9, hk9⟩; obtain ⟨v9, rfl, v8, rfl, hkk⟩ := hv9.out; rw [valOf_eq]; obtain ⟨a9, n9, e9⟩ := hkk.form; subst e9; have HM9 := hide1 (HM8.out.kept HS.out hk9); have HB9 := hide1 (HB8.out.keep hk9); have HKK := hide1 hkk; obtain ⟨c0, c1, z1⟩ := (HM9.out.at_ HS.out).cells; clear hkk hv9)))
  have hlt8 : w.heap.size < w8.heap.size := HB8.out.lt
  have hlt9 : w.heap.size < w9.heap.size := HB9.out.lt
  have HKW := hide1 (((Kept.refl w9).alloc #[.int .i64 (kind pat.2), .int .i64 (from_ pat.2), .int .i64 (to_ pat.2), .int .i64 (min_ pat.2), .int .i64 (max_ pat.2), .slice a9 (kids pat.2).length n9] 70).alloc #[.int .i64 0, .int .i64 fa, .string ByteArray.empty] 30)
  have HBE := hide1 ((BoxAt.new w9 (.int .i64 (kind pat.2)) (.int .i64 (from_ pat.2)) (.int .i64 (to_ pat.2)) (.int .i64 (min_ pat.2)) (.int .i64 (max_ pat.2)) (.slice a9 (kids pat.2).length n9)).keep ((Kept.refl _).alloc #[.int .i64 0, .int .i64 fa, .string ByteArray.empty] 30))
  have HBX := hide1 (HB9.out.keep HKW.out)
  have HMX := hide1 (HM9.out.kept HS.out HKW.out)
  have HKX := hide1 (KidsO.kept HKK.out HKW.out)
  obtain ⟨g9, hg9⟩ : ∃ g, w9.heap.size = g := ⟨_, rfl⟩
  generalize ((w9.alloc (.cells #[.int .i64 (kind pat.2), .int .i64 (from_ pat.2), .int .i64 (to_ pat.2), .int .i64 (min_ pat.2), .int .i64 (max_ pat.2), .slice a9 (kids pat.2).length n9] 70)).alloc (.cells #[.int .i64 0, .int .i64 fa, .string ByteArray.empty] 30)) = WX at HBE HBX HMX HKX ⊢
  rw [hg9] at HBE hlt9 ⊢
  obtain ⟨c0, c1, z1⟩ := (HMX.out.at_ HS.out).cells
  go_upto_region 12 with fail
  have HMY : Hid (Mv b (i + 1) w (WX.setCell ⟨b, 1, none⟩ (.int .i64 ((i : Int) + 1)))) := HMX.out.set (i + 1)
  have HBEY : Hid (BoxAt (WX.setCell ⟨b, 1, none⟩ (.int .i64 ((i : Int) + 1))) g9 (.int .i64 (kind pat.2)) (.int .i64 (from_ pat.2)) (.int .i64 (to_ pat.2)) (.int .i64 (min_ pat.2)) (.int .i64 (max_ pat.2)) (.slice a9 (kids pat.2).length n9)) := heap_set HBE.out (by omega)
  have HBXY : Hid (BoxAt (WX.setCell ⟨b, 1, none⟩ (.int .i64 ((i : Int) + 1))) w.heap.size (.int .i64 0) (.int .i64 0) (.int .i64 0) (.int .i64 0) (.int .i64 0) (.slice none 0 0)) := heap_set HBX.out (by omega)
  have HKY := hide1 (KidsO.mono (w' := WX.setCell ⟨b, 1, none⟩ (.int .i64 ((i : Int) + 1))) (HoldsU.set (fun _ _ _ => rfl) (by omega)) (fun d h => h) _ _ _ HKX.out)
  generalize WX.setCell ⟨b, 1, none⟩ (.int .i64 ((i : Int) + 1)) = WY at HMY HBEY HBXY HKY ⊢
  clear c0 c1 z1
  obtain ⟨⟨q0, q1, q2, q3, q4, q5⟩, _⟩ := HBEY.out.facts
  obtain ⟨⟨p0, p1, p2, p3, p4, p5⟩, x0, x1, x2, x3, x4, x5⟩ := HBXY.out.facts
  go_wp2_with fail
  refine bodyPost_ret (box_returns rfl _ _ w.heap.size _ _ _ _ _ _ rfl (BoxAt.set HBXY.out)) rfl ?_
  refine ⟨⟨_, rfl, _, rfl, KidsO.mono (set6_holdsU (by omega)) (fun d h => by have h2 : w8.heap.size ≤ d := h; show w.heap.size ≤ d; omega) _ _ _ HKY.out⟩, ?_⟩
  exact (((((HMY.out.new (Nat.le_refl _) hbg _ _).new (Nat.le_refl _) hbg _ _).new (Nat.le_refl _) hbg _ _).new (Nat.le_refl _) hbg _ _).new (Nat.le_refl _) hbg _ _).new (Nat.le_refl _) hbg _ _
end Gs
end Ex
end Go.Proofs.YtbnchnlogikecaaGreatDoor
