import Derived.Test.YtbnchnlogikecaaGreatDoorPSpSz2
import Derived.Test.YtbnchnlogikecaaGreatDoorPExKl
import Derived.Test.YtbnchnlogikecaaGreatDoorPGt4
import Derived.Deep.DeepMust
import Derived.BigQuiet
import Derived.Deep.RegionHeld3
namespace Go.Proofs.YtbnchnlogikecaaGreatDoor
open Go.RowKit
attribute [local go_sem] Oper.semAt_some
set_option linter.unusedVariables false
set_option linter.unusedSimpArgs false
set_option maxRecDepth 100000
set_option maxHeartbeats 8000000
namespace Ex
namespace Gs
open Sh
def RnI (ρ : Nat → Nat) (b : Nat) (T : ByteArray) (w : World) (left : Nat) (X : Except Flt RSt) (wr : World) : Prop :=
  ∃ (s1 : RSt) (ρ1 : Nat → Nat) (f : Nat), sidesM T (left : Int) f s1 = X ∧ T.size + 1 ≤ f + s1.k ∧ RdA ρ1 wr b T s1 ∧ Went ρ b w ρ1 wr ∧ Wf T s1
theorem RdA.sc {ρ : Nat → Nat} {w : World} {b : Nat} {T : ByteArray} {s : RSt} (h : RdA ρ w b T s) : ScAt w b T s.k := by
  obtain ⟨xL, xN, xP, xU, m, its, ps, h⟩ := h
  exact h.sc
theorem RdA.kept {ρ : Nat → Nat} {w w' : World} {b : Nat} {T : ByteArray} {s : RSt} (h : RdA ρ w b T s) (hk : Kept w w') : RdA ρ w' b T s := by
  obtain ⟨xL, xN, xP, xU, m, its, ps, h⟩ := h
  exact (h.kept hk).a
theorem nont_is (T : ByteArray) (hT : T.size ≤ 100000) (b : Nat) (N : Tok) (w : World) (ρ : Nat → Nat) (s : RSt) (h : RdA ρ w b T s) (hf : Wf T s) (hwd : N.wd.size ≤ 100000) :
    Calls Tryz.prog 72 #[.pointer (some ⟨b, 0, none⟩), .agg #[.int .i64 N.kd, .int .i64 (N.pl : Int), .string N.wd]] w (OutR ρ b T w (nontM T N s)) := by
  obtain ⟨R, hR⟩ : ∃ R, nontM T N s = R := ⟨_, rfl⟩
  rw [hR]
  obtain ⟨xL, ⟨na, nn, nc⟩, xP, xU, m, its, ps, h⟩ := h
  have hnn : s.nam.length = nn := lo_lens h.nam
  unfold nontM at hR
  rw [hnn] at hR
  obtain ⟨X1, hX1⟩ : ∃ X, giveM N 3 (nn : Int) s = X := ⟨_, rfl⟩
  rw [hX1] at hR
  have HGV : Hid (∀ w ρ, RdA ρ w b T s → Calls Tryz.prog 89 #[.pointer (some ⟨b, 0, none⟩), .agg #[.int .i64 N.kd, .int .i64 (N.pl : Int), .string N.wd], .agg #[.int .i64 3, .int .i64 (nn : Int)]] w (OutR ρ b T w X1)) := fun w ρ h => by
    rw [← hX1]
    exact give_is T b N 3 (nn : Int) w ρ s h hwd (by have := hf.gn; have := hf.lex; have := hf.nam; omega)
  have HX1 : Hid (∀ s1, X1 = .ok s1 → s1 = { s with giv := putG s.giv N.wd (3, (nn : Int)), gn := s.gn + 1 }) := fun s1 h => (give_ok (hX1.trans h)).2.2
  have HR := hide1 hR
  have HF := hide1 hf
  have HT := hide1 hT
  have HN0 := hide1 hnn
  have HW0 := hide1 (Went.refl ρ b w)
  have HB := hide1 h
  clear hR hX1 hf hT hnn h hwd
  obtain ⟨kd, pl, wd, nx⟩ := N
  dsimp only at HGV HX1 HR ⊢
  obtain ⟨pl, hpl⟩ : ∃ p : Int, (pl : Int) = p := ⟨_, rfl⟩
  rw [hpl] at HGV HR ⊢
  clear hpl
  go_enter Tryz.func72, Tryz.ntmps72
  have HGR := hide1 (HB.out.fresh (Nat.le_refl _))
  have HGB := hide1 (show w.heap.size ≠ b from fun e => by have := HB.out.ltb; omega)
  have HT1 := hide1 (fact3 w kd pl wd)
  have HB1 := hide1 (HB.out.kept ((Kept.refl w).alloc #[.int .i64 kd, .int .i64 pl, .string wd] 104))
  have HW1 := hide1 (HW0.out.kept ((Kept.refl w).alloc #[.int .i64 kd, .int .i64 pl, .string wd] 104))
  go_upto_region 1 with fail
  obtain ⟨g3, hg3⟩ : ∃ g, w.heap.size = g := ⟨_, rfl⟩
  generalize w.alloc (.cells #[.int .i64 kd, .int .i64 pl, .string wd] 104) = W1 at HT1 HB1 HW1 ⊢
  rw [hg3] at HGR HGB HT1 ⊢
  clear hg3
  have d3 := HB1.out.cells.1.2.2.2.1
  dsimp only at d3
  obtain ⟨⟨t0, t1, t2⟩, -⟩ := HT1.out.facts
  go_wp2_with fail
  go_at_call 89
  refine (HGV.out _ _ HB1.out.a).mono ?_
  intro e wr h2
  rcases X1 with f | s1
  · obtain ⟨rfl, hf2⟩ := h2
    have h9 : OutR ρ b T w R (thrown f.1 f.2.1 f.2.2) wr := out_err (show R = .error (f.1, f.2.1, f.2.2) from HR.out.symm) (HW1.out.fr hf2)
    unfold thrown at h9 ⊢
    go_wp2_with fail
    exact ⟨rfl, h9⟩
  obtain ⟨rfl, ρ1, ha, hw⟩ := h2
  have HW2 := hide1 (HW1.out.trans hw)
  have HTr := hide1 (show TkB wr g3 kd pl wd from (hw.block (Array.getElem?_eq_some_iff.1 HT1.out).1 HGB.out HGR.out).trans HT1.out)
  have HR1 := hide1 ((hw.2 g3 (Array.getElem?_eq_some_iff.1 HT1.out).1).trans HGR.out)
  have hs1 := HX1.out s1 rfl
  have HS1 := hide1 hs1
  have HNA := hide1 (show s1.nam.length = nn by rw [hs1]; exact HN0.out)
  obtain ⟨xL1, ⟨na, nn1, nc⟩, xP1, xU1, m1, its1, ps1, hb1⟩ := ha
  have hnn1 : nn1 = nn := (lo_lens (show LO strE _ 0 (.slice na nn1 nc) s1.nam from hb1.nam)).symm.trans HNA.out
  subst hnn1
  have HNL := HNA
  have HBr := hide1 hb1
  have hR2 : (if nn1 = 128 then .error (2, pl, ⟨#[]⟩) else (signM T 61 { s1 with nam := s1.nam ++ [wd] }).bind fun s2 => sidesM T (nn1 : Int) (T.size + 1) s2) = R := HR.out
  clear hw d3 t0 t1 t2 HT1 HB HB1 HW0 HW1 HGV HX1 HR hb1 hs1 HGR
  obtain ⟨⟨t0, t1, t2⟩, -⟩ := HTr.out.facts
  by_cases h128 : nn1 = 128
  · have e1 : ((nn1 : Int) == 128) = true := by simp; omega
    rw [if_pos h128] at hR2
    go_wp2_with (go_at_call 51; go_must (refine (fail_is _ _ _ _).mono ?_; rintro e w7 ⟨rfl, hk7⟩; have h9 : OutR ρ b T w R (thrown 2 pl ⟨#[]⟩) w7 := out_err hR2.symm (HW2.out.kept hk7).1; unfold thrown at h9 ⊢))
    exact ⟨rfl, h9⟩
  have e1 : ((nn1 : Int) == 128) = false := by simp; omega
  rw [if_neg h128] at hR2
  have HNN := hide1 (show nn1 ≤ 127 by have := HF.out.nam; have := HN0.out; omega)
  obtain ⟨X2, hX2⟩ : ∃ X, signM T 61 { s1 with nam := s1.nam ++ [wd] } = X := ⟨_, rfl⟩
  rw [hX2] at hR2
  have HR2 := hide1 hR2
  have HK1 := hide1 (show s1.k ≤ T.size by rw [HS1.out]; exact HF.out.k)
  have HSG : Hid (∀ w ρ, RdA ρ w b T { s1 with nam := s1.nam ++ [wd] } → Calls Tryz.prog 90 #[.pointer (some ⟨b, 0, none⟩), .int .i64 61] w (OutR ρ b T w X2)) := fun w ρ h => by
    rw [← hX2]
    exact sign_is T HT.out b 61 w ρ _ h HK1.out
  have HX2 : Hid (∀ s2, X2 = .ok s2 → s2 = { s1 with nam := s1.nam ++ [wd], k := (nextM T s1.k).nx }) := fun s2 h => (sign_eq (hX2.trans h)).2
  clear hX2 hR2 h128
  go_upto_region 5 with fail
  clear t0 t1 t2
  refine z_region (S := fun w' => BoxR w' b T s1 xL1 (na, nn1, nc) xP1 xU1 m1 ∧ TkB w' g3 kd pl wd) 13 (by kernel_rfl) ⟨(HBr.out.kept (drew_kept _)).box, HTr.out.keep (drew_kept _)⟩ (fun hHeld => ?_)
  refine tkZ 0 (.pointer (some ⟨b, 0, none⟩)) [13] rfl (fun w' hSw => ?_) ?_
  · clear hSw
    go_simp
  try simp only [layS]
  refine tkZ 1 (.pointer (some ⟨b, 0, none⟩)) [13] rfl (fun w' hSw => ?_) ?_
  · clear hSw
    go_simp
  try simp only [layS]
  refine tkZ 2 (.pointer (some ⟨b, 0, none⟩)) [13] rfl (fun w' hSw => ?_) ?_
  · clear hSw
    go_simp
  try simp only [layS]
  refine tkZ 3 (.pointer (some ⟨b, 2, none⟩)) [13] rfl (fun w' hSw => ?_) ?_
  · clear hSw
    go_simp
  try simp only [layS]
  refine tkZ 4 (.pointer (some ⟨b, 3, none⟩)) [13] rfl (fun w' hSw => ?_) ?_
  · clear hSw
    go_simp
  try simp only [layS]
  refine tkZ 5 (.slice na nn1 nc) [13] rfl (fun w' hSw => ?_) ?_
  · obtain ⟨⟨q0, q1, q2, q3, q4, q5, q6, q7, q8⟩, -⟩ := hSw.1.cells; dsimp only at q3
    go_simp
  try simp only [layS]
  refine tkZ 6 (.pointer (some ⟨g3, 2, none⟩)) [13] rfl (fun w' hSw => ?_) ?_
  · clear hSw
    go_simp
  try simp only [layS]
  refine tkZ 7 (.string wd) [13] rfl (fun w' hSw => ?_) ?_
  · obtain ⟨⟨q0, q1, q2⟩, -⟩ := hSw.2.facts
    go_simp
  try simp only [layS]
  refine z_one (i := 8) (by kernel_rfl) (by rfl) rfl (fun K hK => ?_)
  go_simp
  refine hK.out _ _ ⟨(HBr.out.kept ((gtrans (drew_kept _) ((Kept.refl _).alloc _ _)))).box, HTr.out.keep (gtrans (drew_kept _) ((Kept.refl _).alloc _ _))⟩ (fun hHeldN => ?_)
  clear hK K hHeld
  have hHeld := hHeldN
  clear hHeldN
  try simp only [layS]
  refine z_one (i := 9) (by kernel_rfl) (by rfl) rfl (fun K hK => ?_)
  have HB6 := hide1 (HBr.out.kept (gtrans (drew_kept _) ((Kept.refl wr.drew).alloc (strE.enc wd).toArray 9)))
  have HT6 := hide1 (HTr.out.keep (gtrans (drew_kept _) ((Kept.refl wr.drew).alloc (strE.enc wd).toArray 9)))
  refine step_lo (E := strE) rfl _ _ rfl 0 (.slice na nn1 nc) s1.nam nn1 HNL.out (by rfl) HB6.out.nam wr.drew.heap.size wd (by rfl) (heap_alloc_new wr.drew _) (by show (nn1 + 1) * 16 ≤ _; have := HNN.out; omega) (by unfold maxLen; have := HNN.out; omega) (Nat.zero_le _) ?_
  intro g9 c9 w9 ho9 hg9 hor9 hl9
  have HAD := hide1 (HB6.out.addN ho9 hg9 hor9 hl9)
  have HBX := hide1 (show BoxR w9 b T _ _ _ _ _ _ from (grown_far HB6.out.o3 (by decide) hg9 HB6.out.ltb HB6.out.o0).trans HB6.out.box)
  have HTX := hide1 (show TkB w9 g3 kd pl wd from (grown_far HB6.out.o3 (by decide) hg9 (Array.getElem?_eq_some_iff.1 HT6.out).1 HR1.out).trans HT6.out)
  refine hK.out _ _ ⟨HBX.out, HTX.out⟩ (fun hHeldN => ?_)
  clear hK K hHeld
  have hHeld := hHeldN
  clear hHeldN
  try simp only [layS]
  refine tkZ 10 (.pointer (some ⟨b, 0, none⟩)) [11, 12, 13] rfl (fun w' hSw => ?_) ?_
  · clear hSw
    go_simp
  try simp only [layS]
  refine tkZ 11 (.pointer (some ⟨b, 2, none⟩)) [12, 13] rfl (fun w' hSw => ?_) ?_
  · clear hSw
    go_simp
  try simp only [layS]
  refine tkZ 12 (.pointer (some ⟨b, 3, none⟩)) [13] rfl (fun w' hSw => ?_) ?_
  · clear hSw
    go_simp
  try simp only [layS]
  refine z_last (by kernel_rfl) (by kernel_rfl) rfl (fun K hK => ?_)
  obtain ⟨⟨r0, r1, r2, r3, r4, r5, r6, r7, r8⟩, rz⟩ := HBX.out.cells
  have rz3 := rz 3
  have hlb9 : b < w9.heap.size := (Array.getElem?_eq_some_iff.1 HBX.out).1
  clear rz r0 r1 r2 r4 r5 r6 r7 r8
  dsimp only at r3
  go_simp
  refine hK.out _ _ ?_
  clear hK K hHeld r3 rz3 hlb9 ho9 hg9 hor9
  obtain ⟨HBY, HWY⟩ := HAD.out
  have HBY := hide1 HBY
  have HWY := hide1 ((HW2.out.kept (gtrans (drew_kept _) ((Kept.refl _).alloc _ _))).trans HWY)
  clear HAD HBX HTX HB6 HT6 HBr HTr HR1
  generalize w9.setCell ⟨b, 3, none⟩ (.slice (some ⟨g9, 0, none⟩) (nn1 + 1) c9) = WY at HBY HWY ⊢
  go_upto_region 6 with fail
  go_wp2_with fail
  go_at_call 90
  refine (HSG.out _ _ HBY.out.a).mono ?_
  intro e w3 h3
  rcases X2 with f | s2
  · obtain ⟨rfl, hf3⟩ := h3
    have h9 : OutR ρ b T w R (thrown f.1 f.2.1 f.2.2) w3 := out_err (show R = .error (f.1, f.2.1, f.2.2) from HR2.out.symm) (HWY.out.fr hf3)
    unfold thrown at h9 ⊢
    go_wp2_with fail
    exact ⟨rfl, h9⟩
  obtain ⟨rfl, ρ3, ha3, hw3⟩ := h3
  have hs2 := HX2.out s2 rfl
  have HI0 : Hid (RnI ρ b T w nn1 R w3) := by
    refine ⟨s2, ρ3, T.size + 1, HR2.out, by omega, ha3, HWY.out.trans hw3, ?_⟩
    obtain ⟨a1, a2, _⟩ := next_facts HK1.out
    have hx := HNN.out
    have hy := HNA.out
    rw [hs2, HS1.out] at *
    exact ⟨by rw [HS1.out] at a1; exact a1, by show s.use.length ≤ _; have := HF.out.use; rw [HS1.out] at a2; dsimp only at a2 ⊢; omega, HF.out.lex, by show (s.nam ++ [wd]).length ≤ 128; rw [List.length_append, List.length_singleton, HN0.out]; omega, HF.out.prd, by show s.gn + 1 = s.lex.length + (s.nam ++ [wd]).length + 1; rw [List.length_append, List.length_singleton]; have := HF.out.gn; omega, HF.out.pr, HF.out.sds⟩
  clear hs2 ha3 hw3 HBY HWY HSG HX2 HR2 HK1 HNN HNA HNL HS1 HW2 HF HN0
  go_wp2_with fail
  go_loopw [] (fun wr => Hid (RnI ρ b T w nn1 R wr)) (fun wr => T.size - posW wr b)
  case atStart => exact HI0.out
  case round =>
    clear HI0
    obtain ⟨s1, ρ1, f, hq, hfu, ha1, hw1, hf1⟩ := hrel.out
    obtain ⟨f, rfl⟩ : ∃ f', f = f' + 1 := ⟨f - 1, by have := hf1.k; omega⟩
    rw [sidesM] at hq
    obtain ⟨X, hX⟩ : ∃ X, rightM T (nn1 : Int) s1 = X := ⟨_, rfl⟩
    rw [hX] at hq
    have HQ := hide1 hq
    have HW1 := hide1 hw1
    have HF1 := hide1 hf1
    have HFU := hide1 hfu
    have HA1 := hide1 ha1
    have HPK := hide1 (posW_at ha1.sc)
    have HRT : Hid (∀ w ρ, RdA ρ w b T s1 → Calls Tryz.prog 91 #[.pointer (some ⟨b, 0, none⟩), .int .i64 (nn1 : Int)] w (OutB ρ b T w X)) := fun w ρ h => by
      rw [← hX]
      exact right_is T HT.out b (nn1 : Int) w ρ s1 h HF1.out
    have HXR : Hid (∀ r, X = .ok r → Wf T r.2 ∧ s1.k < r.2.k) := fun r h => right_wf HF1.out (hX.trans h)
    clear hrel hq hX hw1 hf1 hfu ha1
    go_wp2_with fail
    go_at_call 91
    refine (HRT.out _ _ HA1.out).mono ?_
    intro e w4 h4
    rcases X with f | ⟨r, s2⟩
    · obtain ⟨rfl, hf4⟩ := h4
      have h9 : OutR ρ b T w R (thrown f.1 f.2.1 f.2.2) w4 := out_err (show R = .error (f.1, f.2.1, f.2.2) from HQ.out.symm) (HW1.out.fr hf4)
      unfold thrown at h9 ⊢
      go_wp2_with fail
      exact ⟨rfl, h9⟩
    obtain ⟨rfl, ρ4, ha4, hw4⟩ := h4
    have HWF := hide1 (HXR.out _ rfl)
    have HA4 := hide1 ha4
    have HW4 := hide1 (HW1.out.trans hw4)
    clear ha4 hw4 HRT HXR HA1 HW1
    cases r with
    | true =>
      go_wp2_with fail
      refine ⟨?_, ?_⟩
      · refine ⟨s2, ρ4, f, ?_, ?_, HA4.out, HW4.out, HWF.out.1⟩
        · have h := HQ.out
          exact h
        · have := HFU.out; have := HWF.out.2; try dsimp only at this
          omega
      · rw [HPK.out]
        have h := posW_at HA4.out.sc
        have h2 := HWF.out.2
        have h3 := HWF.out.1.k
        try dsimp only at h2 h3 h
        exact Nat.lt_of_le_of_lt (Nat.le_of_eq (congrArg (T.size - ·) h)) (by omega)
    | false =>
      have h9 : OutR ρ b T w R (.returned (.tuple #[])) w4 := out_ok (show R = .ok s2 from HQ.out.symm) HA4.out HW4.out
      go_wp2_with fail
      go_end0
      exact h9
end Gs
end Ex
end Go.Proofs.YtbnchnlogikecaaGreatDoor
namespace Go.Proofs.YtbnchnlogikecaaGreatDoor
open Go.RowKit
attribute [local go_sem] Oper.semAt_some
set_option linter.unusedVariables false
set_option linter.unusedSimpArgs false
set_option maxRecDepth 100000
set_option maxHeartbeats 4000000
namespace Ex
namespace Gs
open Sh
theorem start_is (T : ByteArray) (hT : T.size ≤ 100000) (b : Nat) (kd pl : Int) (wd : ByteArray) (w : World) (ρ : Nat → Nat) (s : RSt) (h : RdA ρ w b T s) (hk : s.k ≤ T.size) (hu : s.use.length ≤ 100000) :
    Calls Tryz.prog 106 #[.pointer (some ⟨b, 0, none⟩), .agg #[.int .i64 kd, .int .i64 pl, .string wd]] w (OutR ρ b T w (startM T pl s)) := by
  obtain ⟨xL, xN, xP, ⟨ua, un, uc⟩, m, its, ps, h⟩ := h
  obtain ⟨R, hR⟩ : ∃ R, startM T pl s = R := ⟨_, rfl⟩
  rw [hR]
  unfold startM at hR
  by_cases hsd : s.sd = true
  · rw [if_pos hsd] at hR
    refine (start_twice b kd pl wd w (by rw [← hsd]; exact h.cells.1.2.2.2.2.2.2.2.2)).mono ?_
    rintro e w' ⟨rfl, hk⟩
    exact out_err hR.symm (hk.kt _)
  rw [if_neg hsd] at hR
  have hsf : s.sd = false := by simpa using hsd
  by_cases hn : nmE (nextM T s.k).kd (nextM T s.k).wd = 0
  case neg =>
    rw [if_pos hn] at hR
    refine (start_noname T hT b s.k kd pl wd w h.sc hk (by rw [← hsf]; exact h.cells.1.2.2.2.2.2.2.2.2) hn).mono ?_
    rintro e w' ⟨rfl, hk⟩
    exact out_err hR.symm (but_fr hk)
  rw [if_neg (by omega)] at hR
  obtain ⟨hNf1, hNf2, -⟩ := next_facts hk
  have HNX := hide1 (next_is T hT b s.k)
  obtain ⟨⟨kd2, pl2, wd2, nx⟩, hN⟩ : ∃ N, nextM T s.k = N := ⟨_, rfl⟩
  rw [hN] at hR hn HNX hNf1 hNf2
  dsimp only at hR hn HNX hNf1 hNf2
  obtain ⟨S3, hS3⟩ : ∃ S3 : RSt, ({ s with sd := true, k := nx, use := s.use ++ [(kd2, (pl2 : Int), wd2, -1)] } : RSt) = S3 := ⟨_, rfl⟩
  rw [hS3] at hR
  have HSG : Hid (∀ w ρ, RdA ρ w b T S3 → Calls Tryz.prog 90 #[.pointer (some ⟨b, 0, none⟩), .int .i64 59] w (OutR ρ b T w R)) := fun w ρ h => by
    rw [← hR]
    exact sign_is T hT b 59 w ρ S3 h (by rw [← hS3]; exact hNf1)
  have HS3 := hide1 hS3
  have HN := hide1 hn
  have HUN := hide1 (show un ≤ 100000 by have h2 := lo_lens (show LO useE w 0 (.slice ua un uc) s.use from h.use); omega)
  have HK0 := hide1 hk
  have HW0 := hide1 (Went.refl ρ b w)
  have c8 : w.cell? ⟨b, 8, none⟩ = some (.bool false) := by rw [← hsf]; exact h.cells.1.2.2.2.2.2.2.2.2
  have HB := hide1 h
  clear hR hn hS3 hk hu h hsd hsf hNf1 hNf2 hN hT
  go_enter Tryz.func106, Tryz.ntmps106
  have HB1 := hide1 (HB.out.kept ((Kept.refl w).alloc #[.int .i64 kd, .int .i64 pl, .string wd] 104))
  have HW1 := hide1 (HW0.out.kept ((Kept.refl w).alloc #[.int .i64 kd, .int .i64 pl, .string wd] 104))
  have d8 := grown_cell ((Kept.refl w).alloc #[.int .i64 kd, .int .i64 pl, .string wd] 104) c8
  go_upto_region 1 with fail
  generalize w.alloc (.cells #[.int .i64 kd, .int .i64 pl, .string wd] 104) = W1 at HB1 HW1 d8 ⊢
  have z8 := HB1.out.cells.2 8
  have hl1 := HB1.out.ltb
  clear c8
  go_upto_region 4 with fail
  have HB2 := hide1 HB1.out.go
  have HW2 := hide1 (HW1.out.setb 8 (.bool true))
  generalize W1.setCell ⟨b, 8, none⟩ (.bool true) = W2 at HB2 HW2 ⊢
  clear d8 z8 hl1
  go_upto_region 5 with (go_at_call 49; go_must (refine (HNX.out _ HB2.out.sc HK0.out).mono ?_; rintro e w3 ⟨rfl, hm3⟩; have HB3 := hide1 (HB2.out.mv hm3); have HW3 := hide1 (HW2.out.mv hm3); clear hm3))
  have HG4 := hide1 (HB3.out.fresh (Nat.le_refl _))
  have HT4 := hide1 (fact3 w3 kd2 (pl2 : Int) wd2)
  have HB4 := hide1 (HB3.out.kept ((Kept.refl w3).alloc #[.int .i64 kd2, .int .i64 (pl2 : Int), .string wd2] 104))
  have HW4 := hide1 (HW3.out.kept ((Kept.refl w3).alloc #[.int .i64 kd2, .int .i64 (pl2 : Int), .string wd2] 104))
  obtain ⟨g4, hg4⟩ : ∃ g, w3.heap.size = g := ⟨_, rfl⟩
  generalize w3.alloc (.cells #[.int .i64 kd2, .int .i64 (pl2 : Int), .string wd2] 104) = W4 at HT4 HB4 HW4 ⊢
  rw [hg4] at HG4 HT4 ⊢
  clear hg4
  obtain ⟨⟨t0, t1, t2⟩, -⟩ := HT4.out.facts
  go_upto_region 6 with (go_at_call 107; go_must (refine (checkName_ok _ _ _ _ HN.out).mono ?_; rintro e W5 ⟨rfl, hk5⟩; have HB5 := hide1 (HB4.out.kept hk5); have HW5 := hide1 (HW4.out.kept hk5); have HT5 := hide1 (HT4.out.keep hk5); clear hk5))
  clear t0 t1 t2
  refine z_region (S := fun w' => BoxR w' b T { s with sd := true, k := nx } xL xN xP (ua, un, uc) m ∧ TkB w' g4 kd2 (pl2 : Int) wd2) 11 (by kernel_rfl) ⟨HB5.out.box, HT5.out⟩ (fun hHeld => ?_)
  refine tkZ 0 (.pointer (some ⟨b, 0, none⟩)) [11] rfl (fun w' hSw => ?_) ?_
  · clear hSw
    go_simp
  try simp only [layS]
  refine tkZ 1 (.pointer (some ⟨b, 0, none⟩)) [11] rfl (fun w' hSw => ?_) ?_
  · clear hSw
    go_simp
  try simp only [layS]
  refine tkZ 2 (.pointer (some ⟨b, 0, none⟩)) [11] rfl (fun w' hSw => ?_) ?_
  · clear hSw
    go_simp
  try simp only [layS]
  refine tkZ 3 (.pointer (some ⟨b, 7, none⟩)) [11] rfl (fun w' hSw => ?_) ?_
  · clear hSw
    go_simp
  try simp only [layS]
  refine tkZ 4 (.slice ua un uc) [11] rfl (fun w' hSw => ?_) ?_
  · obtain ⟨⟨q0, q1, q2, q3, q4, q5, q6, q7, q8⟩, -⟩ := hSw.1.cells; dsimp only at q7
    go_simp
  try simp only [layS]
  refine tkZ 5 (.agg #[.int .i64 kd2, .int .i64 (pl2 : Int), .string wd2]) [11] rfl (fun w' hSw => ?_) ?_
  · obtain ⟨⟨q0, q1, q2⟩, -⟩ := hSw.2.facts
    go_simp
  try simp only [layS]
  refine tkZ 6 (.agg #[.int .i64 kd2, .int .i64 (pl2 : Int), .string wd2, .int .i64 (-1)]) [11] rfl (fun w' hSw => ?_) ?_
  · clear hSw
    go_simp
  try simp only [layS]
  refine z_one (i := 7) (by kernel_rfl) (by rfl) rfl (fun K hK => ?_)
  go_simp
  refine hK.out _ _ ⟨(HB5.out.kept ((gtrans (drew_kept _) ((Kept.refl _).alloc _ _)))).box, HT5.out.keep (gtrans (drew_kept _) ((Kept.refl _).alloc _ _))⟩ (fun hHeldN => ?_)
  clear hK K hHeld
  have hHeld := hHeldN
  clear hHeldN
  try simp only [layS]
  refine z_one (i := 8) (by kernel_rfl) (by rfl) rfl (fun K hK => ?_)
  have HB6 := hide1 (HB5.out.kept (gtrans (drew_kept _) ((Kept.refl W5.drew).alloc (encUse (kd2, (pl2 : Int), wd2, -1)).toArray 137)))
  refine step_lo (E := useE) rfl _ _ rfl 0 (.slice ua un uc) s.use un (lo_lens HB6.out.use) (by rfl) HB6.out.use W5.drew.heap.size (kd2, (pl2 : Int), wd2, -1) (by rfl) (heap_alloc_new W5.drew _) (by show (un + 1) * 40 ≤ _; have := HUN.out; omega) (by unfold maxLen; have := HUN.out; omega) (Nat.zero_le _) ?_
  intro g9 c9 w9 ho9 hg9 hor9 hl9
  have HAD := hide1 (HB6.out.addU ho9 hg9 hor9 hl9)
  have HBX := hide1 (show BoxR w9 b T _ _ _ _ _ _ from (grown_far HB6.out.o5 (by decide) hg9 HB6.out.ltb HB6.out.o0).trans HB6.out.box)
  have HTX := hide1 (show TkB w9 g4 kd2 (pl2 : Int) wd2 from (grown_far HB6.out.o5 (by decide) hg9 (Nat.lt_of_lt_of_le (Array.getElem?_eq_some_iff.1 HT5.out).1 (gtrans (drew_kept _) ((Kept.refl _).alloc _ _)).size) HG4.out).trans (HT5.out.keep (gtrans (drew_kept _) ((Kept.refl _).alloc _ _))))
  refine hK.out _ _ ⟨HBX.out, HTX.out⟩ (fun hHeldN => ?_)
  clear hK K hHeld
  have hHeld := hHeldN
  clear hHeldN
  try simp only [layS]
  refine tkZ 9 (.pointer (some ⟨b, 0, none⟩)) [10, 11] rfl (fun w' hSw => ?_) ?_
  · clear hSw
    go_simp
  try simp only [layS]
  refine tkZ 10 (.pointer (some ⟨b, 7, none⟩)) [11] rfl (fun w' hSw => ?_) ?_
  · clear hSw
    go_simp
  try simp only [layS]
  refine z_last (by kernel_rfl) (by kernel_rfl) rfl (fun K hK => ?_)
  obtain ⟨⟨r0, r1, r2, r3, r4, r5, r6, r7, r8⟩, rz⟩ := HBX.out.cells
  have rz7 := rz 7
  have hlb9 : b < w9.heap.size := (Array.getElem?_eq_some_iff.1 HBX.out).1
  clear rz r0 r1 r2 r3 r4 r5 r6 r8
  dsimp only at r7
  go_simp
  refine hK.out _ _ ?_
  clear hK K hHeld r7 rz7 hlb9 ho9 hg9 hor9
  obtain ⟨HBY, HWY⟩ := HAD.out
  have HBY := hide1 HBY
  have HWY := hide1 ((HW5.out.kept (gtrans (drew_kept _) ((Kept.refl _).alloc _ _))).trans HWY)
  clear HAD
  generalize w9.setCell ⟨b, 7, none⟩ (.slice (some ⟨g9, 0, none⟩) (un + 1) c9) = WY at HBY HWY ⊢
  go_upto_region 7 with fail
  go_wp2_with fail
  go_at_call 90
  refine (HSG.out _ _ (by rw [← HS3.out]; exact HBY.out.a)).mono ?_
  intro e w8 h8
  have h9 := OutR.after HWY.out h8
  rcases R with f | s8
  · obtain ⟨rfl, -⟩ := id h9
    unfold thrown
    go_wp2_with fail
    exact ⟨rfl, h9⟩
  · obtain ⟨rfl, -⟩ := id h9
    go_wp2_with fail
    go_end0
    exact h9
end Gs
end Ex
end Go.Proofs.YtbnchnlogikecaaGreatDoor
