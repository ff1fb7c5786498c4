import Derived.Test.YtbnchnlogikecaaGreatDoorPSpSz2
import Derived.Test.YtbnchnlogikecaaGreatDoorPExKl
import Derived.Test.YtbnchnlogikecaaGreatDoorPGtA
import Derived.Test.YtbnchnlogikecaaGreatDoorPGt4
import Derived.Deep.DeepMust
import Derived.BigQuiet
import Derived.Deep.RegionHeld3
namespace Go.Proofs.YtbnchnlogikecaaGreatDoor
open Go.RowKit
attribute [local go_sem] Oper.semAt_some
set_option linter.unusedVariables false
set_option linter.unusedSimpArgs false
set_option maxRecDepth 100000
set_option maxHeartbeats 8000000
namespace Ex
namespace Gs
open Sh
def RvI (ρ : Nat → Nat) (b : Nat) (T : ByteArray) (w : World) (xL xN : SlV) (m un uc : Nat) (ua : Option Addr) (its : List LexM) (us : List Use) (X : Except Flt RSt) (i : Nat) (wr : World) : Prop :=
  ∃ (s1 : RSt) (ρ1 : Nat → Nat) (xP1 : SlV) (ps1 : List PrdM), resM (us.drop i) s1 = X ∧ RdB ρ1 wr b T s1 xL xN xP1 (ua, un, uc) m its ps1 ∧ s1.use = us ∧ Went ρ b w ρ1 wr ∧ (∀ u ∈ us, -1 ≤ u.2.2.2 ∧ u.2.2.2 < s1.prd.length) ∧ ∀ ys ∈ s1.sds, ys.length ≤ i
theorem res_end {s : RSt} : resM [] s = .ok s := rfl
theorem res_start {u : Use} {us : List Use} {s : RSt} (h1 : u.2.2.2 = -1) (h2 : (given s.giv u.2.2.1).1 = 3) : resM (u :: us) s = resM us { s with st := (given s.giv u.2.2.1).2 } := by
  rw [resM, if_pos ⟨h1, h2⟩]
theorem res_side {u : Use} {us : List Use} {s : RSt} (h1 : u.2.2.2 ≠ -1) (h2 : (given s.giv u.2.2.1).1 ≠ 0) : resM (u :: us) s = resM us { s with sds := s.sds.modify u.2.2.2.toNat (· ++ [given s.giv u.2.2.1]) } := by
  rw [resM, if_neg (fun e => h1 e.1), if_pos ⟨h1, h2⟩]
theorem res_none {u : Use} {us : List Use} {s : RSt} (h1 : ¬ (u.2.2.2 = -1 ∧ (given s.giv u.2.2.1).1 = 3)) (h2 : ¬ (u.2.2.2 ≠ -1 ∧ (given s.giv u.2.2.1).1 ≠ 0)) : resM (u :: us) s = .error (62, u.2.1, u.2.2.1) := by
  rw [resM, if_neg h1, if_neg h2]
theorem resolve_is (T : ByteArray) (hT : T.size ≤ 100000) (b : Nat) (w : World) (ρ : Nat → Nat) (s : RSt) (h : RdA ρ w b T s) (hf : Wf T s) (he : Emp s) (hwd : Wd T s) :
    Calls Tryz.prog 52 #[.pointer (some ⟨b, 0, none⟩)] w (OutR ρ b T w (resM s.use s)) := by
  obtain ⟨xL, xN, xP, ⟨ua, un, uc⟩, m, its, ps, h⟩ := h
  have hun : s.use.length = un := lo_lens h.use
  obtain ⟨R, hR⟩ : ∃ R, resM s.use s = R := ⟨_, rfl⟩
  rw [hR]
  obtain ⟨us, hus⟩ : ∃ us, s.use = us := ⟨_, rfl⟩
  have HI0 : Hid (RvI ρ b T w xL xN m un uc ua its us R 0 w) := ⟨s, ρ, xP, ps, by rw [← hR, hus]; rfl, h, hus, Went.refl ρ b w, by rw [← hus]; exact hf.pr, fun ys hy => by rw [he ys hy]; exact Nat.le_refl _⟩
  have HUN := hide1 (show us.length = un by rw [← hus]; exact hun)
  have HWD : Hid (∀ u ∈ us, u.2.2.1.size ≤ 100000) := fun u hu => Nat.le_trans (hwd.2 u (by rw [hus]; exact hu)) hT
  have HUL := hide1 (show un ≤ 100000 by have := hf.use; have := hf.k; omega)
  have HPR := hide1 hf.prd
  have HB := hide1 h
  clear hR hT hus hf he hwd hun h
  go_enter Tryz.func52, Tryz.ntmps52
  have d7 := HB.out.cells.1.2.2.2.2.2.2.2.1
  dsimp only at d7
  go_wp2_with fail
  clear d7 HB
  go_loopw [11] (fun v11 wr => ∃ i : Nat, v11 = .int .i64 (i : Int) ∧ i ≤ un ∧ Hid (RvI ρ b T w xL xN m un uc ua its us R i wr)) (fun v11 _ => un - (intOf v11).toNat)
  case atStart => exact ⟨0, rfl, Nat.zero_le _, HI0.out⟩
  case round =>
    clear HI0
    obtain ⟨i, rfl, hi, hI⟩ := hrel
    obtain ⟨s1, ρ1, xP1, ps1, hq, hb, hu, hw, hp, hl⟩ := hI.out
    have HIU := hide1 hi
    have HL := hide1 hl
    have HP := hide1 hp
    have HW := hide1 hw
    have HB := hide1 hb
    have HSU := hide1 hu
    by_cases hlt : i < un
    case neg =>
      have hd : us.drop i = [] := List.drop_eq_nil_of_le (by rw [HUN.out]; omega)
      rw [hd, res_end] at hq
      have h9 : OutR ρ b T w R (.returned (.tuple #[])) wr := out_ok hq.symm HB.out.a HW.out
      have H9 := hide1 h9
      have eI : ¬ ((i : Int) < (un : Int)) := by omega
      clear hI hq hb hu hw hp hl hd h9 hlt hi
      go_wp2_with fail
      go_end0
      exact H9.out
    have hil : i < us.length := by rw [HUN.out]; exact hlt
    obtain ⟨u, hue⟩ : ∃ u, us[i]'hil = u := ⟨_, rfl⟩
    have hui : us[i]? = some u := by rw [List.getElem?_eq_getElem hil, hue]
    have hum : u ∈ us := by rw [← hue]; exact List.getElem_mem hil
    rw [List.drop_eq_getElem_cons hil, hue] at hq
    obtain ⟨ukd, upl, uwd, upr⟩ := u
    have HWS := hide1 (HWD.out _ hum)
    have HPU := hide1 (HP.out _ hum)
    dsimp only at HWS HPU
    obtain ⟨gu, hgu, c0, c1, c2, c3⟩ := lo_use (show LO useE wr 0 (.slice ua un uc) us by have := hb.use; rw [hu] at this; exact this) hui
    dsimp only at c0 c1 c2 c3
    obtain ⟨⟨gk, gn⟩, hg⟩ : ∃ x, given s1.giv uwd = x := ⟨_, rfl⟩
    have HG := hide1 hg
    have HQ := hide1 hq
    have eI : (i : Int) < (un : Int) := by omega
    have eU : (un : Int) ≤ 100000 := by have := HUL.out; omega
    subst hgu
    have HB2 := hide1 (HB.out.kept ((Kept.refl wr).alloc #[.int .i64 ukd, .int .i64 upl, .string uwd, .int .i64 upr] 137))
    have HW2 := hide1 (HW.out.kept ((Kept.refl wr).alloc #[.int .i64 ukd, .int .i64 upl, .string uwd, .int .i64 upr] 137))
    have HU2 : Hid (UsB (wr.alloc (.cells #[.int .i64 ukd, .int .i64 upl, .string uwd, .int .i64 upr] 137)) wr.heap.size (ukd, upl, uwd, upr)) := heap_alloc_new wr _
    clear hI hq hb hu hw hp hl hlt hi hue hui hum hg hil
    go_upto_region 3 with fail
    obtain ⟨g3, hg3⟩ : ∃ g, wr.heap.size = g := ⟨_, rfl⟩
    generalize wr.alloc (.cells #[.int .i64 ukd, .int .i64 upl, .string uwd, .int .i64 upr] 137) = W3 at HB2 HW2 HU2 ⊢
    rw [hg3] at HU2 ⊢
    clear hg3 c0 c1 c2 c3
    have HB3 := HB2
    have HW3 := HW2
    have HU3 := HU2
    clear HB2 HW2 HU2 HB HW
    refine z_region (S := fun w' => Kept W3 w') 9 (by kernel_rfl) (drew_kept _) (fun hHeld => ?_)
    refine tkZ 0 (.pointer (some ⟨b, 0, none⟩)) [9] rfl (fun w' hSw => ?_) ?_
    · clear hSw
      go_simp
    try simp only [layS]
    refine tkZ 1 (.pointer (some ⟨b, 0, none⟩)) [9] rfl (fun w' hSw => ?_) ?_
    · clear hSw
      go_simp
    try simp only [layS]
    refine tkZ 2 (.pointer (some ⟨b, 6, none⟩)) [9] rfl (fun w' hSw => ?_) ?_
    · clear hSw
      go_simp
    try simp only [layS]
    refine tkZ 3 (.map (some m)) [9] rfl (fun w' hSw => ?_) ?_
    · obtain ⟨⟨q0, q1, q2, q3, q4, q5, q6, q7, q8⟩, -⟩ := (HB3.out.kept hSw).cells
      go_simp
    try simp only [layS]
    refine tkZ 4 (.pointer (some ⟨g3, 0, none⟩)) [9] rfl (fun w' hSw => ?_) ?_
    · clear hSw
      go_simp
    try simp only [layS]
    refine tkZ 5 (.pointer (some ⟨g3, 2, none⟩)) [9] rfl (fun w' hSw => ?_) ?_
    · clear hSw
      go_simp
    try simp only [layS]
    refine tkZ 6 (.string uwd) [9] rfl (fun w' hSw => ?_) ?_
    · obtain ⟨q0, q1, q2, q3⟩ := (HU3.out.keep hSw).facts
      go_simp
    try simp only [layS]
    refine tkZ 7 (.agg #[.int .i64 gk, .int .i64 gn]) [9] rfl (fun w' hSw => ?_) ?_
    · have hlk := (HB3.out.kept hSw).giv.look HWS.out; rw [HG.out] at hlk; clear hSw
      go_simp
    try simp only [layS]
    refine z_one (i := 8) (by kernel_rfl) (by rfl) rfl (fun K hK => ?_)
    go_simp
    refine hK.out _ _ (gtrans (drew_kept _) ((Kept.refl _).alloc _ _)) (fun hHeldN => ?_)
    clear hK K hHeld
    have hHeld := hHeldN
    clear hHeldN
    try simp only [layS]
    have HS6 : Hid (SyB (W3.alloc (.cells #[.int .i64 0, .int .i64 0] 77)).drew W3.heap.size 0 0) := sy_new W3 0 0
    have HK6 := hide1 (gtrans ((Kept.refl W3).alloc #[.int .i64 0, .int .i64 0] 77) (drew_kept _))
    clear hHeld
    obtain ⟨g4, hg4⟩ : ∃ g, W3.heap.size = g := ⟨_, rfl⟩
    have HG4 := hide1 (HB3.out.fresh (Nat.le_of_eq hg4))
    have HG4W := hide1 (show w.heap.size ≤ g4 from Nat.le_trans HW3.out.1.2.2.2.1 (Nat.le_of_eq hg4))
    have HG4B := hide1 (show g4 ≠ b from fun e => by have h1 := HB3.out.ltb; have h2 : W3.heap.size = g4 := hg4; omega)
    have HG34 := hide1 (show g3 ≠ g4 from fun e => by have h1 := (Array.getElem?_eq_some_iff.1 HU3.out).1; omega)
    rw [hg4] at HS6 ⊢
    generalize (W3.alloc (.cells #[.int .i64 0, .int .i64 0] 77)).drew = W6 at HS6 HK6 ⊢
    clear hg4
    refine z_last (by kernel_rfl) (by kernel_rfl) rfl (fun K hK => ?_)
    obtain ⟨⟨c0, c1⟩, z0, z1⟩ := HS6.out.facts
    have hlg := (Array.getElem?_eq_some_iff.1 HS6.out).1
    go_simp
    refine hK.out _ _ ?_
    clear hK K c0 c1 z0 z1 hlg
    have HS4 := hide1 (HS6.out.set gk gn)
    have HB4 := hide1 (((HB3.out.kept HK6.out).set HG4.out HG4B.out 0 (.int .i64 gk)).set HG4.out HG4B.out 1 (.int .i64 gn))
    have HW4 := hide1 (((HW3.out.kept HK6.out).set HG4W.out 0 (.int .i64 gk)).set HG4W.out 1 (.int .i64 gn))
    have hg34 : g3 ≠ g4 := HG34.out
    have HU4 := hide1 (show UsB ((W6.setCell ⟨g4, 0, none⟩ (.int .i64 gk)).setCell ⟨g4, 1, none⟩ (.int .i64 gn)) g3 (ukd, upl, uwd, upr) from (Below.heap_setCell _ _ _ _ hg34).trans ((Below.heap_setCell _ _ _ _ hg34).trans (HU3.out.keep HK6.out)))
    clear hg34 HS6 HK6 HB3 HW3 HU3
    generalize (W6.setCell ⟨g4, 0, none⟩ (.int .i64 gk)).setCell ⟨g4, 1, none⟩ (.int .i64 gn) = W4 at HS4 HB4 HW4 HU4 ⊢
    obtain ⟨k0, k1, k2, k3⟩ := HU4.out.facts
    dsimp only at k0 k1 k2 k3
    obtain ⟨⟨y0, y1⟩, -⟩ := HS4.out.facts
    by_cases hA : upr = -1 ∧ gk = 3
    · obtain ⟨hA1, hA2⟩ := hA
      have hq2 := (res_start (us := us.drop (i + 1)) (s := s1) (u := (ukd, upl, uwd, upr)) hA1 (by rw [HG.out]; exact hA2)).symm.trans HQ.out
      rw [HG.out] at hq2
      have HQ2 := hide1 hq2
      subst hA1 hA2
      obtain ⟨⟨-, -, -, -, r4, -⟩, rz⟩ := HB4.out.cells
      have rz4 := rz 4
      have hlb := HB4.out.ltb
      clear rz hq2
      go_wp2_with fail
      refine ⟨⟨i + 1, by rfl, by omega, ?_⟩, ?_⟩
      · exact ⟨_, ρ1, xP1, ps1, HQ2.out, HB4.out.setSt gn, HSU.out, HW4.out.setb 4 _, HP.out, fun ys hy => Nat.le_succ_of_le (HL.out ys hy)⟩
      · simp [intOf]; omega
    by_cases hC : upr ≠ -1 ∧ gk ≠ 0
    case neg =>
      have hq2 := (res_none (us := us.drop (i + 1)) (s := s1) (u := (ukd, upl, uwd, upr)) (by rw [HG.out]; exact hA) (by rw [HG.out]; exact hC)).symm.trans HQ.out
      by_cases h1 : upr = -1
      · subst h1
        have e3 : (gk == 3) = false := by simpa using (fun e => hA ⟨rfl, e⟩)
        go_wp2_with (go_at_call 51; go_must (refine (fail_is _ _ _ _).mono ?_; rintro e w7 ⟨rfl, hk7⟩; have h9 : OutR ρ b T w R (thrown 62 upl uwd) w7 := out_err hq2.symm (HW4.out.kept hk7).1; unfold thrown at h9 ⊢))
        exact ⟨rfl, h9⟩
      · have e2 : (upr == -1) = false := by simpa using h1
        have e3 : (upr != -1) = true := by simpa using h1
        have e4 : (gk != 0) = false := by
          have : gk = 0 := Classical.byContradiction (fun e => hC ⟨h1, e⟩)
          simpa using this
        go_wp2_with (go_at_call 51; go_must (refine (fail_is _ _ _ _).mono ?_; rintro e w7 ⟨rfl, hk7⟩; have h9 : OutR ρ b T w R (thrown 62 upl uwd) w7 := out_err hq2.symm (HW4.out.kept hk7).1; unfold thrown at h9 ⊢))
        exact ⟨rfl, h9⟩
    obtain ⟨hC1, hC2⟩ := hC
    have hq2 := (res_side (us := us.drop (i + 1)) (s := s1) (u := (ukd, upl, uwd, upr)) hC1 (by rw [HG.out]; exact hC2)).symm.trans HQ.out
    rw [HG.out] at hq2
    have e2 : (upr == -1) = false := by simpa using hC1
    have e3 : (upr != -1) = true := by simpa using hC1
    have e4 : (gk != 0) = true := by simpa using hC2
    obtain ⟨j, rfl⟩ : ∃ j : Nat, upr = (j : Int) := ⟨upr.toNat, by have := HPU.out.1; omega⟩
    rw [show ((ukd, upl, uwd, (j : Int)) : Use).2.2.2.toNat = j from Int.toNat_natCast j] at hq2
    have HQ2 := hide1 hq2
    have hjp : j < ps1.length := by rw [HB4.out.prdR.len]; have := HPU.out.2; omega
    obtain ⟨⟨q, ⟨sa, sl, sc⟩⟩, hx⟩ : ∃ x, ps1[j]? = some x := ⟨_, List.getElem?_eq_getElem hjp⟩
    obtain ⟨ys, hy⟩ : ∃ x, s1.sds[j]? = some x := ⟨_, List.getElem?_eq_getElem (by rw [HB4.out.prdR.lens, ← HB4.out.prdR.len]; exact hjp)⟩
    obtain ⟨pa, pn, pc⟩ := xP1
    obtain ⟨gp, hgp, -, hcp, -⟩ := lo_prd HB4.out.prd hx
    subst hgp
    have HX := hide1 hx
    have HY := hide1 hy
    have HCP := hide1 hcp
    have HYL := hide1 (lo_lens (show LO symE _ 0 (.slice sa sl sc) ys from HB4.out.prdR.side j _ ys hx hy))
    have HSL := hide1 (show sl ≤ 100000 by have := HL.out ys (List.mem_of_getElem? hy); have := HYL.out; have := HUL.out; omega)
    have hpn : ps1.length = pn := lo_lens HB4.out.prd
    have hjI : (j : Int) < (pn : Int) := by omega
    obtain ⟨⟨-, -, -, -, -, r5, -⟩, -⟩ := HB4.out.cells
    dsimp only at r5
    clear hq2 hx hy hcp hA hC1 hC2 hjp hpn
    go_upto_region 8 with fail
    go_region
    have HB5 := hide1 (HB4.out.kept (drew_kept _))
    have HW5 := hide1 (HW4.out.kept (drew_kept _))
    have HS5 := hide1 (HS4.out.keep (drew_kept _))
    have HCP5 := hide1 (grown_cell (drew_kept _) HCP.out)
    clear HB4 HW4 HS4 HCP HU4 k0 k1 k2 y0 y1 k3 r5
    generalize W4.drew = W5 at HB5 HW5 HS5 HCP5 ⊢
    have HB4 := HB5
    have HW4 := HW5
    have HS4 := HS5
    have HCP := HCP5
    clear HB5 HW5 HS5 HCP5
    go_upto_region 9 with fail
    refine z_region (S := fun w' => w'.cell? ⟨gp, j * 2 + 1, none⟩ = some (.slice sa sl sc) ∧ SyB w' g4 gk gn) 10 (by kernel_rfl) ⟨grown_cell (drew_kept _) HCP.out, HS4.out.keep (drew_kept _)⟩ (fun hHeld => ?_)
    refine tkZ 0 (.pointer (some ⟨gp, j * 2, none⟩)) [10] rfl (fun w' hSw => ?_) ?_
    · clear hSw
      go_simp
    try simp only [layS]
    refine tkZ 1 (.pointer (some ⟨gp, j * 2, none⟩)) [10] rfl (fun w' hSw => ?_) ?_
    · clear hSw
      go_simp
    try simp only [layS]
    refine tkZ 2 (.pointer (some ⟨gp, j * 2, none⟩)) [10] rfl (fun w' hSw => ?_) ?_
    · clear hSw
      go_simp
    try simp only [layS]
    refine tkZ 3 (.pointer (some ⟨gp, j * 2 + 1, none⟩)) [10] rfl (fun w' hSw => ?_) ?_
    · clear hSw
      go_simp
    try simp only [layS]
    refine tkZ 4 (.slice sa sl sc) [10] rfl (fun w' hSw => ?_) ?_
    · obtain ⟨q0, -⟩ := hSw
      go_simp
    try simp only [layS]
    refine tkZ 5 (.agg #[.int .i64 gk, .int .i64 gn]) [10] rfl (fun w' hSw => ?_) ?_
    · obtain ⟨⟨q0, q1⟩, -⟩ := hSw.2.facts
      go_simp
    try simp only [layS]
    refine z_one (i := 6) (by kernel_rfl) (by rfl) rfl (fun K hK => ?_)
    go_simp
    refine hK.out _ _ ⟨grown_cell (gtrans (drew_kept _) ((Kept.refl _).alloc _ _)) HCP.out, HS4.out.keep (gtrans (drew_kept _) ((Kept.refl _).alloc _ _))⟩ (fun hHeldN => ?_)
    clear hK K hHeld
    have hHeld := hHeldN
    clear hHeldN
    try simp only [layS]
    refine z_one (i := 7) (by kernel_rfl) (by rfl) rfl (fun K hK => ?_)
    have HB6 := hide1 (HB4.out.kept (gtrans (drew_kept _) ((Kept.refl W5.drew).alloc (encSym (gk, gn)).toArray 77)))
    have HS6 := hide1 (HS4.out.keep (gtrans (drew_kept _) ((Kept.refl W5.drew).alloc (encSym (gk, gn)).toArray 77)))
    have HC6 := hide1 (grown_cell (gtrans (drew_kept _) ((Kept.refl W5.drew).alloc (encSym (gk, gn)).toArray 77)) HCP.out)
    refine step_lo (E := symE) rfl _ _ rfl 0 (.slice sa sl sc) ys sl HYL.out (by rfl) (HB6.out.prdR.side j _ ys HX.out HY.out) W5.drew.heap.size (gk, gn) (by rfl) (heap_alloc_new W5.drew _) (by show (sl + 1) * 16 ≤ _; have := HSL.out; omega) (by unfold maxLen; have := HSL.out; omega) (Nat.zero_le _) ?_
    intro g9 c9 w9 ho9 hg9 hor9 hl9
    have HAD := hide1 (HB6.out.addR HX.out HY.out ho9 hg9 hor9 hl9)
    have hown : Own ρ1 (.slice sa sl sc) 7 := HB6.out.prdR.own j _ HX.out
    have HGPL := hide1 (show gp < _ from (HB6.out.prd.lt' gp rfl).2)
    have HG9P := hide1 (show w9.heap[gp]? = _ from hg9.block gp HGPL.out (fun e => by have h1 := hown gp e.symm; have h2 := HB6.out.o4 gp rfl; omega))
    have HCX : Hid (w9.cell? ⟨gp, j * 2 + 1, none⟩ = some (.slice sa sl sc)) := by
      have h1 := HC6.out
      unfold World.cell? at h1 ⊢
      rw [HG9P.out]
      exact h1
    have HSX := hide1 (show SyB w9 g4 gk gn from (grown_far hown (by decide) hg9 (Array.getElem?_eq_some_iff.1 HS6.out).1 HG4.out).trans HS6.out)
    have HZX : Hid (w9.frozen? ⟨gp, j * 2 + 1, none⟩ = false) := by
      have h1 := (lo_prd HB6.out.prd HX.out)
      obtain ⟨gp2, e2, _, _, h1⟩ := h1
      cases e2
      unfold World.frozen? at h1 ⊢
      rw [HG9P.out]
      exact h1
    have HLX := hide1 (show gp < w9.heap.size from Nat.lt_of_lt_of_le HGPL.out hg9.size)
    clear hown
    refine hK.out _ _ ⟨HCX.out, HSX.out⟩ (fun hHeldN => ?_)
    clear hK K hHeld
    have hHeld := hHeldN
    clear hHeldN
    try simp only [layS]
    refine tkZ 8 (.pointer (some ⟨gp, j * 2, none⟩)) [9, 10] rfl (fun w' hSw => ?_) ?_
    · clear hSw
      go_simp
    try simp only [layS]
    refine tkZ 9 (.pointer (some ⟨gp, j * 2 + 1, none⟩)) [10] rfl (fun w' hSw => ?_) ?_
    · clear hSw
      go_simp
    try simp only [layS]
    refine z_last (by kernel_rfl) (by kernel_rfl) rfl (fun K hK => ?_)
    have r0 := HCX.out
    have r1 := HZX.out
    have r2 := HLX.out
    go_simp
    refine hK.out _ _ ?_
    clear hK K hHeld r0 r1 r2 ho9 hg9 hor9
    obtain ⟨HBY, HWY⟩ := HAD.out
    have HBY := hide1 HBY
    have HWY := hide1 ((HW4.out.kept (gtrans (drew_kept _) ((Kept.refl _).alloc _ _))).trans HWY)
    clear HAD HCX HSX HZX HLX HG9P HGPL HC6 HS6 HB6
    generalize w9.setCell ⟨gp, j * 2 + 1, none⟩ (.slice (some ⟨g9, 0, none⟩) (sl + 1) c9) = WY at HBY HWY ⊢
    go_wp2_with fail
    refine ⟨⟨i + 1, by rfl, by omega, ?_⟩, ?_⟩
    · refine ⟨_, _, _, _, HQ2.out, HBY.out, HSU.out, HWY.out, HP.out, fun ys hy => ?_⟩
      obtain ⟨t, ht⟩ := List.getElem?_of_mem hy
      rcases modify_get ht with ⟨_, y', hy', rfl⟩ | ⟨_, hz⟩
      · rw [List.length_append, List.length_singleton]
        exact Nat.succ_le_succ (HL.out y' (List.mem_of_getElem? hy'))
      · exact Nat.le_succ_of_le (HL.out ys (List.mem_of_getElem? hz))
    · simp [intOf]; omega
theorem next_pl {T : ByteArray} {k : Nat} (hk : k ≤ T.size) (h : (nextM T k).kd ≠ 0) : (nextM T k).pl < (nextM T k).nx := by
  unfold nextM at h ⊢
  split
  · rename_i hl
    split
    · rename_i h2'
      have hp := word_pos hl h2'
      show comB T k < comB T k + _
      omega
    · show comB T k < comB T k + 1
      omega
  · rename_i hl
    rw [if_neg hl] at h
    exact absurd rfl h
def plW (w : World) (v : Value) : Nat := match v with
  | .pointer (some a) => match w.cell? ⟨a.block, 1, none⟩ with
    | some (.int _ j) => j.toNat
    | _ => 0
  | _ => 0
theorem plW_at {w : World} {g pl : Nat} {kd : Int} {wd : ByteArray} (h : TkB w g kd (pl : Int) wd) : plW w (.pointer (some ⟨g, 0, none⟩)) = pl := by
  unfold plW
  simp [h.facts.1.2.1]
def wholeG (T : ByteArray) (s : RSt) : Except Flt RSt := (stmtsM T (T.size + 1) s).bind fun s => if s.sd = false then .error (63, (T.size : Int), ⟨#[]⟩) else resM s.use s
def RwI (ρ : Nat → Nat) (b : Nat) (T : ByteArray) (w : World) (X : Except Flt RSt) (g : Nat) (wr : World) : Prop :=
  ∃ (s0 : RSt) (ρ1 : Nat → Nat) (f : Nat), stmtsM T (f + 1) s0 = X ∧ T.size ≤ f + s0.k ∧ RdA ρ1 wr b T { s0 with k := (nextM T s0.k).nx } ∧ Went ρ b w ρ1 wr ∧ TkB wr g (nextM T s0.k).kd ((nextM T s0.k).pl : Int) (nextM T s0.k).wd ∧ ρ1 g = 0 ∧ w.heap.size ≤ g ∧ g ≠ b ∧ Wf T s0 ∧ Emp s0 ∧ Wd T s0
theorem stmts_end {T : ByteArray} {f : Nat} {s : RSt} (h : (nextM T s.k).kd = 0) : stmtsM T (f + 1) s = .ok { s with k := (nextM T s.k).nx } := by
  rw [stmtsM, if_pos h]
theorem stmts_on {T : ByteArray} {f : Nat} {s : RSt} (h : (nextM T s.k).kd ≠ 0) : stmtsM T (f + 1) s = (statM T (nextM T s.k) { s with k := (nextM T s.k).nx }).bind fun s1 => stmtsM T f s1 := by
  rw [stmtsM, if_neg h]
theorem RdA.mv {ρ : Nat → Nat} {w w' : World} {b k : Nat} {T : ByteArray} {s : RSt} (h : RdA ρ w b T s) (hm : Mv b k w w') : RdA ρ w' b T { s with k := k } := by
  obtain ⟨xL, xN, xP, xU, m, its, ps, h⟩ := h
  exact (h.mv hm).a
theorem RdA.set {ρ : Nat → Nat} {w : World} {b : Nat} {T : ByteArray} {s : RSt} (h : RdA ρ w b T s) {g : Nat} (hg : ρ g = 0) (hb : g ≠ b) (o : Nat) (v : Value) : RdA ρ (w.setCell ⟨g, o, none⟩ v) b T s := by
  obtain ⟨xL, xN, xP, xU, m, its, ps, h⟩ := h
  exact (h.set hg hb o v).a
theorem RdA.fresh {ρ : Nat → Nat} {w : World} {b : Nat} {T : ByteArray} {s : RSt} (h : RdA ρ w b T s) {d : Nat} (hd : w.heap.size ≤ d) : ρ d = 0 := by
  obtain ⟨xL, xN, xP, xU, m, its, ps, h⟩ := h
  exact h.fresh hd
theorem RdA.ltb {ρ : Nat → Nat} {w : World} {b : Nat} {T : ByteArray} {s : RSt} (h : RdA ρ w b T s) : b < w.heap.size := by
  obtain ⟨xL, xN, xP, xU, m, its, ps, h⟩ := h
  exact h.ltb
theorem RdA.cells {ρ : Nat → Nat} {w : World} {b : Nat} {T : ByteArray} {s : RSt} (h : RdA ρ w b T s) : w.cell? ⟨b, 0, none⟩ = some (.string T) ∧ w.cell? ⟨b, 8, none⟩ = some (.bool s.sd) := by
  obtain ⟨xL, xN, xP, xU, m, its, ps, h⟩ := h
  exact ⟨h.cells.1.1, h.cells.1.2.2.2.2.2.2.2.2⟩
theorem whole_is (T : ByteArray) (hT : T.size ≤ 100000) (b : Nat) (w : World) (ρ : Nat → Nat) (s : RSt) (h : RdA ρ w b T s) (hf : Wf T s) (he : Emp s) (hwd : Wd T s) :
    Calls Tryz.prog 40 #[.pointer (some ⟨b, 0, none⟩)] w (OutR ρ b T w (wholeG T s)) := by
  obtain ⟨R, hR⟩ : ∃ R, wholeG T s = R := ⟨_, rfl⟩
  rw [hR]
  unfold wholeG at hR
  obtain ⟨X, hX⟩ : ∃ X, stmtsM T (T.size + 1) s = X := ⟨_, rfl⟩
  rw [hX] at hR
  have HR := hide1 hR
  have HX := hide1 hX
  have HT := hide1 hT
  have HNX := hide1 (next_is T hT b)
  have HF := hide1 hf
  have HE := hide1 he
  have HWD := hide1 hwd
  have HA := hide1 h
  have HK0 := hide1 hf.k
  clear hR hX hT hf he hwd h
  obtain ⟨kd2, hkd2⟩ : ∃ x, (nextM T s.k).kd = x := ⟨_, rfl⟩
  obtain ⟨pl2, hpl2⟩ : ∃ x, (nextM T s.k).pl = x := ⟨_, rfl⟩
  obtain ⟨wd2, hwd2⟩ : ∃ x, (nextM T s.k).wd = x := ⟨_, rfl⟩
  have HN0 : Hid (∀ w, ScAt w b T s.k → Calls Tryz.prog 49 #[.pointer (some ⟨b, 0, none⟩)] w fun e w' => e = .returned (.agg #[.int .i64 kd2, .int .i64 (pl2 : Int), .string wd2]) ∧ Mv b (nextM T s.k).nx w w') := fun w h => by
    have h1 := HNX.out s.k w h HK0.out
    rw [hkd2, hpl2, hwd2] at h1
    exact h1
  have HE2 := hide1 hkd2
  have HE3 := hide1 hpl2
  have HE4 := hide1 hwd2
  clear hkd2 hpl2 hwd2
  go_enter Tryz.func40, Tryz.ntmps40
  go_wp2_with (go_at_call 49; go_must (refine (HN0.out _ HA.out.sc).mono ?_; rintro e w3 ⟨rfl, hm3⟩; have HM3 := hide1 hm3; clear hm3))
  have HI0 : Hid (RwI ρ b T w X w3.heap.size (w3.alloc (.cells #[.int .i64 kd2, .int .i64 (pl2 : Int), .string wd2] 104))) := by
    refine ⟨s, ρ, T.size, HX.out, by omega, (HA.out.mv HM3.out).kept ((Kept.refl w3).alloc _ _), ((Went.refl ρ b w).mv HM3.out).kept ((Kept.refl w3).alloc _ _), ?_, (HA.out.mv HM3.out).fresh (Nat.le_refl _), HM3.out.1.2.2.2.1, fun e => by have := (HA.out.mv HM3.out).ltb; omega, HF.out, HE.out, HWD.out⟩
    rw [HE2.out, HE3.out, HE4.out]
    exact fact3 w3 kd2 (pl2 : Int) wd2
  clear HN0 HM3 HE2 HE3 HE4 HX HF HE HWD HA HK0
  go_loopw [2] (fun v2 wr => ∃ g : Nat, v2 = .pointer (some ⟨g, 0, none⟩) ∧ Hid (RwI ρ b T w X g wr)) (fun v2 wr => T.size + 1 - plW wr v2)
  case atStart => exact ⟨_, rfl, HI0.out⟩
  case round =>
    clear HI0
    obtain ⟨g, rfl, hI⟩ := hrel
    obtain ⟨s0, ρ1, f, hq, hfu, ha, hw, ht, hr, hgw, hgb, hf0, he0, hwd0⟩ := hI.out
    have HNF := hide1 (next_facts hf0.k)
    have HNP := hide1 (fun h => next_pl (T := T) hf0.k h)
    have HON := hide1 (fun f h => @stmts_on T f s0 h)
    have HEN := hide1 (fun f h => @stmts_end T f s0 h)
    have HNW := hide1 (show { s0 with k := (nextM T s0.k).nx }.k = (nextM T s0.k).nx from rfl)
    have HWF1 := hide1 (hf0.on HNF.out.2.1 HNF.out.1)
    obtain ⟨N, hN⟩ : ∃ N, nextM T s0.k = N := ⟨_, rfl⟩
    rw [hN] at ha ht HNF HNP HON HEN HWF1
    obtain ⟨kd, pl, wd, nx⟩ := N
    dsimp only at ha ht HNF HNP HON HEN HWF1
    have HA1 := hide1 ha
    have HW1 := hide1 hw
    have HT1 := hide1 ht
    have HR1 := hide1 hr
    have HGW := hide1 hgw
    have HGB := hide1 hgb
    have HQ := hide1 hq
    have HFU := hide1 hfu
    have HE1 : Hid (Emp { s0 with k := nx }) := he0
    have HWD1 : Hid (Wd T { s0 with k := nx }) := ⟨HNF.out.1, hwd0.2⟩
    have HPL := hide1 (plW_at ht)
    clear hI hq hfu ha hw ht hr hgw hgb hf0 he0 hwd0 hN HNW
    obtain ⟨⟨t0, t1, t2⟩, -⟩ := HT1.out.facts
    by_cases hkd : kd = 0
    · subst hkd
      have hx := (HEN.out f rfl).symm.trans HQ.out
      have hR := HR.out
      rw [← hx] at hR
      change (if s0.sd = false then .error (63, (T.size : Int), ⟨#[]⟩) else resM s0.use { s0 with k := nx }) = R at hR
      obtain ⟨r0, r8⟩ := HA1.out.cells
      dsimp only at r8
      by_cases hsd : s0.sd = false
      · rw [if_pos hsd] at hR
        rw [hsd] at r8
        clear hx
        go_wp2_with (go_at_call 51; go_must (refine (fail_is _ _ _ _).mono ?_; rintro e w7 ⟨rfl, hk7⟩; have h9 : OutR ρ b T w R (thrown 63 (T.size : Int) ⟨#[]⟩) w7 := out_err hR.symm (HW1.out.kept hk7).1; unfold thrown at h9 ⊢))
        exact ⟨rfl, h9⟩
      · rw [if_neg hsd] at hR
        have hst : s0.sd = true := by simpa using hsd
        rw [hst] at r8
        have HRS : Hid (∀ w ρ, RdA ρ w b T { s0 with k := nx } → Calls Tryz.prog 52 #[.pointer (some ⟨b, 0, none⟩)] w (OutR ρ b T w R)) := fun w ρ h => by
          rw [← hR]
          exact resolve_is T HT.out b w ρ _ h HWF1.out HE1.out HWD1.out
        clear hx hR hst hsd
        go_wp2_with fail
        go_at_call 52
        refine (HRS.out _ _ HA1.out).mono ?_
        intro e w8 h8
        have h9 := OutR.after HW1.out h8
        rcases R with f | s8
        · obtain ⟨rfl, -⟩ := id h9
          unfold thrown
          go_wp2_with fail
          exact ⟨rfl, h9⟩
        · obtain ⟨rfl, -⟩ := id h9
          go_wp2_with fail
          go_end0
          exact h9
    have ekd : (kd != 0) = true := by simpa using hkd
    obtain ⟨X1, hX1⟩ : ∃ X, statM T ⟨kd, pl, wd, nx⟩ { s0 with k := nx } = X := ⟨_, rfl⟩
    have hq1 := (HON.out f hkd).symm.trans HQ.out
    rw [hX1] at hq1
    have HQ1 := hide1 hq1
    have HST : Hid (∀ w ρ, RdA ρ w b T { s0 with k := nx } → Calls Tryz.prog 50 #[.pointer (some ⟨b, 0, none⟩), .agg #[.int .i64 kd, .int .i64 (pl : Int), .string wd]] w (OutR ρ b T w X1)) := fun w ρ h => by
      rw [← hX1]
      exact stat_is T HT.out b ⟨kd, pl, wd, nx⟩ w ρ _ h HWF1.out (Nat.le_trans HNF.out.2.2.2.2.1 HT.out)
    have HX1 : Hid (∀ s1, X1 = .ok s1 → (Wf T s1 ∧ nx ≤ s1.k) ∧ Emp s1 ∧ Wd T s1) := fun s1 h => ⟨stat_wf HWF1.out (hX1.trans h), stat_emp HE1.out (hX1.trans h), stat_wd HWD1.out (hX1.trans h)⟩
    have HKX := hide1 (HNF.out.2.2.2.2.2 hkd)
    have HPX := hide1 (HNP.out hkd)
    clear hX1 hq1 HON HEN hkd
    go_wp2_with fail
    go_at_call 50
    refine (HST.out _ _ HA1.out).mono ?_
    intro e w4 h4
    rcases X1 with f1 | s1
    · obtain ⟨rfl, hf4⟩ := h4
      have hx : X = .error (f1.1, f1.2.1, f1.2.2) := HQ1.out.symm
      have h9 : OutR ρ b T w R (thrown f1.1 f1.2.1 f1.2.2) w4 := out_err (show R = .error (f1.1, f1.2.1, f1.2.2) from by rw [← HR.out, hx]; rfl) (HW1.out.fr hf4)
      clear hx
      unfold thrown at h9 ⊢
      go_wp2_with fail
      exact ⟨rfl, h9⟩
    obtain ⟨rfl, ρ4, ha4, hw4⟩ := h4
    have HA4 := hide1 ha4
    have HW4 := hide1 (HW1.out.trans hw4)
    have HT4 := hide1 (show TkB w4 g kd (pl : Int) wd from (hw4.block (Array.getElem?_eq_some_iff.1 HT1.out).1 HGB.out HR1.out).trans HT1.out)
    obtain ⟨HF4, HE4, HD4⟩ := HX1.out s1 rfl
    have HF4 := hide1 HF4
    have HE4 := hide1 HE4
    have HD4 := hide1 HD4
    have HNX1 := hide1 (HNX.out s1.k)
    have HNF4 := hide1 (next_facts HF4.out.1.k)
    have hq4 : stmtsM T f s1 = X := HQ1.out
    obtain ⟨f, rfl⟩ : ∃ f', f = f' + 1 := ⟨f - 1, by have := HFU.out; have := HKX.out; have := HNF.out.1; omega⟩
    have HQ4 := hide1 hq4
    clear hq4 ha4 hw4 t0 t1 t2 HST HX1 HA1 HW1 HT1
    obtain ⟨⟨t0, t1, t2⟩, -⟩ := HT4.out.facts
    obtain ⟨N, hN⟩ : ∃ N, nextM T s1.k = N := ⟨_, rfl⟩
    rw [hN] at HNX1 HNF4
    have HN := hide1 hN
    clear hN
    obtain ⟨kd5, pl5, wd5, nx5⟩ := N
    dsimp only at HNX1 HNF4
    have HA5 := hide1 (HA4.out.kept ((Kept.refl w4).alloc #[.int .i64 kd, .int .i64 (pl : Int), .string wd] 104))
    have HW5 := hide1 (HW4.out.kept ((Kept.refl w4).alloc #[.int .i64 kd, .int .i64 (pl : Int), .string wd] 104))
    have HT5 := hide1 (fact3 w4 kd (pl : Int) wd)
    have HG5 := hide1 (HA4.out.fresh (Nat.le_refl _))
    have HG5B := hide1 (show w4.heap.size ≠ b from fun e => by have := HA4.out.ltb; omega)
    have HG5W := hide1 (show w.heap.size ≤ w4.heap.size from HW4.out.1.2.2.2.1)
    go_upto_region 2 with fail
    obtain ⟨g5, hg5⟩ : ∃ x, w4.heap.size = x := ⟨_, rfl⟩
    generalize w4.alloc (.cells #[.int .i64 kd, .int .i64 (pl : Int), .string wd] 104) = W5 at HA5 HW5 HT5 ⊢
    rw [hg5] at HT5 HG5 HG5B HG5W ⊢
    clear hg5 t0 t1 t2
    go_wp2_with fail
    go_at_call 49
    refine (HNX1.out _ HA5.out.sc HF4.out.1.k).mono ?_
    rintro e w6 ⟨rfl, hm6⟩
    have HA6 := hide1 (HA5.out.mv hm6)
    have HW6 := hide1 (HW5.out.mv hm6)
    have HT6 := hide1 (HT5.out.mv hm6 HG5B.out)
    obtain ⟨⟨k0, k1, k2⟩, z0, z1, z2⟩ := HT6.out.facts
    have hlg := (Array.getElem?_eq_some_iff.1 HT6.out).1
    clear hm6
    go_wp2_with fail
    have HT7 := hide1 ((((HT6.out.set kd5 0 ⟨#[]⟩).1.set 0 (pl5 : Int) ⟨#[]⟩).2.1).set 0 0 wd5).2.2
    refine ⟨⟨g5, rfl, ?_⟩, ?_⟩
    · refine ⟨s1, ρ4, f, HQ4.out, by have := HFU.out; have := HKX.out; have := HF4.out.2; omega, ?_, ((HW6.out.set HG5W.out 0 _).set HG5W.out 1 _).set HG5W.out 2 _, ?_, HG5.out, HG5W.out, HG5B.out, HF4.out.1, HE4.out, HD4.out⟩
      · rw [HN.out]
        exact ((HA6.out.set HG5.out HG5B.out 0 _).set HG5.out HG5B.out 1 _).set HG5.out HG5B.out 2 _
      · rw [HN.out]
        exact HT7.out
    · rw [HPL.out, plW_at HT7.out]
      have h1 := HNF4.out.2.2.1
      have h2 := HNF4.out.2.2.2.1
      have h3 := HF4.out.2
      have h4 := HPX.out
      omega
end Gs
end Ex
end Go.Proofs.YtbnchnlogikecaaGreatDoor
