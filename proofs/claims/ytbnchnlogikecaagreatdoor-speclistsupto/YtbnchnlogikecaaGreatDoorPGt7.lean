import Derived.Test.YtbnchnlogikecaaGreatDoorPSpSz2
import Derived.Test.YtbnchnlogikecaaGreatDoorPExKl
import Derived.Test.YtbnchnlogikecaaGreatDoorPGt4
import Derived.Deep.DeepMust
import Derived.BigQuiet
import Derived.Deep.RegionHeld3
namespace Go.Proofs.YtbnchnlogikecaaGreatDoor
open Go.RowKit
attribute [local go_sem] Oper.semAt_some
set_option linter.unusedVariables false
set_option linter.unusedSimpArgs false
set_option maxRecDepth 100000
set_option maxHeartbeats 8000000
namespace Ex
namespace Gs
open Sh
theorem rule_is (T : ByteArray) (hT : T.size ≤ 100000) (b : Nat) (kd pl : Int) (wd : ByteArray) (tr : Bool) (w : World) (ρ : Nat → Nat) (s : RSt) (h : RdA ρ w b T s) (hk : s.k ≤ T.size) (hgn : s.gn ≤ 100000) (hl64 : s.lex.length ≤ 64) :
    Calls Tryz.prog 103 #[.pointer (some ⟨b, 0, none⟩), .agg #[.int .i64 kd, .int .i64 pl, .string wd], .bool tr] w (OutR ρ b T w (ruleM T pl tr s)) := by
  obtain ⟨⟨la, ln, lc⟩, xN, xP, xU, m, its, ps, h⟩ := h
  have hln : s.lex.length = ln := by rw [← h.lexR.1]; exact lo_lens h.lex
  obtain ⟨R, hR⟩ : ∃ R, ruleM T pl tr s = R := ⟨_, rfl⟩
  rw [hR]
  unfold ruleM at hR
  by_cases hsd : s.lex.length = 64
  · rw [if_pos hsd] at hR
    refine (rule_long b kd pl wd tr w lc la (by have h2 := h.cells.1.2.2.1; dsimp only at h2; rw [h2, ← hln, hsd])).mono ?_
    rintro e w' ⟨rfl, hk⟩
    exact out_err hR.symm (hk.kt _)
  rw [if_neg hsd] at hR
  rw [hln] at hR hsd
  obtain ⟨hNf1, hNf2, -, -, hNw, -⟩ := next_facts hk
  have HNX := hide1 (next_is T hT b s.k)
  obtain ⟨⟨kd2, pl2, wd2, nx⟩, hN⟩ : ∃ N, nextM T s.k = N := ⟨_, rfl⟩
  rw [hN] at hR HNX hNf1 hNf2 hNw
  dsimp only at hR HNX hNf1 hNf2 hNw
  obtain ⟨X1, hX1⟩ : ∃ X, giveM ⟨kd2, pl2, wd2, nx⟩ 1 (ln : Int) { s with k := nx } = X := ⟨_, rfl⟩
  rw [hX1] at hR
  have HGV : Hid (∀ w ρ, RdA ρ w b T { s with k := nx } → Calls Tryz.prog 89 #[.pointer (some ⟨b, 0, none⟩), .agg #[.int .i64 kd2, .int .i64 (pl2 : Int), .string wd2], .agg #[.int .i64 1, .int .i64 (ln : Int)]] w (OutR ρ b T w X1)) := fun w ρ h => by
    rw [← hX1]
    exact give_is T b ⟨kd2, pl2, wd2, nx⟩ 1 (ln : Int) w ρ { s with k := nx } h (by dsimp only; omega) hgn
  have HX1 : Hid (∀ s1, X1 = .ok s1 → s1 = { s with k := nx, giv := putG s.giv wd2 (1, (ln : Int)), gn := s.gn + 1 }) := fun s1 h => (give_ok (hX1.trans h)).2.2
  have HR := hide1 hR
  have HT := hide1 hT
  have HNK := hide1 hNf1
  have HLX := hide1 hl64
  have HK0 := hide1 hk
  have HW0 := hide1 (Went.refl ρ b w)
  have e1 : ((ln : Int) == 64) = false := by simp; omega
  have HB := hide1 h
  clear hR hX1 hk hgn hl64 hln hsd h hNf1 hNf2 hNw hN hT
  go_enter Tryz.func103, Tryz.ntmps103
  have HB1 := hide1 (HB.out.kept ((Kept.refl w).alloc #[.int .i64 kd, .int .i64 pl, .string wd] 104))
  have HW1 := hide1 (HW0.out.kept ((Kept.refl w).alloc #[.int .i64 kd, .int .i64 pl, .string wd] 104))
  go_upto_region 1 with fail
  generalize w.alloc (.cells #[.int .i64 kd, .int .i64 pl, .string wd] 104) = W1 at HB1 HW1 ⊢
  have d2 := HB1.out.cells.1.2.2.1
  dsimp only at d2
  go_upto_region 4 with (go_at_call 49; go_must (refine (HNX.out _ HB1.out.sc HK0.out).mono ?_; rintro e w3 ⟨rfl, hm3⟩; have HB3 := hide1 (HB1.out.mv hm3); have HW3 := hide1 (HW1.out.mv hm3); clear hm3))
  clear d2
  have HGR := hide1 (HB3.out.fresh (Nat.le_refl _))
  have HGB := hide1 (show w3.heap.size ≠ b from fun e => by have := HB3.out.ltb; omega)
  have HT4 := hide1 (fact3 w3 kd2 (pl2 : Int) wd2)
  have HB4 := hide1 (HB3.out.kept ((Kept.refl w3).alloc #[.int .i64 kd2, .int .i64 (pl2 : Int), .string wd2] 104))
  have HW4 := hide1 (HW3.out.kept ((Kept.refl w3).alloc #[.int .i64 kd2, .int .i64 (pl2 : Int), .string wd2] 104))
  obtain ⟨g6, hg6⟩ : ∃ g, w3.heap.size = g := ⟨_, rfl⟩
  generalize w3.alloc (.cells #[.int .i64 kd2, .int .i64 (pl2 : Int), .string wd2] 104) = W4 at HT4 HB4 HW4 ⊢
  rw [hg6] at HGR HGB HT4 ⊢
  clear hg6
  refine z_region (S := fun w' => Kept W4 w') 9 (by kernel_rfl) (drew_kept _) (fun hHeld => ?_)
  refine tkZ 0 (.pointer (some ⟨b, 0, none⟩)) [9] rfl (fun w' hSw => ?_) ?_
  · clear hSw
    go_simp
  try simp only [layS]
  refine tkZ 1 (.agg #[.int .i64 kd2, .int .i64 (pl2 : Int), .string wd2]) [9] rfl (fun w' hSw => ?_) ?_
  · obtain ⟨⟨q0, q1, q2⟩, -⟩ := (HT4.out.keep hSw).facts
    go_simp
  try simp only [layS]
  refine tkZ 2 (.pointer (some ⟨b, 0, none⟩)) [3, 4, 5, 6, 7, 8, 9] rfl (fun w' hSw => ?_) ?_
  · clear hSw
    go_simp
  try simp only [layS]
  refine tkZ 3 (.pointer (some ⟨b, 0, none⟩)) [4, 5, 6, 7, 8, 9] rfl (fun w' hSw => ?_) ?_
  · clear hSw
    go_simp
  try simp only [layS]
  refine tkZ 4 (.pointer (some ⟨b, 2, none⟩)) [5, 6, 7, 8, 9] rfl (fun w' hSw => ?_) ?_
  · clear hSw
    go_simp
  try simp only [layS]
  refine tkZ 5 (.pointer (some ⟨b, 2, none⟩)) [6, 7, 8, 9] rfl (fun w' hSw => ?_) ?_
  · clear hSw
    go_simp
  try simp only [layS]
  refine tkZ 6 (.slice la ln lc) [7, 8, 9] rfl (fun w' hSw => ?_) ?_
  · obtain ⟨⟨q0, q1, q2, q3, q4, q5, q6, q7, q8⟩, -⟩ := (HB4.out.kept hSw).cells; dsimp only at q2
    go_simp
  try simp only [layS]
  refine tkZ 7 (.int .i64 (ln : Int)) [8, 9] rfl (fun w' hSw => ?_) ?_
  · clear hSw
    go_simp
  try simp only [layS]
  refine tkZ 8 (.agg #[.int .i64 1, .int .i64 (ln : Int)]) [9] rfl (fun w' hSw => ?_) ?_
  · clear hSw
    go_simp
  try simp only [layS]
  refine z_last (by kernel_rfl) (by kernel_rfl) rfl (fun K hK => ?_)
  go_simp
  refine (HGV.out _ _ (HB4.out.kept (drew_kept _)).a).mono ?_
  intro e w7 h7
  rcases X1 with f | s1
  · obtain ⟨rfl, hf⟩ := h7
    have h9 : OutR ρ b T w R (thrown f.1 f.2.1 f.2.2) w7 := out_err (show R = .error (f.1, f.2.1, f.2.2) from HR.out.symm) ((HW4.out.kept (drew_kept _)).fr hf)
    unfold thrown at h9 ⊢
    exact ⟨rfl, h9⟩
  obtain ⟨rfl, ρ1, ha, hw⟩ := h7
  refine hK.out _ _ ?_
  clear hK K hHeld
  have HW7 := hide1 ((HW4.out.kept (drew_kept _)).trans hw)
  have HT7 := hide1 (show TkB w7 g6 kd2 (pl2 : Int) wd2 from (hw.block (Array.getElem?_eq_some_iff.1 (HT4.out.keep (drew_kept _))).1 HGB.out HGR.out).trans (HT4.out.keep (drew_kept _)))
  have HGR7 := hide1 ((hw.2 g6 (Array.getElem?_eq_some_iff.1 (HT4.out.keep (drew_kept _))).1).trans HGR.out)
  have hs1 := HX1.out s1 rfl
  obtain ⟨X2, hX2⟩ : ∃ X, signM T 61 s1 = X := ⟨_, rfl⟩
  have hR2 : (X2.bind fun s2 => (patM T s2.k).bind fun q => signM T 59 { s2 with k := q.2, lex := s2.lex ++ [(wd2, tr, q.1)] }) = R := by rw [← hX2]; exact HR.out
  have hs1k : s1.k ≤ T.size := by rw [hs1]; exact HNK.out
  have HSG1 : Hid (∀ w ρ, RdA ρ w b T s1 → Calls Tryz.prog 90 #[.pointer (some ⟨b, 0, none⟩), .int .i64 61] w (OutR ρ b T w X2)) := fun w ρ h => by
    rw [← hX2]
    exact sign_is T HT.out b 61 w ρ s1 h hs1k
  have HX2 : Hid (∀ s2, X2 = .ok s2 → s2.k ≤ T.size ∧ s2.lex.length ≤ 64) := fun s2 h => by
    rw [(sign_eq (hX2.trans h)).2]
    exact ⟨(next_facts hs1k).1, by show s1.lex.length ≤ 64; rw [hs1]; exact HLX.out⟩
  have HR2 := hide1 hR2
  have HA7 := hide1 ha
  clear hR2 hX2 hs1 hs1k hw ha HR HX1 HGV HB HB1 HB3 HB4 HW1 HW3 HW4 e1
  go_wp2_with fail
  go_at_call 90
  refine (HSG1.out _ _ HA7.out).mono ?_
  intro e w8 h8
  rcases X2 with f | s2
  · obtain ⟨rfl, hf⟩ := h8
    have h9 : OutR ρ b T w R (thrown f.1 f.2.1 f.2.2) w8 := out_err (show R = .error (f.1, f.2.1, f.2.2) from HR2.out.symm) (HW7.out.fr hf)
    unfold thrown at h9 ⊢
    go_wp2_with fail
    exact ⟨rfl, h9⟩
  obtain ⟨rfl, ρ2, ha8, hw8⟩ := h8
  have HW8 := hide1 (HW7.out.trans hw8)
  have HT8 := hide1 (show TkB w8 g6 kd2 (pl2 : Int) wd2 from (hw8.block (Array.getElem?_eq_some_iff.1 HT7.out).1 HGB.out HGR7.out).trans HT7.out)
  have HGR8 := hide1 ((hw8.2 g6 (Array.getElem?_eq_some_iff.1 HT7.out).1).trans HGR7.out)
  clear HGR HGR7 HA7 HW7 HT7 HT4 hw8
  have HGR := HGR8
  clear HGR8
  have hs2k := (HX2.out s2 rfl).1
  have HL64 := hide1 (HX2.out s2 rfl).2
  obtain ⟨⟨la, ln, lc⟩, xN, xP, xU, m, its, ps, hb8⟩ := ha8
  have HB8 := hide1 hb8
  have HLN := hide1 (lo_lens (show LO lexE _ 0 (.slice la ln lc) its from hb8.lex))
  have HLB := hide1 (show ln ≤ 64 from by rw [← HLN.out, hb8.lexR.1]; exact HL64.out)
  obtain ⟨X3, hX3⟩ : ∃ X, patM T s2.k = X := ⟨_, rfl⟩
  have hR3 : (X3.bind fun q => signM T 59 { s2 with k := q.2, lex := s2.lex ++ [(wd2, tr, q.1)] }) = R := by rw [← hX3]; exact HR2.out
  have HR3 := hide1 hR3
  have HX3 : Hid (∀ q, X3 = .ok q → q.2 ≤ T.size) := fun q h => (pat_wf hs2k (hX3.trans h)).2
  have HPT : Hid (∀ w ρ, ScAt w b T s2.k → Calls Tryz.prog 114 #[.pointer (some ⟨b, 0, none⟩)] w (OutP ρ b w X3)) := fun w ρ h => by
    rw [← hX3]
    exact pattern_is T HT.out b s2.k w ρ h hs2k
  clear hX3 hR3 hs2k hb8 HX2 HR2 HSG1 HL64
  go_upto_region 6 with fail
  refine z_region (S := fun w' => w'.cell? ⟨b, 2, none⟩ = some (.slice la ln lc) ∧ TkB w' g6 kd2 (pl2 : Int) wd2) 17 (by kernel_rfl) ⟨(HB8.out.kept (drew_kept _)).cells.1.2.2.1, HT8.out.keep (drew_kept _)⟩ (fun hHeld => ?_)
  refine tkZ 0 (.pointer (some ⟨b, 0, none⟩)) [17] rfl (fun w' hSw => ?_) ?_
  · clear hSw
    go_simp
  try simp only [layS]
  refine tkZ 1 (.pointer (some ⟨b, 0, none⟩)) [17] rfl (fun w' hSw => ?_) ?_
  · clear hSw
    go_simp
  try simp only [layS]
  refine tkZ 2 (.pointer (some ⟨b, 0, none⟩)) [17] rfl (fun w' hSw => ?_) ?_
  · clear hSw
    go_simp
  try simp only [layS]
  refine tkZ 3 (.pointer (some ⟨b, 2, none⟩)) [17] rfl (fun w' hSw => ?_) ?_
  · clear hSw
    go_simp
  try simp only [layS]
  refine tkZ 4 (.pointer (some ⟨b, 2, none⟩)) [17] rfl (fun w' hSw => ?_) ?_
  · clear hSw
    go_simp
  try simp only [layS]
  refine tkZ 5 (.slice la ln lc) [17] rfl (fun w' hSw => ?_) ?_
  · obtain ⟨q0, q1⟩ := hSw
    go_simp
  try simp only [layS]
  refine tkZ 6 (.pointer (some ⟨g6, 2, none⟩)) [17] rfl (fun w' hSw => ?_) ?_
  · clear hSw
    go_simp
  try simp only [layS]
  refine tkZ 7 (.string wd2) [17] rfl (fun w' hSw => ?_) ?_
  · obtain ⟨⟨q0, q1, q2⟩, -⟩ := hSw.2.facts
    go_simp
  try simp only [layS]
  refine tkZ 8 (.bool tr) [17] rfl (fun w' hSw => ?_) ?_
  · clear hSw
    go_simp
  try simp only [layS]
  refine tkZ 9 (.pointer (some ⟨b, 0, none⟩)) [17] rfl (fun w' hSw => ?_) ?_
  · clear hSw
    go_simp
  try simp only [layS]
  refine z_one (i := 10) (by kernel_rfl) (by rfl) rfl (fun K hK => ?_)
  go_simp
  refine (HPT.out _ ρ2 (HB8.out.kept (drew_kept _)).sc).mono ?_
  intro e wp hp
  rcases X3 with f | q
  · obtain ⟨rfl, hf⟩ := hp
    have h9 : OutR ρ b T w R (thrown f.1 f.2.1 f.2.2) wp := out_err (show R = .error (f.1, f.2.1, f.2.2) from HR3.out.symm) ((HW8.out.kept (drew_kept _)).fr hf)
    unfold thrown at h9 ⊢
    exact ⟨rfl, h9⟩
  obtain ⟨⟨v0, rfl, v1, rfl, hkk⟩, hmv⟩ := hp
  rw [valOf_eq]
  obtain ⟨pa, pc, e9⟩ := hkk.form
  subst e9
  obtain ⟨pat, nk⟩ := q
  dsimp only at hkk hmv ⊢
  have HB9 := hide1 ((HB8.out.kept (drew_kept _)).mv hmv)
  have HW9 := hide1 ((HW8.out.kept (drew_kept _)).mv hmv)
  have HT9 := hide1 ((HT8.out.keep (drew_kept _)).mv hmv HGB.out)
  have HKT := hide1 (KidsO.tight _ _ _ hkk)
  clear hkk hmv
  have hc9 : wp.cell? ⟨b, 2, none⟩ = some (.slice la ln lc) := HB9.out.cells.1.2.2.1
  refine hK.out _ _ ⟨hc9, HT9.out⟩ (fun hHeldN => ?_)
  clear hc9
  clear hK K hHeld
  have hHeld := hHeldN
  clear hHeldN
  try simp only [layS]
  refine tkZ 11 (.agg #[.string wd2, .bool tr, .int .i64 (kind pat.2), .int .i64 (from_ pat.2), .int .i64 (to_ pat.2), .int .i64 (min_ pat.2), .int .i64 (max_ pat.2), .slice pa (kids pat.2).length pc]) [17] rfl (fun w' hSw => ?_) ?_
  · clear hSw
    go_simp
  try simp only [layS]
  refine z_one (i := 12) (by kernel_rfl) (by rfl) rfl (fun K hK => ?_)
  have HBA := hide1 (HB9.out.kept ((Kept.refl wp).alloc (encLex (wd2, tr, kind pat.2, from_ pat.2, to_ pat.2, min_ pat.2, max_ pat.2, pa, (kids pat.2).length, pc)).toArray 72))
  have HTA := hide1 (HT9.out.keep ((Kept.refl wp).alloc (encLex (wd2, tr, kind pat.2, from_ pat.2, to_ pat.2, min_ pat.2, max_ pat.2, pa, (kids pat.2).length, pc)).toArray 72))
  have HWA := hide1 (HW9.out.kept ((Kept.refl wp).alloc (encLex (wd2, tr, kind pat.2, from_ pat.2, to_ pat.2, min_ pat.2, max_ pat.2, pa, (kids pat.2).length, pc)).toArray 72))
  have HKA := hide1 (KidsO.kept HKT.out ((Kept.refl wp).alloc (encLex (wd2, tr, kind pat.2, from_ pat.2, to_ pat.2, min_ pat.2, max_ pat.2, pa, (kids pat.2).length, pc)).toArray 72))
  have hcA := HBA.out.cells.1.2.2.1
  have hSA := HTA.out
  go_simp
  refine hK.out _ _ ⟨hcA, hSA⟩ (fun hHeldN => ?_)
  clear hK K hHeld
  have hHeld := hHeldN
  clear hHeldN
  try simp only [layS]
  refine z_one (i := 13) (by kernel_rfl) (by rfl) rfl (fun K hK => ?_)
  refine step_lo (E := lexE) rfl _ _ rfl 0 (.slice la ln lc) its ln HLN.out (by rfl) HBA.out.lex wp.heap.size (wd2, tr, kind pat.2, from_ pat.2, to_ pat.2, min_ pat.2, max_ pat.2, pa, (kids pat.2).length, pc) (by rfl) (heap_alloc_new wp _) (by show (ln + 1) * 88 ≤ _; have := HLB.out; omega) (by unfold maxLen; have := HLB.out; omega) (Nat.zero_le _) ?_
  intro g9 c9 w9 ho9 hg9 hor9 hl9
  have HAD := hide1 (HBA.out.addL (p := pat) (nm := wd2) (tr := tr) (sv := (pa, (kids pat.2).length, pc)) HKA.out (fun d hd => (HB8.out.kept (drew_kept _)).fresh hd) (HB8.out.kept (drew_kept _)).ltb (by rw [World.size_alloc]; omega) ho9 hg9 hor9 hl9)
  have HBX := hide1 (show BoxR w9 b T _ _ _ _ _ _ from (grown_far HBA.out.o1 (by decide) hg9 HBA.out.ltb HBA.out.o0).trans HBA.out.box)
  have HTX := hide1 (show TkB w9 g6 kd2 (pl2 : Int) wd2 from (grown_far HBA.out.o1 (by decide) hg9 (Array.getElem?_eq_some_iff.1 HTA.out).1 HGR.out).trans HTA.out)
  obtain ⟨⟨r0, r1, r2, r3, r4, r5, r6, r7, r8⟩, rz⟩ := HBX.out.cells
  dsimp only at r2
  refine hK.out _ _ ⟨r2, HTX.out⟩ (fun hHeldN => ?_)
  clear hK K hHeld
  have hHeld := hHeldN
  clear hHeldN
  try simp only [layS]
  refine tkZ 14 (.pointer (some ⟨b, 0, none⟩)) [15, 16, 17] rfl (fun w' hSw => ?_) ?_
  · clear hSw
    go_simp
  try simp only [layS]
  refine tkZ 15 (.pointer (some ⟨b, 2, none⟩)) [16, 17] rfl (fun w' hSw => ?_) ?_
  · clear hSw
    go_simp
  try simp only [layS]
  refine tkZ 16 (.pointer (some ⟨b, 2, none⟩)) [17] rfl (fun w' hSw => ?_) ?_
  · clear hSw
    go_simp
  try simp only [layS]
  refine z_last (by kernel_rfl) (by kernel_rfl) rfl (fun K hK => ?_)
  have rz2 := rz 2
  have hlb9 : b < w9.heap.size := (Array.getElem?_eq_some_iff.1 HBX.out).1
  clear rz r0 r1 r3 r4 r5 r6 r7 r8
  go_simp
  refine hK.out _ _ ?_
  clear hK K hHeld r2 rz2 hlb9 ho9 hg9 hor9
  have HNK := hide1 (HX3.out (pat, nk) rfl)
  dsimp only at HNK
  have hR4 : signM T 59 { s2 with k := nk, lex := s2.lex ++ [(wd2, tr, pat)] } = R := HR3.out
  have HSG4 : Hid (∀ w ρ, RdA ρ w b T { s2 with k := nk, lex := s2.lex ++ [(wd2, tr, pat)] } → Calls Tryz.prog 90 #[.pointer (some ⟨b, 0, none⟩), .int .i64 59] w (OutR ρ b T w R)) := fun w ρ h => by
    rw [← hR4]
    exact sign_is T HT.out b 59 w ρ _ h HNK.out
  obtain ⟨HBY, HWY⟩ := HAD.out
  have HBY := hide1 HBY
  have HWY := hide1 (HWY w ρ HWA.out HW8.out.1.2.2.2.1)
  clear HAD hR4 HR3 HX3 HPT
  generalize w9.setCell ⟨b, 2, none⟩ (.slice (some ⟨g9, 0, none⟩) (ln + 1) c9) = WY at HBY HWY ⊢
  go_upto_region 7 with fail
  go_wp2_with fail
  go_at_call 90
  refine (HSG4.out _ _ HBY.out.a).mono ?_
  intro e w8 h8
  have h9 := OutR.after HWY.out h8
  rcases R with f | s8
  · obtain ⟨rfl, -⟩ := id h9
    unfold thrown
    go_wp2_with fail
    exact ⟨rfl, h9⟩
  · obtain ⟨rfl, -⟩ := id h9
    go_wp2_with fail
    go_end0
    exact h9
end Gs
end Ex
end Go.Proofs.YtbnchnlogikecaaGreatDoor
