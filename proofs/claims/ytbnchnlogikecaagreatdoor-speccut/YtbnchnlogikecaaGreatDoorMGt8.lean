import Derived.Test.YtbnchnlogikecaaGreatDoorMGt4
import Derived.Deep.DeepMust
import Derived.BigQuiet
import Derived.Deep.RegionHeld3
namespace Go.Proofs.YtbnchnlogikecaaGreatDoor
open Go.RowKit
attribute [local go_sem] Oper.semAt_some
set_option linter.unusedVariables false
namespace Ex
namespace Gs
open Sh

/-- What right answers. -/
def OutB (ρ : Nat → Nat) (b : Nat) (T : ByteArray) (w : World) (x : Except Flt (Bool × RSt)) (e : Ending) (w' : World) : Prop :=
  match x with
  | .ok r => e = .returned (.bool r.1) ∧ ∃ ρ', RdA ρ' w' b T r.2 ∧ Went ρ b w ρ' w'
  | .error f => e = thrown f.1 f.2.1 f.2.2 ∧ Fr ρ b w w'
theorem outB_ok {ρ ρ' : Nat → Nat} {b : Nat} {T : ByteArray} {w w' : World} {x : Except Flt (Bool × RSt)} {s : RSt} {r : Bool} (h : x = .ok (r, s)) (h1 : RdA ρ' w' b T s) (h2 : Went ρ b w ρ' w') : OutB ρ b T w x (.returned (.bool r)) w' := by
  subst h; exact ⟨rfl, ρ', h1, h2⟩
theorem outB_err {ρ : Nat → Nat} {b : Nat} {T : ByteArray} {w w' : World} {x : Except Flt (Bool × RSt)} {er at_ : Int} {nm : ByteArray} (h : x = .error (er, at_, nm)) (h2 : Fr ρ b w w') : OutB ρ b T w x (thrown er at_ nm) w' := by
  subst h; exact ⟨rfl, h2⟩
/-- While a right side is read. -/
def RgI (ρ : Nat → Nat) (b : Nat) (T : ByteArray) (w : World) (g pr : Nat) (X : Except Flt (Bool × RSt)) (n : Nat) (wr : World) : Prop :=
  ∃ (s1 : RSt) (N1 : Tok) (ρ1 : Nat → Nat), sideM T (pr : Int) (18 - n) n N1 s1 = X ∧ RdA ρ1 wr b T s1 ∧ Went ρ b w ρ1 wr ∧ TkB wr g N1.kd (N1.pl : Int) N1.wd ∧ ρ1 g = 0 ∧ Wf T s1 ∧ pr < s1.prd.length ∧ s1.use.length + 1 ≤ s1.k
theorem side_stop {T : ByteArray} {pr : Int} {f n : Nat} {N : Tok} {s : RSt} (h : N.kd ≠ 2) : sideM T pr f n N s = .ok (decide (N.kd = 124), s) := by
  cases f with
  | zero => rfl
  | succ f => unfold sideM; rw [if_neg h]
theorem side_long {T : ByteArray} {pr : Int} {N : Tok} {s : RSt} (h : N.kd = 2) : sideM T pr (18 - 16) 16 N s = .error (2, (N.pl : Int), ⟨#[]⟩) := by
  show sideM T pr (1 + 1) 16 N s = _
  unfold sideM; rw [if_pos h, if_pos rfl]
theorem side_step {T : ByteArray} {pr : Int} {n : Nat} {N : Tok} {s : RSt} (h : N.kd = 2) (hn : n < 16) : sideM T pr (18 - n) n N s = (partM T s.k).bind fun M => sideM T pr (18 - (n + 1)) (n + 1) M { s with k := M.nx, use := s.use ++ [(2, (N.pl : Int), N.wd, pr)] } := by
  obtain ⟨f, hf⟩ : ∃ f, 18 - n = f + 1 := ⟨17 - n, by omega⟩
  rw [hf, show 18 - (n + 1) = f by omega]
  conv => lhs; unfold sideM
  rw [if_pos h, if_neg (by omega), h]
theorem set_heap_ne {w : World} {b g o : Nat} {v : Value} (h : g ≠ b) : (w.setCell ⟨b, o, none⟩ v).heap[g]? = w.heap[g]? := Below.heap_setCell _ _ _ _ (fun e => h e)

set_option linter.unusedSimpArgs false in
set_option maxRecDepth 100000 in
set_option maxHeartbeats 8000000 in
theorem right_is (T : ByteArray) (hT : T.size ≤ 100000) (b : Nat) (left : Int) (w : World) (ρ : Nat → Nat) (s : RSt) (h : RdA ρ w b T s) (hf : Wf T s) :
    Calls Tryz.prog 91 #[.pointer (some ⟨b, 0, none⟩), .int .i64 left] w (OutB ρ b T w (rightM T left s)) := by
  obtain ⟨xL, xN, ⟨pa, pn, pc⟩, xU, m, its, ps, h⟩ := h
  have hpn : ps.length = pn := lo_lens h.prd
  have hpn2 : s.prd.length = pn := h.prdR.len.symm.trans hpn
  obtain ⟨R, hR⟩ : ∃ R, rightM T left s = R := ⟨_, rfl⟩
  rw [hR]
  unfold rightM at hR
  rw [hpn2] at hR
  obtain ⟨X1, hX1⟩ : ∃ X, partM T s.k = X := ⟨_, rfl⟩
  rw [hX1] at hR
  have HPT : Hid (∀ w ρ, ScAt w b T s.k → Calls Tryz.prog 109 #[.pointer (some ⟨b, 0, none⟩)] w (OutT ρ b T w s X1)) := fun w ρ h => by
    rw [← hX1]
    exact part_is T hT b w ρ s h hf.k
  have HX1 : Hid (∀ N, X1 = .ok N → N = nextM T s.k ∧ N.kd ≠ 0) := fun N h => by
    have h2 := part_eq (hX1.trans h)
    exact ⟨h2.1, h2.2.2⟩
  have HR := hide1 hR
  have HF := hide1 hf
  have HT := hide1 hT
  have HPN := hide1 hpn
  have HPN2 := hide1 hpn2
  have HW0 := hide1 (Went.refl ρ b w)
  have HB := hide1 h
  clear hR hX1 hf hT hpn hpn2 h
  go_enter Tryz.func91, Tryz.ntmps91
  have d5 := HB.out.cells.1.2.2.2.2.2.1
  dsimp only at d5
  go_upto_region 2 with fail
  go_wp2_with fail
  go_at_call 109
  refine (HPT.out _ ρ HB.out.sc).mono ?_
  intro e w3 h3
  rcases X1 with f | N
  · obtain ⟨rfl, hf3⟩ := h3
    have h9 : OutB ρ b T w R (thrown f.1 f.2.1 f.2.2) w3 := outB_err (show R = .error (f.1, f.2.1, f.2.2) from HR.out.symm) hf3
    unfold thrown at h9 ⊢
    go_wp2_with fail
    exact ⟨rfl, h9⟩
  obtain ⟨rfl, hm3⟩ := h3
  have HN := hide1 (HX1.out N rfl)
  have HNF := hide1 (next_facts HF.out.k)
  rw [← HN.out.1] at HNF
  have HNK := hide1 (HNF.out.2.2.2.2.2 HN.out.2)
  obtain ⟨kd2, pl2, wd2, nx⟩ := N
  dsimp only at hm3 HNF HNK
  have hR2 : (if pn = 512 then .error (2, (pl2 : Int), ⟨#[]⟩) else sideM T (pn : Int) 18 0 ⟨kd2, pl2, wd2, nx⟩ { s with k := nx, prd := s.prd ++ [left], sds := s.sds ++ [[]] }) = R := HR.out
  have HB3 := hide1 (HB.out.mv hm3)
  have HW3 := hide1 (HW0.out.mv hm3)
  have HGR := hide1 (HB3.out.fresh (Nat.le_refl _))
  have HGB := hide1 (show w3.heap.size ≠ b from fun e => by have := HB3.out.ltb; omega)
  have HGW := hide1 (show w.heap.size ≤ w3.heap.size from hm3.1.2.2.2.1)
  have HT4 := hide1 (fact3 w3 kd2 (pl2 : Int) wd2)
  have HB4 := hide1 (HB3.out.kept ((Kept.refl w3).alloc #[.int .i64 kd2, .int .i64 (pl2 : Int), .string wd2] 104))
  have HW4 := hide1 (HW3.out.kept ((Kept.refl w3).alloc #[.int .i64 kd2, .int .i64 (pl2 : Int), .string wd2] 104))
  clear hm3 d5 HB HW0 HPT HX1 HR HB3 HW3
  go_upto_region 3 with fail
  obtain ⟨g6, hg6⟩ : ∃ g, w3.heap.size = g := ⟨_, rfl⟩
  generalize w3.alloc (.cells #[.int .i64 kd2, .int .i64 (pl2 : Int), .string wd2] 104) = W4 at HT4 HB4 HW4 ⊢
  rw [hg6] at HGR HGB HGW HT4 ⊢
  clear hg6
  by_cases h512 : pn = 512
  · have e1 : ((pn : Int) == 512) = true := by simp; omega
    rw [if_pos h512] at hR2
    obtain ⟨⟨t0, t1, t2⟩, -⟩ := HT4.out.facts
    go_wp2_with (go_at_call 51; go_must (refine (fail_is _ _ _ _).mono ?_; rintro e w7 ⟨rfl, hk7⟩; have h9 : OutB ρ b T w R (thrown 2 (pl2 : Int) ⟨#[]⟩) w7 := outB_err hR2.symm (HW4.out.kept hk7).1; unfold thrown at h9 ⊢))
    exact ⟨rfl, h9⟩
  have e1 : ((pn : Int) == 512) = false := by simp; omega
  rw [if_neg h512] at hR2
  have HP512 := hide1 (show pn < 512 by have := HF.out.prd; have := HPN2.out; omega)
  have HQ0 := hide1 hR2
  clear hR2 h512
  have d5 := HB4.out.cells.1.2.2.2.2.2.1
  dsimp only at d5
  go_upto_region 5 with fail
  have HBA := hide1 (HB4.out.kept ((Kept.refl W4).alloc (encPrd (left, none, 0, 0)).toArray 66))
  have HTA := hide1 (HT4.out.keep ((Kept.refl W4).alloc (encPrd (left, none, 0, 0)).toArray 66))
  have HWA := hide1 (HW4.out.kept ((Kept.refl W4).alloc (encPrd (left, none, 0, 0)).toArray 66))
  go_upto_region 6 with (at_builtin; refine wpl_lo (E := prdE) rfl _ _ rfl 0 (.slice pa pn pc) ps pn HPN.out (by rfl) HBA.out.prd W4.heap.size (left, none, 0, 0) (by rfl) (heap_alloc_new W4 _) (by show (pn + 1) * 32 ≤ _; have := HP512.out; omega) (by unfold maxLen; have := HP512.out; omega) (Nat.zero_le _) ?_; intro g9 c9 w9 ho9 hg9 hor9 hl9; have HAD := hide1 (HBA.out.addP ho9 hg9 hor9 hl9); have HBX := hide1 (show BoxR w9 b T _ _ _ _ _ _ from (grown_far HBA.out.o4 (by decide) hg9 HBA.out.ltb HBA.out.o0).trans HBA.out.box); have HTX := hide1 (show TkB w9 g6 kd2 (pl2 : Int) wd2 from (grown_far HBA.out.o4 (by decide) hg9 (Array.getElem?_eq_some_iff.1 HTA.out).1 HGR.out).trans HTA.out); have rz5 := HBX.out.cells.2 5; have r5 := HBX.out.cells.1.2.2.2.2.2.1; dsimp only at r5; have hlb9 : b < w9.heap.size := (Array.getElem?_eq_some_iff.1 HBX.out).1; have HGR9 := hide1 ((HAD.out.2.2 g6 (Array.getElem?_eq_some_iff.1 HTA.out).1).trans HGR.out); clear ho9 hg9 hor9)
  obtain ⟨HBY, HWY⟩ := HAD.out
  have HBY := hide1 HBY
  have HWY := hide1 (HWA.out.trans HWY)
  have HTY := hide1 (show TkB (w9.setCell ⟨b, 5, none⟩ (.slice (some ⟨g9, 0, none⟩) (pn + 1) c9)) g6 kd2 (pl2 : Int) wd2 from (set_heap_ne HGB.out).trans HTX.out)
  clear HAD HBX HTX rz5 r5 hlb9 HBA HTA HWA HT4 HB4 HW4 HGR d5
  obtain ⟨ρ5, hρ5⟩ : ∃ r, updR ρ g9 4 = r := ⟨_, rfl⟩
  rw [hρ5] at HBY HWY HGR9
  generalize w9.setCell ⟨b, 5, none⟩ (.slice (some ⟨g9, 0, none⟩) (pn + 1) c9) = WY at HBY HWY HTY ⊢
  have HI0 : Hid (RgI ρ b T w g6 pn R 0 WY) := by
    refine ⟨_, ⟨kd2, pl2, wd2, nx⟩, ρ5, HQ0.out, HBY.out.a, HWY.out, HTY.out, HGR9.out, ?_, ?_, ?_⟩
    · exact ⟨HNF.out.1, by have := HF.out.use; have := HNK.out; show s.use.length ≤ nx; omega, HF.out.lex, HF.out.nam, by show (s.prd ++ [left]).length ≤ 512; rw [List.length_append, List.length_singleton, HPN2.out]; exact HP512.out, HF.out.gn, fun u hu => ⟨(HF.out.pr u hu).1, by show _ < ((s.prd ++ [left]).length : Int); rw [List.length_append, List.length_singleton]; have := (HF.out.pr u hu).2; omega⟩, by show (s.sds ++ [[]]).length = (s.prd ++ [left]).length; rw [List.length_append, List.length_append, HF.out.sds]; rfl⟩
    · show pn < (s.prd ++ [left]).length
      rw [List.length_append, List.length_singleton, HPN2.out]; omega
    · show s.use.length + 1 ≤ nx
      have := HF.out.use; have := HNK.out; omega
  clear HBY HWY HTY HGR9 HQ0 HNF HNK hρ5 HN HF HPN HPN2
  go_wp2_with fail
  go_loopw [7] (fun v7 wr => ∃ n : Nat, v7 = .int .i64 (n : Int) ∧ n ≤ 16 ∧ Hid (RgI ρ b T w g6 pn R n wr)) (fun v7 _ => 17 - (intOf v7).toNat)
  case atStart => exact ⟨0, rfl, by omega, HI0.out⟩
  case round =>
    clear HI0
    obtain ⟨n, rfl, hn, hI⟩ := hrel
    obtain ⟨s1, ⟨kd1, pl1, wd1, nx1⟩, ρ1, hq, ha1, hw1, ht1, hr1, hf1, hp1, hu1⟩ := hI.out
    dsimp only at ht1
    have HT1 := hide1 ht1
    have HQ1 := hide1 hq
    have HW1 := hide1 hw1
    have HR1 := hide1 hr1
    have HF1 := hide1 hf1
    have HP1 := hide1 hp1
    have HU1 := hide1 hu1
    have HNN := hide1 hn
    obtain ⟨⟨t0, t1, t2⟩, -⟩ := ht1.facts
    clear hI hq hw1 ht1 hr1 hf1 hp1 hu1 hn
    by_cases hkd : kd1 = 2
    case neg =>
      have e2 : (kd1 == 2) = false := by simpa using hkd
      have h9 : OutB ρ b T w R (.returned (.bool (kd1 == 124))) wr := outB_ok ((HQ1.out.symm.trans (side_stop hkd)).trans (by rfl)) ha1 HW1.out
      have H9 := hide1 h9
      clear ha1 h9 hkd
      go_wp2_with fail
      first | exact H9.out | (go_ret; exact H9.out)
    subst hkd
    by_cases h16 : n = 16
    · subst h16
      have h0 := HQ1.out.symm.trans (side_long rfl)
      have e16 : (((16 : Nat) : Int) == 16) = true := rfl
      go_wp2_with (go_at_call 51; go_must (refine (fail_is _ _ _ _).mono ?_; rintro e w7 ⟨rfl, hk7⟩; have h9 : OutB ρ b T w R (thrown 2 (pl1 : Int) ⟨#[]⟩) w7 := outB_err h0 (HW1.out.kept hk7).1; unfold thrown at h9 ⊢))
      exact ⟨rfl, h9⟩
    have e16 : ((n : Int) == 16) = false := by simp; omega
    have HN16 := hide1 (show n < 16 by have := HNN.out; omega)
    have hnI : (n : Int) < 16 := by have := HN16.out; omega
    clear h16
    obtain ⟨X2, hX2⟩ : ∃ X, partM T s1.k = X := ⟨_, rfl⟩
    have hQ2 := (side_step (T := T) (pr := (pn : Int)) (s := s1) (N := ⟨2, pl1, wd1, nx1⟩) rfl HN16.out).symm.trans HQ1.out
    rw [hX2] at hQ2
    have HQ2 := hide1 hQ2
    have HPT : Hid (∀ w ρ s, s.k = s1.k → ScAt w b T s1.k → Calls Tryz.prog 109 #[.pointer (some ⟨b, 0, none⟩)] w (OutT ρ b T w s X2)) := fun w ρ s hs h => by
      rw [← hX2, ← hs]
      exact part_is T HT.out b w ρ s (by rw [hs]; exact h) (by rw [hs]; exact HF1.out.k)
    have HX2 : Hid (∀ N, X2 = .ok N → N = nextM T s1.k ∧ N.kd ≠ 0) := fun N h => by
      have h2 := part_eq (hX2.trans h)
      exact ⟨h2.1, h2.2.2⟩
    clear hX2 hQ2 HQ1
    obtain ⟨xL1, xN1, xP1, ⟨ua, un, uc⟩, m1, its1, ps1, hb1⟩ := ha1
    have HBr := hide1 hb1
    have HTr := hide1 HT1.out
    have HUL := hide1 (lo_lens (show LO useE _ 0 (.slice ua un uc) s1.use from hb1.use))
    have HUN := hide1 (show un ≤ 100000 by have := HF1.out.use; have := HF1.out.k; have := HUL.out; have := HT.out; omega)
    clear hb1 HT1
    go_upto_region 11 with fail
    clear t0 t1 t2
    refine z_region (S := fun w' => BoxR w' b T s1 xL1 xN1 xP1 (ua, un, uc) m1 ∧ TkB w' g6 2 (pl1 : Int) wd1) 12 (by kernel_rfl) ⟨(HBr.out.kept (drew_kept _)).box, HTr.out.keep (drew_kept _)⟩ (fun hHeld => ?_)
    refine z_take (i := 0) (v := .pointer (some ⟨b, 0, none⟩)) [12] rfl (by kernel_rfl) (by kernel_rfl) (by kernel_rfl) (by kernel_rfl) (by kernel_rfl) (by kernel_rfl) (fun _ _ _ h => h) (Or.inl ⟨by rfl, fun w' hSw => ?_⟩) (by with_reducible assumption) ?_
    · clear hSw
      go_simp
    try simp only [Act.put, List.getElem_toArray, List.getElem_cons_succ, List.getElem_cons_zero, List.setIfInBounds_toArray, List.set_cons_zero, List.set_cons_succ]
    refine z_take (i := 1) (v := .pointer (some ⟨b, 0, none⟩)) [12] rfl (by kernel_rfl) (by kernel_rfl) (by kernel_rfl) (by kernel_rfl) (by kernel_rfl) (by kernel_rfl) (fun _ _ _ h => h) (Or.inl ⟨by rfl, fun w' hSw => ?_⟩) (by with_reducible assumption) ?_
    · clear hSw
      go_simp
    try simp only [Act.put, List.getElem_toArray, List.getElem_cons_succ, List.getElem_cons_zero, List.setIfInBounds_toArray, List.set_cons_zero, List.set_cons_succ]
    refine z_take (i := 2) (v := .pointer (some ⟨b, 0, none⟩)) [12] rfl (by kernel_rfl) (by kernel_rfl) (by kernel_rfl) (by kernel_rfl) (by kernel_rfl) (by kernel_rfl) (fun _ _ _ h => h) (Or.inl ⟨by rfl, fun w' hSw => ?_⟩) (by with_reducible assumption) ?_
    · clear hSw
      go_simp
    try simp only [Act.put, List.getElem_toArray, List.getElem_cons_succ, List.getElem_cons_zero, List.setIfInBounds_toArray, List.set_cons_zero, List.set_cons_succ]
    refine z_take (i := 3) (v := .pointer (some ⟨b, 7, none⟩)) [12] rfl (by kernel_rfl) (by kernel_rfl) (by kernel_rfl) (by kernel_rfl) (by kernel_rfl) (by kernel_rfl) (fun _ _ _ h => h) (Or.inl ⟨by rfl, fun w' hSw => ?_⟩) (by with_reducible assumption) ?_
    · clear hSw
      go_simp
    try simp only [Act.put, List.getElem_toArray, List.getElem_cons_succ, List.getElem_cons_zero, List.setIfInBounds_toArray, List.set_cons_zero, List.set_cons_succ]
    refine z_take (i := 4) (v := .slice ua un uc) [12] rfl (by kernel_rfl) (by kernel_rfl) (by kernel_rfl) (by kernel_rfl) (by kernel_rfl) (by kernel_rfl) (fun _ _ _ h => h) (Or.inl ⟨by rfl, fun w' hSw => ?_⟩) (by with_reducible assumption) ?_
    · obtain ⟨⟨q0, q1, q2, q3, q4, q5, q6, q7, q8⟩, -⟩ := hSw.1.cells; dsimp only at q7
      go_simp
    try simp only [Act.put, List.getElem_toArray, List.getElem_cons_succ, List.getElem_cons_zero, List.setIfInBounds_toArray, List.set_cons_zero, List.set_cons_succ]
    refine z_take (i := 5) (v := .agg #[.int .i64 2, .int .i64 (pl1 : Int), .string wd1]) [12] rfl (by kernel_rfl) (by kernel_rfl) (by kernel_rfl) (by kernel_rfl) (by kernel_rfl) (by kernel_rfl) (fun _ _ _ h => h) (Or.inl ⟨by rfl, fun w' hSw => ?_⟩) (by with_reducible assumption) ?_
    · obtain ⟨⟨q0, q1, q2⟩, -⟩ := hSw.2.facts
      go_simp
    try simp only [Act.put, List.getElem_toArray, List.getElem_cons_succ, List.getElem_cons_zero, List.setIfInBounds_toArray, List.set_cons_zero, List.set_cons_succ]
    refine z_take (i := 6) (v := .int .i64 (pn : Int)) [12] rfl (by kernel_rfl) (by kernel_rfl) (by kernel_rfl) (by kernel_rfl) (by kernel_rfl) (by kernel_rfl) (fun _ _ _ h => h) (Or.inl ⟨by rfl, fun w' hSw => ?_⟩) (by with_reducible assumption) ?_
    · clear hSw
      go_simp
    try simp only [Act.put, List.getElem_toArray, List.getElem_cons_succ, List.getElem_cons_zero, List.setIfInBounds_toArray, List.set_cons_zero, List.set_cons_succ]
    refine z_take (i := 7) (v := .agg #[.int .i64 2, .int .i64 (pl1 : Int), .string wd1, .int .i64 (pn : Int)]) [12] rfl (by kernel_rfl) (by kernel_rfl) (by kernel_rfl) (by kernel_rfl) (by kernel_rfl) (by kernel_rfl) (fun _ _ _ h => h) (Or.inl ⟨by rfl, fun w' hSw => ?_⟩) (by with_reducible assumption) ?_
    · clear hSw
      go_simp
    try simp only [Act.put, List.getElem_toArray, List.getElem_cons_succ, List.getElem_cons_zero, List.setIfInBounds_toArray, List.set_cons_zero, List.set_cons_succ]
    refine z_one (i := 8) (by kernel_rfl) (by rfl) rfl (fun K hK => ?_)
    go_simp
    refine hK.out _ _ ⟨(HBr.out.kept ((gtrans (drew_kept _) ((Kept.refl _).alloc _ _)))).box, HTr.out.keep (gtrans (drew_kept _) ((Kept.refl _).alloc _ _))⟩ (fun hHeldN => ?_)
    clear hK K hHeld
    have hHeld := hHeldN
    clear hHeldN
    try simp only [Act.put, List.getElem_toArray, List.getElem_cons_succ, List.getElem_cons_zero, List.setIfInBounds_toArray, List.set_cons_zero, List.set_cons_succ]
    refine z_one (i := 9) (by kernel_rfl) (by rfl) rfl (fun K hK => ?_)
    have HB6 := hide1 (HBr.out.kept (gtrans (drew_kept _) ((Kept.refl wr.drew).alloc (encUse (2, (pl1 : Int), wd1, (pn : Int))).toArray 137)))
    have HT6 := hide1 (HTr.out.keep (gtrans (drew_kept _) ((Kept.refl wr.drew).alloc (encUse (2, (pl1 : Int), wd1, (pn : Int))).toArray 137)))
    refine step_lo (E := useE) rfl _ _ rfl 0 (.slice ua un uc) s1.use un HUL.out (by rfl) HB6.out.use wr.drew.heap.size (2, (pl1 : Int), wd1, (pn : Int)) (by rfl) (heap_alloc_new wr.drew _) (by show (un + 1) * 40 ≤ _; have := HUN.out; omega) (by unfold maxLen; have := HUN.out; omega) (Nat.zero_le _) ?_
    intro g9 c9 w9 ho9 hg9 hor9 hl9
    have HAD := hide1 (HB6.out.addU ho9 hg9 hor9 hl9)
    have HBX := hide1 (show BoxR w9 b T _ _ _ _ _ _ from (grown_far HB6.out.o5 (by decide) hg9 HB6.out.ltb HB6.out.o0).trans HB6.out.box)
    have HTX := hide1 (show TkB w9 g6 2 (pl1 : Int) wd1 from (grown_far HB6.out.o5 (by decide) hg9 (Array.getElem?_eq_some_iff.1 HT6.out).1 HR1.out).trans HT6.out)
    refine hK.out _ _ ⟨HBX.out, HTX.out⟩ (fun hHeldN => ?_)
    clear hK K hHeld
    have hHeld := hHeldN
    clear hHeldN
    try simp only [Act.put, List.getElem_toArray, List.getElem_cons_succ, List.getElem_cons_zero, List.setIfInBounds_toArray, List.set_cons_zero, List.set_cons_succ]
    refine z_take (i := 10) (v := .pointer (some ⟨b, 0, none⟩)) [11, 12] rfl (by kernel_rfl) (by kernel_rfl) (by kernel_rfl) (by kernel_rfl) (by kernel_rfl) (by kernel_rfl) (fun _ _ _ h => h) (Or.inl ⟨by rfl, fun w' hSw => ?_⟩) (by with_reducible assumption) ?_
    · clear hSw
      go_simp
    try simp only [Act.put, List.getElem_toArray, List.getElem_cons_succ, List.getElem_cons_zero, List.setIfInBounds_toArray, List.set_cons_zero, List.set_cons_succ]
    refine z_take (i := 11) (v := .pointer (some ⟨b, 7, none⟩)) [12] rfl (by kernel_rfl) (by kernel_rfl) (by kernel_rfl) (by kernel_rfl) (by kernel_rfl) (by kernel_rfl) (fun _ _ _ h => h) (Or.inl ⟨by rfl, fun w' hSw => ?_⟩) (by with_reducible assumption) ?_
    · clear hSw
      go_simp
    try simp only [Act.put, List.getElem_toArray, List.getElem_cons_succ, List.getElem_cons_zero, List.setIfInBounds_toArray, List.set_cons_zero, List.set_cons_succ]
    refine z_last (by kernel_rfl) (by kernel_rfl) rfl (fun K hK => ?_)
    obtain ⟨⟨r0, r1, r2, r3, r4, r5, r6, r7, r8⟩, rz⟩ := HBX.out.cells
    have rz7 := rz 7
    have hlb9 : b < w9.heap.size := (Array.getElem?_eq_some_iff.1 HBX.out).1
    clear rz r0 r1 r2 r3 r4 r5 r6 r8
    dsimp only at r7
    go_simp
    refine hK.out _ _ ?_
    clear hK K hHeld r7 rz7 hlb9 ho9 hg9 hor9
    obtain ⟨HBY, HWY⟩ := HAD.out
    have HGRY := hide1 ((HWY.2 g6 (Array.getElem?_eq_some_iff.1 HT6.out).1).trans HR1.out)
    have HBY := hide1 HBY
    have HWY := hide1 ((HW1.out.kept (gtrans (drew_kept _) ((Kept.refl _).alloc _ _))).trans HWY)
    have HTY := hide1 (show TkB (w9.setCell ⟨b, 7, none⟩ (.slice (some ⟨g9, 0, none⟩) (un + 1) c9)) g6 2 (pl1 : Int) wd1 from (set_heap_ne HGB.out).trans HTX.out)
    clear HAD HBX HTX HB6 HT6 HBr HTr HR1
    obtain ⟨ρ5, hρ5⟩ : ∃ r, updR ρ1 g9 5 = r := ⟨_, rfl⟩
    rw [hρ5] at HBY HWY HGRY
    generalize w9.setCell ⟨b, 7, none⟩ (.slice (some ⟨g9, 0, none⟩) (un + 1) c9) = WY at HBY HWY HTY ⊢
    go_upto_region 12 with fail
    go_wp2_with fail
    go_at_call 109
    refine (HPT.out _ ρ5 _ rfl HBY.out.sc).mono ?_
    intro e w3 h3
    rcases X2 with f | N
    · obtain ⟨rfl, hf3⟩ := h3
      have h9 : OutB ρ b T w R (thrown f.1 f.2.1 f.2.2) w3 := outB_err (show R = .error (f.1, f.2.1, f.2.2) from HQ2.out.symm) (HWY.out.fr hf3)
      unfold thrown at h9 ⊢
      go_wp2_with fail
      exact ⟨rfl, h9⟩
    obtain ⟨rfl, hm3⟩ := h3
    have HN := hide1 (HX2.out N rfl)
    have HNF := hide1 (next_facts HF1.out.k)
    rw [← HN.out.1] at HNF
    have HNK := hide1 (HNF.out.2.2.2.2.2 HN.out.2)
    obtain ⟨kd3, pl3, wd3, nx3⟩ := N
    dsimp only at hm3 HNF HNK
    have hQ3 : sideM T (pn : Int) (18 - (n + 1)) (n + 1) ⟨kd3, pl3, wd3, nx3⟩ { s1 with k := nx3, use := s1.use ++ [(2, (pl1 : Int), wd1, (pn : Int))] } = R := HQ2.out
    have HB3 := hide1 (HBY.out.mv hm3)
    have HW3 := hide1 (HWY.out.mv hm3)
    have HT3 := hide1 (HTY.out.mv hm3 HGB.out)
    obtain ⟨⟨k0, k1, k2⟩, z0, z1, z2⟩ := HT3.out.facts
    have hlg3 := (Array.getElem?_eq_some_iff.1 HT3.out).1
    clear hm3 HPT HX2 HQ2 HBY HWY HTY
    go_wp2_with fail
    refine ⟨⟨n + 1, by rfl, HN16.out, ?_⟩, ?_⟩
    · have s0 := HT3.out.set kd3 0 ⟨#[]⟩
      refine ⟨_, ⟨kd3, pl3, wd3, nx3⟩, ρ5, hQ3, (((HB3.out.set HGRY.out HGB.out 0 (.int .i64 kd3)).set HGRY.out HGB.out 1 (.int .i64 (pl3 : Int))).set HGRY.out HGB.out 2 (.string wd3)).a, ((HW3.out.set HGW.out 0 _).set HGW.out 1 _).set HGW.out 2 _, ((((HT3.out.set kd3 0 ⟨#[]⟩).1.set 0 (pl3 : Int) ⟨#[]⟩).2.1).set 0 0 wd3).2.2, HGRY.out, ?_, ?_, ?_⟩
      · exact ⟨HNF.out.1, by show (s1.use ++ [(2, (pl1 : Int), wd1, (pn : Int))]).length ≤ nx3; rw [List.length_append, List.length_singleton]; have := HU1.out; have := HNK.out; omega, HF1.out.lex, HF1.out.nam, HF1.out.prd, HF1.out.gn, fun u hu => by
          rcases List.mem_append.1 hu with hu | hu
          · exact HF1.out.pr u hu
          · simp only [List.mem_cons, List.not_mem_nil, or_false] at hu
            subst hu
            exact ⟨by show (-1 : Int) ≤ (pn : Int); omega, by show (pn : Int) < _; have := HP1.out; dsimp only; omega⟩, HF1.out.sds⟩
      · exact HP1.out
      · show (s1.use ++ [(2, (pl1 : Int), wd1, (pn : Int))]).length + 1 ≤ nx3
        rw [List.length_append, List.length_singleton]; have := HU1.out; have := HNK.out; omega
    · have := HN16.out
      simp [intOf]; omega

end Gs
end Ex
end Go.Proofs.YtbnchnlogikecaaGreatDoor
