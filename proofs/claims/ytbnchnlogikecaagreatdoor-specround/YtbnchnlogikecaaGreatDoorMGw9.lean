import Derived.Test.YtbnchnlogikecaaGreatDoorMGwP
import Derived.Test.YtbnchnlogikecaaGreatDoorMGuV
import Derived.Test.YtbnchnlogikecaaGreatDoorMGuM
import Derived.Test.YtbnchnlogikecaaGreatDoorCards
import Derived.Test.YtbnchnlogikecaaGreatDoorTie
import Derived.WalkKit
import Derived.ShutString
import Derived.ChangeOld
import Derived.Below
namespace Go.Proofs.YtbnchnlogikecaaGreatDoor
open Go.RowKit
attribute [local go_sem] Oper.semAt_some
set_option linter.unusedVariables false
set_option linter.unusedSimpArgs false
set_option maxRecDepth 100000
set_option maxHeartbeats 4000000
namespace Ex
namespace Gu
open Sh Gs
theorem write_bad {sp : SpV} (h : (writeM sp).2.1 ≠ 0) : (writeM sp).1 = ⟨#[]⟩ := by
  unfold writeM at h ⊢
  split
  · rfl
  · rename_i r hc
    split
    · rfl
    · rename_i hl
      rw [hc] at h
      dsimp only at h
      rw [if_neg hl] at h
      exact absurd rfl h
theorem write_good {sp : SpV} (h : (writeM sp).2.1 = 0) : (∃ r, checkC sp = .ok r) ∧ (linesM sp).length ≤ 65536 ∧ writeM sp = (⟨(linesM sp).toArray⟩, (0, 0, ⟨#[]⟩)) := by
  unfold writeM at h ⊢
  split at h
  · rename_i f hc
    exact absurd h (checkC_bad sp f hc)
  · rename_i r hc
    split at h
    · exact absurd h (by decide)
    · rename_i hl
      exact ⟨⟨r, hc⟩, by omega, by rw [if_neg hl]⟩
theorem round_all {sp : SpV} (h : (writeM sp).2.1 = 0) : ∃ s, parseG (writeM sp).1 = .ok s ∧ s.st = sp.start ∧ writeM (spv s) = writeM sp ∧ ∀ (w : World) vl vn vp, SpR w vl vn vp (spv s) → SpR w vl vn vp { sp with lex := comL sp } := by
  obtain ⟨⟨r, hc⟩, hl, hw⟩ := write_good h
  obtain ⟨s, h1, h2, h3⟩ := round_back_spec hc (T := ⟨(linesM sp).toArray⟩) (by simp [bl]) (by show (linesM sp).toArray.size ≤ _; simpa using hl)
  refine ⟨s, by rw [hw]; exact h1, ?_, ?_, fun w vl vn vp hr => ?_⟩
  · have e : (spv s).start = s.st := rfl
    rw [← e, h2]
  · rw [h2]
    exact write_map (fun x hx => ⟨rfl, rfl, (same_print (h3 x hx)).1, (same_print (h3 x hx)).2⟩)
  · rw [h2] at hr
    exact SpR.comB hr h3
theorem lawRound_is (la na pa : Option Addr) (ln lc nn nc pn pc : Nat) (sp : SpV) (w : World) (hz : SzV sp) (hA : SpR w (.slice la ln lc) (.slice na nn nc) (.slice pa pn pc) sp) (hP : PowAt w) :
    Calls Tryz.prog 4 #[.agg #[.slice la ln lc, .slice na nn nc, .int .i64 sp.start, .slice pa pn pc]] w fun e w' => e = .returned (.bool true) ∧ Kept w w' := by
  have HHD := hide1 (fun w1 (hk : Kept w w1) => head_is6 w1 (hP.keep hk))
  have HTW := hide1 (fun w1 (hk : Kept w w1) => spTwin_is la na pa ln lc nn nc pn pc sp w1 hz (hA.keep hk))
  obtain ⟨hs5, hs6⟩ := hA.short
  have HRD : Hid (∀ n0 w1 xL xN xP, TwO n0 w1 xL xN xP sp → SpR w1 (val xL) (val xN) (val xP) sp) := fun n0 w1 xL xN xP h => h.rd hz hs5 hs6
  have HCK := hide1 (fun la na pa ln lc nn nc pn pc w1 (hr : SpR w1 (.slice la ln lc) (.slice na nn nc) (.slice pa pn pc) sp) (hk : Kept w w1) => CheckS_is la na pa ln lc nn nc pn pc sp w1 hr (hP.keep hk))
  have HPR := hide1 (fun la na pa ln lc nn nc pn pc w1 (hr : SpR w1 (.slice la ln lc) (.slice na nn nc) (.slice pa pn pc) sp) (hk : Kept w w1) => PrintS_is la na pa ln lc nn nc pn pc sp w1 hr (hP.keep hk))
  have HPS := hide1 (fun w1 => Parse_rd (writeM sp).1 w1)
  have hbad := write_bad (sp := sp)
  have hall := round_all (sp := sp)
  have HP2 : Hid (∀ s, writeM (spv s) = writeM sp → ∀ la na pa ln lc nn nc pn pc w1, SpR w1 (.slice la ln lc) (.slice na nn nc) (.slice pa pn pc) (spv s) → Kept w w1 → Calls Tryz.prog 13 #[.agg #[.slice la ln lc, .slice na nn nc, .int .i64 s.st, .slice pa pn pc]] w1 fun e w' => e = .returned (.tuple #[.string (writeM sp).1, .int .i64 (writeM sp).2.1]) ∧ Kept w1 w') := fun s hs la na pa ln lc nn nc pn pc w1 hr hk => by
    rw [← hs]
    exact PrintS_is la na pa ln lc nn nc pn pc (spv s) w1 hr (hP.keep hk)
  have HAC := hide1 hA.com
  have HSA : Hid (∀ lb nb pb ln' lc' nn' nc' pn' pc' w1, SpR w1 (.slice lb ln' lc') (.slice nb nn' nc') (.slice pb pn' pc') { sp with lex := comL sp } → Kept w w1 → Calls Tryz.prog 14 #[.agg #[.slice lb ln' lc', .slice nb nn' nc', .int .i64 sp.start, .slice pb pn' pc'], .agg #[.slice la ln lc, .slice na nn nc, .int .i64 sp.start, .slice pa pn pc]] w1 fun e w' => e = .returned (.bool true) ∧ Kept w1 w') := fun lb nb pb ln' lc' nn' nc' pn' pc' w1 hr hk => by
    have h1 := HAC.out.keep hk
    obtain ⟨a1, _, _⟩ := slice_n h1.1
    obtain ⟨a2, _, _⟩ := slice_n hr.1
    obtain ⟨b1, _, _⟩ := slice_n h1.2.1
    obtain ⟨b2, _, _⟩ := slice_n hr.2.1
    obtain ⟨c1, _, _⟩ := slice_n h1.2.2
    obtain ⟨c2, _, _⟩ := slice_n hr.2.2
    have e1 : ln' = ln := a2.symm.trans a1
    have e2 : nn' = nn := b2.symm.trans b1
    have e3 : pn' = pn := c2.symm.trans c1
    subst e1 e2 e3
    exact spSame_is lb nb pb la na pa _ _ _ _ _ _ _ _ _ { sp with lex := comL sp } w1 hr h1
  obtain ⟨⟨tx, f0, f1, f2⟩, hY⟩ : ∃ Y, writeM sp = Y := ⟨_, rfl⟩
  rw [hY] at HCK HPR HPS HP2 hbad hall
  unfold fltV at HCK
  dsimp only at HCK HPR HPS HP2 hbad hall
  obtain ⟨st, hst⟩ : ∃ st, sp.start = st := ⟨_, rfl⟩
  rw [hst] at HTW HCK HPR hall HSA ⊢
  have HB1 := hide1 (SpB.new w (.slice la ln lc) (.slice na nn nc) (.int .i64 st) (.slice pa pn pc))
  have HK1 : Hid (Kept w (w.alloc (.cells #[.slice la ln lc, .slice na nn nc, .int .i64 st, .slice pa pn pc] 27))) := (Kept.refl w).alloc _ _
  clear hY hz hs5 hs6 hA hP hst HAC
  go_enter Tryz.func4, Tryz.ntmps4
  go_upto_region 1 with fail
  obtain ⟨W1, hW1⟩ : ∃ W1, w.alloc (.cells #[.slice la ln lc, .slice na nn nc, .int .i64 st, .slice pa pn pc] 27) = W1 := ⟨_, rfl⟩
  rw [hW1] at HB1 HK1 ⊢
  obtain ⟨g1, hg1⟩ : ∃ g, w.heap.size = g := ⟨_, rfl⟩
  rw [hg1] at HB1 ⊢
  clear hW1 hg1
  go_upto_region 3 with (go_at_call 9; go_must (refine (HHD.out _ HK1.out).mono ?_; rintro e w2 ⟨rfl, hk2⟩; have HK2 := hide1 (gtrans HK1.out hk2); have HB2 := hide1 (HB1.out.keep hk2); clear hk2))
  obtain ⟨⟨a0, a1, a2, a3⟩, -⟩ := HB2.out.facts
  go_wp2_with fail
  go_at_call 12
  refine (HTW.out _ HK2.out).mono ?_
  rintro e w3 ⟨⟨⟨ta, tn, tc⟩, ⟨tb, tm, td⟩, ⟨tp, to, tq⟩, rfl, ho⟩, hk3⟩
  have HR3 := hide1 (HRD.out _ _ _ _ _ ho)
  have HK3 := hide1 (gtrans HK2.out hk3)
  have HB3 := hide1 (HB2.out.keep hk3)
  clear ho hk3 a0 a1 a2 a3
  have hv : ∀ (a : Option Addr) (n c : Nat), val (a, n, c) = .slice a n c := fun a n c => rfl
  rw [hv, hv, hv] at HR3 ⊢
  go_upto_region 4 with (go_at_call 11; go_must (refine (HCK.out _ _ _ _ _ _ _ _ _ _ HR3.out HK3.out).mono ?_; rintro e w4 ⟨rfl, hk4⟩; have HK4 := hide1 ((gtrans HK3.out hk4).alloc #[.int .i64 f0, .int .i64 f1, .string f2] 30); have HB4 := hide1 ((HB3.out.keep hk4).keep ((Kept.refl w4).alloc #[.int .i64 f0, .int .i64 f1, .string f2] 30)); have HF4 : Hid (FbB (w4.alloc (.cells #[.int .i64 f0, .int .i64 f1, .string f2] 30)) w4.heap.size f0 f1 f2) := heap_alloc_new w4 _; clear hk4))
  obtain ⟨g4, hg4⟩ : ∃ g, w4.heap.size = g := ⟨_, rfl⟩
  generalize w4.alloc (.cells #[.int .i64 f0, .int .i64 f1, .string f2] 30) = W4 at HK4 HB4 HF4 ⊢
  rw [hg4] at HF4 ⊢
  clear hg4 HR3 HK3 HB3
  obtain ⟨⟨a0, a1, a2, a3⟩, -⟩ := HB4.out.facts
  go_wp2_with fail
  go_at_call 12
  refine (HTW.out _ HK4.out).mono ?_
  rintro e w5 ⟨⟨⟨ta', tn', tc'⟩, ⟨tb', tm', td'⟩, ⟨tp', to', tq'⟩, rfl, ho⟩, hk5⟩
  have HR5 := hide1 (HRD.out _ _ _ _ _ ho)
  have HK5 := hide1 (gtrans HK4.out hk5)
  have HB5 := hide1 (HB4.out.keep hk5)
  have HF5 := hide1 (show FbB w5 g4 f0 f1 f2 from (hk5.2.2.2.2 g4 (Array.getElem?_eq_some_iff.1 HF4.out).1).trans HF4.out)
  clear ho hk5 a0 a1 a2 a3
  rw [hv, hv, hv] at HR5 ⊢
  go_upto_region 5 with (go_at_call 13; go_must (refine (HPR.out _ _ _ _ _ _ _ _ _ _ HR5.out HK5.out).mono ?_; rintro e w6 ⟨rfl, hk6⟩; have HK6 := hide1 (gtrans HK5.out hk6); have HB6 := hide1 (HB5.out.keep hk6); have HF6 := hide1 (show FbB w6 g4 f0 f1 f2 from (hk6.2.2.2.2 g4 (Array.getElem?_eq_some_iff.1 HF5.out).1).trans HF5.out); clear hk6))
  obtain ⟨⟨c0, c1, c2⟩, -⟩ := HF6.out.facts
  by_cases h0 : f0 = 0
  · subst h0
    obtain ⟨s, hps, hss, hws, hrr⟩ := hall rfl
    have HPQ := hide1 (fun w1 => HPS.out w1)
    rw [hps] at HPQ
    have HWS := hide1 hws
    have HRR := hide1 hrr
    have HSS := hide1 hss
    have hfs := fault_same 0 0 ⟨#[]⟩
    clear hps hss hws hrr hall hbad
    go_upto_region 9 with fail
    clear c0 c1 c2
    go_wp2_with fail
    go_at_call 10
    refine (HPQ.out w6).mono ?_
    rintro e w7 ⟨hk7, xa, xn, xc, xd, xo, xe, xf, xp, xg, rfl, hr7⟩
    unfold okV
    have HR7 := hide1 hr7
    rw [HSS.out]
    have HK7 := hide1 (((gtrans HK6.out hk7).alloc #[.slice xa xn xc, .slice xd xo xe, .int .i64 st, .slice xf xp xg] 27).alloc #[.int .i64 0, .int .i64 0, .string ⟨#[]⟩] 30)
    have HL7 := hide1 (((Kept.refl w7).alloc #[.slice xa xn xc, .slice xd xo xe, .int .i64 st, .slice xf xp xg] 27).alloc #[.int .i64 0, .int .i64 0, .string ⟨#[]⟩] 30)
    have HB7 := hide1 (HB6.out.keep (gtrans hk7 HL7.out))
    have HX7 : Hid (ResB ((w7.alloc (.cells #[.slice xa xn xc, .slice xd xo xe, .int .i64 st, .slice xf xp xg] 27)).alloc (.cells #[.int .i64 0, .int .i64 0, .string ⟨#[]⟩] 30)) w7.heap.size (w7.heap.size + 1) (.slice xa xn xc) (.slice xd xo xe) (.int .i64 st) (.slice xf xp xg) (.int .i64 0) (.int .i64 0) (.string ⟨#[]⟩)) := by
      refine ⟨by omega, (heap_alloc_old _ _ (by simp)).trans (heap_alloc_new w7 _), ?_⟩
      have h := heap_alloc_new (w7.alloc (.cells #[.slice xa xn xc, .slice xd xo xe, .int .i64 st, .slice xf xp xg] 27)) (.cells #[.int .i64 0, .int .i64 0, .string ⟨#[]⟩] 30)
      rw [World.size_alloc] at h
      exact h
    have HR8 := hide1 (HR7.out.keep HL7.out)
    clear hk7 hr7 HR7
    go_upto_region 10 with fail
    obtain ⟨d2, hd2⟩ : ∃ g, w7.heap.size + 1 = g := ⟨_, rfl⟩
    rw [hd2] at HX7 ⊢
    clear hd2
    obtain ⟨d1, hd1⟩ : ∃ g, w7.heap.size = g := ⟨_, rfl⟩
    generalize (w7.alloc (.cells #[.slice xa xn xc, .slice xd xo xe, .int .i64 st, .slice xf xp xg] 27)).alloc (.cells #[.int .i64 0, .int .i64 0, .string ⟨#[]⟩] 30) = W8 at HK7 HL7 HB7 HX7 HR8 ⊢
    rw [hd1] at HX7 ⊢
    clear hd1 HL7
    obtain ⟨⟨x0, x1, x2, x3⟩, -, -⟩ := HX7.out.facts
    have HP3 := hide1 (fun la na pa ln lc nn nc pn pc w1 => HP2.out s HWS.out la na pa ln lc nn nc pn pc w1)
    rw [HSS.out] at HP3
    go_upto_region 11 with (go_at_call 13; go_must (refine (HP3.out _ _ _ _ _ _ _ _ _ _ HR8.out HK7.out).mono ?_; rintro e w9 ⟨rfl, hk9⟩; have HK9 := hide1 (gtrans HK7.out hk9); have HB9 := hide1 (HB7.out.keep hk9); have HX9 := hide1 (HX7.out.keep (hk9.2.2.2.2 d1 HX7.out.facts.2.2.2.2.1) (hk9.2.2.2.2 d2 HX7.out.facts.2.2.2.2.2)); have HR9 := hide1 (HR8.out.keep hk9); clear hk9))
    clear x0 x1 x2 x3
    obtain ⟨⟨x0, x1, x2, x3⟩, ⟨y0, y1, y2⟩, -⟩ := HX9.out.facts
    obtain ⟨⟨a0, a1, a2, a3⟩, -⟩ := HB9.out.facts
    go_wp2_with (go_at_call 14; refine (HSA.out _ _ _ _ _ _ _ _ _ _ (HRR.out _ _ _ _ HR9.out) HK9.out).mono ?_; rintro e wA ⟨rfl, hkA⟩; have HKA := hide1 (gtrans HK9.out hkA); clear hkA)
    go_ret
    exact ⟨rfl, HKA.out⟩
  · have e := hbad h0
    subst e
    have hn0 : (f0 != 0) = true := by simpa using h0
    clear hall hbad
    go_wp2_with fail
    go_ret
    exact ⟨rfl, HK6.out⟩
end Gu
end Ex
end Go.Proofs.YtbnchnlogikecaaGreatDoor
namespace Go.Proofs.YtbnchnlogikecaaGreatDoor
open Go.ChangeShapes Go.WideShapes Go.ChangeAt Go.RowKit
set_option linter.unusedVariables false
set_option maxRecDepth 100000
namespace Ex
namespace Gu
open Sh Gs
theorem walkSpecRound (la0 na0 pa0 : Option Addr) (ln0 lc0 nn0 nc0 pn0 pc0 : Nat) (sp0 : SpV) (w : World) (hA0 : SpR w (.slice la0 ln0 lc0) (.slice na0 nn0 nc0) (.slice pa0 pn0 pc0) sp0) (hZ0 : SzV sp0) (hT : ∀ j, j < 64 → w.cell? ⟨3, j, none⟩ = some (.int .u8 (Lib.deBruijn64tab.getD j 0 : Nat))) (hP : w.cell? ⟨1, 2, none⟩ = some (.int .u64 100) ∧ w.cell? ⟨1, 3, none⟩ = some (.int .u64 1000)) :
    Calls Tryz.prog 4 #[.agg #[.slice la0 ln0 lc0, .slice na0 nn0 nc0, .int .i64 sp0.start, .slice pa0 pn0 pc0]] w fun e w' => e = .returned (.bool true) ∧ Below w.heap.size w w' :=
  (lawRound_is la0 na0 pa0 ln0 lc0 nn0 nc0 pn0 pc0 sp0 w hZ0 hA0 hP).mono fun _ _ h => ⟨h.1, h.2.below⟩
theorem liftedSpecRound (os : Os) (started : os.Started) (H : Type) (enc : TypeId × Value → H) :
    ReturnsInHanded {} Tryz.checked os 4 .any (fun w args => (Rows.specRoundSpec.pre enc Tryz.prog Tryz.f4 [] false w args ∧ laidMetH Tryz.prog Rows.specRoundRow.laid w) ∧ sizedMet enc Tryz.prog Tryz.f4 (OpenSpec.ofChange Rows.specRoundSpec) false w args)
      (Rows.specRoundSpec.post enc Tryz.prog Tryz.f4 false true false false) := by
  refine returnsInHanded_of_change_and (C := Tryz.checked) (X := fun w _ => laidMetH Tryz.prog Rows.specRoundRow.laid w) (fun _ _ _ hh h => h.of_heap hh) own started (by kernel_rfl) Tryz.func4
    (ChangeSpec.witness_shaped (enc := enc) (C := Tryz.checked) (os := os) (X := fun w _ => laidMetH Tryz.prog Rows.specRoundRow.laid w) false (World.doorLaid Tryz.prog 4000 os) #[.agg #[.slice none 0 0, .slice none 0 0, .int .i64 0, .slice none 0 0]] 8 rfl (World.shaped_of_RefB (by kernel_rfl) (by kernel_rfl)) (by kernel_rfl) (by kernel_rfl) (by kernel_rfl) (show _ from door_met os _)) ?_
  intro W base args ds gs before hval0 hW _ hsz hL _
  have hval : ∀ (j : Nat) t v, Tryz.f4.params[j]? = some t → args[j]? = some v → Value.okWide Tryz.prog W .any base t v := hval0
  have hW' := hW
  obtain ⟨p, q, hA0, hV, rfl, hfz, hnd⟩ := hW
  have hA : DataW.TrodAll enc Tryz.prog W 0 (fun _ => true) true Tryz.f4.params.toList args.toList ds p := hA0
  rw [Tryz.params4] at hA hval
  obtain ⟨v0, vs0, d0, ds0, p0, q0, hargs, rfl, rfl, h0, r0⟩ := trodAll_cons hA
  obtain ⟨rfl, rfl, rfl⟩ := trodAll_nil r0
  obtain rfl : args = #[v0] := by cases args; simp_all
  obtain ⟨rfl, rfl⟩ := trodVars_none hV
  have k0 := h0
  have lt0 : ∀ x ∈ p0, x.block < W.heap.size := by obtain ⟨m, hm⟩ := k0; exact DataW.trod_lt m _ _ _ hm
  have wt0 : ∀ n ∈ d0.weights Tryz.prog 27, n ≤ reachBytes := fun n hn => by
    have := List.all_eq_true.1 hsz n (DataW.weights_mem_each (j := 0) (by rfl) (by rfl) n hn)
    simpa using this
  have s0 := okWide_struct Tryz.underlying27 (hval 0 27 v0 rfl rfl)
  obtain ⟨la0, na0, pa0, ln0, lc0, nn0, nc0, pn0, pc0, sp0, e0, hS0, hZ0⟩ := spec_arg6 s0 k0 wt0
  clear hA0 hval0
  refine Calls.mono (R := fun e w' => e = .returned (.bool true) ∧ Below W.heap.size W w') (by rw [e0]; exact walkSpecRound _ _ _ _ _ _ _ _ _ _ W hS0 hZ0 (of_laid (show laidMetH Tryz.prog Rows.specCutRow.laid W from hL)) (pow_laid (show laidMetH Tryz.prog Rows.specCutRow.laid W from hL))) fun e W' ⟨he, bel⟩ => ?_
  subst he
  exact ⟨_, rfl, _, _, _, [], _, [], hW', trodAll_mk1 (shut_bool Tryz.underlying4 _), (trodAll_cons_mk (Below.trod laidOut (by kernel_rfl) (of_decide_eq_true (by kernel_rfl)) k0 bel lt0) trodAll_mk0), rfl, bel.frame _, fun h => by cases h⟩
theorem overSpecRound : Rows.specRoundRow.holds Tryz.pinned (OpenSpec.ofChange Rows.specRoundSpec) :=
  OpenClaim.holds_of_wide 4 Tryz.f4 rfl rfl rfl rfl rfl rfl rfl ⟨rfl, rfl, rfl, rfl, rfl⟩ rfl rfl rfl rfl rfl (by kernel_rfl) Tryz.func4 (by kernel_rfl)
    (of_decide_eq_true (by kernel_rfl)) (by unfold Func.isWrapper; first | (rw [if_pos (by decide +kernel)]; kernel_rfl) | (rw [if_neg (by decide +kernel)]; exact ⟨rfl, rfl⟩))
    (fun os started H enc _ => liftedSpecRound os started H enc)
end Gu
end Ex
theorem specRound_card_holds : Rows.SpecRoundCardSaid :=
  Claim7.holds_tied_plain_at .later [] [.data, .data, .data] true Rows.specRoundCard.stood.harness true
    Ex.Gu.overSpecRound (fun _ h => by cases h) (by kernel_rfl) (fun _ h => by cases h) specRound_row_tie rfl ⟨rfl, rfl⟩ (by kernel_rfl) rfl
    (fun f fn hf hfn => by
      obtain rfl : f = 4 := Option.some.inj (hf.symm.trans (by kernel_rfl))
      obtain rfl : fn = Tryz.f4 := (Option.some.inj (Tryz.func4.symm.trans hfn)).symm
      exact ⟨by kernel_rfl, fun j t ht => by
        rw [Tryz.params4] at ht
        have hm : t ∈ [27] := by simpa using Array.mem_of_getElem? ht
        have hall : ([27].all fun u => !Tryz.prog.wantsStandIn u) = true := by kernel_rfl
        exact (show Tryz.prog.wantsStandIn t = false by simpa using List.all_eq_true.1 hall t hm)⟩)
    (by kernel_rfl)
#print axioms specRound_card_holds
end Go.Proofs.YtbnchnlogikecaaGreatDoor
