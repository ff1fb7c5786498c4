import Derived.Test.YtnchmhginmaliaaGreatDoorMExDrE
import Derived.Test.YtnchmhginmaliaaGreatDoorMExTw0
import Derived.Test.YtnchmhginmaliaaGreatDoorMExBase
import Derived.Test.YtnchmhginmaliaaGreatDoorMExRn1
import Derived.Deep.Cut
import Derived.Test.YtnchmhginmaliaaGreatDoorMExFr0
import Derived.Test.YtnchmhginmaliaaGreatDoorCards
import Derived.Test.YtnchmhginmaliaaGreatDoorTie
import Derived.WalkKit
import Derived.ShutString
import Derived.ChangeOld
import Derived.Below
namespace Go.Proofs.YtnchmhginmaliaaGreatDoor
open Go.RowKit
attribute [local go_sem] Oper.semAt_some
namespace Ex

theorem fault_new (w : World) (o : Obj) (y0 y1 y2 : Value) : FaultAt ((w.alloc o).alloc (.cells #[y0, y1, y2] 28)) (w.heap.size + 1) y0 y1 y2 := by
  have h := heap_alloc_new (w.alloc o) (.cells #[y0, y1, y2] 28)
  simpa [FaultAt] using h
set_option linter.unusedSimpArgs false in
set_option maxRecDepth 100000 in
set_option maxHeartbeats 4000000 in
theorem lawT_is (Ts : List ByteArray) (v : Value) (w : World) (h : StrsIn w v Ts) (hT : TabAt w) :
    Calls Tryz.prog 3 #[v] w fun e w' => e = .returned (.bool true) ∧ Kept w w' := by
  have HT := hide1 hT
  obtain ⟨a, cap, rfl, hl1, hl2, hsz, h4⟩ := h
  have HSZ := hide1 hsz
  have H4 := hide1 h4
  have gl : (Ts.length : Int) ≤ 17592186044416 := by omega
  have gc : (Ts.length : Int) ≤ (cap : Int) := by omega
  clear hT hl1 hl2 hsz h4
  go_enter Tryz.func3, Tryz.ntmps3
  go_wp2_with fail
  go_loopw [3] (fun i wr => ∃ j : Nat, i = .int .i64 (j : Int) ∧ j ≤ Ts.length ∧ Hid (Kept w wr)) (fun i _ => Ts.length - (intOf i).toNat)
  case atStart => exact ⟨0, rfl, Nat.zero_le _, Kept.refl _⟩
  case round =>
    obtain ⟨j, rfl, hj, HKr⟩ := hrel
    by_cases hlt : (j : Int) < (Ts.length : Int)
    · obtain ⟨T, hq⟩ : ∃ T, Ts[j]? = some T := ⟨_, List.getElem?_eq_getElem (by omega)⟩
      rcases H4.out with h4 | ⟨cb, o, rfl, hcw, h7⟩
      · rw [h4] at hq; simp at hq
      · have g0 := grown_cell HKr.out (h7 j T hq)
        have hTs := HSZ.out T (List.mem_of_getElem? hq)
        have hcr : cb < wr.heap.size := Nat.lt_of_lt_of_le hcw HKr.out.2.2.2.1
        obtain ⟨⟨p, pe, pf⟩, hpm⟩ : ∃ x, parseM T = x := ⟨_, rfl⟩
        have HPM := hide1 hpm
        clear h7 hq hpm
        go_upto_region 5 with (first
          | (go_at_call 4; refine (ParseA_is T _ hTs).mono ?_; rintro r w6 ⟨h6, hk6⟩; obtain ⟨v6, rfl, u6, rfl, hkk⟩ := h6.out; rw [HPM.out] at hkk ⊢; dsimp only at hkk ⊢; rw [valOf_eq]; obtain ⟨a6, c6, e6⟩ := hkk.form; subst e6; have HK6 := hide1 hk6; have HKI := hide1 hkk; clear h6 hk6 hkk))
        generalize hW6 : World.alloc _ _ = W6
        have HB1 : Hid (BoxAt W6 w6.heap.size (.int .i64 (kind p.2)) (.int .i64 (from_ p.2)) (.int .i64 (to_ p.2)) (.int .i64 (min_ p.2)) (.int .i64 (max_ p.2)) (.slice a6 (kids p.2).length c6)) := by rw [← hW6]; exact (BoxAt.new w6 _ _ _ _ _ _).keep ((Kept.refl _).alloc _ _)
        have HF1 : Hid (FaultAt W6 (w6.heap.size + 1) (.int .i64 pe) (.int .i64 pf) (.string ByteArray.empty)) := by rw [← hW6]; exact fault_new w6 _ _ _ _
        have HKW6 : Hid (Kept wr W6) := by rw [← hW6]; exact (HK6.out.alloc _ _).alloc _ _
        have HQ6 : Hid (KidsAt (fun d => wr.heap.size ≤ d) W6 p.1 (kids p.2) (.slice a6 (kids p.2).length c6)) := by rw [← hW6]; exact KidsAt.kept HKI.out (((Kept.refl _).alloc _ _).alloc _ _)
        clear hW6 HKI
        have g1 := grown_cell HKW6.out g0
        have hc6 : cb < W6.heap.size := Nat.lt_of_lt_of_le hcr HKW6.out.2.2.2.1
        clear g0
        go_upto_region 6 with (first
          | (go_at_call 5; refine (dParse_is T _ hTs).mono ?_; rintro r w7 ⟨h6, hk7⟩; obtain ⟨v7, rfl, u7, rfl, hkk⟩ := h6.out; rw [HPM.out] at hkk ⊢; dsimp only at hkk ⊢; rw [valOf_eq]; obtain ⟨a7, c7, e7⟩ := hkk.form; subst e7; have HK7 := hide1 hk7; have HKI := hide1 hkk; clear h6 hk7 hkk))
        generalize hW7 : World.alloc _ _ = W7
        have hk67 : Kept W6 W7 := by rw [← hW7]; exact (HK7.out.alloc _ _).alloc _ _
        have HB2 : Hid (BoxAt W7 w7.heap.size (.int .i64 (kind p.2)) (.int .i64 (from_ p.2)) (.int .i64 (to_ p.2)) (.int .i64 (min_ p.2)) (.int .i64 (max_ p.2)) (.slice a7 (kids p.2).length c7)) := by rw [← hW7]; exact (BoxAt.new w7 _ _ _ _ _ _).keep ((Kept.refl _).alloc _ _)
        have HF2 : Hid (FaultAt W7 (w7.heap.size + 1) (.int .i64 pe) (.int .i64 pf) (.string ByteArray.empty)) := by rw [← hW7]; exact fault_new w7 _ _ _ _
        have HQ7 : Hid (KidsAt (fun d => W6.heap.size ≤ d) W7 p.1 (kids p.2) (.slice a7 (kids p.2).length c7)) := by rw [← hW7]; exact KidsAt.kept HKI.out (((Kept.refl _).alloc _ _).alloc _ _)
        have HB1 := hide1 (HB1.out.keep hk67)
        have HF1 := hide1 (HF1.out.keep hk67)
        have HQ6 := hide1 (KidsAt.kept HQ6.out hk67)
        have HKW7 := hide1 (gtrans HKr.out (gtrans HKW6.out hk67))
        clear hW7 hk67 g1 HKI
        obtain ⟨⟨m0, m1, m2, m3, m4, m5⟩, _⟩ := HB1.out.facts
        obtain ⟨⟨n0, n1, n2, n3, n4, n5⟩, _⟩ := HB2.out.facts
        obtain ⟨⟨r0, r1, r2⟩, _⟩ := fault_facts HF1.out
        obtain ⟨⟨t0, t1, t2⟩, _⟩ := fault_facts HF2.out
        go_wp2_with (first
          | (go_at_call 6; refine (same_is (fun d => W6.heap.size ≤ d) (fun d => wr.heap.size ≤ d) p.1 p.2 _ _ _ HQ7.out HQ6.out).mono ?_; rintro e w9 ⟨rfl, hk9⟩; have HK9 := hide1 (gtrans HKW7.out hk9); clear hk9))
        go_roundw
        case rel => exact ⟨j + 1, by go_num, by omega, HK9⟩
        case measure => simp [intOf]; omega
    · go_wp2_with (go_at_call 7; refine (known_is _ (HT.out.keep HKr.out)).mono ?_; rintro e w6 ⟨rfl, hk6⟩; have HK6 := hide1 (gtrans HKr.out hk6); clear hk6)
      go_ret
      exact ⟨rfl, HK6.out⟩

end Ex
end Go.Proofs.YtnchmhginmaliaaGreatDoor
namespace Go.Proofs.YtnchmhginmaliaaGreatDoor
open Go.ChangeShapes Go.WideShapes Go.ChangeAt Go.RowKit
set_option linter.unusedVariables false
namespace Ex

theorem walk (Ts : List ByteArray) (a : Option Addr) (len cap : Nat) (w : World) (h : StrsIn w (.slice a len cap) Ts) (hT : ∀ j, j < 64 → w.cell? ⟨0, j, none⟩ = some (.int .u8 (Lib.deBruijn64tab.getD j 0 : Nat))) :
    Calls Tryz.prog 3 #[.slice a len cap] w fun e w' => e = .returned (.bool true) ∧ Below w.heap.size w w' :=
  (lawT_is Ts _ w h hT).mono fun _ _ h => ⟨h.1, h.2.below⟩

set_option maxRecDepth 100000 in
theorem lifted (os : Os) (started : os.Started) (H : Type) (enc : TypeId × Value → H) :
    ReturnsInHanded {} Tryz.checked os 3 .any (fun w args => (Rows.exprTextsSpec.pre enc Tryz.prog Tryz.f3 [] false w args ∧ laidMetH Tryz.prog Rows.exprTextsRow.laid w) ∧ sizedMet enc Tryz.prog Tryz.f3 (OpenSpec.ofChange Rows.exprTextsSpec) false w args)
      (Rows.exprTextsSpec.post enc Tryz.prog Tryz.f3 false true false false) := by
  refine returnsInHanded_of_change_and (C := Tryz.checked) (X := fun w _ => laidMetH Tryz.prog Rows.exprTextsRow.laid w) (fun _ _ _ hh h => h.of_heap hh) own started (by kernel_rfl) Tryz.func3
    (ChangeSpec.witness_shaped (enc := enc) (C := Tryz.checked) (os := os) (X := fun w _ => laidMetH Tryz.prog Rows.exprTextsRow.laid w) false (World.doorLaid Tryz.prog 4000 os) #[.slice none 0 0] 8 rfl (World.shaped_of_RefB (by kernel_rfl) (by kernel_rfl)) (by kernel_rfl) (by kernel_rfl) (by kernel_rfl) (door_met os _)) ?_
  intro W base args ds gs before hval0 hW _ hsz hL _
  have hval : ∀ (j : Nat) t v, Tryz.f3.params[j]? = some t → args[j]? = some v → Value.okWide Tryz.prog W .any base t v := hval0
  have hW' := hW
  obtain ⟨p, q, hA0, hV, rfl, hfz, hnd⟩ := hW
  have hA : DataW.TrodAll enc Tryz.prog W 0 (fun _ => true) true Tryz.f3.params.toList args.toList ds p := hA0
  rw [Tryz.params3] at hA hval
  obtain ⟨v0, vs0, d0, ds0, p0, q0, hargs, rfl, rfl, h0, r0⟩ := trodAll_cons hA
  obtain ⟨rfl, rfl, rfl⟩ := trodAll_nil r0
  obtain rfl : args = #[v0] := by cases args; simp_all
  obtain ⟨rfl, rfl⟩ := trodVars_none hV
  obtain ⟨a0, len0, cap0, rfl⟩ := okWide_slice Tryz.underlying22 (hval 0 22 v0 rfl rfl)
  have k0 := h0
  have lt0 : ∀ x ∈ p0, x.block < W.heap.size := by obtain ⟨m, hm⟩ := k0; exact DataW.trod_lt m _ _ _ hm
  have wt0 : ∀ n ∈ d0.weights Tryz.prog 22, n ≤ reachBytes := fun n hn => by
    have := List.all_eq_true.1 hsz n (DataW.weights_mem_each (j := 0) (by rfl) (by rfl) n hn)
    simpa using this
  obtain ⟨Ts, w0⟩ := strs_of k0 wt0
  clear hA0 hval0
  refine (walk Ts a0 len0 cap0 W w0 (of_laid hL)).mono fun e W' ⟨he, bel⟩ => ?_
  subst he
  exact ⟨_, rfl, _, _, _, [], _, [], hW', trodAll_mk1 (shut_bool Tryz.underlying4 _), (trodAll_cons_mk (Below.trod laidOut (by kernel_rfl) (of_decide_eq_true (by kernel_rfl)) k0 bel lt0) trodAll_mk0), rfl, bel.frame _, fun h => by cases h⟩

theorem over : Rows.exprTextsRow.holds Tryz.pinned (OpenSpec.ofChange Rows.exprTextsSpec) :=
  OpenClaim.holds_of_wide 3 Tryz.f3 rfl rfl rfl rfl rfl rfl rfl ⟨rfl, rfl, rfl, rfl, rfl⟩ rfl rfl rfl rfl rfl (by kernel_rfl) Tryz.func3 (by kernel_rfl)
    (of_decide_eq_true (by kernel_rfl)) (by unfold Func.isWrapper; first | (rw [if_pos (by decide +kernel)]; kernel_rfl) | (rw [if_neg (by decide +kernel)]; exact ⟨rfl, rfl⟩))
    (fun os started H enc _ => lifted os started H enc)

end Ex
theorem exprTexts_card_holds : Rows.ExprTextsCardSaid :=
  Claim7.holds_tied_plain_at .later [] [.data, .data, .data] true Rows.exprTextsCard.stood.harness false
    Ex.over (fun _ h => by cases h) (by kernel_rfl) (fun _ h => by cases h) exprTexts_row_tie rfl ⟨rfl, rfl⟩ (by kernel_rfl) rfl
    (fun f fn hf hfn => by
      obtain rfl : f = 3 := Option.some.inj (hf.symm.trans (by kernel_rfl))
      obtain rfl : fn = Tryz.f3 := (Option.some.inj (Tryz.func3.symm.trans hfn)).symm
      exact ⟨by kernel_rfl, fun j t ht => by
        rw [Tryz.params3] at ht
        have hm : t ∈ [22] := by simpa using Array.mem_of_getElem? ht
        have hall : ([22].all fun u => !Tryz.prog.wantsStandIn u) = true := by kernel_rfl
        exact (show Tryz.prog.wantsStandIn t = false by simpa using List.all_eq_true.1 hall t hm)⟩)
    (by kernel_rfl)
#print axioms exprTexts_card_holds
end Go.Proofs.YtnchmhginmaliaaGreatDoor
