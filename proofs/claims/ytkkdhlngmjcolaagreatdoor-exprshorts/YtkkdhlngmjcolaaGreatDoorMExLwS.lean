import Derived.Test.YtkkdhlngmjcolaaGreatDoorMExSw7
import Derived.Test.YtkkdhlngmjcolaaGreatDoorMExTw0
import Derived.Test.YtkkdhlngmjcolaaGreatDoorMExRn1
import Derived.Test.YtkkdhlngmjcolaaGreatDoorMExFr0
import Derived.Test.YtkkdhlngmjcolaaGreatDoorMExBase
import Derived.Test.YtkkdhlngmjcolaaGreatDoorCards
import Derived.Test.YtkkdhlngmjcolaaGreatDoorTie
import Derived.WalkKit
import Derived.ShutString
import Derived.ChangeOld
import Derived.Below
namespace Go.Proofs.YtkkdhlngmjcolaaGreatDoor
open Go.RowKit
attribute [local go_sem] Oper.semAt_some
namespace Ex

theorem KidsAt.all {S : Nat → Prop} {w : World} {n : Nat} {l : List (PatN n)} {v : Value} (h : KidsAt S w n l v) : KidsAt (fun d => d < w.heap.size) w n l v :=
  KidsAt.mono (fun _ _ _ _ h => h) (fun _ h => h.2) _ _ _ (KidsAt.tight _ _ _ h)
set_option linter.unusedSimpArgs false in
set_option maxRecDepth 100000 in
set_option maxHeartbeats 4000000 in
theorem lawS_is (k : Nat) (L : List (PatN (k + 1))) (v : Value) (w : World) (h : KidsAt (fun b => b < w.heap.size) w (k + 1) L v) (hT : TabAt w) :
    Calls Tryz.prog 3 #[v] w fun e w' => e = .returned (.bool true) ∧ Kept w w' := by
  have HK := hide1 h
  have HT := hide1 hT
  obtain ⟨a, cap, e1, hl1, hl2, _⟩ := h
  subst e1
  have gl : (L.length : Int) ≤ 17592186044416 := by omega
  have gc : (L.length : Int) ≤ (cap : Int) := by omega
  clear hT hl1 hl2
  go_enter Tryz.func3, Tryz.ntmps3
  go_wp2_with fail
  go_loopw [3] (fun i wr => ∃ j : Nat, i = .int .i64 (j : Int) ∧ j ≤ L.length ∧ Hid (Kept w wr)) (fun i _ => L.length - (intOf i).toNat)
  case atStart => exact ⟨0, rfl, Nat.zero_le _, Kept.refl _⟩
  case round =>
    obtain ⟨j, rfl, hj, HKr⟩ := hrel
    by_cases hlt : (j : Int) < (L.length : Int)
    · obtain ⟨q, hq⟩ : ∃ q, L[j]? = some q := ⟨_, List.getElem?_eq_getElem (by omega)⟩
      obtain ⟨a2, cap2, e2', _, _, h4⟩ := HK.out.kept HKr.out
      simp only [Value.slice.injEq] at e2'
      obtain ⟨rfl, _, rfl⟩ := e2'
      rcases h4 with h4 | ⟨cb, o, rfl, hSc, h7⟩
      · rw [h4] at hq; simp at hq
      · obtain ⟨v', g0, g1, g2, g3, g4, g5, g6⟩ := h7 j q hq
        obtain ⟨a3, cap3, rfl⟩ := g6.form
        have HG6 := hide1 g6
        have HG := hide1 (And.intro g0 (And.intro g1 (And.intro g2 (And.intro g3 (And.intro g4 g5)))))
        have hsz := HKr.out.size
        clear h7 g6 hq
        go_upto_region 5 with (go_at_call 4; refine (TwinExpr_is (fun b => b < w.heap.size) k q _ _ HG6.out).mono ?_; rintro e w6 ⟨h6, hk6⟩; obtain ⟨v6, rfl, hk2, hm2⟩ := h6.out; rw [valOf_eq]; obtain ⟨a6, c6, e6⟩ := hk2.form; subst e6; have HK6 := hide1 hk6; have HQ6 := hide1 hk2; have HM6 := hide1 hm2; clear h6 hk6 hk2 hm2)
        obtain ⟨b7, hb7⟩ : ∃ b7, w6.heap.size = b7 := ⟨_, rfl⟩
        obtain ⟨W7, hW7⟩ : ∃ W7, w6.alloc (.cells #[.int .i64 (kind q), .int .i64 (from_ q), .int .i64 (to_ q), .int .i64 (min_ q), .int .i64 (max_ q), .slice a6 (kids q).length c6] 24) = W7 := ⟨_, rfl⟩
        have HBX : Hid (BoxAt W7 b7 (.int .i64 (kind q)) (.int .i64 (from_ q)) (.int .i64 (to_ q)) (.int .i64 (min_ q)) (.int .i64 (max_ q)) (.slice a6 (kids q).length c6)) := by rw [← hW7, ← hb7]; exact BoxAt.new w6 _ _ _ _ _ _
        have hkw7 : Kept wr W7 := by rw [← hW7]; exact HK6.out.alloc _ _
        have HKW7 := hide1 hkw7
        have HQ7 : Hid (KidsAt (fun d => d < W7.heap.size) W7 k (kids q) (.slice a6 (kids q).length c6)) := by rw [← hW7]; exact KidsAt.all (HQ6.out.kept ((Kept.refl w6).alloc _ _))
        have HA7 : Hid (KidsAt (fun d => d < w.heap.size) W7 k (kids q) (.slice a3 (kids q).length cap3)) := HG6.out.kept hkw7
        have HM7 : Hid (boundsP q = 0 → MarkAt (fun d => wr.heap.size ≤ d) W7 k (kids q) (.slice a6 (kids q).length c6)) := fun e => by rw [← hW7]; exact (HM6.out e).kept ((Kept.refl w6).alloc _ _)
        have HG7 : Hid (W7.cell? ⟨cb, o + j * 6, none⟩ = some (.int .i64 (kind q)) ∧ W7.cell? ⟨cb, o + j * 6 + 1, none⟩ = some (.int .i64 (from_ q)) ∧ W7.cell? ⟨cb, o + j * 6 + 2, none⟩ = some (.int .i64 (to_ q)) ∧ W7.cell? ⟨cb, o + j * 6 + 3, none⟩ = some (.int .i64 (min_ q)) ∧ W7.cell? ⟨cb, o + j * 6 + 4, none⟩ = some (.int .i64 (max_ q)) ∧ W7.cell? ⟨cb, o + j * 6 + 5, none⟩ = some (.slice a3 (kids q).length cap3)) := ⟨grown_cell hkw7 g0, grown_cell hkw7 g1, grown_cell hkw7 g2, grown_cell hkw7 g3, grown_cell hkw7 g4, grown_cell hkw7 g5⟩
        rw [hW7, hb7]
        clear hW7 hb7 hkw7 g0 g1 g2 g3 g4 g5 HM6 HQ6 HK6 HG6 HG
        obtain ⟨⟨t0, t1, t2, t3, t4, t5⟩, _⟩ := HBX.out.facts
        obtain ⟨Z, hZ⟩ : ∃ Z, shortTop q = Z := ⟨_, rfl⟩
        obtain ⟨nz, hnz⟩ : ∃ nz, Z.length = nz := ⟨_, rfl⟩
        obtain ⟨ck, hck⟩ : ∃ ck, checkP q = ck := ⟨_, rfl⟩
        have HZ := hide1 hZ
        have HNZ := hide1 hnz
        have HCK := hide1 hck
        clear hZ hnz hck
        go_upto_region 6 with (go_at_call 5; refine (Shortest_is _ k q _ _ HQ7.out (fun _ h => h)).mono ?_; rintro e w9 ⟨⟨v9, rfl, hr9⟩, hk9⟩; rw [HCK.out]; rw [HZ.out] at hr9; obtain ⟨a9, c9, e9⟩ := hr9.form; rw [HNZ.out] at e9; subst e9; have HR9 := hide1 hr9; have HK9 := hide1 hk9; clear hr9 hk9)
        clear t0 t1 t2 t3 t4 t5
        have g0 := grown_cell HK9.out HG7.out.1
        have g1 := grown_cell HK9.out HG7.out.2.1
        have g2 := grown_cell HK9.out HG7.out.2.2.1
        have g3 := grown_cell HK9.out HG7.out.2.2.2.1
        have g4 := grown_cell HK9.out HG7.out.2.2.2.2.1
        have g5 := grown_cell HK9.out HG7.out.2.2.2.2.2
        go_upto_region 7 with (go_at_call 6; refine (rShortest_is _ k q _ _ (HA7.out.kept HK9.out)).mono ?_; rintro e w10 ⟨⟨v10, rfl, hr10⟩, hk10⟩; rw [HCK.out]; rw [HZ.out] at hr10; obtain ⟨a10, c10, e10⟩ := hr10.form; rw [HNZ.out] at e10; subst e10; have HR10 := hide1 hr10; have HR9 := hide1 (HR9.out.keep hk10); have HK10 := hide1 (gtrans HK9.out hk10); clear hr10 hk10)
        clear g0 g1 g2 g3 g4 g5
        have HQ10 := hide1 (HQ7.out.kept HK10.out)
        have HA10 := hide1 (HA7.out.kept HK10.out)
        have HM10 : Hid (boundsP q = 0 → MarkAt (fun d => wr.heap.size ≤ d) w10 k (kids q) (.slice a6 (kids q).length c6)) := fun e => (HM7.out e).kept HK10.out
        have HKW10 := hide1 (gtrans HKr.out (gtrans HKW7.out HK10.out))
        obtain ⟨⟨t0, t1, t2, t3, t4, t5⟩, _⟩ := (HBX.out.keep HK10.out).facts
        have q0 := keeps t0
        have q1 := keeps t1
        have q2 := keeps t2
        have q3 := keeps t3
        have q4 := keeps t4
        have q5 := keeps t5
        have r0 := keeps (grown_cell HK10.out HG7.out.1)
        have r1 := keeps (grown_cell HK10.out HG7.out.2.1)
        have r2 := keeps (grown_cell HK10.out HG7.out.2.2.1)
        have r3 := keeps (grown_cell HK10.out HG7.out.2.2.2.1)
        have r4 := keeps (grown_cell HK10.out HG7.out.2.2.2.2.1)
        have r5 := keeps (grown_cell HK10.out HG7.out.2.2.2.2.2)
        have hkr : Kept w10 w10 := Kept.refl w10
        obtain ⟨sz, hsz2⟩ : ∃ sz, strOf Z = sz := ⟨_, rfl⟩
        have v1 : ∀ W, Kept w10 W → (convert 26 9 (.slice a9 nz c9)).run Tryz.prog W = .ok (.string sz) W := fun W hW => by
          have h1 := HR9.out.keep hW
          have e := HNZ.out
          subst e
          rw [← hsz2]
          exact conv_row h1
        have v2 : ∀ W, Kept w10 W → (convert 26 9 (.slice a10 nz c10)).run Tryz.prog W = .ok (.string sz) W := fun W hW => by
          have h1 := HR10.out.keep hW
          have e := HNZ.out
          subst e
          rw [← hsz2]
          exact conv_row h1
        clear hsz2
        clear t0 t1 t2 t3 t4 t5
        go_region_held3 (fun w' => Kept w10 w') (first | assumption | exact Kept.refl _ | exact gtrans (by assumption) (by assumption))
          ((first
            | (go_at_call 7; refine (KeptExpr_is _ _ _ k q _ _ _ (HA10.out.kept (by assumption)) (HQ10.out.kept (by assumption)) (fun e => (HM10.out e).kept (by assumption))).mono ?_; rintro e w13 ⟨rfl, hk13⟩; have k13 : Kept w10 w13 := gtrans (by assumption) hk13)))
        have HK13 := hide1 (gtrans HKW10.out k13)
        clear q0 q1 q2 q3 q4 q5 r0 r1 r2 r3 r4 r5 hkr hk13 k13 v1 v2
        go_wp2_with fail
        go_roundw
        case rel => exact ⟨j + 1, by go_num, by omega, HK13⟩
        case measure => simp [intOf]; omega
    · go_wp2_with (go_at_call 8; refine (known_is _ (HT.out.keep HKr.out)).mono ?_; rintro e w6 ⟨rfl, hk6⟩; have HK6 := hide1 (gtrans HKr.out hk6); clear hk6)
      go_ret
      exact ⟨rfl, HK6.out⟩

end Ex
end Go.Proofs.YtkkdhlngmjcolaaGreatDoor
namespace Go.Proofs.YtkkdhlngmjcolaaGreatDoor
open Go.ChangeShapes Go.WideShapes Go.ChangeAt Go.RowKit
set_option linter.unusedVariables false
namespace Ex

theorem walk (k : Nat) (L : List (PatN (k + 1))) (a : Option Addr) (len cap : Nat) (w : World) (h : KidsAt (fun b => b < w.heap.size) w (k + 1) L (.slice a len cap)) (hT : ∀ j, j < 64 → w.cell? ⟨1, j, none⟩ = some (.int .u8 (Lib.deBruijn64tab.getD j 0 : Nat))) :
    Calls Tryz.prog 3 #[.slice a len cap] w fun e w' => e = .returned (.bool true) ∧ Below w.heap.size w w' :=
  (lawS_is k L _ w h hT).mono fun _ _ h => ⟨h.1, h.2.below⟩

set_option maxRecDepth 100000 in
theorem lifted (os : Os) (started : os.Started) (H : Type) (enc : TypeId × Value → H) :
    ReturnsInHanded {} Tryz.checked os 3 .any (fun w args => (Rows.exprShortsSpec.pre enc Tryz.prog Tryz.f3 [] false w args ∧ laidMetH Tryz.prog Rows.exprShortsRow.laid w) ∧ sizedMet enc Tryz.prog Tryz.f3 (OpenSpec.ofChange Rows.exprShortsSpec) false w args)
      (Rows.exprShortsSpec.post enc Tryz.prog Tryz.f3 false true false false) := by
  refine returnsInHanded_of_change_and (C := Tryz.checked) (X := fun w _ => laidMetH Tryz.prog Rows.exprShortsRow.laid w) (fun _ _ _ hh h => h.of_heap hh) own started (by kernel_rfl) Tryz.func3
    (ChangeSpec.witness_shaped (enc := enc) (C := Tryz.checked) (os := os) (X := fun w _ => laidMetH Tryz.prog Rows.exprShortsRow.laid w) false (World.doorLaid Tryz.prog 4000 os) #[.slice none 0 0] 8 rfl (World.shaped_of_RefB (by kernel_rfl) (by kernel_rfl)) (by kernel_rfl) (by kernel_rfl) (by kernel_rfl) (door_met os _)) ?_
  intro W base args ds gs before hval0 hW _ hsz hL _
  have hval : ∀ (j : Nat) t v, Tryz.f3.params[j]? = some t → args[j]? = some v → Value.okWide Tryz.prog W .any base t v := hval0
  have hW' := hW
  obtain ⟨p, q, hA0, hV, rfl, hfz, hnd⟩ := hW
  have hA : DataW.TrodAll enc Tryz.prog W 0 (fun _ => true) true Tryz.f3.params.toList args.toList ds p := hA0
  rw [Tryz.params3] at hA hval
  obtain ⟨v0, vs0, d0, ds0, p0, q0, hargs, rfl, rfl, h0, r0⟩ := trodAll_cons hA
  obtain ⟨rfl, rfl, rfl⟩ := trodAll_nil r0
  obtain rfl : args = #[v0] := by cases args; simp_all
  obtain ⟨rfl, rfl⟩ := trodVars_none hV
  obtain ⟨a0, len0, cap0, rfl⟩ := okWide_slice Tryz.underlying22 (hval 0 22 v0 rfl rfl)
  have k0 := h0
  have lt0 : ∀ x ∈ p0, x.block < W.heap.size := by obtain ⟨m, hm⟩ := k0; exact DataW.trod_lt m _ _ _ hm
  have wt0 : ∀ n ∈ d0.weights Tryz.prog 22, n ≤ reachBytes := fun n hn => by
    have := List.all_eq_true.1 hsz n (DataW.weights_mem_each (j := 0) (by rfl) (by rfl) n hn)
    simpa using this
  obtain ⟨k, L, w0⟩ := exprs_of k0 wt0 ⟨_, _, _, rfl⟩
  clear hA0 hval0
  refine (walk k L a0 len0 cap0 W w0 (of_laid hL)).mono fun e W' ⟨he, bel⟩ => ?_
  subst he
  exact ⟨_, rfl, _, _, _, [], _, [], hW', trodAll_mk1 (shut_bool Tryz.underlying4 _), (trodAll_cons_mk (Below.trod laidOut (by kernel_rfl) (of_decide_eq_true (by kernel_rfl)) k0 bel lt0) trodAll_mk0), rfl, bel.frame _, fun h => by cases h⟩

theorem over : Rows.exprShortsRow.holds Tryz.pinned (OpenSpec.ofChange Rows.exprShortsSpec) :=
  OpenClaim.holds_of_wide 3 Tryz.f3 rfl rfl rfl rfl rfl rfl rfl ⟨rfl, rfl, rfl, rfl, rfl⟩ rfl rfl rfl rfl rfl (by kernel_rfl) Tryz.func3 (by kernel_rfl)
    (of_decide_eq_true (by kernel_rfl)) (by unfold Func.isWrapper; first | (rw [if_pos (by decide +kernel)]; kernel_rfl) | (rw [if_neg (by decide +kernel)]; exact ⟨rfl, rfl⟩))
    (fun os started H enc _ => lifted os started H enc)

end Ex
theorem exprShorts_card_holds : Rows.ExprShortsCardSaid :=
  Claim7.holds_tied_plain_at .later [] [.data, .data, .data] true Rows.exprShortsCard.stood.harness false
    Ex.over (fun _ h => by cases h) (by kernel_rfl) (fun _ h => by cases h) exprShorts_row_tie rfl ⟨rfl, rfl⟩ (by kernel_rfl) rfl
    (fun f fn hf hfn => by
      obtain rfl : f = 3 := Option.some.inj (hf.symm.trans (by kernel_rfl))
      obtain rfl : fn = Tryz.f3 := (Option.some.inj (Tryz.func3.symm.trans hfn)).symm
      exact ⟨by kernel_rfl, fun j t ht => by
        rw [Tryz.params3] at ht
        have hm : t ∈ [22] := by simpa using Array.mem_of_getElem? ht
        have hall : ([22].all fun u => !Tryz.prog.wantsStandIn u) = true := by kernel_rfl
        exact (show Tryz.prog.wantsStandIn t = false by simpa using List.all_eq_true.1 hall t hm)⟩)
    (by kernel_rfl)
#print axioms exprShorts_card_holds
end Go.Proofs.YtkkdhlngmjcolaaGreatDoor
