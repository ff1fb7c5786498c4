import Derived.Test.YtfajoknacfjedaaGreatDoorMExO7
import Derived.Deep.DeepMust
import Derived.Deep.Cut
import Derived.BigQuiet
import Derived.OwnWalk
namespace Go.Proofs.YtfajoknacfjedaaGreatDoor
open Go.RowKit
attribute [local go_sem] Oper.semAt_some
namespace Ex
namespace Sh

theorem KT.holds {S Z : Nat → Prop} {u v : World} (h : KT Z u v) (hd : ∀ d, S d → ¬ Z d) : Holds S u v := fun b o x hb hc => by
  have hl : b < u.heap.size := World.block_lt_of_cell? u _ hc
  have hh := h.2.2.2.2 b hl (hd b hb)
  unfold World.cell? at hc ⊢
  simp only [hh]
  exact hc
theorem KT.kept {Z : Nat → Prop} {w u v : World} (h : KT Z u v) (hk : Kept w u) (hd : ∀ d, Z d → w.heap.size ≤ d) : Kept w v :=
  ⟨h.1.trans hk.1, h.2.1.trans hk.2.1, h.2.2.1.trans hk.2.2.1, Nat.le_trans hk.2.2.2.1 h.2.2.2.1, fun k hl => (h.2.2.2.2 k (Nat.lt_of_lt_of_le hl hk.2.2.2.1) (fun hz => by have := hd k hz; omega)).trans (hk.2.2.2.2 k hl)⟩
theorem KT.box {Z : Nat → Prop} {u v : World} {g : Nat} {x0 x1 x2 x3 x4 x5 : Value} (h : KT Z u v) (hb : BoxAt u g x0 x1 x2 x3 x4 x5) (hd : ¬ Z g) : BoxAt v g x0 x1 x2 x3 x4 x5 :=
  (h.2.2.2.2 g hb.lt hd).trans hb

end Sh
open Sh

set_option linter.unusedSimpArgs false in
set_option maxRecDepth 100000 in
set_option maxHeartbeats 8000000 in
theorem lawOwn_is (T : ByteArray) (k : Nat) (p : PatN (k + 1)) (v : Value) (w : World) (h : KidsAt (fun d => d < w.heap.size) w k (kids p) v) (hTs : T.size ≤ 200000000000000) (hT : TabAt w) (hP : PowAt w) :
    Calls Tryz.prog 3 #[.string T, valOf p v] w fun e w' => e = .returned (.bool true) ∧ Kept w w' := by
  have HK := hide1 h
  have HT := hide1 hT
  have HPW := hide1 hP
  obtain ⟨a, cap, rfl⟩ := h.form
  obtain ⟨N, hN⟩ : ∃ N, (kids p).length = N := ⟨_, rfl⟩
  have HN := hide1 hN
  rw [valOf_eq]
  have HV : Hid (∀ u, valOf p u = .agg #[.int .i64 (kind p), .int .i64 (from_ p), .int .i64 (to_ p), .int .i64 (min_ p), .int .i64 (max_ p), u]) := fun u => rfl
  have HBQ := parse_bounds T
  have HPU := ParseU_is T
  obtain ⟨⟨⟨m, Q⟩, fe, fp⟩, hq⟩ : ∃ x, parseM T = x := ⟨_, rfl⟩
  rw [hq] at HBQ HPU
  dsimp only at HBQ HPU
  obtain ⟨NQ, hNQ⟩ : ∃ NQ, (kids Q).length = NQ := ⟨_, rfl⟩
  have HNQ := hide1 hNQ
  have HBQ := hide1 HBQ
  have HVQ : Hid (∀ u, valOf Q u = .agg #[.int .i64 (kind Q), .int .i64 (from_ Q), .int .i64 (to_ Q), .int .i64 (min_ Q), .int .i64 (max_ Q), u]) := fun u => rfl
  have HPARSE : Hid (∀ w, Calls Tryz.prog 4 #[.string T] w fun r w' => ∃ a7 c7, r = .returned (.tuple #[.agg #[.int .i64 (kind Q), .int .i64 (from_ Q), .int .i64 (to_ Q), .int .i64 (min_ Q), .int .i64 (max_ Q), .slice a7 NQ c7], .agg #[.int .i64 fe, .int .i64 fp, .string ByteArray.empty]]) ∧ KidsO (fun d => w.heap.size ≤ d ∧ d < w'.heap.size) w' m (kids Q) (.slice a7 NQ c7) ∧ Kept w w') := fun w => (HPU w hTs).mono fun r w' h => by
    obtain ⟨h1, h2⟩ := h
    obtain ⟨v, rfl, v', rfl, h3⟩ := h1.out
    obtain ⟨a7, c7, rfl⟩ := h3.form
    have h4 := h3.tight
    dsimp only at h4
    rw [hNQ] at h4 ⊢
    exact ⟨a7, c7, rfl, h4, h2⟩
  have HSAME : Hid (eqB (m + 1) Q Q = true) := (eqB_iff _ _ _).2 rfl
  have HSZ : Hid (sizesP m (kids Q) ≤ 4095) := by
    have h1 := bounds_size HBQ.out
    have h2 := size_succ Q
    show _ ≤ (4095 : Int)
    omega
  clear HPU hq hNQ
  rw [hN] at HK ⊢
  have HBE0 := hide1 (BoxAt.new w (.int .i64 (kind p)) (.int .i64 (from_ p)) (.int .i64 (to_ p)) (.int .i64 (min_ p)) (.int .i64 (max_ p)) (.slice a N cap))
  have HK0 := hide1 ((Kept.refl w).alloc #[.int .i64 (kind p), .int .i64 (from_ p), .int .i64 (to_ p), .int .i64 (min_ p), .int .i64 (max_ p), .slice a N cap] 24)
  have hs0 : (w.alloc (.cells #[.int .i64 (kind p), .int .i64 (from_ p), .int .i64 (to_ p), .int .i64 (min_ p), .int .i64 (max_ p), .slice a N cap] 24)).heap.size = w.heap.size + 1 := by simp
  have HS0 := hide1 hs0
  obtain ⟨ck, hck⟩ : ∃ x, checkP p = x := ⟨_, rfl⟩
  have HCK := hide1 hck
  obtain ⟨sl, hsl⟩ : ∃ x, shortTop p = x := ⟨_, rfl⟩
  have HSL := hide1 hsl
  obtain ⟨ns, hns⟩ : ∃ x, sl.length = x := ⟨_, rfl⟩
  have HNS := hide1 hns
  have HN4 : Hid (ns ≤ 4096) := by show _ ≤ _; rw [← hns, ← hsl]; exact shortTop_len p
  obtain ⟨sb, hsb⟩ : ∃ x, strOf sl = x := ⟨_, rfl⟩
  have HSB := hide1 hsb
  clear h hN hT hP hs0 hck hsl hns hsb
  go_enter Tryz.func3, Tryz.ntmps3
  go_upto_region 1 with fail
  generalize w.alloc (.cells #[.int .i64 (kind p), .int .i64 (from_ p), .int .i64 (to_ p), .int .i64 (min_ p), .int .i64 (max_ p), .slice a N cap] 24) = W0 at HBE0 HK0 HS0 ⊢
  go_upto_region 2 with (go_at_call 4; have hcl := HPARSE.out W0; refine hcl.mono ?_; rintro e w1 ⟨aA, cA, rfl, hkA, hkk⟩; clear hcl; have HKA := hide1 hkA; have HGA := hide1 hkk; clear hkA hkk)
  have HXA : Hid (BoxAt ((w1.alloc (.cells #[.int .i64 (kind Q), .int .i64 (from_ Q), .int .i64 (to_ Q), .int .i64 (min_ Q), .int .i64 (max_ Q), .slice aA NQ cA] 24)).alloc (.cells #[.int .i64 fe, .int .i64 fp, .string ByteArray.empty] 27)) w1.heap.size (.int .i64 (kind Q)) (.int .i64 (from_ Q)) (.int .i64 (to_ Q)) (.int .i64 (min_ Q)) (.int .i64 (max_ Q)) (.slice aA NQ cA)) := (BoxAt.new w1 _ _ _ _ _ _).keep ((Kept.refl _).alloc _ _)
  have HQA : Hid (Kept w1 ((w1.alloc (.cells #[.int .i64 (kind Q), .int .i64 (from_ Q), .int .i64 (to_ Q), .int .i64 (min_ Q), .int .i64 (max_ Q), .slice aA NQ cA] 24)).alloc (.cells #[.int .i64 fe, .int .i64 fp, .string ByteArray.empty] 27))) := ((Kept.refl _).alloc _ _).alloc _ _
  have HZA : Hid (((w1.alloc (.cells #[.int .i64 (kind Q), .int .i64 (from_ Q), .int .i64 (to_ Q), .int .i64 (min_ Q), .int .i64 (max_ Q), .slice aA NQ cA] 24)).alloc (.cells #[.int .i64 fe, .int .i64 fp, .string ByteArray.empty] 27)).heap.size = w1.heap.size + 2) := by show _ = _; simp
  generalize (w1.alloc (.cells #[.int .i64 (kind Q), .int .i64 (from_ Q), .int .i64 (to_ Q), .int .i64 (min_ Q), .int .i64 (max_ Q), .slice aA NQ cA] 24)).alloc (.cells #[.int .i64 fe, .int .i64 fp, .string ByteArray.empty] 27) = W1 at HXA HQA HZA ⊢
  obtain ⟨⟨m0, m1, m2, m3, m4, m5⟩, -⟩ := HXA.out.facts
  go_upto_region 3 with (go_at_call 5; have hcl := TwinExpr_is _ m Q _ _ ((KidsO.at_ _ (fun _ h => h) _ _ HKA.out).kept HQA.out); rw [HVQ.out] at hcl; refine hcl.mono ?_; rintro e w2 ⟨ht, hkt⟩; clear hcl; obtain ⟨vt, rfl, -, htm⟩ := ht.out; rw [HVQ.out]; have htm := htm HBQ.out; obtain ⟨aW, cW, et⟩ := htm.form; subst et; rw [HNQ.out] at htm ⊢; have HMW := hide1 (MarkAt.tight _ _ _ htm); have HP2 := hide1 hkt; clear ht hkt htm)
  clear m0 m1 m2 m3 m4 m5
  have HXW := hide1 (BoxAt.new w2 (.int .i64 (kind Q)) (.int .i64 (from_ Q)) (.int .i64 (to_ Q)) (.int .i64 (min_ Q)) (.int .i64 (max_ Q)) (.slice aW NQ cW))
  have HQ2 := hide1 ((Kept.refl w2).alloc #[.int .i64 (kind Q), .int .i64 (from_ Q), .int .i64 (to_ Q), .int .i64 (min_ Q), .int .i64 (max_ Q), .slice aW NQ cW] 24)
  have HZ2 : Hid ((w2.alloc (.cells #[.int .i64 (kind Q), .int .i64 (from_ Q), .int .i64 (to_ Q), .int .i64 (min_ Q), .int .i64 (max_ Q), .slice aW NQ cW] 24)).heap.size = w2.heap.size + 1) := by show _ = _; simp
  generalize w2.alloc (.cells #[.int .i64 (kind Q), .int .i64 (from_ Q), .int .i64 (to_ Q), .int .i64 (min_ Q), .int .i64 (max_ Q), .slice aW NQ cW] 24) = W2 at HXW HQ2 HZ2 ⊢
  go_upto_region 4 with (go_at_call 4; have hcl := HPARSE.out W2; refine hcl.mono ?_; rintro e w3 ⟨aB, cB, rfl, hkB, hkk⟩; clear hcl; have HKB := hide1 hkB; have HGB := hide1 hkk; clear hkB hkk)
  have HXB : Hid (BoxAt ((w3.alloc (.cells #[.int .i64 (kind Q), .int .i64 (from_ Q), .int .i64 (to_ Q), .int .i64 (min_ Q), .int .i64 (max_ Q), .slice aB NQ cB] 24)).alloc (.cells #[.int .i64 fe, .int .i64 fp, .string ByteArray.empty] 27)) w3.heap.size (.int .i64 (kind Q)) (.int .i64 (from_ Q)) (.int .i64 (to_ Q)) (.int .i64 (min_ Q)) (.int .i64 (max_ Q)) (.slice aB NQ cB)) := (BoxAt.new w3 _ _ _ _ _ _).keep ((Kept.refl _).alloc _ _)
  have HQB : Hid (Kept w3 ((w3.alloc (.cells #[.int .i64 (kind Q), .int .i64 (from_ Q), .int .i64 (to_ Q), .int .i64 (min_ Q), .int .i64 (max_ Q), .slice aB NQ cB] 24)).alloc (.cells #[.int .i64 fe, .int .i64 fp, .string ByteArray.empty] 27))) := ((Kept.refl _).alloc _ _).alloc _ _
  have HZB : Hid (((w3.alloc (.cells #[.int .i64 (kind Q), .int .i64 (from_ Q), .int .i64 (to_ Q), .int .i64 (min_ Q), .int .i64 (max_ Q), .slice aB NQ cB] 24)).alloc (.cells #[.int .i64 fe, .int .i64 fp, .string ByteArray.empty] 27)).heap.size = w3.heap.size + 2) := by show _ = _; simp
  generalize (w3.alloc (.cells #[.int .i64 (kind Q), .int .i64 (from_ Q), .int .i64 (to_ Q), .int .i64 (min_ Q), .int .i64 (max_ Q), .slice aB NQ cB] 24)).alloc (.cells #[.int .i64 fe, .int .i64 fp, .string ByteArray.empty] 27) = W3 at HXB HQB HZB ⊢
  have HK3 : Hid (Kept W0 W3) := gtrans HGA.out (gtrans HQA.out (gtrans HP2.out (gtrans HQ2.out (gtrans HGB.out HQB.out))))
  obtain ⟨⟨m0, m1, m2, m3, m4, m5⟩, -⟩ := (HBE0.out.keep HK3.out).facts
  go_upto_region 5 with (go_at_call 5; have hcl := TwinExpr_is _ k p _ _ (HK.out.kept (gtrans HK0.out HK3.out)); rw [HV.out] at hcl; refine hcl.mono ?_; rintro e w4 ⟨ht, hkt⟩; clear hcl; obtain ⟨vt, rfl, htk, htm⟩ := ht.out; rw [HV.out]; obtain ⟨aM, cM, et⟩ := htk.form; subst et; rw [HN.out] at htm htk ⊢; have HKM := hide1 (KidsAt.tight _ _ _ htk); have HMM : Hid (boundsP p = 0 → MarkAt (fun d => W3.heap.size ≤ d ∧ d < w4.heap.size) w4 k (kids p) (.slice aM N cM)) := (fun hb => MarkAt.tight _ _ _ (htm hb)); have HP4 := hide1 hkt; clear ht hkt htm htk)
  clear m0 m1 m2 m3 m4 m5
  have HXM := hide1 (BoxAt.new w4 (.int .i64 (kind p)) (.int .i64 (from_ p)) (.int .i64 (to_ p)) (.int .i64 (min_ p)) (.int .i64 (max_ p)) (.slice aM N cM))
  have HQ4 := hide1 ((Kept.refl w4).alloc #[.int .i64 (kind p), .int .i64 (from_ p), .int .i64 (to_ p), .int .i64 (min_ p), .int .i64 (max_ p), .slice aM N cM] 24)
  have HZ4 : Hid ((w4.alloc (.cells #[.int .i64 (kind p), .int .i64 (from_ p), .int .i64 (to_ p), .int .i64 (min_ p), .int .i64 (max_ p), .slice aM N cM] 24)).heap.size = w4.heap.size + 1) := by show _ = _; simp
  generalize w4.alloc (.cells #[.int .i64 (kind p), .int .i64 (from_ p), .int .i64 (to_ p), .int .i64 (min_ p), .int .i64 (max_ p), .slice aM N cM] 24) = W4 at HXM HQ4 HZ4 ⊢
  have HK4 : Hid (Kept W0 W4) := gtrans HK3.out (gtrans HP4.out HQ4.out)
  obtain ⟨⟨m0, m1, m2, m3, m4, m5⟩, -⟩ := HXM.out.facts
  go_upto_region 6 with (go_at_call 6; have hcl := ShortestO_is _ k p _ _ (kidsAll (HKM.out.kept HQ4.out)) (fun _ h => h); rw [HV.out, HCK.out, HSL.out] at hcl; refine hcl.mono ?_; rintro e w5 ⟨⟨vr, rfl, hrow⟩, hk⟩; clear hcl; obtain ⟨a5, c5, er⟩ := hrow.form; subst er; rw [HNS.out] at hrow ⊢; have HR5 := hide1 hrow; have HJ5 := hide1 hk; clear hrow hk)
  clear m0 m1 m2 m3 m4 m5
  have v1 := conv_row (by rw [HNS.out]; exact HR5.out.row : RowIn w5 W4.heap.size (.slice a5 sl.length c5) sl)
  rw [HNS.out, HSB.out] at v1
  go_upto_region 7 with fail
  clear v1
  obtain ⟨⟨m0, m1, m2, m3, m4, m5⟩, -⟩ := (HXM.out.keep HJ5.out).facts
  go_upto_region 8 with (go_at_call 6; have hcl := ShortestO_is _ k p _ _ (kidsAll (HKM.out.kept (gtrans HQ4.out HJ5.out))) (fun _ h => h); rw [HV.out, HCK.out, HSL.out] at hcl; refine hcl.mono ?_; rintro e w7 ⟨⟨vr, rfl, hrow⟩, hk⟩; clear hcl; obtain ⟨a7, c7, er⟩ := hrow.form; subst er; rw [HNS.out] at hrow ⊢; have HR7 := hide1 hrow; have HJ7 := hide1 hk; clear hrow hk)
  clear m0 m1 m2 m3 m4 m5
  have HSIZE : Hid (W0.heap.size = w.heap.size + 1 ∧ W0.heap.size ≤ w1.heap.size ∧ W1.heap.size = w1.heap.size + 2 ∧ W1.heap.size ≤ w2.heap.size ∧ W2.heap.size = w2.heap.size + 1 ∧ W2.heap.size ≤ w3.heap.size ∧ W3.heap.size = w3.heap.size + 2 ∧ W3.heap.size ≤ w4.heap.size ∧ W4.heap.size = w4.heap.size + 1 ∧ W4.heap.size ≤ w5.heap.size ∧ w5.heap.size ≤ w7.heap.size) := ⟨HS0.out, HGA.out.size, HZA.out, HP2.out.size, HZ2.out, HGB.out.size, HZB.out, HP4.out.size, HZ4.out, HJ5.out.size, HJ7.out.size⟩
  have HT4 := hide1 (gtrans HJ5.out HJ7.out)
  have Ht4 := hide1 (gtrans HQ4.out HT4.out)
  have HT3 := hide1 (gtrans HP4.out Ht4.out)
  have Ht3 := hide1 (gtrans HQB.out HT3.out)
  have HT2 := hide1 (gtrans HGB.out Ht3.out)
  have Ht2 := hide1 (gtrans HQ2.out HT2.out)
  have HT1 := hide1 (gtrans HP2.out Ht2.out)
  have Ht1 := hide1 (gtrans HQA.out HT1.out)
  have HT0 := hide1 (gtrans HGA.out Ht1.out)
  have HTw := hide1 (gtrans HK0.out HT0.out)
  have BA := hide1 (HXA.out.keep HT1.out)
  have BB := hide1 (HXB.out.keep HT3.out)
  have BW := hide1 (HXW.out.keep HT2.out)
  have BM := hide1 (HXM.out.keep HT4.out)
  have BE := hide1 (HBE0.out.keep HT0.out)
  have KA := hide1 (HKA.out.kept Ht1.out)
  have KB := hide1 (HKB.out.kept Ht3.out)
  have KW := hide1 (HMW.out.kept Ht2.out)
  have KM := hide1 (HKM.out.kept Ht4.out)
  have MM : Hid (boundsP p = 0 → MarkAt (fun d => W3.heap.size ≤ d ∧ d < w4.heap.size) w7 k (kids p) (.slice aM N cM)) := fun hb => (HMM.out hb).kept Ht4.out
  have R5 := hide1 (HR5.out.keep HJ7.out)
  have HOW : Hid (∀ d, (Value.slice a5 ns c5).ownBlock = some d → d < w5.heap.size) := fun d hd => (HR5.out.lt d hd).2
  obtain ⟨Z, hZ⟩ : ∃ Z : Nat → Prop, (fun d => (W0.heap.size ≤ d ∧ d < w1.heap.size) ∨ (W2.heap.size ≤ d ∧ d < w3.heap.size) ∨ W4.heap.size ≤ d) = Z := ⟨_, rfl⟩
  have HZd : Hid (∀ d, Z d ↔ (W0.heap.size ≤ d ∧ d < w1.heap.size) ∨ (W2.heap.size ≤ d ∧ d < w3.heap.size) ∨ W4.heap.size ≤ d) := fun d => by rw [← hZ]
  obtain ⟨Y, hY⟩ : ∃ Y : Nat → Prop, (fun d => (W0.heap.size ≤ d ∧ d < w1.heap.size) ∨ (W2.heap.size ≤ d ∧ d < w3.heap.size)) = Y := ⟨_, rfl⟩
  have HYd : Hid (∀ d, Y d ↔ (W0.heap.size ≤ d ∧ d < w1.heap.size) ∨ (W2.heap.size ≤ d ∧ d < w3.heap.size)) := fun d => by rw [← hY]
  clear hY hZ HT4 Ht4 HT3 Ht3 HT2 Ht2 HT1 Ht1 HT0 HXA HXB HXW HXM HBE0 HKA HKB HMW HKM HMM HR5 HGA HQA HP2 HQ2 HGB HQB HP4 HQ4 HJ5 HJ7 HZA HZ2 HZB HZ4 HS0 HK0 HK3 HK4
  have HG8 : Hid (∀ w8, Kept w7 w8 → Calls Tryz.prog 8 #[.slice (some ⟨w8.heap.size, 0, none⟩) 2 2] (w8.alloc (.cells #[.int .i64 (kind Q), .int .i64 (from_ Q), .int .i64 (to_ Q), .int .i64 (min_ Q), .int .i64 (max_ Q), .slice aA NQ cA, .int .i64 (kind Q), .int .i64 (from_ Q), .int .i64 (to_ Q), .int .i64 (min_ Q), .int .i64 (max_ Q), .slice aB NQ cB] 24)) fun e w' => e = .returned (.bool true) ∧ KT Y w7 w') := fun w8 hk8 => by
    have hz := hk8.size
    have hS := HSIZE.out
    have h8 : sizesP (m + 1) [Q, Q] ≤ 8192 := by
      have h1 := HSZ.out
      have h2 := size_succ Q
      show sizeP (m + 1) Q + (sizeP (m + 1) Q + 0) ≤ 8192
      omega
    have h9 : ∀ q ∈ [Q, Q], sizesP m (kids q) ≤ 4096 := fun q hq => by
      have h1 := HSZ.out
      simp only [List.mem_cons, List.not_mem_nil, or_false, or_self] at hq
      subst hq
      omega
    have h10 := two_own (KA.out.kept hk8) (KB.out.kept hk8) (fun d h1 h2 => by omega) (fun d h => by omega) (fun d h => by omega)
    refine (grX_is m _ [Q, Q] _ _ h10 (by simp) h8 h9).mono ?_
    rintro e w' ⟨rfl, hkt⟩
    exact ⟨rfl, KT.wide ((hk8.alloc _ _).kt Y) hkt (fun d hd h => by rw [HYd.out]; omega)⟩
  have HG9 : Hid (∀ w9, KT Y w7 w9 → Calls Tryz.prog 9 #[.slice (some ⟨w9.heap.size, 0, none⟩) 2 2] (w9.alloc (.cells #[.slice a5 ns c5, .slice a7 ns c7] 31)) fun e w' => e = .returned (.bool true) ∧ KT Z w7 w') := fun w9 hk9 => by
    have hS := HSIZE.out
    have h9a := R5.out.kt hk9 (fun d h h2 => by rw [HYd.out] at h2; omega)
    have h9b := HR7.out.kt hk9 (fun d h h2 => by rw [HYd.out] at h2; omega)
    have hk9z : KT Z w7 w9 := hk9.mono (fun d hd => by rw [HZd.out]; rw [HYd.out] at hd; omega)
    obtain ⟨vs, ys, l1, l2, hlo, hnr, hbag, hlone, hlen, hin⟩ := two_rows h9a HOW.out h9b (by omega) (by rw [HNS.out]; exact HN4.out)
    refine (grB_is vs ys _ 2 2 0 (fun _ => sl) _ l1 (by omega) hlo hnr hbag hlone hlen).mono ?_
    rintro e w' ⟨rfl, hkt⟩
    exact ⟨rfl, KT.wide (hk9z.trans (((Kept.refl w9).alloc _ _).kt Z)) hkt (fun d _ h => by rw [HZd.out]; exact .inr (.inr (hin d h).1))⟩
  have HG10 : Hid (∀ wA, KT Z w7 wA → Calls Tryz.prog 10 #[.agg #[.int .i64 (kind p), .int .i64 (from_ p), .int .i64 (to_ p), .int .i64 (min_ p), .int .i64 (max_ p), .slice aM N cM], .agg #[.int .i64 (kind p), .int .i64 (from_ p), .int .i64 (to_ p), .int .i64 (min_ p), .int .i64 (max_ p), .slice a N cap]] wA fun e w' => e = .returned (.bool true) ∧ KT Z w7 w') := fun wA hkA => by
    have hS := HSIZE.out
    have h1 : KidsAt (fun d => d < w.heap.size) wA k (kids p) (.slice a N cap) := HK.out.kept (hkA.kept HTw.out (fun d hd => by rw [HZd.out] at hd; omega))
    have hh : Holds (fun d => (d < w.heap.size ∨ W3.heap.size ≤ d) ∧ d < w4.heap.size) w7 wA := hkA.holds (fun d hd h2 => by rw [HZd.out] at h2; omega)
    have h2 := KidsAt.mono hh (fun _ h => h) _ _ _ KM.out
    have h3 : boundsP p = 0 → MarkAt (fun d => W3.heap.size ≤ d ∧ d < w4.heap.size) wA k (kids p) (.slice aM N cM) := fun hb => MarkAt.mono (hkA.holds (fun d hd h2 => by rw [HZd.out] at h2; have h4 : W3.heap.size ≤ d ∧ d < w4.heap.size := hd; omega)) (fun _ h => h) _ _ _ (MM.out hb)
    have hcl := KeptExpr_is _ _ _ k p _ _ wA h1 h2 h3
    rw [HV.out, HV.out] at hcl
    refine hcl.mono ?_
    rintro e w' ⟨rfl, hk⟩
    exact ⟨rfl, hkA.trans (hk.kt Z)⟩
  obtain ⟨⟨m0, m1, m2, m3, m4, m5⟩, -⟩ := BA.out.facts
  obtain ⟨⟨n0, n1, n2, n3, n4, n5⟩, -⟩ := BB.out.facts
  go_upto_region 10 with (first
    | (go_at_call 7; go_must (have hcl := same_gen _ _ m Q Q _ _ _ (KidsO.at_ _ (fun _ h => h) _ _ KB.out) (KidsO.at_ _ (fun _ h => h) _ _ KA.out); rw [HVQ.out, HVQ.out, HSAME.out] at hcl; refine hcl.mono ?_; rintro e w8 ⟨rfl, hk8⟩; clear hcl; have HJ8 := hide1 hk8; obtain ⟨⟨d0, d1, d2, d3, d4, d5⟩, -⟩ := (BA.out.keep hk8).facts; obtain ⟨⟨e0, e1, e2, e3, e4, e5⟩, -⟩ := (BB.out.keep hk8).facts; have v2 := conv_row (w := w8) (base := w5.heap.size) (c := c7) (a := a7) (zs := sl) (by rw [HNS.out]; exact (HR7.out.keep hk8).row); rw [HNS.out, HSB.out] at v2; clear hk8))
    | (go_at_call 8; go_must (refine (HG8.out _ HJ8.out).mono ?_; rintro e w9 ⟨rfl, hkt⟩; have HT9 := hide1 hkt; clear hkt))
    | (go_at_call 9; go_must (refine (HG9.out _ HT9.out).mono ?_; rintro e wA ⟨rfl, hkt⟩; have HT10 := hide1 hkt; obtain ⟨⟨f0, f1, f2, f3, f4, f5⟩, -⟩ := (hkt.box BM.out (fun h2 => by rw [HZd.out] at h2; have := HSIZE.out; omega)).facts; obtain ⟨⟨g0, g1, g2, g3, g4, g5⟩, -⟩ := (hkt.box BE.out (fun h2 => by rw [HZd.out] at h2; have := HSIZE.out; omega)).facts; clear hkt))
    | (go_at_call 10; go_must (refine (HG10.out _ HT10.out).mono ?_; rintro e wB ⟨rfl, hkt⟩; have HT11 := hide1 hkt; clear hkt)))
  clear m0 m1 m2 m3 m4 m5 n0 n1 n2 n3 n4 n5
  have HSW := HSIZE.out
  have HKB := hide1 (HT11.out.kept HTw.out (fun d hd => by rw [HZd.out] at hd; omega))
  have BWB := hide1 (HT11.out.box BW.out (fun hd => by rw [HZd.out] at hd; omega))
  have BMB := hide1 (HT11.out.box BM.out (fun hd => by rw [HZd.out] at hd; omega))
  have BEB := hide1 (HT11.out.box BE.out (fun hd => by rw [HZd.out] at hd; omega))
  have KWB := hide1 (KidsAt.mono (HT11.out.holds (fun d hd h2 => by rw [HZd.out] at h2; have h4 : W1.heap.size ≤ d ∧ d < w2.heap.size := hd; omega)) (fun _ h => h) _ _ _ (MarkAt.kids _ _ _ KW.out))
  have KMB := hide1 (KidsAt.mono (HT11.out.holds (fun d hd h2 => by rw [HZd.out] at h2; have h4 : (d < w.heap.size ∨ W3.heap.size ≤ d) ∧ d < w4.heap.size := hd; omega)) (fun _ h => h) _ _ _ KM.out)
  clear HSW HT11 HT10 HT9 HJ8 BA BB BW BM BE KA KB KW KM MM R5 HOW HZd HYd HG8 HG9 HG10 HTw HSIZE HR7 HN4
  go_upto_region 11 with (go_at_call 4; have hcl := HPARSE.out wB; refine hcl.mono ?_; rintro e wC ⟨aC, cC, rfl, hkC, hkk⟩; clear hcl; have HKC0 := hide1 hkC; have HGC := hide1 hkk; clear hkC hkk)
  have HXC : Hid (BoxAt ((wC.alloc (.cells #[.int .i64 (kind Q), .int .i64 (from_ Q), .int .i64 (to_ Q), .int .i64 (min_ Q), .int .i64 (max_ Q), .slice aC NQ cC] 24)).alloc (.cells #[.int .i64 fe, .int .i64 fp, .string ByteArray.empty] 27)) wC.heap.size (.int .i64 (kind Q)) (.int .i64 (from_ Q)) (.int .i64 (to_ Q)) (.int .i64 (min_ Q)) (.int .i64 (max_ Q)) (.slice aC NQ cC)) := (BoxAt.new wC _ _ _ _ _ _).keep ((Kept.refl _).alloc _ _)
  have HQC : Hid (Kept wC ((wC.alloc (.cells #[.int .i64 (kind Q), .int .i64 (from_ Q), .int .i64 (to_ Q), .int .i64 (min_ Q), .int .i64 (max_ Q), .slice aC NQ cC] 24)).alloc (.cells #[.int .i64 fe, .int .i64 fp, .string ByteArray.empty] 27))) := ((Kept.refl _).alloc _ _).alloc _ _
  have HZC : Hid (((wC.alloc (.cells #[.int .i64 (kind Q), .int .i64 (from_ Q), .int .i64 (to_ Q), .int .i64 (min_ Q), .int .i64 (max_ Q), .slice aC NQ cC] 24)).alloc (.cells #[.int .i64 fe, .int .i64 fp, .string ByteArray.empty] 27)).heap.size = wC.heap.size + 2) := by show _ = _; simp
  generalize (wC.alloc (.cells #[.int .i64 (kind Q), .int .i64 (from_ Q), .int .i64 (to_ Q), .int .i64 (min_ Q), .int .i64 (max_ Q), .slice aC NQ cC] 24)).alloc (.cells #[.int .i64 fe, .int .i64 fp, .string ByteArray.empty] 27) = WC at HXC HQC HZC ⊢
  have HKC := hide1 (gtrans HGC.out HQC.out)
  obtain ⟨⟨m0, m1, m2, m3, m4, m5⟩, -⟩ := (BMB.out.keep HKC.out).facts
  go_upto_region 12 with (go_at_call 6; go_must (have hcl := ShortestO_is _ k p _ _ (kidsAll (KMB.out.kept HKC.out)) (fun _ h => h); rw [HV.out, HCK.out, HSL.out] at hcl; refine hcl.mono ?_; rintro e wD ⟨⟨vr, rfl, hrow⟩, hk⟩; clear hcl; obtain ⟨aD, cD, er⟩ := hrow.form; subst er; rw [HNS.out] at hrow ⊢; have HRD := hide1 hrow; have HJD := hide1 hk; clear hrow hk))
  clear m0 m1 m2 m3 m4 m5
  have HKD := hide1 (gtrans HKC.out HJD.out)
  obtain ⟨⟨m0, m1, m2, m3, m4, m5⟩, -⟩ := (HXC.out.keep HJD.out).facts
  obtain ⟨⟨n0, n1, n2, n3, n4, n5⟩, -⟩ := (BWB.out.keep HKD.out).facts
  go_wp2_with (first
    | (go_at_call 7; go_must (have hcl := same_gen _ _ m Q Q _ _ _ (KWB.out.kept HKD.out) ((KidsO.at_ _ (fun _ h => h) _ _ HKC0.out).kept (gtrans HQC.out HJD.out)); rw [HVQ.out, HVQ.out, HSAME.out] at hcl; refine hcl.mono ?_; rintro e wE ⟨rfl, hk8⟩; clear hcl; have HKE := hide1 (gtrans HKD.out hk8); obtain ⟨⟨d0, d1, d2, d3, d4, d5⟩, -⟩ := (BEB.out.keep HKE.out).facts; have v2 := conv_row (w := wE) (base := WC.heap.size) (c := cD) (a := aD) (zs := sl) (by rw [HNS.out]; exact (HRD.out.keep hk8).row); rw [HNS.out, HSB.out] at v2; clear hk8))
    | (go_at_call 11; go_must (have hcl := turned_is k p _ wE (kidsAll (HK.out.kept (gtrans HKB.out HKE.out))) (HT.out.keep (gtrans HKB.out HKE.out)) (HPW.out.keep (gtrans HKB.out HKE.out)); rw [HV.out] at hcl; refine hcl.mono ?_; rintro e wF ⟨rfl, hk8⟩; clear hcl; have HKF := hide1 (gtrans HKE.out hk8); clear hk8))
    | (go_at_call 12; go_must (refine (knownO_is wF (HT.out.keep (gtrans HKB.out HKF.out)) (HPW.out.keep (gtrans HKB.out HKF.out))).mono ?_; rintro e wG ⟨rfl, hk8⟩; have HKG := hide1 (gtrans HKF.out hk8); clear hk8)))
  go_ret
  exact ⟨rfl, gtrans HKB.out HKG.out⟩

end Ex
end Go.Proofs.YtfajoknacfjedaaGreatDoor
