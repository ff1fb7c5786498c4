import Derived.Test.YtfajoknacfjedaaGreatDoorMExKn4
import Derived.Deep.DeepMust
import Derived.Deep.Cut
import Derived.BigQuiet
import Derived.OwnWalk
namespace Go.Proofs.YtfajoknacfjedaaGreatDoor
open Go.RowKit
attribute [local go_sem] Oper.semAt_some
namespace Ex

set_option linter.unusedSimpArgs false in
set_option maxRecDepth 100000 in
set_option maxHeartbeats 8000000 in
theorem turned_none (n : Nat) (p : PatN (n + 1)) (v : Value) (w : World) (h : KidsAt (fun d => d < w.heap.size) w n (kids p) v) (hc : boundsP p ≠ 0 ∨ (kids p).length = 0) :
    Calls Tryz.prog 11 #[valOf p v] w fun e w' => e = .returned (.bool true) ∧ Kept w w' := by
  have HK := hide1 h
  obtain ⟨a, cap, rfl⟩ := h.form
  have HBE := hide1 (BoxAt.new w (.int .i64 (kind p)) (.int .i64 (from_ p)) (.int .i64 (to_ p)) (.int .i64 (min_ p)) (.int .i64 (max_ p)) (.slice a (kids p).length cap))
  have HK0 := hide1 ((Kept.refl w).alloc #[.int .i64 (kind p), .int .i64 (from_ p), .int .i64 (to_ p), .int .i64 (min_ p), .int .i64 (max_ p), .slice a (kids p).length cap] 24)
  rw [valOf_eq]
  clear h
  go_enter Tryz.func11, Tryz.ntmps11
  go_upto_region 1 with fail
  generalize w.alloc (.cells #[.int .i64 (kind p), .int .i64 (from_ p), .int .i64 (to_ p), .int .i64 (min_ p), .int .i64 (max_ p), .slice a (kids p).length cap] 24) = W0 at HBE HK0 ⊢
  obtain ⟨⟨m0, m1, m2, m3, m4, m5⟩, _⟩ := HBE.out.facts
  by_cases hb : boundsP p = 0
  · have eb : (boundsP p == 0) = true := by simpa using hb
    have hl : (kids p).length = 0 := hc.resolve_left (fun e => e hb)
    rw [hl] at HK HBE m5 ⊢
    clear hc hb hl
    go_wp2_with (go_at_call 15; have hcl := Flat_is _ n p _ _ (HK.out.kept HK0.out); rw [valOf_eq] at hcl; refine hcl.mono ?_; rintro e w6 ⟨rfl, hk6⟩; clear hcl; have HK6 := hide1 (gtrans HK0.out hk6); obtain ⟨⟨d0, d1, d2, d3, d4, d5⟩, _⟩ := (HBE.out.keep hk6).facts; clear hk6)
    go_ret
    exact ⟨rfl, HK6.out⟩
  · have eb : (boundsP p == 0) = false := by simpa using hb
    clear hc hb
    go_wp2_with (go_at_call 15; have hcl := Flat_is _ n p _ _ (HK.out.kept HK0.out); rw [valOf_eq] at hcl; refine hcl.mono ?_; rintro e w6 ⟨rfl, hk6⟩; clear hcl; have HK6 := hide1 (gtrans HK0.out hk6); obtain ⟨⟨d0, d1, d2, d3, d4, d5⟩, _⟩ := (HBE.out.keep hk6).facts; clear hk6)
    go_ret
    exact ⟨rfl, HK6.out⟩
set_option linter.unusedSimpArgs false in
set_option maxRecDepth 100000 in
set_option maxHeartbeats 8000000 in
theorem turned_more (m : Nat) (p : PatN (m + 1 + 1)) (v : Value) (w : World) (h : KidsAt (fun d => d < w.heap.size) w (m + 1) (kids p) v) (hT : TabAt w) (hP : PowAt w) (hb : boundsP p = 0) (hne : (kids p).length ≠ 0) :
    Calls Tryz.prog 11 #[valOf p v] w fun e w' => e = .returned (.bool true) ∧ Kept w w' := by
  have HK := hide1 h
  have HT := hide1 hT
  have HPW := hide1 hP
  have HB := hide1 hb
  have HNE := hide1 hne
  obtain ⟨a, cap, rfl⟩ := h.form
  have HBE := hide1 (BoxAt.new w (.int .i64 (kind p)) (.int .i64 (from_ p)) (.int .i64 (to_ p)) (.int .i64 (min_ p)) (.int .i64 (max_ p)) (.slice a (kids p).length cap))
  have HK0 := hide1 ((Kept.refl w).alloc #[.int .i64 (kind p), .int .i64 (from_ p), .int .i64 (to_ p), .int .i64 (min_ p), .int .i64 (max_ p), .slice a (kids p).length cap] 24)
  obtain ⟨N, hN⟩ : ∃ N, (kids p).length = N := ⟨_, rfl⟩
  have HN := hide1 hN
  have gN : ¬ N = 0 := by omega
  rw [valOf_eq]
  have HV : Hid (∀ u, valOf p u = .agg #[.int .i64 (kind p), .int .i64 (from_ p), .int .i64 (to_ p), .int .i64 (min_ p), .int .i64 (max_ p), u]) := fun u => rfl
  have kc := fun (w : World) (C : Array Value) (n c : Nat) => Lib.run_convert_bytes_const (P := Tryz.prog) w 31 5 C n c Tryz.underlying31 Tryz.underlying5
  rw [hN] at HK HBE HK0 ⊢
  clear h hT hP hb hne hN
  go_enter Tryz.func11, Tryz.ntmps11
  go_upto_region 1 with fail
  generalize w.alloc (.cells #[.int .i64 (kind p), .int .i64 (from_ p), .int .i64 (to_ p), .int .i64 (min_ p), .int .i64 (max_ p), .slice a N cap] 24) = W0 at HBE HK0 ⊢
  obtain ⟨⟨m0, m1, m2, m3, m4, m5⟩, _⟩ := HBE.out.facts
  go_upto_region 3 with (go_at_call 15; have hcl := Flat_is _ (m + 1) p _ _ (HK.out.kept HK0.out); rw [HV.out, HB.out] at hcl; refine hcl.mono ?_; rintro e w6 ⟨rfl, hk6⟩; clear hcl; have HK6 := hide1 (gtrans HK0.out hk6); have HBE6 := hide1 (HBE.out.keep hk6); obtain ⟨⟨d0, d1, d2, d3, d4, d5⟩, _⟩ := HBE6.out.facts; clear hk6)
  clear m0 m1 m2 m3 m4 m5
  go_upto_region 4 with (go_at_call 5; have hcl := TwinExprT_is _ m p _ _ (HK.out.kept HK6.out) HB.out HNE.out; rw [HV.out] at hcl; refine hcl.mono ?_; rintro e w7 ⟨h7, hk7⟩; clear hcl; obtain ⟨v7, rfl, ht7⟩ := h7.out; obtain ⟨gt, e7, _⟩ := id ht7; subst e7; rw [HV.out]; rw [HN.out] at ht7 ⊢; have HTOP7 := hide1 ht7; have HK7 := hide1 hk7; clear h7 ht7 hk7)
  have HBM0 := hide1 (BoxAt.new w7 (.int .i64 (kind p)) (.int .i64 (from_ p)) (.int .i64 (to_ p)) (.int .i64 (min_ p)) (.int .i64 (max_ p)) (.slice (some ⟨gt, 0, none⟩) N (N + 1)))
  have HKM0 := hide1 ((Kept.refl w7).alloc #[.int .i64 (kind p), .int .i64 (from_ p), .int .i64 (to_ p), .int .i64 (min_ p), .int .i64 (max_ p), .slice (some ⟨gt, 0, none⟩) N (N + 1)] 24)
  have HGT : Hid (w.heap.size < gt ∧ gt < w7.heap.size ∧ w.heap.size < w6.heap.size) := by
    obtain ⟨g', e', h1, _, h2, _⟩ := HTOP7.out
    injection e' with e'
    injection e' with e'
    injection e' with e'
    subst e'
    have h3 := h2.lt
    have h4 := HBE6.out.lt
    exact ⟨by omega, h3, h4⟩
  obtain ⟨gm, hgm⟩ : ∃ gm, w7.heap.size = gm := ⟨_, rfl⟩
  generalize w7.alloc (.cells #[.int .i64 (kind p), .int .i64 (from_ p), .int .i64 (to_ p), .int .i64 (min_ p), .int .i64 (max_ p), .slice (some ⟨gt, 0, none⟩) N (N + 1)] 24) = W3 at HBM0 HKM0 ⊢
  rw [hgm] at HBM0 HGT ⊢
  have HTOP := hide1 (HTOP7.out.keep HKM0.out)
  have HTK := hide1 HTOP.out.kids
  have HBE3 := hide1 (HBE6.out.keep (gtrans HK7.out HKM0.out))
  have HKW3 := hide1 (gtrans HK6.out (gtrans HK7.out HKM0.out))
  have HK3 := hide1 (Kept.refl W3)
  clear HTOP7 HKM0 HK7 HK6 HBE6 HBE HK0 hgm d0 d1 d2 d3 d4 d5
  obtain ⟨ck, hck⟩ : ∃ x, checkP p = x := ⟨_, rfl⟩
  have HCK := hide1 hck
  obtain ⟨rl, hrl⟩ : ∃ x, runL p [98, 98, 99, 97] = x := ⟨_, rfl⟩
  have HRL := hide1 hrl
  obtain ⟨lv, hlv⟩ : ∃ x, liveP p [98, 98, 99, 97] = x := ⟨_, rfl⟩
  have HLV := hide1 hlv
  clear hck hrl hlv
  have gN0 : (0 : Int) < (N : Int) := by omega
  go_upto_region 5 with fail
  have HB4 := hide1 (fourB W3 97 98 99 97 (4, 5))
  have HG4 := hide1 (heap_alloc_new W3 (.cells #[.int .u8 97, .int .u8 98, .int .u8 99, .int .u8 97] 5 (4, 5)))
  have HK4 := hide1 (kept_allocF (Kept.refl W3) (.cells #[.int .u8 97, .int .u8 98, .int .u8 99, .int .u8 97] 5 (4, 5)))
  obtain ⟨gb, hgb⟩ : ∃ gb, W3.heap.size = gb := ⟨_, rfl⟩
  have HGB := hide1 hgb
  generalize W3.alloc (.cells #[.int .u8 97, .int .u8 98, .int .u8 99, .int .u8 97] 5 (4, 5)) = W4 at HB4 HG4 HK4 ⊢
  rw [hgb] at HB4 HG4 ⊢
  clear hgb
  have HL4 := hide1 (Kept.refl W4)
  obtain ⟨⟨m0, m1, m2, m3, m4, m5⟩, -⟩ := (HBM0.out.keep HK4.out).facts
  go_upto_region 6 with (go_at_call 6; have hcl := ShortestR_is _ (m + 1) p _ _ (kidsAll (HTK.out.kept HK4.out)) (fun _ h => h); rw [HV.out] at hcl; refine hcl.mono ?_; rintro e w5 ⟨⟨vr, rfl, hrow⟩, hk⟩; clear hcl; obtain ⟨ar, cr, er⟩ := hrow.form; subst er; have HK5 := hide1 (gtrans HK4.out hk); have HL5 := hide1 (gtrans HL4.out hk); clear hrow hk)
  clear m0 m1 m2 m3 m4 m5 HK4 HL4
  obtain ⟨⟨m0, m1, m2, m3, m4, m5⟩, -⟩ := (HBM0.out.keep HK5.out).facts
  go_upto_region 7 with (go_at_call 20; have hcl := Print_is _ (m + 1) p _ _ (kidsAll (HTK.out.kept HK5.out)) (fun _ h => h) (HPW.out.keep (gtrans HKW3.out HK5.out)); rw [HV.out] at hcl; refine hcl.mono ?_; rintro e w6a ⟨rfl, hk⟩; clear hcl; have HK6a := hide1 (gtrans HK5.out hk); have HL6a := hide1 (gtrans HL5.out hk); clear hk)
  clear m0 m1 m2 m3 m4 m5 HK5 HL5
  obtain ⟨⟨m0, m1, m2, m3, m4, m5⟩, -⟩ := (HBM0.out.keep HK6a.out).facts
  go_upto_region 8 with (go_at_call 21; have hcl := Longest_is (m + 1) p _ _ _ (kidsAll (HTK.out.kept HK6a.out)) (fun _ h => h) (HT.out.keep (gtrans HKW3.out HK6a.out)) _ _ 4 [97, 98, 99, 97] rfl (bytes_all (bytes_keep HB4.out HL6a.out) (fun d h => Nat.lt_of_lt_of_le h HL6a.out.size)) (by decide); rw [HV.out] at hcl; refine hcl.mono ?_; rintro e w7a ⟨rfl, hk⟩; clear hcl; have HK7a := hide1 (gtrans HK6a.out hk); have HL7a := hide1 (gtrans HL6a.out hk); clear hk)
  clear m0 m1 m2 m3 m4 m5 HK6a HL6a
  obtain ⟨⟨m0, m1, m2, m3, m4, m5⟩, -⟩ := (HBM0.out.keep HK7a.out).facts
  go_upto_region 9 with (go_at_call 22; have hcl := Match_is (m + 1) p _ _ _ (kidsAll (HTK.out.kept HK7a.out)) (fun _ h => h) (HT.out.keep (gtrans HKW3.out HK7a.out)) _ _ 4 [97, 98, 99, 97] rfl (bytes_all (bytes_keep HB4.out HL7a.out) (fun d h => Nat.lt_of_lt_of_le h HL7a.out.size)) (by decide); rw [HV.out] at hcl; refine hcl.mono ?_; rintro e w8 ⟨rfl, hk⟩; clear hcl; have HK8 := hide1 (gtrans HK7a.out hk); have HL8 := hide1 (gtrans HL7a.out hk); clear hk)
  clear m0 m1 m2 m3 m4 m5 HK7a HL7a
  obtain ⟨⟨m0, m1, m2, m3, m4, m5⟩, -⟩ := (HBM0.out.keep HK8.out).facts
  go_upto_region 10 with (go_at_call 23; have hcl := Live_is (m + 1) p _ _ _ (kidsAll (HTK.out.kept HK8.out)) (fun _ h => h) (HT.out.keep (gtrans HKW3.out HK8.out)) _ _ 4 [97, 98, 99, 97] rfl (bytes_all (bytes_keep HB4.out HL8.out) (fun d h => Nat.lt_of_lt_of_le h HL8.out.size)) (by decide); rw [HV.out] at hcl; refine hcl.mono ?_; rintro e w9 ⟨rfl, hk⟩; clear hcl; have HK9 := hide1 (gtrans HK8.out hk); have HL9 := hide1 (gtrans HL8.out hk); clear hk)
  clear m0 m1 m2 m3 m4 m5 HK8 HL8
  obtain ⟨⟨m0, m1, m2, m3, m4, m5⟩, -⟩ := (HBM0.out.keep HK9.out).facts
  go_upto_region 11 with (go_at_call 6; have hcl := ShortestR_is _ (m + 1) p _ _ (kidsAll (HTK.out.kept HK9.out)) (fun _ h => h); rw [HV.out] at hcl; refine hcl.mono ?_; rintro e w10 ⟨⟨vr, rfl, hrow⟩, hk⟩; clear hcl; obtain ⟨ar, cr, er⟩ := hrow.form; subst er; have HK10 := hide1 (gtrans HK9.out hk); have HL10 := hide1 (gtrans HL9.out hk); clear hrow hk)
  clear m0 m1 m2 m3 m4 m5 HK9 HL9
  obtain ⟨cb0, fb0, hb2⟩ := four_set (x := 98) HG4.out rfl HL10.out
  have HB11 := hide1 hb2
  have HK11 : Hid (Kept W3 (w10.setCell ⟨gb, 0, none⟩ (.int .u8 98))) := keep_set HK10.out (by rw [HGB.out]; exact Nat.le_refl _)
  clear hb2
  go_upto_region 12 with fail
  generalize w10.setCell ⟨gb, 0, none⟩ (.int .u8 98) = w11 at HB11 HK11 ⊢
  have HL11 := hide1 (Kept.refl w11)
  clear cb0 fb0 HL10 HK10 HB4 HG4
  obtain ⟨⟨m0, m1, m2, m3, m4, m5⟩, -⟩ := (HBM0.out.keep HK11.out).facts
  go_upto_region 13 with (go_at_call 21; have hcl := Longest_is (m + 1) p _ _ _ (kidsAll (HTK.out.kept HK11.out)) (fun _ h => h) (HT.out.keep (gtrans HKW3.out HK11.out)) _ _ 4 [98, 98, 99, 97] rfl (bytes_all (bytes_keep HB11.out HL11.out) (fun d h => Nat.lt_of_lt_of_le h HL11.out.size)) (by decide); rw [HV.out, HRL.out, HCK.out] at hcl; refine hcl.mono ?_; rintro e w12 ⟨rfl, hk⟩; clear hcl; have HK12 := hide1 (gtrans HK11.out hk); have HL12 := hide1 (gtrans HL11.out hk); clear hk)
  clear m0 m1 m2 m3 m4 m5 HK11 HL11
  obtain ⟨⟨m0, m1, m2, m3, m4, m5⟩, -⟩ := (HBE3.out.keep HK12.out).facts
  go_upto_region 14 with (first
    | (go_at_call 5; have hcl := TwinExprT_is _ m p _ _ (HK.out.kept (gtrans HKW3.out HK12.out)) HB.out HNE.out; rw [HV.out] at hcl; refine hcl.mono ?_; rintro e wt ⟨ht, hkt⟩; clear hcl; obtain ⟨vt, rfl, htt⟩ := ht.out; rw [HV.out]; obtain ⟨at_, ct_, et⟩ := htt.kids.form; subst et; have HTT := hide1 htt.kids; have HKT := hide1 hkt; rw [HN.out] at HTT ⊢; clear ht htt hkt)
    | (go_at_call 21; have hcl := Longest_is (m + 1) p _ _ _ (kidsAll (HTT.out.kept (kept_allocF (Kept.refl _) (.cells #[.int .u8 98, .int .u8 98, .int .u8 99, .int .u8 97] 5 (4, 5))))) (fun _ h => h) (HT.out.keep (gtrans HKW3.out (gtrans HK12.out (kept_allocF HKT.out (.cells #[.int .u8 98, .int .u8 98, .int .u8 99, .int .u8 97] 5 (4, 5)))))) _ _ 4 [98, 98, 99, 97] rfl (fourB wt 98 98 99 97 (4, 5)) (by decide); rw [HV.out, HRL.out, HCK.out] at hcl; refine hcl.mono ?_; rintro e w13 ⟨rfl, hk⟩; clear hcl; have HK13 := hide1 (gtrans HK12.out (gtrans (kept_allocF HKT.out (.cells #[.int .u8 98, .int .u8 98, .int .u8 99, .int .u8 97] 5 (4, 5))) hk)); have HL13 := hide1 (gtrans HL12.out (gtrans (kept_allocF HKT.out (.cells #[.int .u8 98, .int .u8 98, .int .u8 99, .int .u8 97] 5 (4, 5))) hk)); clear hk))
  clear m0 m1 m2 m3 m4 m5 HK12 HL12 HTT HKT
  obtain ⟨⟨m0, m1, m2, m3, m4, m5⟩, -⟩ := (HBM0.out.keep HK13.out).facts
  go_upto_region 15 with (go_at_call 23; have hcl := Live_is (m + 1) p _ _ _ (kidsAll (HTK.out.kept HK13.out)) (fun _ h => h) (HT.out.keep (gtrans HKW3.out HK13.out)) _ _ 4 [98, 98, 99, 97] rfl (bytes_all (bytes_keep HB11.out HL13.out) (fun d h => Nat.lt_of_lt_of_le h HL13.out.size)) (by decide); rw [HV.out, HLV.out, HCK.out] at hcl; refine hcl.mono ?_; rintro e w14 ⟨rfl, hk⟩; clear hcl; have HK14 := hide1 (gtrans HK13.out hk); have HL14 := hide1 (gtrans HL13.out hk); clear hk)
  clear m0 m1 m2 m3 m4 m5 HK13 HL13
  obtain ⟨⟨m0, m1, m2, m3, m4, m5⟩, -⟩ := (HBE3.out.keep HK14.out).facts
  go_upto_region 16 with (first
    | (go_at_call 5; have hcl := TwinExprT_is _ m p _ _ (HK.out.kept (gtrans HKW3.out HK14.out)) HB.out HNE.out; rw [HV.out] at hcl; refine hcl.mono ?_; rintro e wt ⟨ht, hkt⟩; clear hcl; obtain ⟨vt, rfl, htt⟩ := ht.out; rw [HV.out]; obtain ⟨at_, ct_, et⟩ := htt.kids.form; subst et; have HTT := hide1 htt.kids; have HKT := hide1 hkt; rw [HN.out] at HTT ⊢; clear ht htt hkt)
    | (go_at_call 23; have hcl := Live_is (m + 1) p _ _ _ (kidsAll (HTT.out.kept (kept_allocF (Kept.refl _) (.cells #[.int .u8 98, .int .u8 98, .int .u8 99, .int .u8 97] 5 (4, 5))))) (fun _ h => h) (HT.out.keep (gtrans HKW3.out (gtrans HK14.out (kept_allocF HKT.out (.cells #[.int .u8 98, .int .u8 98, .int .u8 99, .int .u8 97] 5 (4, 5)))))) _ _ 4 [98, 98, 99, 97] rfl (fourB wt 98 98 99 97 (4, 5)) (by decide); rw [HV.out, HLV.out, HCK.out] at hcl; refine hcl.mono ?_; rintro e w15 ⟨rfl, hk⟩; clear hcl; have HK15 := hide1 (gtrans HK14.out (gtrans (kept_allocF HKT.out (.cells #[.int .u8 98, .int .u8 98, .int .u8 99, .int .u8 97] 5 (4, 5))) hk)); have HL15 := hide1 (gtrans HL14.out (gtrans (kept_allocF HKT.out (.cells #[.int .u8 98, .int .u8 98, .int .u8 99, .int .u8 97] 5 (4, 5))) hk)); clear hk))
  clear m0 m1 m2 m3 m4 m5 HK14 HL14 HTT HKT
  go_upto_region 18 with fail
  obtain ⟨⟨m0, m1, m2, m3, m4, m5⟩, -⟩ := (HBM0.out.keep HK15.out).facts
  go_upto_region 19 with (go_at_call 6; have hcl := ShortestR_is _ (m + 1) p _ _ (kidsAll (HTK.out.kept HK15.out)) (fun _ h => h); rw [HV.out] at hcl; refine hcl.mono ?_; rintro e w18 ⟨⟨vr, rfl, hrow⟩, hk⟩; clear hcl; obtain ⟨ar, cr, er⟩ := hrow.form; subst er; have HK18 := hide1 (gtrans HK15.out hk); have HL18 := hide1 (gtrans HL15.out hk); clear hrow hk)
  clear m0 m1 m2 m3 m4 m5 HK15 HL15
  obtain ⟨⟨m0, m1, m2, m3, m4, m5⟩, -⟩ := (HBM0.out.keep HK18.out).facts
  go_upto_region 20 with (go_at_call 20; have hcl := Print_is _ (m + 1) p _ _ (kidsAll (HTK.out.kept HK18.out)) (fun _ h => h) (HPW.out.keep (gtrans HKW3.out HK18.out)); rw [HV.out] at hcl; refine hcl.mono ?_; rintro e w19 ⟨rfl, hk⟩; clear hcl; have HK19 := hide1 (gtrans HK18.out hk); have HL19 := hide1 (gtrans HL18.out hk); clear hk)
  clear m0 m1 m2 m3 m4 m5 HK18 HL18
  obtain ⟨⟨m0, m1, m2, m3, m4, m5⟩, -⟩ := (HBM0.out.keep HK19.out).facts
  have HTOP19 := hide1 (HTOP.out.keep HK19.out)
  have hrow : RowAt w19 gt (N + 1) := by
    obtain ⟨g', e', _, _, h2, _⟩ := HTOP19.out
    simp only [Value.slice.injEq, Option.some.injEq, Addr.mk.injEq, and_true] at e'
    obtain ⟨rfl, hn, _⟩ := e'
    rw [← hn] at h2
    exact h2
  obtain ⟨y0, y1, y2, y3, y4, y5, ⟨k0, k1, k2, k3, k4, k5⟩, f0, f1, f2, f3, f4, f5⟩ := row_first hrow (by omega)
  have HT20 := hide1 (HTOP19.out.put (fun e => HNE.out (by rw [e]; rfl)) 98 113)
  have HB20 : Hid (BoxAt ((((((w19.setCell ⟨gt, 0, none⟩ (.int .i64 1)).setCell ⟨gt, 1, none⟩ (.int .i64 98)).setCell ⟨gt, 2, none⟩ (.int .i64 113)).setCell ⟨gt, 3, none⟩ (.int .i64 0)).setCell ⟨gt, 4, none⟩ (.int .i64 0)).setCell ⟨gt, 5, none⟩ (.slice none 0 0)) gm (.int .i64 (kind p)) (.int .i64 (from_ p)) (.int .i64 (to_ p)) (.int .i64 (min_ p)) (.int .i64 (max_ p)) (.slice (some ⟨gt, 0, none⟩) N (N + 1))) := (put6_heap (by have := HGT.out; omega)).trans (HBM0.out.keep HK19.out)
  have HK20 : Hid (Kept w ((((((w19.setCell ⟨gt, 0, none⟩ (.int .i64 1)).setCell ⟨gt, 1, none⟩ (.int .i64 98)).setCell ⟨gt, 2, none⟩ (.int .i64 113)).setCell ⟨gt, 3, none⟩ (.int .i64 0)).setCell ⟨gt, 4, none⟩ (.int .i64 0)).setCell ⟨gt, 5, none⟩ (.slice none 0 0))) := put_kept (o := 0) (gtrans HKW3.out HK19.out) (by have := HGT.out; omega)
  clear hrow HTOP19
  go_upto_region 21 with fail
  generalize ((((((w19.setCell ⟨gt, 0, none⟩ (.int .i64 1)).setCell ⟨gt, 1, none⟩ (.int .i64 98)).setCell ⟨gt, 2, none⟩ (.int .i64 113)).setCell ⟨gt, 3, none⟩ (.int .i64 0)).setCell ⟨gt, 4, none⟩ (.int .i64 0)).setCell ⟨gt, 5, none⟩ (.slice none 0 0)) = W20 at HT20 HB20 HK20 ⊢
  clear m0 m1 m2 m3 m4 m5 y0 y1 y2 y3 y4 y5 k0 k1 k2 k3 k4 k5 f0 f1 f2 f3 f4 f5 HK19 HL19 HTOP HTK HBM0 HBE3 HB11 HK HV HB HCK HRL HLV kc HKW3
  have HV2 : Hid (∀ u, valOf (turnP p) u = .agg #[.int .i64 (kind p), .int .i64 (from_ p), .int .i64 (to_ p), .int .i64 (min_ p), .int .i64 (max_ p), u]) := fun u => rfl
  have HN2 : Hid ((kids (turnP p)).length = N) := by
    show (leafQ m 98 113 :: (kids p).tail).length = N
    rw [List.length_cons, List.length_tail, HN.out]
    omega
  have HTK2 : Hid (KidsAt (fun d => d < W20.heap.size) W20 (m + 1) (kids (turnP p)) (.slice (some ⟨gt, 0, none⟩) N (N + 1))) := kidsAll HT20.out.kids
  clear HT20
  obtain ⟨⟨m0, m1, m2, m3, m4, m5⟩, -⟩ := HB20.out.facts
  go_upto_region 22 with (go_at_call 5; have hcl := TwinExpr_is _ (m + 1) (turnP p) _ _ HTK2.out; rw [HV2.out] at hcl; refine hcl.mono ?_; rintro e wt ⟨ht, hkt⟩; clear hcl; obtain ⟨vt, rfl, htt, -⟩ := ht.out; rw [HV2.out]; obtain ⟨at_, ct_, et⟩ := htt.form; subst et; rw [HN2.out] at htt ⊢; have HTT := hide1 htt; have HKT := hide1 hkt; clear ht htt hkt)
  have HBO := hide1 (BoxAt.new wt (.int .i64 (kind p)) (.int .i64 (from_ p)) (.int .i64 (to_ p)) (.int .i64 (min_ p)) (.int .i64 (max_ p)) (.slice at_ N ct_))
  have HKO := hide1 ((Kept.refl wt).alloc #[.int .i64 (kind p), .int .i64 (from_ p), .int .i64 (to_ p), .int .i64 (min_ p), .int .i64 (max_ p), .slice at_ N ct_] 24)
  obtain ⟨go, hgo⟩ : ∃ go, wt.heap.size = go := ⟨_, rfl⟩
  generalize wt.alloc (.cells #[.int .i64 (kind p), .int .i64 (from_ p), .int .i64 (to_ p), .int .i64 (min_ p), .int .i64 (max_ p), .slice at_ N ct_] 24) = W21 at HBO HKO ⊢
  rw [hgo] at HBO ⊢
  clear hgo m0 m1 m2 m3 m4 m5
  have HBM := hide1 (HB20.out.keep (gtrans HKT.out HKO.out))
  have HKM := hide1 (HTK2.out.kept (gtrans HKT.out HKO.out))
  have HKN := hide1 (HTT.out.kept HKO.out)
  have HKW := hide1 (gtrans HK20.out (gtrans HKT.out HKO.out))
  have HK21 := hide1 (Kept.refl W21)
  clear HTT HKT HKO HB20 HTK2 HK20
  obtain ⟨ck, hck⟩ : ∃ x, checkP (turnP p) = x := ⟨_, rfl⟩
  have HCK := hide1 hck
  obtain ⟨sl, hsl⟩ : ∃ x, shortTop (turnP p) = x := ⟨_, rfl⟩
  have HSL := hide1 hsl
  obtain ⟨ps, hps⟩ : ∃ x, printS (turnP p) = x := ⟨_, rfl⟩
  have HPS := hide1 hps
  obtain ⟨pe, hpe⟩ : ∃ x, printE (turnP p) = x := ⟨_, rfl⟩
  have HPE := hide1 hpe
  obtain ⟨po, hpo⟩ : ∃ x, positionsP (turnP p) = x := ⟨_, rfl⟩
  have HPO := hide1 hpo
  obtain ⟨em, hem⟩ : ∃ x, emptyTop (turnP p) = x := ⟨_, rfl⟩
  have HEM := hide1 hem
  clear hck hsl hps hpe hpo hem
  obtain ⟨⟨m0, m1, m2, m3, m4, m5⟩, -⟩ := (HBM.out.keep HK21.out).facts
  go_upto_region 23 with (go_at_call 6; have hcl := ShortestR_is _ (m + 1) (turnP p) _ _ (kidsAll (HKM.out.kept HK21.out)) (fun _ h => h); rw [HV2.out, HCK.out, HSL.out] at hcl; refine hcl.mono ?_; rintro e w22 ⟨⟨vr, rfl, hrow⟩, hk⟩; clear hcl; obtain ⟨hraa, hrac, er⟩ := hrow.form; subst er; have HRA := hide1 hrow; have HJ22 := hide1 hk; have HK22 := hide1 (gtrans HK21.out hk); clear hrow hk)
  clear m0 m1 m2 m3 m4 m5 HK21
  obtain ⟨⟨m0, m1, m2, m3, m4, m5⟩, -⟩ := (HBO.out.keep HK22.out).facts
  go_upto_region 24 with (go_at_call 6; have hcl := ShortestR_is _ (m + 1) (turnP p) _ _ (kidsAll (HKN.out.kept HK22.out)) (fun _ h => h); rw [HV2.out, HCK.out, HSL.out] at hcl; refine hcl.mono ?_; rintro e w23 ⟨⟨vr, rfl, hrow⟩, hk⟩; clear hcl; obtain ⟨hrba, hrbc, er⟩ := hrow.form; subst er; have HRB := hide1 hrow; have HJ23 := hide1 hk; have HK23 := hide1 (gtrans HK22.out hk); clear hrow hk)
  clear m0 m1 m2 m3 m4 m5 HK22
  obtain ⟨⟨m0, m1, m2, m3, m4, m5⟩, -⟩ := (HBM.out.keep HK23.out).facts
  go_upto_region 25 with (go_at_call 20; have hcl := Print_is _ (m + 1) (turnP p) _ _ (kidsAll (HKM.out.kept HK23.out)) (fun _ h => h) (HPW.out.keep (gtrans HKW.out HK23.out)); rw [HV2.out, HPS.out, HPE.out] at hcl; refine hcl.mono ?_; rintro e w24 ⟨rfl, hk⟩; clear hcl; have HJ24 := hide1 hk; have HK24 := hide1 (gtrans HK23.out hk); clear hk)
  clear m0 m1 m2 m3 m4 m5 HK23
  obtain ⟨⟨m0, m1, m2, m3, m4, m5⟩, -⟩ := (HBO.out.keep HK24.out).facts
  go_upto_region 26 with (go_at_call 20; have hcl := Print_is _ (m + 1) (turnP p) _ _ (kidsAll (HKN.out.kept HK24.out)) (fun _ h => h) (HPW.out.keep (gtrans HKW.out HK24.out)); rw [HV2.out, HPS.out, HPE.out] at hcl; refine hcl.mono ?_; rintro e w25 ⟨rfl, hk⟩; clear hcl; have HJ25 := hide1 hk; have HK25 := hide1 (gtrans HK24.out hk); clear hk)
  clear m0 m1 m2 m3 m4 m5 HK24
  obtain ⟨⟨m0, m1, m2, m3, m4, m5⟩, -⟩ := (HBM.out.keep HK25.out).facts
  go_upto_region 27 with (go_at_call 24; have hcl := Positions_is _ (m + 1) (turnP p) _ _ (kidsAll (HKM.out.kept HK25.out)) (fun _ h => h); rw [HV2.out, HPO.out, HCK.out] at hcl; refine hcl.mono ?_; rintro e w26 ⟨rfl, hk⟩; clear hcl; have HJ26 := hide1 hk; have HK26 := hide1 (gtrans HK25.out hk); clear hk)
  clear m0 m1 m2 m3 m4 m5 HK25
  obtain ⟨⟨m0, m1, m2, m3, m4, m5⟩, -⟩ := (HBO.out.keep HK26.out).facts
  go_upto_region 28 with (go_at_call 24; have hcl := Positions_is _ (m + 1) (turnP p) _ _ (kidsAll (HKN.out.kept HK26.out)) (fun _ h => h); rw [HV2.out, HPO.out, HCK.out] at hcl; refine hcl.mono ?_; rintro e w27 ⟨rfl, hk⟩; clear hcl; have HJ27 := hide1 hk; have HK27 := hide1 (gtrans HK26.out hk); clear hk)
  clear m0 m1 m2 m3 m4 m5 HK26
  have v1 : ∀ W, Kept w27 W → (convert 31 9 (.slice hraa sl.length hrac)).run Tryz.prog W = .ok (.string (strOf sl)) W := fun W hk => conv_row (HRA.out.keep (gtrans HJ23.out (gtrans HJ24.out (gtrans HJ25.out (gtrans HJ26.out (gtrans HJ27.out hk))))))
  have v2 : ∀ W, Kept w27 W → (convert 31 9 (.slice hrba sl.length hrbc)).run Tryz.prog W = .ok (.string (strOf sl)) W := fun W hk => conv_row (HRB.out.keep (gtrans HJ24.out (gtrans HJ25.out (gtrans HJ26.out (gtrans HJ27.out hk)))))
  obtain ⟨sb, hsb⟩ : ∃ sb, strOf sl = sb := ⟨_, rfl⟩
  obtain ⟨sn, hsn⟩ : ∃ sn, sl.length = sn := ⟨_, rfl⟩
  rw [hsb, hsn] at v1 v2
  rw [hsn]
  clear hsb hsn HRA HRB HJ22 HJ23 HJ24 HJ25 HJ26 HJ27
  obtain ⟨⟨m0, m1, m2, m3, m4, m5⟩, -⟩ := (HBM.out.keep HK27.out).facts
  obtain ⟨⟨n0, n1, n2, n3, n4, n5⟩, -⟩ := (HBO.out.keep HK27.out).facts
  clear m0 m1 m2 m3 m4 m5 n0 n1 n2 n3 n4 n5
  go_upto_region 28 with fail
  refine wp_region_held_drew (S := fun w' => Kept w27 w') (by kernel_rfl) (Kept.refl _) (fun hHeld => ?_)
  refine wpAnyH_take (i := 0) (v := .slice hraa sn hrac) rfl (by kernel_rfl) (by kernel_rfl) (by kernel_rfl) (fun _ _ _ h => h) (Or.inl ⟨by rfl, fun w' hSw => ?_⟩) (by with_reducible assumption) ?_
  · clear hSw
    go_simp
  try simp only [Act.put, List.getElem_toArray, List.getElem_cons_succ, List.getElem_cons_zero, List.setIfInBounds_toArray, List.set_cons_zero, List.set_cons_succ]
  refine wpAnyH_take (i := 1) (v := .string sb) rfl (by kernel_rfl) (by kernel_rfl) (by kernel_rfl) (fun _ _ _ h => h) (Or.inl ⟨by rfl, fun w' hSw => ?_⟩) (by with_reducible assumption) ?_
  · have t1 := v1 _ hSw
    go_simp
  try simp only [Act.put, List.getElem_toArray, List.getElem_cons_succ, List.getElem_cons_zero, List.setIfInBounds_toArray, List.set_cons_zero, List.set_cons_succ]
  refine wpAnyH_take (i := 2) (v := .slice hrba sn hrbc) rfl (by kernel_rfl) (by kernel_rfl) (by kernel_rfl) (fun _ _ _ h => h) (Or.inl ⟨by rfl, fun w' hSw => ?_⟩) (by with_reducible assumption) ?_
  · clear hSw
    go_simp
  try simp only [Act.put, List.getElem_toArray, List.getElem_cons_succ, List.getElem_cons_zero, List.setIfInBounds_toArray, List.set_cons_zero, List.set_cons_succ]
  refine wpAnyH_take (i := 3) (v := .string sb) rfl (by kernel_rfl) (by kernel_rfl) (by kernel_rfl) (fun _ _ _ h => h) (Or.inl ⟨by rfl, fun w' hSw => ?_⟩) (by with_reducible assumption) ?_
  · have t1 := v2 _ hSw
    go_simp
  try simp only [Act.put, List.getElem_toArray, List.getElem_cons_succ, List.getElem_cons_zero, List.setIfInBounds_toArray, List.set_cons_zero, List.set_cons_succ]
  refine wpAnyH_take (i := 4) (v := .bool true) rfl (by kernel_rfl) (by kernel_rfl) (by kernel_rfl) (fun _ _ _ h => h) (Or.inl ⟨by rfl, fun w' hSw => ?_⟩) (by with_reducible assumption) ?_
  · clear hSw
    go_simp
  try simp only [Act.put, List.getElem_toArray, List.getElem_cons_succ, List.getElem_cons_zero, List.setIfInBounds_toArray, List.set_cons_zero, List.set_cons_succ]
  refine wpAnyH_take (i := 5) (v := .bool true) rfl (by kernel_rfl) (by kernel_rfl) (by kernel_rfl) (fun _ _ _ h => h) (Or.inl ⟨by rfl, fun w' hSw => ?_⟩) (by with_reducible assumption) ?_
  · clear hSw
    go_simp
  try simp only [Act.put, List.getElem_toArray, List.getElem_cons_succ, List.getElem_cons_zero, List.setIfInBounds_toArray, List.set_cons_zero, List.set_cons_succ]
  refine wpAnyH_take (i := 6) (v := .int .i64 ck) rfl (by kernel_rfl) (by kernel_rfl) (by kernel_rfl) (fun _ _ _ h => h) (Or.inl ⟨by rfl, fun w' hSw => ?_⟩) (by with_reducible assumption) ?_
  · clear hSw
    go_simp
  try simp only [Act.put, List.getElem_toArray, List.getElem_cons_succ, List.getElem_cons_zero, List.setIfInBounds_toArray, List.set_cons_zero, List.set_cons_succ]
  refine wpAnyH_take (i := 7) (v := .int .i64 ck) rfl (by kernel_rfl) (by kernel_rfl) (by kernel_rfl) (fun _ _ _ h => h) (Or.inl ⟨by rfl, fun w' hSw => ?_⟩) (by with_reducible assumption) ?_
  · clear hSw
    go_simp
  try simp only [Act.put, List.getElem_toArray, List.getElem_cons_succ, List.getElem_cons_zero, List.setIfInBounds_toArray, List.set_cons_zero, List.set_cons_succ]
  refine wpAnyH_take (i := 8) (v := .bool true) rfl (by kernel_rfl) (by kernel_rfl) (by kernel_rfl) (fun _ _ _ h => h) (Or.inl ⟨by rfl, fun w' hSw => ?_⟩) (by with_reducible assumption) ?_
  · clear hSw
    go_simp
  try simp only [Act.put, List.getElem_toArray, List.getElem_cons_succ, List.getElem_cons_zero, List.setIfInBounds_toArray, List.set_cons_zero, List.set_cons_succ]
  refine wpAnyH_take (i := 9) (v := .bool true) rfl (by kernel_rfl) (by kernel_rfl) (by kernel_rfl) (fun _ _ _ h => h) (Or.inl ⟨by rfl, fun w' hSw => ?_⟩) (by with_reducible assumption) ?_
  · clear hSw
    go_simp
  try simp only [Act.put, List.getElem_toArray, List.getElem_cons_succ, List.getElem_cons_zero, List.setIfInBounds_toArray, List.set_cons_zero, List.set_cons_succ]
  refine wpAnyH_take (i := 10) (v := .bool true) rfl (by kernel_rfl) (by kernel_rfl) (by kernel_rfl) (fun _ _ _ h => h) (Or.inl ⟨by rfl, fun w' hSw => ?_⟩) (by with_reducible assumption) ?_
  · clear hSw
    go_simp
  try simp only [Act.put, List.getElem_toArray, List.getElem_cons_succ, List.getElem_cons_zero, List.setIfInBounds_toArray, List.set_cons_zero, List.set_cons_succ]
  refine wpAnyH_take (i := 11) (v := .string ps) rfl (by kernel_rfl) (by kernel_rfl) (by kernel_rfl) (fun _ _ _ h => h) (Or.inl ⟨by rfl, fun w' hSw => ?_⟩) (by with_reducible assumption) ?_
  · clear hSw
    go_simp
  try simp only [Act.put, List.getElem_toArray, List.getElem_cons_succ, List.getElem_cons_zero, List.setIfInBounds_toArray, List.set_cons_zero, List.set_cons_succ]
  refine wpAnyH_take (i := 12) (v := .string ps) rfl (by kernel_rfl) (by kernel_rfl) (by kernel_rfl) (fun _ _ _ h => h) (Or.inl ⟨by rfl, fun w' hSw => ?_⟩) (by with_reducible assumption) ?_
  · clear hSw
    go_simp
  try simp only [Act.put, List.getElem_toArray, List.getElem_cons_succ, List.getElem_cons_zero, List.setIfInBounds_toArray, List.set_cons_zero, List.set_cons_succ]
  refine wpAnyH_take (i := 13) (v := .bool true) rfl (by kernel_rfl) (by kernel_rfl) (by kernel_rfl) (fun _ _ _ h => h) (Or.inl ⟨by rfl, fun w' hSw => ?_⟩) (by with_reducible assumption) ?_
  · clear hSw
    go_simp
  try simp only [Act.put, List.getElem_toArray, List.getElem_cons_succ, List.getElem_cons_zero, List.setIfInBounds_toArray, List.set_cons_zero, List.set_cons_succ]
  refine wpAnyH_take (i := 14) (v := .bool true) rfl (by kernel_rfl) (by kernel_rfl) (by kernel_rfl) (fun _ _ _ h => h) (Or.inl ⟨by rfl, fun w' hSw => ?_⟩) (by with_reducible assumption) ?_
  · clear hSw
    go_simp
  try simp only [Act.put, List.getElem_toArray, List.getElem_cons_succ, List.getElem_cons_zero, List.setIfInBounds_toArray, List.set_cons_zero, List.set_cons_succ]
  refine wpAnyH_take (i := 15) (v := .bool true) rfl (by kernel_rfl) (by kernel_rfl) (by kernel_rfl) (fun _ _ _ h => h) (Or.inl ⟨by rfl, fun w' hSw => ?_⟩) (by with_reducible assumption) ?_
  · clear hSw
    go_simp
  try simp only [Act.put, List.getElem_toArray, List.getElem_cons_succ, List.getElem_cons_zero, List.setIfInBounds_toArray, List.set_cons_zero, List.set_cons_succ]
  refine wpAnyH_take (i := 16) (v := .int .i64 pe) rfl (by kernel_rfl) (by kernel_rfl) (by kernel_rfl) (fun _ _ _ h => h) (Or.inl ⟨by rfl, fun w' hSw => ?_⟩) (by with_reducible assumption) ?_
  · clear hSw
    go_simp
  try simp only [Act.put, List.getElem_toArray, List.getElem_cons_succ, List.getElem_cons_zero, List.setIfInBounds_toArray, List.set_cons_zero, List.set_cons_succ]
  refine wpAnyH_take (i := 17) (v := .int .i64 pe) rfl (by kernel_rfl) (by kernel_rfl) (by kernel_rfl) (fun _ _ _ h => h) (Or.inl ⟨by rfl, fun w' hSw => ?_⟩) (by with_reducible assumption) ?_
  · clear hSw
    go_simp
  try simp only [Act.put, List.getElem_toArray, List.getElem_cons_succ, List.getElem_cons_zero, List.setIfInBounds_toArray, List.set_cons_zero, List.set_cons_succ]
  refine wpAnyH_take (i := 18) (v := .bool true) rfl (by kernel_rfl) (by kernel_rfl) (by kernel_rfl) (fun _ _ _ h => h) (Or.inl ⟨by rfl, fun w' hSw => ?_⟩) (by with_reducible assumption) ?_
  · clear hSw
    go_simp
  try simp only [Act.put, List.getElem_toArray, List.getElem_cons_succ, List.getElem_cons_zero, List.setIfInBounds_toArray, List.set_cons_zero, List.set_cons_succ]
  refine wpAnyH_take (i := 19) (v := .bool true) rfl (by kernel_rfl) (by kernel_rfl) (by kernel_rfl) (fun _ _ _ h => h) (Or.inl ⟨by rfl, fun w' hSw => ?_⟩) (by with_reducible assumption) ?_
  · clear hSw
    go_simp
  try simp only [Act.put, List.getElem_toArray, List.getElem_cons_succ, List.getElem_cons_zero, List.setIfInBounds_toArray, List.set_cons_zero, List.set_cons_succ]
  refine wpAnyH_take (i := 20) (v := .bool true) rfl (by kernel_rfl) (by kernel_rfl) (by kernel_rfl) (fun _ _ _ h => h) (Or.inl ⟨by rfl, fun w' hSw => ?_⟩) (by with_reducible assumption) ?_
  · clear hSw
    go_simp
  try simp only [Act.put, List.getElem_toArray, List.getElem_cons_succ, List.getElem_cons_zero, List.setIfInBounds_toArray, List.set_cons_zero, List.set_cons_succ]
  refine wpAnyH_take (i := 21) (v := .int .i64 po) rfl (by kernel_rfl) (by kernel_rfl) (by kernel_rfl) (fun _ _ _ h => h) (Or.inl ⟨by rfl, fun w' hSw => ?_⟩) (by with_reducible assumption) ?_
  · clear hSw
    go_simp
  try simp only [Act.put, List.getElem_toArray, List.getElem_cons_succ, List.getElem_cons_zero, List.setIfInBounds_toArray, List.set_cons_zero, List.set_cons_succ]
  refine wpAnyH_take (i := 22) (v := .int .i64 po) rfl (by kernel_rfl) (by kernel_rfl) (by kernel_rfl) (fun _ _ _ h => h) (Or.inl ⟨by rfl, fun w' hSw => ?_⟩) (by with_reducible assumption) ?_
  · clear hSw
    go_simp
  try simp only [Act.put, List.getElem_toArray, List.getElem_cons_succ, List.getElem_cons_zero, List.setIfInBounds_toArray, List.set_cons_zero, List.set_cons_succ]
  refine wpAnyH_take (i := 23) (v := .bool true) rfl (by kernel_rfl) (by kernel_rfl) (by kernel_rfl) (fun _ _ _ h => h) (Or.inl ⟨by rfl, fun w' hSw => ?_⟩) (by with_reducible assumption) ?_
  · clear hSw
    go_simp
  try simp only [Act.put, List.getElem_toArray, List.getElem_cons_succ, List.getElem_cons_zero, List.setIfInBounds_toArray, List.set_cons_zero, List.set_cons_succ]
  refine wpAnyH_take (i := 24) (v := .bool true) rfl (by kernel_rfl) (by kernel_rfl) (by kernel_rfl) (fun _ _ _ h => h) (Or.inl ⟨by rfl, fun w' hSw => ?_⟩) (by with_reducible assumption) ?_
  · clear hSw
    go_simp
  try simp only [Act.put, List.getElem_toArray, List.getElem_cons_succ, List.getElem_cons_zero, List.setIfInBounds_toArray, List.set_cons_zero, List.set_cons_succ]
  refine wpAnyH_take (i := 25) (v := .bool true) rfl (by kernel_rfl) (by kernel_rfl) (by kernel_rfl) (fun _ _ _ h => h) (Or.inl ⟨by rfl, fun w' hSw => ?_⟩) (by with_reducible assumption) ?_
  · clear hSw
    go_simp
  try simp only [Act.put, List.getElem_toArray, List.getElem_cons_succ, List.getElem_cons_zero, List.setIfInBounds_toArray, List.set_cons_zero, List.set_cons_succ]
  refine wpAnyH_take (i := 26) (v := .int .i64 ck) rfl (by kernel_rfl) (by kernel_rfl) (by kernel_rfl) (fun _ _ _ h => h) (Or.inl ⟨by rfl, fun w' hSw => ?_⟩) (by with_reducible assumption) ?_
  · clear hSw
    go_simp
  try simp only [Act.put, List.getElem_toArray, List.getElem_cons_succ, List.getElem_cons_zero, List.setIfInBounds_toArray, List.set_cons_zero, List.set_cons_succ]
  refine wpAnyH_take (i := 27) (v := .int .i64 ck) rfl (by kernel_rfl) (by kernel_rfl) (by kernel_rfl) (fun _ _ _ h => h) (Or.inl ⟨by rfl, fun w' hSw => ?_⟩) (by with_reducible assumption) ?_
  · clear hSw
    go_simp
  try simp only [Act.put, List.getElem_toArray, List.getElem_cons_succ, List.getElem_cons_zero, List.setIfInBounds_toArray, List.set_cons_zero, List.set_cons_succ]
  refine wpAnyH_take (i := 28) (v := .bool true) rfl (by kernel_rfl) (by kernel_rfl) (by kernel_rfl) (fun _ _ _ h => h) (Or.inl ⟨by rfl, fun w' hSw => ?_⟩) (by with_reducible assumption) ?_
  · clear hSw
    go_simp
  try simp only [Act.put, List.getElem_toArray, List.getElem_cons_succ, List.getElem_cons_zero, List.setIfInBounds_toArray, List.set_cons_zero, List.set_cons_succ]
  refine wpAnyH_take (i := 29) (v := .bool true) rfl (by kernel_rfl) (by kernel_rfl) (by kernel_rfl) (fun _ _ _ h => h) (Or.inl ⟨by rfl, fun w' hSw => ?_⟩) (by with_reducible assumption) ?_
  · clear hSw
    go_simp
  try simp only [Act.put, List.getElem_toArray, List.getElem_cons_succ, List.getElem_cons_zero, List.setIfInBounds_toArray, List.set_cons_zero, List.set_cons_succ]
  refine wpAnyH_take (i := 30) (v := .bool true) rfl (by kernel_rfl) (by kernel_rfl) (by kernel_rfl) (fun _ _ _ h => h) (Or.inl ⟨by rfl, fun w' hSw => ?_⟩) (by with_reducible assumption) ?_
  · clear hSw
    go_simp
  try simp only [Act.put, List.getElem_toArray, List.getElem_cons_succ, List.getElem_cons_zero, List.setIfInBounds_toArray, List.set_cons_zero, List.set_cons_succ]
  refine wpAnyH_take (i := 31) (v := .agg #[.int .i64 (kind p), .int .i64 (from_ p), .int .i64 (to_ p), .int .i64 (min_ p), .int .i64 (max_ p), .slice (some ⟨gt, 0, none⟩) N (N + 1)]) rfl (by kernel_rfl) (by kernel_rfl) (by kernel_rfl) (fun _ _ _ h => h) (Or.inl ⟨by rfl, fun w' hSw => ?_⟩) (by with_reducible assumption) ?_
  · obtain ⟨⟨t0, t1, t2, t3, t4, t5⟩, -⟩ := (HBM.out.keep (gtrans HK27.out hSw)).facts
    go_simp
  try simp only [Act.put, List.getElem_toArray, List.getElem_cons_succ, List.getElem_cons_zero, List.setIfInBounds_toArray, List.set_cons_zero, List.set_cons_succ]
  refine wpAnyH_take (i := 33) (v := .agg #[.int .i64 (kind p), .int .i64 (from_ p), .int .i64 (to_ p), .int .i64 (min_ p), .int .i64 (max_ p), .slice at_ N ct_]) rfl (by kernel_rfl) (by kernel_rfl) (by kernel_rfl) (fun _ _ _ h => h) (Or.inl ⟨by rfl, fun w' hSw => ?_⟩) (by with_reducible assumption) ?_
  · obtain ⟨⟨t0, t1, t2, t3, t4, t5⟩, -⟩ := (HBO.out.keep (gtrans HK27.out hSw)).facts
    go_simp
  try simp only [Act.put, List.getElem_toArray, List.getElem_cons_succ, List.getElem_cons_zero, List.setIfInBounds_toArray, List.set_cons_zero, List.set_cons_succ]
  refine wpAnyH_ready (rs := [32]) (by kernel_rfl) (by simp) ?_
  refine AllReadyH.cons (i := 32) rfl (fun K hK => ?_) AllReadyH.nil
  go_simp
  have hcl := Empty_is _ (m + 1) (turnP p) _ _ (kidsAll (HKM.out.kept (gtrans HK27.out hHeld))) (fun _ h => h)
  rw [HV2.out, HEM.out] at hcl
  refine hcl.mono ?_
  rintro e w28 ⟨rfl, hk8⟩
  clear hcl
  refine hK.out _ _ (gtrans hHeld hk8) (fun hHeldN => ?_)
  clear hK K hk8 hHeld
  have hHeld := hHeldN
  clear hHeldN
  try simp only [Act.put, List.getElem_toArray, List.getElem_cons_succ, List.getElem_cons_zero, List.setIfInBounds_toArray, List.set_cons_zero, List.set_cons_succ]
  refine wpAnyH_ready (rs := [34]) (by kernel_rfl) (by simp) ?_
  refine AllReadyH.cons (i := 34) rfl (fun K hK => ?_) AllReadyH.nil
  go_simp
  have hcl := Empty_is _ (m + 1) (turnP p) _ _ (kidsAll (HKN.out.kept (gtrans HK27.out hHeld))) (fun _ h => h)
  rw [HV2.out, HEM.out] at hcl
  refine hcl.mono ?_
  rintro e w29 ⟨rfl, hk8⟩
  clear hcl
  refine hK.out _ _ (gtrans hHeld hk8) (fun hHeldN => ?_)
  clear hK K hk8 hHeld
  have hHeld := hHeldN
  clear hHeldN
  try simp only [Act.put, List.getElem_toArray, List.getElem_cons_succ, List.getElem_cons_zero, List.setIfInBounds_toArray, List.set_cons_zero, List.set_cons_succ]
  refine wpAnyH_take (i := 35) (v := .bool true) rfl (by kernel_rfl) (by kernel_rfl) (by kernel_rfl) (fun _ _ _ h => h) (Or.inl ⟨by rfl, fun w' hSw => ?_⟩) (by with_reducible assumption) ?_
  · clear hSw
    go_simp
  try simp only [Act.put, List.getElem_toArray, List.getElem_cons_succ, List.getElem_cons_zero, List.setIfInBounds_toArray, List.set_cons_zero, List.set_cons_succ]
  refine wpAnyH_take (i := 36) (v := .bool true) rfl (by kernel_rfl) (by kernel_rfl) (by kernel_rfl) (fun _ _ _ h => h) (Or.inl ⟨by rfl, fun w' hSw => ?_⟩) (by with_reducible assumption) ?_
  · clear hSw
    go_simp
  try simp only [Act.put, List.getElem_toArray, List.getElem_cons_succ, List.getElem_cons_zero, List.setIfInBounds_toArray, List.set_cons_zero, List.set_cons_succ]
  refine wpAnyH_take (i := 37) (v := .bool true) rfl (by kernel_rfl) (by kernel_rfl) (by kernel_rfl) (fun _ _ _ h => h) (Or.inl ⟨by rfl, fun w' hSw => ?_⟩) (by with_reducible assumption) ?_
  · clear hSw
    go_simp
  try simp only [Act.put, List.getElem_toArray, List.getElem_cons_succ, List.getElem_cons_zero, List.setIfInBounds_toArray, List.set_cons_zero, List.set_cons_succ]
  refine wpAnyH_take (i := 38) (v := .agg #[.int .i64 (kind p), .int .i64 (from_ p), .int .i64 (to_ p), .int .i64 (min_ p), .int .i64 (max_ p), .slice (some ⟨gt, 0, none⟩) N (N + 1)]) rfl (by kernel_rfl) (by kernel_rfl) (by kernel_rfl) (fun _ _ _ h => h) (Or.inl ⟨by rfl, fun w' hSw => ?_⟩) (by with_reducible assumption) ?_
  · obtain ⟨⟨t0, t1, t2, t3, t4, t5⟩, -⟩ := (HBM.out.keep (gtrans HK27.out hSw)).facts
    go_simp
  try simp only [Act.put, List.getElem_toArray, List.getElem_cons_succ, List.getElem_cons_zero, List.setIfInBounds_toArray, List.set_cons_zero, List.set_cons_succ]
  refine wpAnyH_take (i := 40) (v := .agg #[.int .i64 (kind p), .int .i64 (from_ p), .int .i64 (to_ p), .int .i64 (min_ p), .int .i64 (max_ p), .slice at_ N ct_]) rfl (by kernel_rfl) (by kernel_rfl) (by kernel_rfl) (fun _ _ _ h => h) (Or.inl ⟨by rfl, fun w' hSw => ?_⟩) (by with_reducible assumption) ?_
  · obtain ⟨⟨t0, t1, t2, t3, t4, t5⟩, -⟩ := (HBO.out.keep (gtrans HK27.out hSw)).facts
    go_simp
  try simp only [Act.put, List.getElem_toArray, List.getElem_cons_succ, List.getElem_cons_zero, List.setIfInBounds_toArray, List.set_cons_zero, List.set_cons_succ]
  refine wpAnyH_ready (rs := [39]) (by kernel_rfl) (by simp) ?_
  refine AllReadyH.cons (i := 39) rfl (fun K hK => ?_) AllReadyH.nil
  go_simp
  have hcl := Check_is _ (m + 1) (turnP p) _ _ (kidsAll (HKM.out.kept (gtrans HK27.out hHeld))) (fun _ h => h)
  rw [HV2.out, HCK.out] at hcl
  refine hcl.mono ?_
  rintro e w30 ⟨rfl, hk8⟩
  clear hcl
  refine hK.out _ _ (gtrans hHeld hk8) (fun hHeldN => ?_)
  clear hK K hk8 hHeld
  have hHeld := hHeldN
  clear hHeldN
  try simp only [Act.put, List.getElem_toArray, List.getElem_cons_succ, List.getElem_cons_zero, List.setIfInBounds_toArray, List.set_cons_zero, List.set_cons_succ]
  refine wpAnyH_ready (rs := [41]) (by kernel_rfl) (by simp) ?_
  refine AllReadyH.cons (i := 41) rfl (fun K hK => ?_) AllReadyH.nil
  go_simp
  have hcl := Check_is _ (m + 1) (turnP p) _ _ (kidsAll (HKN.out.kept (gtrans HK27.out hHeld))) (fun _ h => h)
  rw [HV2.out, HCK.out] at hcl
  refine hcl.mono ?_
  rintro e w31 ⟨rfl, hk8⟩
  clear hcl
  refine hK.out _ _ (gtrans hHeld hk8) (fun hHeldN => ?_)
  clear hK K hk8 hHeld
  have hHeld := hHeldN
  clear hHeldN
  try simp only [Act.put, List.getElem_toArray, List.getElem_cons_succ, List.getElem_cons_zero, List.setIfInBounds_toArray, List.set_cons_zero, List.set_cons_succ]
  refine wpAnyH_take (i := 42) (v := .bool true) rfl (by kernel_rfl) (by kernel_rfl) (by kernel_rfl) (fun _ _ _ h => h) (Or.inl ⟨by rfl, fun w' hSw => ?_⟩) (by with_reducible assumption) ?_
  · clear hSw
    go_simp
  try simp only [Act.put, List.getElem_toArray, List.getElem_cons_succ, List.getElem_cons_zero, List.setIfInBounds_toArray, List.set_cons_zero, List.set_cons_succ]
  refine wpAnyH_take (i := 43) (v := .bool true) rfl (by kernel_rfl) (by kernel_rfl) (by kernel_rfl) (fun _ _ _ h => h) (Or.inl ⟨by rfl, fun w' hSw => ?_⟩) (by with_reducible assumption) ?_
  · clear hSw
    go_simp
  try simp only [Act.put, List.getElem_toArray, List.getElem_cons_succ, List.getElem_cons_zero, List.setIfInBounds_toArray, List.set_cons_zero, List.set_cons_succ]
  refine wpAnyH_take (i := 44) (v := .bool true) rfl (by kernel_rfl) (by kernel_rfl) (by kernel_rfl) (fun _ _ _ h => h) (Or.inl ⟨by rfl, fun w' hSw => ?_⟩) (by with_reducible assumption) ?_
  · clear hSw
    go_simp
  try simp only [Act.put, List.getElem_toArray, List.getElem_cons_succ, List.getElem_cons_zero, List.setIfInBounds_toArray, List.set_cons_zero, List.set_cons_succ]
  refine wpAnyH_done (by kernel_rfl) ?_ _
  go_wp2_with fail
  go_ret
  exact ⟨rfl, gtrans HKW.out (gtrans HK27.out hHeld)⟩
end Ex
end Go.Proofs.YtfajoknacfjedaaGreatDoor
