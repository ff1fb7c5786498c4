import Derived.Test.YtfajoknacfjedaaGreatDoorMExRdC
import Derived.Deep.DeepMust
import Derived.OwnWalk
namespace Go.Proofs.YtfajoknacfjedaaGreatDoor
open Go.RowKit
attribute [local go_sem] Oper.semAt_some
namespace Ex

/-- What shortest does at one pattern. -/
def ShortCO (n : Nat) (q : PatN (n + 1)) : Prop := ∀ (S : Nat → Prop) (v : Value) (w : World), KidsAt S w n (kids q) v →
  Calls Tryz.prog 17 #[valOf q v] w fun e w' => (∃ vr, e = .returned vr ∧ RowO w' w.heap.size vr (shortA (n + 1) q)) ∧ Kept w w'
def BestLO (n : Nat) (L : List (PatN (n + 1))) (m : Nat) (w : World) (b i : Value) (wr : World) : Prop :=
  ∃ (j : Nat) (B : List Int), i = .int .i64 (j : Int) ∧ j ≤ m ∧ Hid (bestOf ((L.take (j + 1)).map (shortA (n + 1))) = B) ∧ Hid (Kept w wr) ∧ Hid (∀ z ∈ B, IsB z) ∧ RowO wr w.heap.size b B
set_option linter.unusedSimpArgs false in
set_option maxRecDepth 100000 in
set_option maxHeartbeats 4000000 in
theorem shortestOfO_is (n : Nat) (L : List (PatN (n + 1))) (hL : 2 ≤ L.length) (ih : ∀ q ∈ L, ShortCO n q) (hB : ∀ q ∈ L, ∀ z ∈ shortA (n + 1) q, IsB z) (S : Nat → Prop) (v : Value) (w : World) (h : KidsAt S w (n + 1) L v) :
    Calls Tryz.prog 29 #[v] w fun e w' => (∃ vr, e = .returned vr ∧ RowO w' w.heap.size vr (bestOf (L.map (shortA (n + 1))))) ∧ Kept w w' := by
  have IH := hide1 ih
  have HB := hide1 hB
  have HK := hide1 h
  obtain ⟨a, cap, rfl, hlc, hcm, h4⟩ := h
  obtain ⟨m, hm⟩ : ∃ m, L.length = m + 1 := ⟨L.length - 1, by omega⟩
  have HM := hide1 hm
  rcases h4 with h4 | ⟨c, o, rfl, hSc, h7⟩
  · rw [h4] at hL; simp at hL
  have H7 := hide1 h7
  rw [hm] at hlc hcm ⊢
  have gm : (1 : Int) ≤ (m : Int) := by omega
  have gl : (m : Int) + 1 ≤ 17592186044416 := by omega
  have gc : (m : Int) + 1 ≤ (cap : Int) := by omega
  obtain ⟨q, hq⟩ : ∃ q, L[0]? = some q := ⟨_, List.getElem?_eq_getElem (by omega)⟩
  obtain ⟨v', g0, g1, g2, g3, g4, g5, g6⟩ := h7 0 q hq
  obtain ⟨a3, cap3, rfl⟩ := g6.form
  simp only [Nat.zero_mul, Nat.add_zero] at g0 g1 g2 g3 g4 g5
  have HG6 := hide1 g6
  have HIQ := hide1 (ih q (List.mem_of_getElem? hq))
  have hbq := hB q (List.mem_of_getElem? hq)
  obtain ⟨B0, hB0⟩ : ∃ B0, shortA (n + 1) q = B0 := ⟨_, rfl⟩
  have HB0 := hide1 hB0
  have HBB : Hid (bestOf ((L.take (0 + 1)).map (shortA (n + 1))) = B0) := by
    show _ = _
    cases L with
    | nil => simp at hq
    | cons x L => simp at hq; subst hq; simpa [bestOf] using hB0
  have HBY : Hid (∀ z ∈ B0, IsB z) := by rw [← hB0]; exact hbq
  clear h7 g6 hq hm ih hB hL hbq hB0 hlc hcm
  go_enter Tryz.func29, Tryz.ntmps29
  go_wp2_with (go_at_call 17; refine (HIQ.out S _ _ HG6.out).mono ?_; rintro e w6 ⟨⟨v6, rfl, hr6⟩, hk6⟩; rw [HB0.out] at hr6; obtain ⟨a6, c6, e6⟩ := hr6.form; subst e6; have HR6 := hide1 hr6; have HK6 := hide1 hk6; clear hr6 hk6)
  go_loopw [3, 14] (BestLO n L m w) (fun _ i _ => m - (intOf i).toNat)
  case atStart => exact ⟨0, B0, rfl, Nat.zero_le _, HBB, HK6, HBY, HR6.out⟩
  case round =>
    obtain ⟨j, B, rfl, hj, HBj, HKr, HBy, hrow⟩ := hrel
    obtain ⟨ab, cb, eb⟩ := hrow.form
    obtain ⟨nb, hnb⟩ : ∃ nb, B.length = nb := ⟨_, rfl⟩
    rw [hnb] at eb
    subst eb
    have HNB := hide1 hnb
    clear hnb
    have HRB := hide1 hrow
    clear hrow
    by_cases hlt : (j : Int) < (m : Int)
    · obtain ⟨q2, hq2⟩ : ∃ q2, L[j + 1]? = some q2 := ⟨_, List.getElem?_eq_getElem (by have := HM.out; omega)⟩
      obtain ⟨v', f0, f1, f2, f3, f4, f5, f6⟩ := H7.out (j + 1) q2 hq2
      obtain ⟨a4, cap4, rfl⟩ := f6.form
      have e6 : o + (j + 1) * 6 = o + 6 + j * 6 := by omega
      rw [e6] at f0 f1 f2 f3 f4 f5
      have t0 := grown_cell HKr.out f0
      have t1 := grown_cell HKr.out f1
      have t2 := grown_cell HKr.out f2
      have t3 := grown_cell HKr.out f3
      have t4 := grown_cell HKr.out f4
      have t5 := grown_cell HKr.out f5
      have HG2 := hide1 (f6.kept HKr.out)
      have HI2 := hide1 (IH.out q2 (List.mem_of_getElem? hq2))
      have HQ2 := hide1 hq2
      obtain ⟨Y, hY⟩ : ∃ Y, shortA (n + 1) q2 = Y := ⟨_, rfl⟩
      have HYB : Hid (∀ z ∈ Y, IsB z) := by rw [← hY]; exact HB.out q2 (List.mem_of_getElem? hq2)
      have HY := hide1 hY
      obtain ⟨ny, hny⟩ : ∃ ny, Y.length = ny := ⟨_, rfl⟩
      have HNY := hide1 hny
      clear hny
      clear hq2 hY e6 f0 f1 f2 f3 f4 f5 f6 g0 g1 g2 g3 g4 g5
      by_cases hl1 : (ny : Int) < (nb : Int)
      · have HSH : Hid (shorter Y B = true) := shorter_lt (by rw [HNY.out, HNB.out]; omega)
        go_wp2_with (go_at_call 17; refine (HI2.out S _ _ (HG2.out.kept ((Kept.refl wr).alloc _ _))).mono ?_; rintro e w7 ⟨⟨v7, rfl, hr7⟩, hk7⟩; rw [HY.out] at hr7; obtain ⟨a7, c7, e7⟩ := hr7.form; rw [HNY.out] at e7; subst e7; have HR7 := hide1 (hr7.low (b' := wr.heap.size) ((Kept.refl wr).alloc _ _).size); have HK7 := hide1 (gtrans ((Kept.refl wr).alloc _ _) hk7); clear hr7 hk7)
        go_roundw
        case rel =>
          refine ⟨j + 1, Y, by go_num, by omega, ?_, gtrans HKr.out HK7.out, HYB, RowO.low HR7.out HKr.out.size⟩
          show bestOf _ = _
          rw [best_take HQ2.out (by omega), HBj.out, HY.out, HSH.out]
          rfl
        case measure => simp [intOf]; omega
      · by_cases hl2 : ny = nb
        · subst hl2
          have hle := shorter_eq (HNY.out.trans HNB.out.symm)
          rw [← comp_u8 Y B HYB.out HBy.out] at hle
          obtain ⟨kc, hkc⟩ : ∃ kc, Lib.compareBytes (u8s Y) (u8s B) = kc := ⟨_, rfl⟩
          have HCM := hide1 hkc
          rw [hkc] at hle
          have HLE := hide1 hle
          clear hle hkc hl1
          by_cases hkn : kc < 0
          · have HSH : Hid (shorter Y B = true) := by show _ = _; rw [HLE.out]; simpa using hkn
            go_wp2_with (first
              | (go_at_call 40; refine (compare_is _ _ _ _ _ _ _ _ Y B _ HNY.out HNB.out HR7.out.row (HRB.out.keep HK7.out).row).mono ?_; rintro e w8 ⟨rfl, hw8⟩; have hw9 := hw8.symm; subst hw9; rw [HCM.out])
              | (go_at_call 17; refine (HI2.out S _ _ (HG2.out.kept ((Kept.refl wr).alloc _ _))).mono ?_; rintro e w7 ⟨⟨v7, rfl, hr7⟩, hk7⟩; rw [HY.out] at hr7; obtain ⟨a7, c7, e7⟩ := hr7.form; rw [HNY.out] at e7; subst e7; have HR7 := hide1 (hr7.low (b' := wr.heap.size) ((Kept.refl wr).alloc _ _).size); have HK7 := hide1 (gtrans ((Kept.refl wr).alloc _ _) hk7); clear hr7 hk7))
            go_roundw
            case rel =>
              refine ⟨j + 1, Y, by go_num, by omega, ?_, gtrans HKr.out HK7.out, HYB, RowO.low HR7.out HKr.out.size⟩
              show bestOf _ = _
              rw [best_take HQ2.out (by omega), HBj.out, HY.out, HSH.out]
              rfl
            case measure => simp [intOf]; omega
          · have HNK := hide1 hkn
            have hkd : decide (kc < 0) = false := by simpa using hkn
            go_wp2_with (first
              | (go_at_call 40; refine (compare_is _ _ _ _ _ _ _ _ Y B _ HNY.out HNB.out HR7.out.row (HRB.out.keep HK7.out).row).mono ?_; rintro e w8 ⟨rfl, hw8⟩; have hw9 := hw8.symm; subst hw9; rw [HCM.out])
              | (go_at_call 17; refine (HI2.out S _ _ (HG2.out.kept ((Kept.refl wr).alloc _ _))).mono ?_; rintro e w7 ⟨⟨v7, rfl, hr7⟩, hk7⟩; rw [HY.out] at hr7; obtain ⟨a7, c7, e7⟩ := hr7.form; rw [HNY.out] at e7; subst e7; have HR7 := hide1 (hr7.low (b' := wr.heap.size) ((Kept.refl wr).alloc _ _).size); have HK7 := hide1 (gtrans ((Kept.refl wr).alloc _ _) hk7); clear hr7 hk7))
            have HSH : Hid (shorter Y B = false) := by show _ = _; rw [HLE.out]; simpa using HNK.out
            go_roundw
            case rel =>
              refine ⟨j + 1, B, by go_num, by omega, ?_, gtrans HKr.out HK7.out, HBy, HRB.out.keep HK7.out⟩
              show bestOf _ = _
              rw [best_take HQ2.out (by omega), HBj.out, HY.out, HSH.out]
              rfl
            case measure => simp [intOf]; omega
        · have hne : ((ny : Int) == (nb : Int)) = false := by simp; omega
          have hld : decide (ny < nb) = false := by simp; omega
          have hln : nb ≤ ny := by omega
          have hnn : ¬ ny = nb := hl2
          have HGT : Hid (nb < ny) := (show nb < ny by omega)
          clear hl2 hl1
          go_wp2_with (go_at_call 17; refine (HI2.out S _ _ (HG2.out.kept ((Kept.refl wr).alloc _ _))).mono ?_; rintro e w7 ⟨⟨v7, rfl, hr7⟩, hk7⟩; rw [HY.out] at hr7; obtain ⟨a7, c7, e7⟩ := hr7.form; rw [HNY.out] at e7; subst e7; have HR7 := hide1 (hr7.low (b' := wr.heap.size) ((Kept.refl wr).alloc _ _).size); have HK7 := hide1 (gtrans ((Kept.refl wr).alloc _ _) hk7); clear hr7 hk7)
          have HSH : Hid (shorter Y B = false) := shorter_gt (by rw [HNY.out, HNB.out]; exact HGT.out)
          go_roundw
          case rel =>
            refine ⟨j + 1, B, by go_num, by omega, ?_, gtrans HKr.out HK7.out, HBy, HRB.out.keep HK7.out⟩
            show bestOf _ = _
            rw [best_take HQ2.out (by omega), HBj.out, HY.out, HSH.out]
            rfl
          case measure => simp [intOf]; omega
    · obtain rfl : j = m := by omega
      go_wp2_with fail
      go_ret
      refine ⟨⟨_, rfl, ?_⟩, HKr.out⟩
      have e := HBj.out
      rw [List.take_of_length_le (by rw [HM.out]; exact Nat.le_refl _)] at e
      rw [e]
      exact HRB.out

end Ex
end Go.Proofs.YtfajoknacfjedaaGreatDoor
namespace Go.Proofs.YtfajoknacfjedaaGreatDoor
open Go.RowKit
attribute [local go_sem] Oper.semAt_some
namespace Ex

def ShortNO : (n : Nat) → PatN n → Prop
  | 0, _ => True
  | n + 1, q => ShortCO n q
set_option linter.unusedSimpArgs false in
set_option maxRecDepth 100000 in
set_option maxHeartbeats 1000000 in
theorem shortO_step (n : Nat) (p : PatN (n + 1)) (hr : rightP (n + 1) p = true) (hp : posP (n + 1) p ≤ 4096) (ih : (kind p = 4 → min_ p ≠ 0) → ∀ q ∈ kids p, ShortNO n q) : ShortCO n p := by
  intro S v w h
  have hlen := short_len (n + 1) p hr hp
  have IH := hide1 ih
  have HK := hide1 h
  have HRK : Hid (∀ q ∈ kids p, rightP n q = true) := by
    have h' : (topOf p && (kids p).all (rightP n)) = true := hr
    rw [Bool.and_eq_true] at h'
    exact List.all_eq_true.1 h'.2
  have htop : topOf p = true := by
    have h' : (topOf p && (kids p).all (rightP n)) = true := hr
    rw [Bool.and_eq_true] at h'
    exact h'.1
  have HONE : Hid (kind p = 4 → (kids p).length = 1) := fun hk => right_one hr hk
  obtain ⟨a, cap, rfl⟩ := h.form
  rw [valOf_eq]
  have HSA : Hid (shortA (n + 1) p = if kind p = 1 then [from_ p] else if kind p = 3 then bestOf ((kids p).map (shortA n)) else if kind p = 4 then (List.replicate (min_ p).toNat (((kids p).take 1).flatMap (shortA n))).flatten else (kids p).flatMap (shortA n)) := rfl
  unfold topOf topP at htop
  clear hr ih h
  go_enter Tryz.func17, Tryz.ntmps17
  by_cases hk1 : kind p = 1
  · rw [if_pos hk1] at htop HSA
    have ek : (kind p == 1) = true := by simpa using hk1
    simp at htop
    have hw8 : IntKind.u8.wrap (from_ p) = from_ p := by rw [IntKind.wrap_u8]; omega
    have HK1 := hide1 hk1
    clear hk1 htop hlen hp
    go_wp2_with fail
    go_ret
    rw [HSA.out]
    exact ⟨⟨_, rfl, one_rowO _ _ _ _ (by simp) (by omega)⟩, ((Kept.refl w).alloc _ _).alloc _ _⟩
  · rw [if_neg hk1] at htop HSA
    have ek : (kind p == 1) = false := by simpa using hk1
    by_cases hk3 : kind p = 3
    · rw [if_neg (by omega), if_pos hk3] at htop
      rw [if_pos hk3] at HSA
      have e3 : (kind p == 3) = true := by simpa using hk3
      simp at htop
      have HIH := hide1 (IH.out (fun e => absurd e (by omega)))
      cases n with
      | zero => rw [none_of (kids p)] at htop; simp at htop
      | succ n =>
        have HL2 : Hid (2 ≤ (kids p).length) := by show _ ≤ _; omega
        clear hk1 hk3 htop hlen hp
        go_wp2_with (go_at_call 29; refine (shortestOfO_is n (kids p) HL2.out HIH.out (fun q hq => short_bytes _ q (HRK.out q hq)) S _ _ (HK.out.kept ((Kept.refl w).alloc _ _))).mono ?_; rintro e w6 ⟨⟨v6, rfl, hr6⟩, hk6⟩; have HR6 := hide1 hr6; have HK6 := hide1 (gtrans ((Kept.refl w).alloc _ _) hk6); have HS6 := hide1 (hr6.low (b' := w.heap.size) ((Kept.refl w).alloc _ _).size); clear hr6 hk6)
        go_ret
        rw [HSA.out]
        exact ⟨⟨_, rfl, HS6.out⟩, HK6.out⟩
    · rw [if_neg hk3] at HSA
      have e3 : (kind p == 3) = false := by simpa using hk3
      by_cases hk4 : kind p = 4
      · rw [if_pos hk4] at HSA
        have e4 : (kind p == 4) = true := by simpa using hk4
        rw [if_neg (by omega), if_neg hk3, if_pos hk4] at htop
        simp [timesP] at htop
        obtain ⟨mn, hmn⟩ : ∃ mn : Nat, min_ p = (mn : Int) := ⟨(min_ p).toNat, by omega⟩
        rw [hmn] at htop ⊢
        have HSB : Hid (shortA (n + 1) p = (List.replicate mn (((kids p).take 1).flatMap (shortA n))).flatten) := by
          have e := HSA.out
          rw [hmn, Int.toNat_natCast] at e
          exact e
        by_cases hm0 : mn = 0
        · subst hm0
          have HSC : Hid (shortA (n + 1) p = []) := by show _ = _; rw [HSB.out]; rfl
          clear hk1 hk3 hk4 htop hlen hp
          go_wp2_with fail
          go_ret
          rw [HSC.out]
          exact ⟨⟨_, rfl, RowO.nil0 _ _⟩, (Kept.refl w).alloc _ _⟩
        · have HIH := hide1 (IH.out (fun _ => by omega))
          obtain ⟨q, hq⟩ := List.length_eq_one_iff.1 (HONE.out hk4)
          cases n with
          | zero => exact (show Empty from q).elim
          | succ n =>
            have HIQ : Hid (ShortCO n q) := HIH.out q (by rw [hq]; exact List.mem_cons_self ..)
            obtain ⟨Y, hY⟩ : ∃ Y, shortA (n + 1) q = Y := ⟨_, rfl⟩
            have HY := hide1 hY
            have HSC : Hid (shortA (n + 1 + 1) p = (List.replicate mn Y).flatten) := by
              show _ = _
              rw [HSB.out, hq, ← hY]
              simp
            have hYl : mn * Y.length ≤ 4096 := by
              have e := rep_len Y mn
              rw [← HSC.out] at e
              omega
            have em : ((mn : Int) == 0) = false := by simp; omega
            have hk := HK.out
            rw [hq] at hk ⊢
            obtain ⟨a2, cap2, e2, hc2, _, h4⟩ := hk
            simp only [Value.slice.injEq] at e2
            obtain ⟨rfl, _, rfl⟩ := e2
            have gc : (1 : Int) ≤ (cap : Int) := by have := hc2; simp at this; omega
            rcases h4 with h4 | ⟨c, o, rfl, hSc, h7⟩
            · cases h4
            obtain ⟨v', g0, g1, g2, g3, g4, g5, g6⟩ := h7 0 q rfl
            obtain ⟨a3, cap3, rfl⟩ := g6.form
            simp only [Nat.zero_mul, Nat.add_zero] at g0 g1 g2 g3 g4 g5
            have HG6 := hide1 g6
            have HMN : Hid (1 ≤ mn ∧ mn ≤ 1000) := by show _ ∧ _; omega
            have HYL := hide1 hYl
            clear h7 g6 hq hk1 hk3 hk4 htop hlen hp hYl hmn hY hc2 hm0
            go_upto_region 9 with fail
            have HKW := hide1 ((Kept.refl w).alloc #[.int .i64 (kind p), .int .i64 (from_ p), .int .i64 (to_ p), .int .i64 (mn : Int), .int .i64 (max_ p), .slice (some ⟨c, o, none⟩) 1 cap] 24)
            have hbx := (BoxAt.new w (.int .i64 (kind p)) (.int .i64 (from_ p)) (.int .i64 (to_ p)) (.int .i64 (mn : Int)) (.int .i64 (max_ p)) (.slice (some ⟨c, o, none⟩) 1 cap)).facts
            have HBX := hide1 hbx
            generalize hW : w.alloc (.cells #[.int .i64 (kind p), .int .i64 (from_ p), .int .i64 (to_ p), .int .i64 (mn : Int), .int .i64 (max_ p), .slice (some ⟨c, o, none⟩) 1 cap] 24) = W at HKW HBX ⊢
            have q3 := keeps HBX.out.1.2.2.2.1
            have q5 := keeps HBX.out.1.2.2.2.2.2
            have r0 := keeps (grown_cell HKW.out g0)
            have r1 := keeps (grown_cell HKW.out g1)
            have r2 := keeps (grown_cell HKW.out g2)
            have r3 := keeps (grown_cell HKW.out g3)
            have r4 := keeps (grown_cell HKW.out g4)
            have r5 := keeps (grown_cell HKW.out g5)
            have HKQ := hide1 (HG6.out.kept HKW.out)
            have hkr : Kept W W := Kept.refl W
            clear hW hbx g0 g1 g2 g3 g4 g5
            go_region_held3 (fun w' => Kept W w') (first | assumption | exact Kept.refl _ | exact gtrans (by assumption) (by assumption))
              ((first
                | (go_at_call 17; refine (HIQ.out S _ _ (HKQ.out.kept (by assumption))).mono ?_; rintro e w7 ⟨⟨v7, rfl, hr7⟩, hk7⟩; rw [HY.out] at hr7; obtain ⟨a7, c7, e7⟩ := hr7.form; subst e7; have k7 : Kept W w7 := gtrans (by assumption) hk7)
                | (go_at_call 30; refine (brepeatO_is Y mn a7 c7 _ _ (hr7.row.keep (by first | exact Kept.refl _ | exact drew_kept _ | exact gtrans (drew_kept _) (drew_kept _))) HMN.out.1 HMN.out.2 HYL.out).mono ?_; rintro e w8 ⟨⟨v8, rfl, hr8⟩, hk8⟩; have k8 : Kept W w8 := gtrans (by assumption) hk8)))
            have HR8 := hide1 (hr8.low (b' := w.heap.size) (gtrans HKW.out k7).size)
            have HK8 := hide1 (gtrans HKW.out k8)
            clear hr7 hr8 hk7 hk8 k7 k8 q3 q5 r0 r1 r2 r3 r4 r5 hkr
            go_wp2_with fail
            go_ret
            rw [HSC.out]
            exact ⟨⟨_, rfl, HR8.out⟩, HK8.out⟩
      · rw [if_neg hk4] at HSA
        have e4 : (kind p == 4) = false := by simpa using hk4
        have HIH := hide1 (IH.out (fun e => absurd e hk4))
        rw [HSA.out] at hlen
        obtain ⟨L, hL⟩ : ∃ L, kids p = L := ⟨_, rfl⟩
        rw [hL] at hlen HK HSA HIH ⊢
        have hlb : (L.flatMap (shortA n)).length ≤ 4096 := by omega
        have HLB := hide1 hlb
        have gl : (L.length : Int) ≤ 17592186044416 := by have := HK.out.short; omega
        have gc : (L.length : Int) ≤ (cap : Int) := by
          cases n with
          | zero => rw [none_of L]; simp
          | succ n => obtain ⟨_, _, e, h, _⟩ := HK.out; simp only [Value.slice.injEq] at e; omega
        clear hk1 hk3 hk4 htop hlen hp hL hlb HRK HONE
        go_wp2_with fail
        go_loopw [3, 35] (ShRow n L w) (fun _ i _ => L.length - (intOf i).toNat)
        case atStart => exact ⟨0, [], rfl, Nat.zero_le _, rfl, (Kept.refl w).alloc _ _, OutAt.nil _ _⟩
        case round =>
          obtain ⟨j, X, rfl, hj, HX, HKr, hown⟩ := hrel
          obtain ⟨ao, co, eo⟩ := hown.form
          obtain ⟨nx, hnx⟩ : ∃ nx, X.length = nx := ⟨_, rfl⟩
          rw [hnx] at eo
          subst eo
          have HOW := hide1 hown
          have HNX := hide1 hnx
          clear hown hnx
          by_cases hlt : (j : Int) < (L.length : Int)
          · obtain ⟨q, hq⟩ : ∃ q, L[j]? = some q := ⟨_, List.getElem?_eq_getElem (by omega)⟩
            cases n with
            | zero => exact (show Empty from q).elim
            | succ n =>
            obtain ⟨a2, cap2, e2, _, _, h4⟩ := HK.out.kept HKr.out
            simp only [Value.slice.injEq] at e2
            obtain ⟨rfl, _, rfl⟩ := e2
            rcases h4 with h4 | ⟨c, o, rfl, hSc, h7⟩
            · rw [h4] at hq; simp at hq
            · obtain ⟨v', g0, g1, g2, g3, g4, g5, g6⟩ := h7 j q hq
              obtain ⟨a3, cap3, rfl⟩ := g6.form
              have HG6 := hide1 g6
              have HQ := hide1 hq
              have HIQ : Hid (ShortCO n q) := HIH.out q (List.mem_of_getElem? hq)
              obtain ⟨Y, hY⟩ : ∃ Y, shortA (n + 1) q = Y := ⟨_, rfl⟩
              have HY := hide1 hY
              obtain ⟨Z, hZ⟩ : ∃ Z, X ++ Y = Z := ⟨_, rfl⟩
              have HZ := hide1 hZ
              have hZ2 : (L.take (j + 1)).flatMap (shortA (n + 1)) = Z := by rw [row_take hq, HX.out, hY, hZ]
              have HZ2 := hide1 hZ2
              have hzl := take_len (shortA (n + 1)) L (j + 1)
              rw [hZ2] at hzl
              obtain ⟨nz, hnz⟩ : ∃ nz, Z.length = nz := ⟨_, rfl⟩
              have HNZ := hide1 hnz
              have hnz2 : nz ≤ 4096 := by have := HLB.out; omega
              have HZL := hide1 hnz2
              clear h7 g6 hq hY hZ hZ2 hzl hnz hnz2
              go_wp2_with (first
                | (go_at_call 17; refine (HIQ.out S _ _ (HG6.out.kept ((Kept.refl wr).alloc _ _))).mono ?_; rintro e w7 ⟨⟨v7, rfl, hr7⟩, hk7⟩; rw [HY.out] at hr7; have HR7 := hide1 hr7; have HK7 := hide1 (gtrans ((Kept.refl wr).alloc _ _) hk7); clear hr7 hk7)
                | (at_builtin; go_must (refine wpl_out_row rfl _ _ rfl w _ _ X (by rfl) (gtrans HKr.out HK7.out) (HOW.out.keep HK7.out) _ _ Y Z nz HZ.out HNZ.out (by rfl) HR7.out.row (by have := HZL.out; omega) ?_; intro b8 c8 w8 ho8 hk8; have HO8 := hide1 ho8; have HK8 := hide1 hk8; clear ho8 hk8)))
              go_roundw
              case rel => exact ⟨j + 1, Z, by go_num, by omega, HZ2, HK8, HO8.out⟩
              case measure => simp [intOf]; omega
          · have HXX : Hid (L.flatMap (shortA n) = X) := by
              have e := HX.out
              rw [List.take_of_length_le (by omega)] at e
              exact e
            go_wp2_with fail
            go_ret
            rw [HSA.out, HXX.out]
            exact ⟨⟨_, rfl, HOW.out.rowO⟩, HKr.out⟩
theorem shortO_is : ∀ (n : Nat) (p : PatN (n + 1)), rightP (n + 1) p = true → posP (n + 1) p ≤ 4096 → ShortCO n p
  | 0, p, hr, hp => shortO_step 0 p hr hp (fun _ _ _ => trivial)
  | n + 1, p, hr, hp => shortO_step (n + 1) p hr hp (fun h4 q hq => shortO_is n q (by
      have h' : (topOf p && (kids p).all (rightP (n + 1))) = true := hr
      rw [Bool.and_eq_true] at h'
      exact List.all_eq_true.1 h'.2 q hq) (pos_kid hr hp h4 q hq))

end Ex
end Go.Proofs.YtfajoknacfjedaaGreatDoor
namespace Go.Proofs.YtfajoknacfjedaaGreatDoor
open Go.RowKit
attribute [local go_sem] Oper.semAt_some
namespace Ex

set_option linter.unusedSimpArgs false in
set_option maxRecDepth 100000 in
set_option maxHeartbeats 4000000 in
theorem ShortestO_is (S : Nat → Prop) (n : Nat) (p : PatN (n + 1)) (v : Value) (w : World) (h : KidsAt S w n (kids p) v) (hS : ∀ b, S b → b < w.heap.size) :
    Calls Tryz.prog 6 #[valOf p v] w fun e w' => (∃ vr, e = .returned (.tuple #[vr, .int .i64 (checkP p)]) ∧ RowO w' w.heap.size vr (shortTop p)) ∧ Kept w w' := by
  have HK := hide1 h
  have HS := hide1 hS
  obtain ⟨a, cap, rfl⟩ := h.form
  obtain ⟨b0, b1, b2, b3, b4, b5⟩ := box_at w (.int .i64 (kind p)) (.int .i64 (from_ p)) (.int .i64 (to_ p)) (.int .i64 (min_ p)) (.int .i64 (max_ p)) (.slice a (kids p).length cap) 24
  have HB := hide1 (And.intro b0 (And.intro b1 (And.intro b2 (And.intro b3 (And.intro b4 b5)))))
  clear b0 b1 b2 b3 b4 b5
  rw [valOf_eq]
  have HE : Hid (shortTop p = if checkP p = 0 then shortA (n + 1) p else []) := rfl
  obtain ⟨ck, hck⟩ : ∃ ck, checkP p = ck := ⟨_, rfl⟩
  have HC := hide1 hck
  rw [hck] at HE ⊢
  go_enter Tryz.func6, Tryz.ntmps6
  by_cases hc : ck = 0
  · have HSC := hide1 (shortO_is n p (check_right (hck.trans hc)) (check_pos (hck.trans hc)))
    have ec : (ck != 0) = false := by simpa using hc
    rw [if_pos hc] at HE
    have HZ := hide1 hc
    clear hc hck h hS
    go_wp2_with (first
      | (go_at_call 14; refine (Check_is S n p _ _ (HK.out.kept ((Kept.refl w).alloc _ _)) (fun b hb => Nat.lt_of_lt_of_le (HS.out b hb) ((Kept.refl w).alloc _ _).size)).mono ?_; rintro e w6 ⟨rfl, hk6⟩; rw [HC.out]; have HK6 := hide1 (gtrans ((Kept.refl w).alloc _ _) hk6); have d0 := grown_cell hk6 HB.out.1; have d1 := grown_cell hk6 HB.out.2.1; have d2 := grown_cell hk6 HB.out.2.2.1; have d3 := grown_cell hk6 HB.out.2.2.2.1; have d4 := grown_cell hk6 HB.out.2.2.2.2.1; have d5 := grown_cell hk6 HB.out.2.2.2.2.2; clear hk6)
      | (go_at_call 17; refine (HSC.out S _ _ (HK.out.kept HK6.out)).mono ?_; rintro e w7 ⟨⟨v7, rfl, hr7⟩, hk7⟩; have HK7 := hide1 (gtrans HK6.out hk7); have HR7 := hide1 (hr7.low (b' := w.heap.size) HK6.out.size); clear hk7 hr7))
    go_ret2
    exact ⟨⟨_, by rw [HZ.out]; rfl, by rw [HE.out]; exact HR7.out⟩, HK7.out⟩
  · have ec : (ck != 0) = true := by simpa using hc
    rw [if_neg hc] at HE
    clear hc hck h hS
    go_wp2_with (go_at_call 14; refine (Check_is S n p _ _ (HK.out.kept ((Kept.refl w).alloc _ _)) (fun b hb => Nat.lt_of_lt_of_le (HS.out b hb) ((Kept.refl w).alloc _ _).size)).mono ?_; rintro e w6 ⟨rfl, hk6⟩; rw [HC.out]; have HK6 := hide1 (gtrans ((Kept.refl w).alloc _ _) hk6); clear hk6)
    go_ret2
    exact ⟨⟨_, rfl, by rw [HE.out]; exact RowO.nil0 _ _⟩, HK6.out⟩

theorem ShortestR_is (S : Nat → Prop) (n : Nat) (p : PatN (n + 1)) (v : Value) (w : World) (h : KidsAt S w n (kids p) v) (hS : ∀ b, S b → b < w.heap.size) :
    Calls Tryz.prog 6 #[valOf p v] w fun e w' => (∃ vr, e = .returned (.tuple #[vr, .int .i64 (checkP p)]) ∧ RowIn w' w.heap.size vr (shortTop p)) ∧ Kept w w' :=
  (ShortestO_is S n p v w h hS).mono fun _ _ h => ⟨(by obtain ⟨⟨vr, h1, h2⟩, _⟩ := h; exact ⟨vr, h1, h2.row⟩), h.2⟩

end Ex
end Go.Proofs.YtfajoknacfjedaaGreatDoor
namespace Go.Proofs.YtfajoknacfjedaaGreatDoor
open Go.RowKit
namespace Ex

def P0 : Pat := mkP 3 0 0 0 0 [mkP 4 0 0 0 (-1) [mkP 2 0 0 0 0 [rangeP 97 97, rangeP 98 98]], mkP 4 0 0 2 (-1) [rangeP 99 101]]
end Ex
end Go.Proofs.YtfajoknacfjedaaGreatDoor
namespace Go.Proofs.YtfajoknacfjedaaGreatDoor
open Go.RowKit
attribute [local go_sem] Oper.semAt_some
namespace Ex

/-- Has a lean pattern no positions? -/
def hollowP (p : Pat) : Bool := kind p.2 == 2 && (kids p.2).length == 0
set_option linter.unusedSimpArgs false in
set_option maxRecDepth 100000 in
set_option maxHeartbeats 4000000 in
theorem hollow_is (p : Pat) (a : Option Addr) (cap : Nat) (w : World) : Calls Tryz.prog 83 #[.agg #[.int .i64 (kind p.2), .int .i64 (from_ p.2), .int .i64 (to_ p.2), .int .i64 (min_ p.2), .int .i64 (max_ p.2), .slice a (kids p.2).length cap]] w fun e w' => e = .returned (.bool (hollowP p)) ∧ Kept w w' := by
  have e : (((kids p.2).length : Int) == 0) = ((kids p.2).length == 0) := by rw [Bool.eq_iff_iff]; simp
  have HEE := hide1 e
  have HP : Hid (hollowP p = (kind p.2 == 2 && (kids p.2).length == 0)) := rfl
  clear e
  go_enter Tryz.func83, Tryz.ntmps83
  by_cases hk : kind p.2 = 2
  · go_wp2_with fail
    go_ret
    refine ⟨?_, (Kept.refl w).alloc _ _⟩
    rw [HP.out, hk, ← HEE.out]
    rfl
  · have hk2 : (kind p.2 == 2) = false := by simpa using hk
    have HK2 := hide1 hk2
    go_wp2_with fail
    go_ret
    refine ⟨?_, (Kept.refl w).alloc _ _⟩
    rw [HP.out, HK2.out]
    rfl

/-- Which of the lean parts stay: a hollow one as long as keep is not used up. -/
def thinG : List Pat → Int → List Pat
  | [], _ => []
  | p :: l, k => if hollowP p then (if k - 1 < 0 then thinG l (k - 1) else p :: thinG l (k - 1)) else p :: thinG l k
/-- The pattern without parts that have no positions. -/
def thinW : (n : Nat) → PatN (n + 1) → Pat
  | 0, p => if kind p = 2 then mkP 2 0 0 0 0 [] else if kind p = 3 then oneOf 3 [] else if kind p = 4 then mkP 2 0 0 0 0 [] else ⟨0, p⟩
  | n + 1, p =>
    if kind p = 2 then mkP 2 0 0 0 0 (thinG ((kids p).map (thinW n)) 0)
    else if kind p = 3 then oneOf 3 (thinG ((kids p).map (thinW n)) 1)
    else if kind p = 4 then (match (kids p).map (thinW n) with | q :: _ => if max_ p = 0 ∨ hollowP q = true then mkP 2 0 0 0 0 [] else mkP 4 0 0 (min_ p) (max_ p) [q] | [] => mkP 2 0 0 0 0 [])
    else ⟨n + 1, p⟩
/-- What lean does with a pattern. -/
def ThinC (n : Nat) (q : PatN (n + 1)) (r : Pat) : Prop :=
  ∀ (S : Nat → Prop) (vk : Value) (w : World), KidsAt S w n (kids q) vk → (∀ d, S d → d < w.heap.size) →
    Calls Tryz.prog 63 #[valOf q vk] w fun e w' => PGives (fun d => S d ∨ w.heap.size ≤ d) r e w' ∧ Kept w w'

theorem kept6 {w W : World} {g : Nat} {x0 x1 x2 x3 x4 x5 : Value} (h : Kept w W) (hg : w.heap.size ≤ g) : Kept w ((((((W.setCell ⟨g, 0, none⟩ x0).setCell ⟨g, 1, none⟩ x1).setCell ⟨g, 2, none⟩ x2).setCell ⟨g, 3, none⟩ x3).setCell ⟨g, 4, none⟩ x4).setCell ⟨g, 5, none⟩ x5) := (((((h.set hg).set hg).set hg).set hg).set hg).set hg
theorem kept_app {w W w' : World} {base : Nat} {S : Nat → Prop} {v : Value} {l : List Pat} (h : Kept w W) (ho : PatsOwn W base S v l) (hb : w.heap.size ≤ base) (hg : W.grownBy w' v.ownBlock) : Kept w w' :=
  ⟨hg.os.trans h.1, hg.tape.trans h.2.1, hg.output.trans h.2.2.1, Nat.le_trans h.size hg.size, fun k hk => (hg.block k (Nat.lt_of_lt_of_le hk h.size) (fun e => by have := (ho.lt k e.symm).1; omega)).trans (h.2.2.2.2 k hk)⟩
/-- The loop of leanParts. -/
def ThinR (S : Nat → Prop) (n : Nat) (L : List (PatN (n + 1))) (k : Int) (w : World) (vk vo vi : Value) (wr : World) : Prop :=
  ∃ (j : Nat) (k1 : Int) (acc : List Pat), vi = .int .i64 (j : Int) ∧ vk = .int .i64 k1 ∧ j ≤ L.length ∧ acc.length ≤ j ∧ k1 ≤ 10 ∧ k1 + (j : Int) ≥ k ∧ Kept w wr ∧ PatsOwn wr w.heap.size (fun d => S d ∨ w.heap.size ≤ d) vo acc ∧ thinG (L.map (thinW n)) k = acc ++ thinG ((L.drop j).map (thinW n)) k1
set_option linter.unusedSimpArgs false in
set_option maxRecDepth 100000 in
set_option maxHeartbeats 4000000 in
theorem thinParts_is (S : Nat → Prop) (n : Nat) (L : List (PatN (n + 1))) (vl : Value) (k : Int) (w : World) (hk : KidsAt S w (n + 1) L vl) (hS : ∀ d, S d → d < w.heap.size) (hC : ∀ q ∈ L, ThinC n q (thinW n q)) (h0 : 0 ≤ k) (h1 : k ≤ 10) (hl : L.length ≤ 100000) :
    Calls Tryz.prog 82 #[vl, .int .i64 k] w fun r w' => Hid (∃ v, r = .returned v ∧ PatsOwn w' w.heap.size (fun d => S d ∨ w.heap.size ≤ d) v (thinG (L.map (thinW n)) k)) ∧ Kept w w' := by
  have HK := hide1 hk
  have HS := hide1 hS
  have HC := hide1 hC
  obtain ⟨al, cl, el, hlc, hlm, _⟩ := hk
  subst el
  have gl : (L.length : Int) ≤ 17592186044416 := by omega
  have gc : (L.length : Int) ≤ (cl : Int) := by omega
  clear hS hC hlc hlm
  go_enter Tryz.func82, Tryz.ntmps82
  go_wp2_with fail
  go_loopw [1, 5, 10] (fun vk vo vi wr => ThinR S n L k w vk vo vi wr) (fun _ _ vi _ => L.length - (intOf vi).toNat)
  case atStart => exact ⟨0, k, [], rfl, rfl, Nat.zero_le _, Nat.zero_le _, by omega, by omega, Kept.refl w, PatsOwn.nil _ _ _, by simp⟩
  case round =>
    obtain ⟨j, k1, acc, rfl, rfl, hj, hacc, hk1, hk2, hkw, how, hM⟩ := hrel
    obtain ⟨av, cv, rfl⟩ := how.form
    have HKW := hide1 hkw
    have HOW := hide1 how
    have HM := hide1 hM
    have hsz := hkw.size
    have HOL := hide1 (fun d e => (how.lt d e))
    clear hM
    by_cases hlt : (j : Int) < (L.length : Int)
    · obtain ⟨q, hq⟩ : ∃ q, L[j]? = some q := ⟨_, List.getElem?_eq_getElem (by omega)⟩
      obtain ⟨a2, cap2, e2, _, _, h4⟩ := HK.out.kept hkw
      simp only [Value.slice.injEq] at e2
      obtain ⟨rfl, _, rfl⟩ := e2
      rcases h4 with h4 | ⟨c, o, rfl, hSc, h7⟩
      · rw [h4] at hq; simp at hq
      · obtain ⟨v', g0, g1, g2, g3, g4, g5, g6⟩ := h7 j q hq
        obtain ⟨a3, cap3, rfl⟩ := g6.form
        have HG6 := hide1 g6
        have HQ := hide1 hq
        have HCQ := hide1 (HC.out q (List.mem_of_getElem? hq))
        obtain ⟨t, ht⟩ : ∃ t, thinW n q = t := ⟨_, rfl⟩
        have HTQ := hide1 ht
        have HD : Hid (((L.drop j).map (thinW n)) = t :: ((L.drop (j + 1)).map (thinW n))) := by
          obtain ⟨hj2, rfl⟩ := List.getElem?_eq_some_iff.1 hq
          show _ = _
          rw [List.drop_eq_getElem_cons hj2, List.map_cons, ht]
        clear h7 g6 hq how hkw ht
        by_cases hh : hollowP t = true
        · have HH := hide1 hh
          by_cases hkz : k1 - 1 < 0
          · have HM2 : Hid (thinG (L.map (thinW n)) k = acc ++ thinG ((L.drop (j + 1)).map (thinW n)) (k1 - 1)) := by
              show _ = _
              rw [HM.out, HD.out, thinG, if_pos hh, if_pos hkz]
            clear hh
            go_wp2_with (first
              | (go_at_call 63; refine (HCQ.out S _ _ (HG6.out.kept ((Kept.refl _).alloc _ _)) (fun d hd => by have := HS.out d hd; simp; omega)).mono ?_; rintro r w7 ⟨⟨v7, rfl, u7, rfl, hkk⟩, hk7⟩; rw [HTQ.out] at hkk ⊢; rw [valOf_eq]; obtain ⟨a7, c7, e7⟩ := hkk.form; subst e7; have HB7 := hide1 ((BoxAt.new wr _ _ _ _ _ _).keep hk7); have HK7 := hide1 (gtrans ((Kept.refl wr).alloc _ _) hk7); have HKI := hide1 (KidsAt.mono (S' := fun d => (S d ∧ d < w.heap.size) ∨ wr.heap.size < d) (fun _ _ _ _ h => h) (fun d h => by rcases h with h | h; exact Or.inl ⟨h, HS.out d h⟩; (have h2 := h; simp at h2; exact Or.inr (by omega))) _ _ _ hkk); obtain ⟨⟨q0, q1, q2, q3, q4, q5⟩, y0, y1, y2, y3, y4, y5⟩ := HB7.out.facts; have hs7 := HB7.out.lt; clear hkk hk7)
              | (go_at_call 83; refine (hollow_is t _ _ _).mono ?_; rintro e w8 ⟨rfl, hk8⟩; rw [HH.out]; have HK8 := hide1 (gtrans (kept6 HK7.out (Nat.le_refl _)) hk8); have HB8 := hide1 ((BoxAt.set HB7.out).keep hk8); have HKI8 := hide1 (KidsAt.kept (KidsAt.mono (set6_holds (S := fun d => (S d ∧ d < w.heap.size) ∨ wr.heap.size < d) (g := wr.heap.size) (fun h => by rcases h with h | h <;> omega)) (fun _ h => h) _ _ _ HKI.out) hk8); obtain ⟨⟨r0, r1, r2, r3, r4, r5⟩, _⟩ := HB8.out.facts; have hs8 := HB8.out.lt; clear hk8))
            go_roundw
            case rel => exact ⟨j + 1, k1 - 1, acc, by go_num, by go_num, by omega, by omega, by omega, by omega, gtrans HKW.out HK8.out, HOW.out.keep HK8.out, HM2.out⟩
            case measure => simp [intOf]; omega
          · have HM2 : Hid (thinG (L.map (thinW n)) k = (acc ++ [t]) ++ thinG ((L.drop (j + 1)).map (thinW n)) (k1 - 1)) := by
              show _ = _
              rw [HM.out, HD.out, thinG, if_pos hh, if_neg hkz]
              simp
            clear hh
            go_wp2_with (first
              | (go_at_call 63; refine (HCQ.out S _ _ (HG6.out.kept ((Kept.refl _).alloc _ _)) (fun d hd => by have := HS.out d hd; simp; omega)).mono ?_; rintro r w7 ⟨⟨v7, rfl, u7, rfl, hkk⟩, hk7⟩; rw [HTQ.out] at hkk ⊢; rw [valOf_eq]; obtain ⟨a7, c7, e7⟩ := hkk.form; subst e7; have HB7 := hide1 ((BoxAt.new wr _ _ _ _ _ _).keep hk7); have HK7 := hide1 (gtrans ((Kept.refl wr).alloc _ _) hk7); have HKI := hide1 (KidsAt.mono (S' := fun d => (S d ∧ d < w.heap.size) ∨ wr.heap.size < d) (fun _ _ _ _ h => h) (fun d h => by rcases h with h | h; exact Or.inl ⟨h, HS.out d h⟩; (have h2 := h; simp at h2; exact Or.inr (by omega))) _ _ _ hkk); obtain ⟨⟨q0, q1, q2, q3, q4, q5⟩, y0, y1, y2, y3, y4, y5⟩ := HB7.out.facts; have hs7 := HB7.out.lt; clear hkk hk7)
              | (go_at_call 83; refine (hollow_is t _ _ _).mono ?_; rintro e w8 ⟨rfl, hk8⟩; rw [HH.out]; have HK8 := hide1 (gtrans (kept6 HK7.out (Nat.le_refl _)) hk8); have HB8 := hide1 ((BoxAt.set HB7.out).keep hk8); have HKI8 := hide1 (KidsAt.kept (KidsAt.mono (set6_holds (S := fun d => (S d ∧ d < w.heap.size) ∨ wr.heap.size < d) (g := wr.heap.size) (fun h => by rcases h with h | h <;> omega)) (fun _ h => h) _ _ _ HKI.out) hk8); obtain ⟨⟨r0, r1, r2, r3, r4, r5⟩, _⟩ := HB8.out.facts; have hs8 := HB8.out.lt; clear hk8)
              | (at_builtin; go_must (refine wpl_append_pat rfl _ _ rfl _ w.heap.size (fun d => S d ∨ w.heap.size ≤ d) _ acc acc.length rfl (by rfl) (HOW.out.keep (HK8.out.alloc _ _)) _ t _ (by rfl) (BoxAt.new _ _ _ _ _ _ _) (KidsAt.mono (((Kept.refl w8).alloc _ _).holds _) (fun d hd => ⟨by rcases hd with hd | hd; exact Or.inl hd.1; exact Or.inr (by omega), fun e => by have := HOL.out d e; rcases hd with hd | hd <;> omega⟩) _ _ _ HKI8.out) (by omega) (by simp; omega) ?_; intro g9 c9 w9 ho9 hg9; have HK9 := hide1 (kept_app (gtrans HKW.out (HK8.out.alloc _ _)) (HOW.out.keep (HK8.out.alloc _ _)) (Nat.le_refl _) hg9); have HO9 := hide1 ho9; clear ho9 hg9)))
            go_roundw
            case rel => exact ⟨j + 1, k1 - 1, acc ++ [t], by go_num, by go_num, by omega, by simp; omega, by omega, by omega, HK9.out, HO9.out, HM2.out⟩
            case measure => simp [intOf]; omega
        · have hh2 : hollowP t = false := by simpa using hh
          have HH := hide1 hh2
          have HM2 : Hid (thinG (L.map (thinW n)) k = (acc ++ [t]) ++ thinG ((L.drop (j + 1)).map (thinW n)) k1) := by
            show _ = _
            rw [HM.out, HD.out, thinG, if_neg hh]
            simp
          clear hh hh2
          go_wp2_with (first
            | (go_at_call 63; refine (HCQ.out S _ _ (HG6.out.kept ((Kept.refl _).alloc _ _)) (fun d hd => by have := HS.out d hd; simp; omega)).mono ?_; rintro r w7 ⟨⟨v7, rfl, u7, rfl, hkk⟩, hk7⟩; rw [HTQ.out] at hkk ⊢; rw [valOf_eq]; obtain ⟨a7, c7, e7⟩ := hkk.form; subst e7; have HB7 := hide1 ((BoxAt.new wr _ _ _ _ _ _).keep hk7); have HK7 := hide1 (gtrans ((Kept.refl wr).alloc _ _) hk7); have HKI := hide1 (KidsAt.mono (S' := fun d => (S d ∧ d < w.heap.size) ∨ wr.heap.size < d) (fun _ _ _ _ h => h) (fun d h => by rcases h with h | h; exact Or.inl ⟨h, HS.out d h⟩; (have h2 := h; simp at h2; exact Or.inr (by omega))) _ _ _ hkk); obtain ⟨⟨q0, q1, q2, q3, q4, q5⟩, y0, y1, y2, y3, y4, y5⟩ := HB7.out.facts; have hs7 := HB7.out.lt; clear hkk hk7)
            | (go_at_call 83; refine (hollow_is t _ _ _).mono ?_; rintro e w8 ⟨rfl, hk8⟩; rw [HH.out]; have HK8 := hide1 (gtrans (kept6 HK7.out (Nat.le_refl _)) hk8); have HB8 := hide1 ((BoxAt.set HB7.out).keep hk8); have HKI8 := hide1 (KidsAt.kept (KidsAt.mono (set6_holds (S := fun d => (S d ∧ d < w.heap.size) ∨ wr.heap.size < d) (g := wr.heap.size) (fun h => by rcases h with h | h <;> omega)) (fun _ h => h) _ _ _ HKI.out) hk8); obtain ⟨⟨r0, r1, r2, r3, r4, r5⟩, _⟩ := HB8.out.facts; have hs8 := HB8.out.lt; clear hk8)
            | (at_builtin; go_must (refine wpl_append_pat rfl _ _ rfl _ w.heap.size (fun d => S d ∨ w.heap.size ≤ d) _ acc acc.length rfl (by rfl) (HOW.out.keep (HK8.out.alloc _ _)) _ t _ (by rfl) (BoxAt.new _ _ _ _ _ _ _) (KidsAt.mono (((Kept.refl w8).alloc _ _).holds _) (fun d hd => ⟨by rcases hd with hd | hd; exact Or.inl hd.1; exact Or.inr (by omega), fun e => by have := HOL.out d e; rcases hd with hd | hd <;> omega⟩) _ _ _ HKI8.out) (by omega) (by simp; omega) ?_; intro g9 c9 w9 ho9 hg9; have HK9 := hide1 (kept_app (gtrans HKW.out (HK8.out.alloc _ _)) (HOW.out.keep (HK8.out.alloc _ _)) (Nat.le_refl _) hg9); have HO9 := hide1 ho9; clear ho9 hg9)))
          go_roundw
          case rel => exact ⟨j + 1, k1, acc ++ [t], by go_num, rfl, by omega, by simp; omega, by omega, by omega, HK9.out, HO9.out, HM2.out⟩
          case measure => simp [intOf]; omega
    · have HE : Hid (thinG (L.map (thinW n)) k = acc) := by
        show _ = _
        rw [HM.out, List.drop_eq_nil_of_le (by omega)]
        simp [thinG]
      clear how hkw
      go_wp2_with fail
      go_ret
      rw [HE.out]
      exact ⟨⟨_, rfl, HOW.out⟩, HKW.out⟩

end Ex
end Go.Proofs.YtfajoknacfjedaaGreatDoor
