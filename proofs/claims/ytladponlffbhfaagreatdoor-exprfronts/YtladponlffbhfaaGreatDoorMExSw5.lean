import Derived.Test.YtladponlffbhfaaGreatDoorMExSw1
import Derived.Test.YtladponlffbhfaaGreatDoorMExSw3
import Derived.Test.YtladponlffbhfaaGreatDoorMExWr7
import Derived.Test.YtladponlffbhfaaGreatDoorMExGd0
import Derived.Deep.RegionHeld3
import Derived.Deep.Cut
import Derived.Deep.DeepMust
import Derived.OwnWalk
namespace Go.Proofs.YtladponlffbhfaaGreatDoor
open Go.RowKit
attribute [local go_sem] Oper.semAt_some
namespace Ex

/-- What shortest does at one pattern. -/
def ShortC (n : Nat) (q : PatN (n + 1)) : Prop := ∀ (S : Nat → Prop) (v : Value) (w : World), KidsAt S w n (kids q) v →
  Calls Tryz.prog 16 #[valOf q v] w fun e w' => (∃ vr, e = .returned vr ∧ RowIn w' w.heap.size vr (shortA (n + 1) q)) ∧ Kept w w'
theorem shorter_lt {x y : List Int} (h : x.length < y.length) : shorter x y = true := by unfold shorter; simp [h]
theorem shorter_gt {x y : List Int} (h : y.length < x.length) : shorter x y = false := by unfold shorter; simp; omega
theorem shorter_eq {x y : List Int} (h : x.length = y.length) : shorter x y = lessI x y := by unfold shorter; simp [h]
def BestL (n : Nat) (L : List (PatN (n + 1))) (m : Nat) (w : World) (b i : Value) (wr : World) : Prop :=
  ∃ (j : Nat) (B : List Int), i = .int .i64 (j : Int) ∧ j ≤ m ∧ Hid (bestOf ((L.take (j + 1)).map (shortA (n + 1))) = B) ∧ Hid (Kept w wr) ∧ Hid (∀ z ∈ B, IsB z) ∧ RowIn wr w.heap.size b B
set_option linter.unusedSimpArgs false in
set_option maxRecDepth 100000 in
set_option maxHeartbeats 4000000 in
theorem shortestOf_is (n : Nat) (L : List (PatN (n + 1))) (hL : 2 ≤ L.length) (ih : ∀ q ∈ L, ShortC n q) (hB : ∀ q ∈ L, ∀ z ∈ shortA (n + 1) q, IsB z) (S : Nat → Prop) (v : Value) (w : World) (h : KidsAt S w (n + 1) L v) :
    Calls Tryz.prog 24 #[v] w fun e w' => (∃ vr, e = .returned vr ∧ RowIn w' w.heap.size vr (bestOf (L.map (shortA (n + 1))))) ∧ Kept w w' := by
  have IH := hide1 ih
  have HB := hide1 hB
  have HK := hide1 h
  obtain ⟨a, cap, rfl, hlc, hcm, h4⟩ := h
  obtain ⟨m, hm⟩ : ∃ m, L.length = m + 1 := ⟨L.length - 1, by omega⟩
  have HM := hide1 hm
  rcases h4 with h4 | ⟨c, o, rfl, hSc, h7⟩
  · rw [h4] at hL; simp at hL
  have H7 := hide1 h7
  rw [hm] at hlc hcm ⊢
  have gm : (1 : Int) ≤ (m : Int) := by omega
  have gl : (m : Int) + 1 ≤ 17592186044416 := by omega
  have gc : (m : Int) + 1 ≤ (cap : Int) := by omega
  obtain ⟨q, hq⟩ : ∃ q, L[0]? = some q := ⟨_, List.getElem?_eq_getElem (by omega)⟩
  obtain ⟨v', g0, g1, g2, g3, g4, g5, g6⟩ := h7 0 q hq
  obtain ⟨a3, cap3, rfl⟩ := g6.form
  simp only [Nat.zero_mul, Nat.add_zero] at g0 g1 g2 g3 g4 g5
  have HG6 := hide1 g6
  have HIQ := hide1 (ih q (List.mem_of_getElem? hq))
  have hbq := hB q (List.mem_of_getElem? hq)
  obtain ⟨B0, hB0⟩ : ∃ B0, shortA (n + 1) q = B0 := ⟨_, rfl⟩
  have HB0 := hide1 hB0
  have HBB : Hid (bestOf ((L.take (0 + 1)).map (shortA (n + 1))) = B0) := by
    show _ = _
    cases L with
    | nil => simp at hq
    | cons x L => simp at hq; subst hq; simpa [bestOf] using hB0
  have HBY : Hid (∀ z ∈ B0, IsB z) := by rw [← hB0]; exact hbq
  clear h7 g6 hq hm ih hB hL hbq hB0 hlc hcm
  go_enter Tryz.func24, Tryz.ntmps24
  go_wp2_with (go_at_call 16; refine (HIQ.out S _ _ HG6.out).mono ?_; rintro e w6 ⟨⟨v6, rfl, hr6⟩, hk6⟩; rw [HB0.out] at hr6; obtain ⟨a6, c6, e6⟩ := hr6.form; subst e6; have HR6 := hide1 hr6; have HK6 := hide1 hk6; clear hr6 hk6)
  go_loopw [3, 14] (BestL n L m w) (fun _ i _ => m - (intOf i).toNat)
  case atStart => exact ⟨0, B0, rfl, Nat.zero_le _, HBB, HK6, HBY, HR6.out⟩
  case round =>
    obtain ⟨j, B, rfl, hj, HBj, HKr, HBy, hrow⟩ := hrel
    obtain ⟨ab, cb, eb⟩ := hrow.form
    obtain ⟨nb, hnb⟩ : ∃ nb, B.length = nb := ⟨_, rfl⟩
    rw [hnb] at eb
    subst eb
    have HNB := hide1 hnb
    clear hnb
    have HRB := hide1 hrow
    clear hrow
    by_cases hlt : (j : Int) < (m : Int)
    · obtain ⟨q2, hq2⟩ : ∃ q2, L[j + 1]? = some q2 := ⟨_, List.getElem?_eq_getElem (by have := HM.out; omega)⟩
      obtain ⟨v', f0, f1, f2, f3, f4, f5, f6⟩ := H7.out (j + 1) q2 hq2
      obtain ⟨a4, cap4, rfl⟩ := f6.form
      have e6 : o + (j + 1) * 6 = o + 6 + j * 6 := by omega
      rw [e6] at f0 f1 f2 f3 f4 f5
      have t0 := grown_cell HKr.out f0
      have t1 := grown_cell HKr.out f1
      have t2 := grown_cell HKr.out f2
      have t3 := grown_cell HKr.out f3
      have t4 := grown_cell HKr.out f4
      have t5 := grown_cell HKr.out f5
      have HG2 := hide1 (f6.kept HKr.out)
      have HI2 := hide1 (IH.out q2 (List.mem_of_getElem? hq2))
      have HQ2 := hide1 hq2
      obtain ⟨Y, hY⟩ : ∃ Y, shortA (n + 1) q2 = Y := ⟨_, rfl⟩
      have HYB : Hid (∀ z ∈ Y, IsB z) := by rw [← hY]; exact HB.out q2 (List.mem_of_getElem? hq2)
      have HY := hide1 hY
      obtain ⟨ny, hny⟩ : ∃ ny, Y.length = ny := ⟨_, rfl⟩
      have HNY := hide1 hny
      clear hny
      clear hq2 hY e6 f0 f1 f2 f3 f4 f5 f6 g0 g1 g2 g3 g4 g5
      by_cases hl1 : (ny : Int) < (nb : Int)
      · have HSH : Hid (shorter Y B = true) := shorter_lt (by rw [HNY.out, HNB.out]; omega)
        go_wp2_with (go_at_call 16; refine (HI2.out S _ _ (HG2.out.kept ((Kept.refl wr).alloc _ _))).mono ?_; rintro e w7 ⟨⟨v7, rfl, hr7⟩, hk7⟩; rw [HY.out] at hr7; obtain ⟨a7, c7, e7⟩ := hr7.form; rw [HNY.out] at e7; subst e7; have HR7 := hide1 (hr7.low (b' := wr.heap.size) ((Kept.refl wr).alloc _ _).size); have HK7 := hide1 (gtrans ((Kept.refl wr).alloc _ _) hk7); clear hr7 hk7)
        go_roundw
        case rel =>
          refine ⟨j + 1, Y, by go_num, by omega, ?_, gtrans HKr.out HK7.out, HYB, RowIn.low HR7.out HKr.out.size⟩
          show bestOf _ = _
          rw [best_take HQ2.out (by omega), HBj.out, HY.out, HSH.out]
          rfl
        case measure => simp [intOf]; omega
      · by_cases hl2 : ny = nb
        · subst hl2
          have hle := shorter_eq (HNY.out.trans HNB.out.symm)
          rw [← comp_u8 Y B HYB.out HBy.out] at hle
          obtain ⟨kc, hkc⟩ : ∃ kc, Lib.compareBytes (u8s Y) (u8s B) = kc := ⟨_, rfl⟩
          have HCM := hide1 hkc
          rw [hkc] at hle
          have HLE := hide1 hle
          clear hle hkc hl1
          by_cases hkn : kc < 0
          · have HSH : Hid (shorter Y B = true) := by show _ = _; rw [HLE.out]; simpa using hkn
            go_wp2_with (first
              | (go_at_call 37; refine (compare_is _ _ _ _ _ _ _ _ Y B _ HNY.out HNB.out HR7.out (HRB.out.keep HK7.out)).mono ?_; rintro e w8 ⟨rfl, hw8⟩; have hw9 := hw8.symm; subst hw9; rw [HCM.out])
              | (go_at_call 16; refine (HI2.out S _ _ (HG2.out.kept ((Kept.refl wr).alloc _ _))).mono ?_; rintro e w7 ⟨⟨v7, rfl, hr7⟩, hk7⟩; rw [HY.out] at hr7; obtain ⟨a7, c7, e7⟩ := hr7.form; rw [HNY.out] at e7; subst e7; have HR7 := hide1 (hr7.low (b' := wr.heap.size) ((Kept.refl wr).alloc _ _).size); have HK7 := hide1 (gtrans ((Kept.refl wr).alloc _ _) hk7); clear hr7 hk7))
            go_roundw
            case rel =>
              refine ⟨j + 1, Y, by go_num, by omega, ?_, gtrans HKr.out HK7.out, HYB, RowIn.low HR7.out HKr.out.size⟩
              show bestOf _ = _
              rw [best_take HQ2.out (by omega), HBj.out, HY.out, HSH.out]
              rfl
            case measure => simp [intOf]; omega
          · have HNK := hide1 hkn
            have hkd : decide (kc < 0) = false := by simpa using hkn
            go_wp2_with (first
              | (go_at_call 37; refine (compare_is _ _ _ _ _ _ _ _ Y B _ HNY.out HNB.out HR7.out (HRB.out.keep HK7.out)).mono ?_; rintro e w8 ⟨rfl, hw8⟩; have hw9 := hw8.symm; subst hw9; rw [HCM.out])
              | (go_at_call 16; refine (HI2.out S _ _ (HG2.out.kept ((Kept.refl wr).alloc _ _))).mono ?_; rintro e w7 ⟨⟨v7, rfl, hr7⟩, hk7⟩; rw [HY.out] at hr7; obtain ⟨a7, c7, e7⟩ := hr7.form; rw [HNY.out] at e7; subst e7; have HR7 := hide1 (hr7.low (b' := wr.heap.size) ((Kept.refl wr).alloc _ _).size); have HK7 := hide1 (gtrans ((Kept.refl wr).alloc _ _) hk7); clear hr7 hk7))
            have HSH : Hid (shorter Y B = false) := by show _ = _; rw [HLE.out]; simpa using HNK.out
            go_roundw
            case rel =>
              refine ⟨j + 1, B, by go_num, by omega, ?_, gtrans HKr.out HK7.out, HBy, HRB.out.keep HK7.out⟩
              show bestOf _ = _
              rw [best_take HQ2.out (by omega), HBj.out, HY.out, HSH.out]
              rfl
            case measure => simp [intOf]; omega
        · have hne : ((ny : Int) == (nb : Int)) = false := by simp; omega
          have hld : decide (ny < nb) = false := by simp; omega
          have hln : nb ≤ ny := by omega
          have hnn : ¬ ny = nb := hl2
          have HGT : Hid (nb < ny) := (show nb < ny by omega)
          clear hl2 hl1
          go_wp2_with (go_at_call 16; refine (HI2.out S _ _ (HG2.out.kept ((Kept.refl wr).alloc _ _))).mono ?_; rintro e w7 ⟨⟨v7, rfl, hr7⟩, hk7⟩; rw [HY.out] at hr7; obtain ⟨a7, c7, e7⟩ := hr7.form; rw [HNY.out] at e7; subst e7; have HR7 := hide1 (hr7.low (b' := wr.heap.size) ((Kept.refl wr).alloc _ _).size); have HK7 := hide1 (gtrans ((Kept.refl wr).alloc _ _) hk7); clear hr7 hk7)
          have HSH : Hid (shorter Y B = false) := shorter_gt (by rw [HNY.out, HNB.out]; exact HGT.out)
          go_roundw
          case rel =>
            refine ⟨j + 1, B, by go_num, by omega, ?_, gtrans HKr.out HK7.out, HBy, HRB.out.keep HK7.out⟩
            show bestOf _ = _
            rw [best_take HQ2.out (by omega), HBj.out, HY.out, HSH.out]
            rfl
          case measure => simp [intOf]; omega
    · obtain rfl : j = m := by omega
      go_wp2_with fail
      go_ret
      refine ⟨⟨_, rfl, ?_⟩, HKr.out⟩
      have e := HBj.out
      rw [List.take_of_length_le (by rw [HM.out]; exact Nat.le_refl _)] at e
      rw [e]
      exact HRB.out

end Ex
end Go.Proofs.YtladponlffbhfaaGreatDoor
namespace Go.Proofs.YtladponlffbhfaaGreatDoor
open Go.RowKit
attribute [local go_sem] Oper.semAt_some
namespace Ex

theorem pos_kid {n : Nat} {p : PatN (n + 1)} (hr : rightP (n + 1) p = true) (hp : posP (n + 1) p ≤ 4096) (h4 : kind p = 4 → min_ p ≠ 0) : ∀ q ∈ kids p, posP n q ≤ 4096 := by
  have h' : (topOf p && (kids p).all (rightP n)) = true := hr
  rw [Bool.and_eq_true] at h'
  have hk := List.all_eq_true.1 h'.2
  have hnn : ∀ q ∈ kids p, 0 ≤ posP n q := fun q hq => (pos_in n q (hk q hq)).1
  have ht := h'.1
  rw [posP] at hp
  by_cases k1 : kind p = 1
  · unfold topOf topP at ht
    rw [if_pos k1] at ht
    intro q hq
    by_cases he : kids p = []
    · rw [he] at hq; cases hq
    · simp [he] at ht
  rw [if_neg k1] at hp
  by_cases k4 : kind p = 4
  · have k3 : ¬ kind p = 3 := by omega
    rw [if_pos k4] at hp
    have h1 := right_one hr k4
    obtain ⟨q, hq⟩ := List.length_eq_one_iff.1 h1
    rw [hq] at hp ⊢
    have hq0 := hnn q (by rw [hq]; exact List.mem_cons_self ..)
    have hqr := hk q (by rw [hq]; exact List.mem_cons_self ..)
    have hq9 := (pos_in n q hqr).2
    unfold topOf topP at ht
    rw [if_neg k1, if_neg (by omega), if_neg k3, if_pos k4] at ht
    simp [timesP] at ht
    have hm := h4 k4
    have hc : 1 ≤ copiesP (min_ p) (max_ p) := by
      unfold copiesP
      split <;> omega
    have hfo : [q].foldl (fun acc q => min (acc + posP n q) 4097) 0 = posP n q := by
      simp
      omega
    rw [hfo] at hp
    intro q' hq'
    rw [List.mem_singleton.1 hq']
    have h2 : posP n q ≤ posP n q * copiesP (min_ p) (max_ p) := by
      have := Int.mul_le_mul_of_nonneg_left hc hq0
      simpa using this
    omega
  · rw [if_neg k4] at hp
    obtain ⟨hs, _⟩ := fold_sum (posP n) (kids p) 0 hnn (by omega) hp
    rw [hs] at hp
    intro q hq
    have := (sum_mem (posP n) (kids p) hnn).2 q hq
    omega
def ShortN : (n : Nat) → PatN n → Prop
  | 0, _ => True
  | n + 1, q => ShortC n q
/-- The loop of a row. -/
def ShRow (n : Nat) (L : List (PatN n)) (w : World) (vo i : Value) (wr : World) : Prop :=
  ∃ (j : Nat) (X : List Int), i = .int .i64 (j : Int) ∧ j ≤ L.length ∧ Hid ((L.take j).flatMap (shortA n) = X) ∧ Hid (Kept w wr) ∧ OutAt wr w.heap.size vo X
theorem one_row (w : World) (z : Int) (t : TypeId) (base g : Nat) (hg : w.heap.size = g) (hb : base ≤ g) : RowIn (w.alloc (.cells #[.int .u8 z] t)) base (.slice (some ⟨g, 0, none⟩) 1 1) [z] := by
  subst hg
  refine ⟨_, _, rfl, Nat.le_refl _, .inr ⟨_, rfl, hb, fun j y hy => ?_⟩⟩
  have hj : j = 0 := by
    have := (List.getElem?_eq_some_iff.1 hy).1
    simp at this
    omega
  subst hj
  simp at hy
  subst hy
  simp
set_option linter.unusedSimpArgs false in
set_option maxRecDepth 100000 in
set_option maxHeartbeats 1000000 in
theorem short_step (n : Nat) (p : PatN (n + 1)) (hr : rightP (n + 1) p = true) (hp : posP (n + 1) p ≤ 4096) (ih : (kind p = 4 → min_ p ≠ 0) → ∀ q ∈ kids p, ShortN n q) : ShortC n p := by
  intro S v w h
  have hlen := short_len (n + 1) p hr hp
  have IH := hide1 ih
  have HK := hide1 h
  have HRK : Hid (∀ q ∈ kids p, rightP n q = true) := by
    have h' : (topOf p && (kids p).all (rightP n)) = true := hr
    rw [Bool.and_eq_true] at h'
    exact List.all_eq_true.1 h'.2
  have htop : topOf p = true := by
    have h' : (topOf p && (kids p).all (rightP n)) = true := hr
    rw [Bool.and_eq_true] at h'
    exact h'.1
  have HONE : Hid (kind p = 4 → (kids p).length = 1) := fun hk => right_one hr hk
  obtain ⟨a, cap, rfl⟩ := h.form
  rw [valOf_eq]
  have HSA : Hid (shortA (n + 1) p = if kind p = 1 then [from_ p] else if kind p = 3 then bestOf ((kids p).map (shortA n)) else if kind p = 4 then (List.replicate (min_ p).toNat (((kids p).take 1).flatMap (shortA n))).flatten else (kids p).flatMap (shortA n)) := rfl
  unfold topOf topP at htop
  clear hr ih h
  go_enter Tryz.func16, Tryz.ntmps16
  by_cases hk1 : kind p = 1
  · rw [if_pos hk1] at htop HSA
    have ek : (kind p == 1) = true := by simpa using hk1
    simp at htop
    have hw8 : IntKind.u8.wrap (from_ p) = from_ p := by rw [IntKind.wrap_u8]; omega
    have HK1 := hide1 hk1
    clear hk1 htop hlen hp
    go_wp2_with fail
    go_ret
    rw [HSA.out]
    exact ⟨⟨_, rfl, one_row _ _ _ _ _ (by simp) (by omega)⟩, ((Kept.refl w).alloc _ _).alloc _ _⟩
  · rw [if_neg hk1] at htop HSA
    have ek : (kind p == 1) = false := by simpa using hk1
    by_cases hk3 : kind p = 3
    · rw [if_neg (by omega), if_pos hk3] at htop
      rw [if_pos hk3] at HSA
      have e3 : (kind p == 3) = true := by simpa using hk3
      simp at htop
      have HIH := hide1 (IH.out (fun e => absurd e (by omega)))
      cases n with
      | zero => rw [none_of (kids p)] at htop; simp at htop
      | succ n =>
        have HL2 : Hid (2 ≤ (kids p).length) := by show _ ≤ _; omega
        clear hk1 hk3 htop hlen hp
        go_wp2_with (go_at_call 24; refine (shortestOf_is n (kids p) HL2.out HIH.out (fun q hq => short_bytes _ q (HRK.out q hq)) S _ _ (HK.out.kept ((Kept.refl w).alloc _ _))).mono ?_; rintro e w6 ⟨⟨v6, rfl, hr6⟩, hk6⟩; have HR6 := hide1 hr6; have HK6 := hide1 (gtrans ((Kept.refl w).alloc _ _) hk6); have HS6 := hide1 (hr6.low (b' := w.heap.size) ((Kept.refl w).alloc _ _).size); clear hr6 hk6)
        go_ret
        rw [HSA.out]
        exact ⟨⟨_, rfl, HS6.out⟩, HK6.out⟩
    · rw [if_neg hk3] at HSA
      have e3 : (kind p == 3) = false := by simpa using hk3
      by_cases hk4 : kind p = 4
      · rw [if_pos hk4] at HSA
        have e4 : (kind p == 4) = true := by simpa using hk4
        rw [if_neg (by omega), if_neg hk3, if_pos hk4] at htop
        simp [timesP] at htop
        obtain ⟨mn, hmn⟩ : ∃ mn : Nat, min_ p = (mn : Int) := ⟨(min_ p).toNat, by omega⟩
        rw [hmn] at htop ⊢
        have HSB : Hid (shortA (n + 1) p = (List.replicate mn (((kids p).take 1).flatMap (shortA n))).flatten) := by
          have e := HSA.out
          rw [hmn, Int.toNat_natCast] at e
          exact e
        by_cases hm0 : mn = 0
        · subst hm0
          have HSC : Hid (shortA (n + 1) p = []) := by show _ = _; rw [HSB.out]; rfl
          clear hk1 hk3 hk4 htop hlen hp
          go_wp2_with fail
          go_ret
          rw [HSC.out]
          exact ⟨⟨_, rfl, RowIn.nil _ _ _ _⟩, (Kept.refl w).alloc _ _⟩
        · have HIH := hide1 (IH.out (fun _ => by omega))
          obtain ⟨q, hq⟩ := List.length_eq_one_iff.1 (HONE.out hk4)
          cases n with
          | zero => exact (show Empty from q).elim
          | succ n =>
            have HIQ : Hid (ShortC n q) := HIH.out q (by rw [hq]; exact List.mem_cons_self ..)
            obtain ⟨Y, hY⟩ : ∃ Y, shortA (n + 1) q = Y := ⟨_, rfl⟩
            have HY := hide1 hY
            have HSC : Hid (shortA (n + 1 + 1) p = (List.replicate mn Y).flatten) := by
              show _ = _
              rw [HSB.out, hq, ← hY]
              simp
            have hYl : mn * Y.length ≤ 4096 := by
              have e := rep_len Y mn
              rw [← HSC.out] at e
              omega
            have em : ((mn : Int) == 0) = false := by simp; omega
            have hk := HK.out
            rw [hq] at hk ⊢
            obtain ⟨a2, cap2, e2, hc2, _, h4⟩ := hk
            simp only [Value.slice.injEq] at e2
            obtain ⟨rfl, _, rfl⟩ := e2
            have gc : (1 : Int) ≤ (cap : Int) := by have := hc2; simp at this; omega
            rcases h4 with h4 | ⟨c, o, rfl, hSc, h7⟩
            · cases h4
            obtain ⟨v', g0, g1, g2, g3, g4, g5, g6⟩ := h7 0 q rfl
            obtain ⟨a3, cap3, rfl⟩ := g6.form
            simp only [Nat.zero_mul, Nat.add_zero] at g0 g1 g2 g3 g4 g5
            have HG6 := hide1 g6
            have HMN : Hid (1 ≤ mn ∧ mn ≤ 1000) := by show _ ∧ _; omega
            have HYL := hide1 hYl
            clear h7 g6 hq hk1 hk3 hk4 htop hlen hp hYl hmn hY hc2 hm0
            go_upto_region 9 with fail
            have HKW := hide1 ((Kept.refl w).alloc #[.int .i64 (kind p), .int .i64 (from_ p), .int .i64 (to_ p), .int .i64 (mn : Int), .int .i64 (max_ p), .slice (some ⟨c, o, none⟩) 1 cap] 24)
            have hbx := (BoxAt.new w (.int .i64 (kind p)) (.int .i64 (from_ p)) (.int .i64 (to_ p)) (.int .i64 (mn : Int)) (.int .i64 (max_ p)) (.slice (some ⟨c, o, none⟩) 1 cap)).facts
            have HBX := hide1 hbx
            generalize hW : w.alloc (.cells #[.int .i64 (kind p), .int .i64 (from_ p), .int .i64 (to_ p), .int .i64 (mn : Int), .int .i64 (max_ p), .slice (some ⟨c, o, none⟩) 1 cap] 24) = W at HKW HBX ⊢
            have q3 := keeps HBX.out.1.2.2.2.1
            have q5 := keeps HBX.out.1.2.2.2.2.2
            have r0 := keeps (grown_cell HKW.out g0)
            have r1 := keeps (grown_cell HKW.out g1)
            have r2 := keeps (grown_cell HKW.out g2)
            have r3 := keeps (grown_cell HKW.out g3)
            have r4 := keeps (grown_cell HKW.out g4)
            have r5 := keeps (grown_cell HKW.out g5)
            have HKQ := hide1 (HG6.out.kept HKW.out)
            have hkr : Kept W W := Kept.refl W
            clear hW hbx g0 g1 g2 g3 g4 g5
            go_region_held3 (fun w' => Kept W w') (first | assumption | exact Kept.refl _ | exact gtrans (by assumption) (by assumption))
              ((first
                | (go_at_call 16; refine (HIQ.out S _ _ (HKQ.out.kept (by assumption))).mono ?_; rintro e w7 ⟨⟨v7, rfl, hr7⟩, hk7⟩; rw [HY.out] at hr7; obtain ⟨a7, c7, e7⟩ := hr7.form; subst e7; have k7 : Kept W w7 := gtrans (by assumption) hk7)
                | (go_at_call 25; refine (brepeat_is Y mn a7 c7 _ _ (hr7.keep (by first | exact Kept.refl _ | exact drew_kept _ | exact gtrans (drew_kept _) (drew_kept _))) HMN.out.1 HMN.out.2 HYL.out).mono ?_; rintro e w8 ⟨⟨v8, rfl, hr8⟩, hk8⟩; have k8 : Kept W w8 := gtrans (by assumption) hk8)))
            have HR8 := hide1 (hr8.low (b' := w.heap.size) (gtrans HKW.out k7).size)
            have HK8 := hide1 (gtrans HKW.out k8)
            clear hr7 hr8 hk7 hk8 k7 k8 q3 q5 r0 r1 r2 r3 r4 r5 hkr
            go_wp2_with fail
            go_ret
            rw [HSC.out]
            exact ⟨⟨_, rfl, HR8.out⟩, HK8.out⟩
      · rw [if_neg hk4] at HSA
        have e4 : (kind p == 4) = false := by simpa using hk4
        have HIH := hide1 (IH.out (fun e => absurd e hk4))
        rw [HSA.out] at hlen
        obtain ⟨L, hL⟩ : ∃ L, kids p = L := ⟨_, rfl⟩
        rw [hL] at hlen HK HSA HIH ⊢
        have hlb : (L.flatMap (shortA n)).length ≤ 4096 := by omega
        have HLB := hide1 hlb
        have gl : (L.length : Int) ≤ 17592186044416 := by have := HK.out.short; omega
        have gc : (L.length : Int) ≤ (cap : Int) := by
          cases n with
          | zero => rw [none_of L]; simp
          | succ n => obtain ⟨_, _, e, h, _⟩ := HK.out; simp only [Value.slice.injEq] at e; omega
        clear hk1 hk3 hk4 htop hlen hp hL hlb HRK HONE
        go_wp2_with fail
        go_loopw [3, 35] (ShRow n L w) (fun _ i _ => L.length - (intOf i).toNat)
        case atStart => exact ⟨0, [], rfl, Nat.zero_le _, rfl, (Kept.refl w).alloc _ _, OutAt.nil _ _⟩
        case round =>
          obtain ⟨j, X, rfl, hj, HX, HKr, hown⟩ := hrel
          obtain ⟨ao, co, eo⟩ := hown.form
          obtain ⟨nx, hnx⟩ : ∃ nx, X.length = nx := ⟨_, rfl⟩
          rw [hnx] at eo
          subst eo
          have HOW := hide1 hown
          have HNX := hide1 hnx
          clear hown hnx
          by_cases hlt : (j : Int) < (L.length : Int)
          · obtain ⟨q, hq⟩ : ∃ q, L[j]? = some q := ⟨_, List.getElem?_eq_getElem (by omega)⟩
            cases n with
            | zero => exact (show Empty from q).elim
            | succ n =>
            obtain ⟨a2, cap2, e2, _, _, h4⟩ := HK.out.kept HKr.out
            simp only [Value.slice.injEq] at e2
            obtain ⟨rfl, _, rfl⟩ := e2
            rcases h4 with h4 | ⟨c, o, rfl, hSc, h7⟩
            · rw [h4] at hq; simp at hq
            · obtain ⟨v', g0, g1, g2, g3, g4, g5, g6⟩ := h7 j q hq
              obtain ⟨a3, cap3, rfl⟩ := g6.form
              have HG6 := hide1 g6
              have HQ := hide1 hq
              have HIQ : Hid (ShortC n q) := HIH.out q (List.mem_of_getElem? hq)
              obtain ⟨Y, hY⟩ : ∃ Y, shortA (n + 1) q = Y := ⟨_, rfl⟩
              have HY := hide1 hY
              obtain ⟨Z, hZ⟩ : ∃ Z, X ++ Y = Z := ⟨_, rfl⟩
              have HZ := hide1 hZ
              have hZ2 : (L.take (j + 1)).flatMap (shortA (n + 1)) = Z := by rw [row_take hq, HX.out, hY, hZ]
              have HZ2 := hide1 hZ2
              have hzl := take_len (shortA (n + 1)) L (j + 1)
              rw [hZ2] at hzl
              obtain ⟨nz, hnz⟩ : ∃ nz, Z.length = nz := ⟨_, rfl⟩
              have HNZ := hide1 hnz
              have hnz2 : nz ≤ 4096 := by have := HLB.out; omega
              have HZL := hide1 hnz2
              clear h7 g6 hq hY hZ hZ2 hzl hnz hnz2
              go_wp2_with (first
                | (go_at_call 16; refine (HIQ.out S _ _ (HG6.out.kept ((Kept.refl wr).alloc _ _))).mono ?_; rintro e w7 ⟨⟨v7, rfl, hr7⟩, hk7⟩; rw [HY.out] at hr7; have HR7 := hide1 hr7; have HK7 := hide1 (gtrans ((Kept.refl wr).alloc _ _) hk7); clear hr7 hk7)
                | (at_builtin; go_must (refine wpl_out_row rfl _ _ rfl w _ _ X (by rfl) (gtrans HKr.out HK7.out) (HOW.out.keep HK7.out) _ _ Y Z nz HZ.out HNZ.out (by rfl) HR7.out (by have := HZL.out; omega) ?_; intro b8 c8 w8 ho8 hk8; have HO8 := hide1 ho8; have HK8 := hide1 hk8; clear ho8 hk8)))
              go_roundw
              case rel => exact ⟨j + 1, Z, by go_num, by omega, HZ2, HK8, HO8.out⟩
              case measure => simp [intOf]; omega
          · have HXX : Hid (L.flatMap (shortA n) = X) := by
              have e := HX.out
              rw [List.take_of_length_le (by omega)] at e
              exact e
            go_wp2_with fail
            go_ret
            rw [HSA.out, HXX.out]
            exact ⟨⟨_, rfl, HOW.out.row⟩, HKr.out⟩
theorem short_is : ∀ (n : Nat) (p : PatN (n + 1)), rightP (n + 1) p = true → posP (n + 1) p ≤ 4096 → ShortC n p
  | 0, p, hr, hp => short_step 0 p hr hp (fun _ _ _ => trivial)
  | n + 1, p, hr, hp => short_step (n + 1) p hr hp (fun h4 q hq => short_is n q (by
      have h' : (topOf p && (kids p).all (rightP (n + 1))) = true := hr
      rw [Bool.and_eq_true] at h'
      exact List.all_eq_true.1 h'.2 q hq) (pos_kid hr hp h4 q hq))

end Ex
end Go.Proofs.YtladponlffbhfaaGreatDoor
