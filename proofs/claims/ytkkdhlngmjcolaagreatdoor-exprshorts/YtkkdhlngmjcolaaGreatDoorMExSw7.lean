import Derived.Test.YtkkdhlngmjcolaaGreatDoorMExSw5
import Derived.Test.YtkkdhlngmjcolaaGreatDoorMExGd0
namespace Go.Proofs.YtkkdhlngmjcolaaGreatDoor
open Go.RowKit
attribute [local go_sem] Oper.semAt_some
namespace Ex

theorem less_str {xs ys : List Int} (hx : ∀ z ∈ xs, IsB z) (hy : ∀ z ∈ ys, IsB z) : Op.bytesLess (strOf xs).toList (strOf ys).toList = lessI xs ys := by
  rw [Lib.toList_data, Lib.toList_data, strOf_list, strOf_list, less_u8 xs ys hx hy]
set_option linter.unusedSimpArgs false in
set_option maxRecDepth 100000 in
set_option maxHeartbeats 4000000 in
/-- The document's less. -/
theorem dless_is (b1 b2 c1 c2 n1 n2 : Nat) (a1 a2 : Option Addr) (xs ys : List Int) (w : World) (e1 : xs.length = n1) (e2 : ys.length = n2) (h1 : RowIn w b1 (.slice a1 n1 c1) xs) (h2 : RowIn w b2 (.slice a2 n2 c2) ys) (hx : ∀ z ∈ xs, IsB z) (hy : ∀ z ∈ ys, IsB z) (bv : Bool) (hb : shorter xs ys = bv) :
    Calls Tryz.prog 26 #[.slice a1 n1 c1, .slice a2 n2 c2] w fun e w' => e = .returned (.bool bv) ∧ w' = w := by
  have HB := hide1 hb
  have HL := hide1 (less_str hx hy)
  by_cases hn : n1 = n2
  · subst hn
    have HE := hide1 (e1.trans e2.symm)
    have v1 := conv_row (a := a1) (c := c1) (by rw [e1]; exact h1)
    have v2 := conv_row (a := a2) (c := c2) (by rw [e2]; exact h2)
    rw [e1] at v1
    rw [e2] at v2
    obtain ⟨s1, hs1⟩ : ∃ s, strOf xs = s := ⟨_, rfl⟩
    obtain ⟨s2, hs2⟩ : ∃ s, strOf ys = s := ⟨_, rfl⟩
    rw [hs1] at v1 HL
    rw [hs2] at v2 HL
    clear e1 e2 h1 h2 hb hx hy hs1 hs2
    go_enter Tryz.func26, Tryz.ntmps26
    go_wp2_with fail
    go_ret
    exact ⟨by rw [HL.out, ← shorter_eq HE.out, HB.out]; rfl, rfl⟩
  · have hnn : ((n1 : Int) != (n2 : Int)) = true := by simp; omega
    have hne : ¬ n1 = n2 := hn
    have HE := hide1 (And.intro e1 e2)
    clear h1 h2 hb hx hy e1 e2 HL hn
    by_cases hl : n1 < n2
    · have HV : Hid (bv = true) := by show _ = _; rw [← HB.out]; exact shorter_lt (by rw [HE.out.1, HE.out.2]; exact hl)
      have hl2 : (n1 : Int) < (n2 : Int) := by omega
      go_enter Tryz.func26, Tryz.ntmps26
      go_wp2_with fail
      go_ret
      exact ⟨by rw [HV.out]; simp [hl], rfl⟩
    · have HV : Hid (bv = false) := by show _ = _; rw [← HB.out]; exact shorter_gt (by rw [HE.out.1, HE.out.2]; omega)
      have hl2 : ¬ (n1 : Int) < (n2 : Int) := by omega
      go_enter Tryz.func26, Tryz.ntmps26
      go_wp2_with fail
      go_ret
      exact ⟨by rw [HV.out]; simp [hl], rfl⟩
def shortTop {n : Nat} (p : PatN (n + 1)) : List Int := if checkP p = 0 then shortA (n + 1) p else []
theorem check_pos {n : Nat} {p : PatN (n + 1)} (h : checkP p = 0) : posP (n + 1) p ≤ 4096 := by
  unfold checkP at h
  split at h
  · split at h
    · split at h
      · cases h
      · omega
    · cases h
  · exact absurd h (by assumption)
set_option linter.unusedSimpArgs false in
set_option maxRecDepth 100000 in
set_option maxHeartbeats 4000000 in
theorem Shortest_is (S : Nat → Prop) (n : Nat) (p : PatN (n + 1)) (v : Value) (w : World) (h : KidsAt S w n (kids p) v) (hS : ∀ b, S b → b < w.heap.size) :
    Calls Tryz.prog 5 #[valOf p v] w fun e w' => (∃ vr, e = .returned (.tuple #[vr, .int .i64 (checkP p)]) ∧ RowIn w' w.heap.size vr (shortTop p)) ∧ Kept w w' := by
  have HK := hide1 h
  have HS := hide1 hS
  obtain ⟨a, cap, rfl⟩ := h.form
  obtain ⟨b0, b1, b2, b3, b4, b5⟩ := box_at w (.int .i64 (kind p)) (.int .i64 (from_ p)) (.int .i64 (to_ p)) (.int .i64 (min_ p)) (.int .i64 (max_ p)) (.slice a (kids p).length cap) 24
  have HB := hide1 (And.intro b0 (And.intro b1 (And.intro b2 (And.intro b3 (And.intro b4 b5)))))
  clear b0 b1 b2 b3 b4 b5
  rw [valOf_eq]
  have HE : Hid (shortTop p = if checkP p = 0 then shortA (n + 1) p else []) := rfl
  obtain ⟨ck, hck⟩ : ∃ ck, checkP p = ck := ⟨_, rfl⟩
  have HC := hide1 hck
  rw [hck] at HE ⊢
  go_enter Tryz.func5, Tryz.ntmps5
  by_cases hc : ck = 0
  · have HSC := hide1 (short_is n p (check_right (hck.trans hc)) (check_pos (hck.trans hc)))
    have ec : (ck != 0) = false := by simpa using hc
    rw [if_pos hc] at HE
    have HZ := hide1 hc
    clear hc hck h hS
    go_wp2_with (first
      | (go_at_call 11; refine (Check_is S n p _ _ (HK.out.kept ((Kept.refl w).alloc _ _)) (fun b hb => Nat.lt_of_lt_of_le (HS.out b hb) ((Kept.refl w).alloc _ _).size)).mono ?_; rintro e w6 ⟨rfl, hk6⟩; rw [HC.out]; have HK6 := hide1 (gtrans ((Kept.refl w).alloc _ _) hk6); have d0 := grown_cell hk6 HB.out.1; have d1 := grown_cell hk6 HB.out.2.1; have d2 := grown_cell hk6 HB.out.2.2.1; have d3 := grown_cell hk6 HB.out.2.2.2.1; have d4 := grown_cell hk6 HB.out.2.2.2.2.1; have d5 := grown_cell hk6 HB.out.2.2.2.2.2; clear hk6)
      | (go_at_call 12; refine (HSC.out S _ _ (HK.out.kept HK6.out)).mono ?_; rintro e w7 ⟨⟨v7, rfl, hr7⟩, hk7⟩; have HK7 := hide1 (gtrans HK6.out hk7); have HR7 := hide1 (hr7.low (b' := w.heap.size) HK6.out.size); clear hk7 hr7))
    go_ret2
    exact ⟨⟨_, by rw [HZ.out]; rfl, by rw [HE.out]; exact HR7.out⟩, HK7.out⟩
  · have ec : (ck != 0) = true := by simpa using hc
    rw [if_neg hc] at HE
    clear hc hck h hS
    go_wp2_with (go_at_call 11; refine (Check_is S n p _ _ (HK.out.kept ((Kept.refl w).alloc _ _)) (fun b hb => Nat.lt_of_lt_of_le (HS.out b hb) ((Kept.refl w).alloc _ _).size)).mono ?_; rintro e w6 ⟨rfl, hk6⟩; rw [HC.out]; have HK6 := hide1 (gtrans ((Kept.refl w).alloc _ _) hk6); clear hk6)
    go_ret2
    exact ⟨⟨_, rfl, by rw [HE.out]; exact RowIn.nil _ _ _ _⟩, HK6.out⟩

end Ex
end Go.Proofs.YtkkdhlngmjcolaaGreatDoor
namespace Go.Proofs.YtkkdhlngmjcolaaGreatDoor
open Go.RowKit
attribute [local go_sem] Oper.semAt_some
namespace Ex

def DShortC (n : Nat) (q : PatN (n + 1)) : Prop := ∀ (S : Nat → Prop) (v : Value) (w : World), KidsAt S w n (kids q) v →
  Calls Tryz.prog 14 #[valOf q v] w fun e w' => (∃ vr, e = .returned vr ∧ RowIn w' w.heap.size vr (shortA (n + 1) q)) ∧ Kept w w'
def DShortN : (n : Nat) → PatN n → Prop
  | 0, _ => True
  | n + 1, q => DShortC n q
def DBest (n : Nat) (L : List (PatN (n + 1))) (w W : World) (b i : Value) (wr : World) : Prop :=
  ∃ (j : Nat) (B : List Int), i = .int .i64 (j : Int) ∧ 1 ≤ j ∧ j ≤ L.length ∧ Hid (bestOf ((L.take j).map (shortA (n + 1))) = B) ∧ Hid (Kept W wr) ∧ Hid (∀ z ∈ B, IsB z) ∧ RowIn wr w.heap.size b B
def DRep (Y : List Int) (mn : Nat) (w7 : World) (vo i : Value) (wr : World) : Prop :=
  ∃ (j : Nat) (X : List Int), i = .int .i64 (j : Int) ∧ j ≤ mn ∧ Hid ((List.replicate j Y).flatten = X) ∧ Hid (Kept w7 wr) ∧ OutAt wr w7.heap.size vo X
set_option linter.unusedSimpArgs false in
set_option maxRecDepth 100000 in
set_option maxHeartbeats 1000000 in
theorem dshort_step (n : Nat) (p : PatN (n + 1)) (hr : rightP (n + 1) p = true) (hp : posP (n + 1) p ≤ 4096) (ih : (kind p = 4 → min_ p ≠ 0) → ∀ q ∈ kids p, DShortN n q) : DShortC n p := by
  intro S v w h
  have hlen := short_len (n + 1) p hr hp
  have IH := hide1 ih
  have HK := hide1 h
  have HRK : Hid (∀ q ∈ kids p, rightP n q = true) := by
    have h' : (topOf p && (kids p).all (rightP n)) = true := hr
    rw [Bool.and_eq_true] at h'
    exact List.all_eq_true.1 h'.2
  have htop : topOf p = true := by
    have h' : (topOf p && (kids p).all (rightP n)) = true := hr
    rw [Bool.and_eq_true] at h'
    exact h'.1
  have HONE : Hid (kind p = 4 → (kids p).length = 1) := fun hk => right_one hr hk
  obtain ⟨a, cap, rfl⟩ := h.form
  rw [valOf_eq]
  have HSA : Hid (shortA (n + 1) p = if kind p = 1 then [from_ p] else if kind p = 3 then bestOf ((kids p).map (shortA n)) else if kind p = 4 then (List.replicate (min_ p).toNat (((kids p).take 1).flatMap (shortA n))).flatten else (kids p).flatMap (shortA n)) := rfl
  unfold topOf topP at htop
  clear hr ih h
  go_enter Tryz.func14, Tryz.ntmps14
  by_cases hk1 : kind p = 1
  · rw [if_pos hk1] at htop HSA
    have ek : (kind p == 1) = true := by simpa using hk1
    simp at htop
    have hw8 : IntKind.u8.wrap (from_ p) = from_ p := by rw [IntKind.wrap_u8]; omega
    clear hk1 htop hlen hp
    go_wp2_with fail
    go_ret
    rw [HSA.out]
    exact ⟨⟨_, rfl, one_row _ _ _ _ _ (by simp) (by omega)⟩, ((Kept.refl w).alloc _ _).alloc _ _⟩
  · rw [if_neg hk1] at htop HSA
    have ek : (kind p == 1) = false := by simpa using hk1
    by_cases hk3 : kind p = 3
    · rw [if_neg (by omega), if_pos hk3] at htop
      rw [if_pos hk3] at HSA
      have e3 : (kind p == 3) = true := by simpa using hk3
      have e2 : (kind p == 2) = false := by simp; omega
      simp at htop
      have HIH := hide1 (IH.out (fun e => absurd e (by omega)))
      cases n with
      | zero => rw [none_of (kids p)] at htop; simp at htop
      | succ n =>
        obtain ⟨L, hL⟩ : ∃ L, kids p = L := ⟨_, rfl⟩
        rw [hL] at HK HSA HIH HRK htop ⊢
        have HIL : Hid (∀ q ∈ L, DShortC n q) := HIH.out
        have HBL : Hid (∀ q ∈ L, ∀ z ∈ shortA (n + 1) q, IsB z) := fun q hq => short_bytes _ q (HRK.out q hq)
        have g2 : (2 : Int) ≤ (L.length : Int) := by omega
        obtain ⟨a2, cap2, e2', hc2, hl2, h4⟩ := HK.out
        simp only [Value.slice.injEq] at e2'
        obtain ⟨rfl, _, rfl⟩ := e2'
        have gl : (L.length : Int) ≤ 17592186044416 := by omega
        have gc : (L.length : Int) ≤ (cap : Int) := by omega
        rcases h4 with h4 | ⟨c, o, rfl, hSc, h7⟩
        · rw [h4] at g2; simp at g2
        have H7 := hide1 h7
        obtain ⟨q, hq⟩ : ∃ q, L[0]? = some q := ⟨_, List.getElem?_eq_getElem (by omega)⟩
        obtain ⟨v', g0, g1, gg2, g3, g4, g5, g6⟩ := h7 0 q hq
        obtain ⟨a3, cap3, rfl⟩ := g6.form
        simp only [Nat.zero_mul, Nat.add_zero] at g0 g1 gg2 g3 g4 g5
        have HG6 := hide1 g6
        have HIQ := hide1 (HIL.out q (List.mem_of_getElem? hq))
        obtain ⟨B0, hB0⟩ : ∃ B0, shortA (n + 1) q = B0 := ⟨_, rfl⟩
        have HB0 := hide1 hB0
        have HBB : Hid (bestOf ((L.take 1).map (shortA (n + 1))) = B0) := by
          show _ = _
          cases L with
          | nil => simp at hq
          | cons x L => simp at hq; subst hq; simpa [bestOf] using hB0
        have HBY : Hid (∀ z ∈ B0, IsB z) := by rw [← hB0]; exact HBL.out q (List.mem_of_getElem? hq)
        clear h7 g6 hq hB0 hc2 hl2 hL hk1 hk3 htop hlen hp HIH HONE HRK
        go_upto_region 18 with fail
        have HKW := hide1 ((Kept.refl w).alloc #[.int .i64 (kind p), .int .i64 (from_ p), .int .i64 (to_ p), .int .i64 (min_ p), .int .i64 (max_ p), .slice (some ⟨c, o, none⟩) L.length cap] 24)
        have HBX := hide1 (BoxAt.new w (.int .i64 (kind p)) (.int .i64 (from_ p)) (.int .i64 (to_ p)) (.int .i64 (min_ p)) (.int .i64 (max_ p)) (.slice (some ⟨c, o, none⟩) L.length cap)).facts
        generalize hW : w.alloc (.cells #[.int .i64 (kind p), .int .i64 (from_ p), .int .i64 (to_ p), .int .i64 (min_ p), .int .i64 (max_ p), .slice (some ⟨c, o, none⟩) L.length cap] 24) = W at HKW HBX ⊢
        clear hW
        have t5 := HBX.out.1.2.2.2.2.2
        have f0 := grown_cell HKW.out g0
        have f1 := grown_cell HKW.out g1
        have f2 := grown_cell HKW.out gg2
        have f3 := grown_cell HKW.out g3
        have f4 := grown_cell HKW.out g4
        have f5 := grown_cell HKW.out g5
        clear g0 g1 gg2 g3 g4 g5
        go_wp2_with (go_at_call 14; refine (HIQ.out S _ _ (HG6.out.kept HKW.out)).mono ?_; rintro e w6 ⟨⟨v6, rfl, hr6⟩, hk6⟩; rw [HB0.out] at hr6; have HR6 := hide1 (hr6.low (b' := w.heap.size) HKW.out.size); have HK6 := hide1 hk6; clear hr6 hk6)
        clear t5 f0 f1 f2 f3 f4 f5
        go_loopw [3, 5] (DBest n L w W) (fun _ i _ => L.length - (intOf i).toNat)
        case atStart => exact ⟨1, B0, rfl, Nat.le_refl _, by omega, HBB, HK6, HBY, HR6.out⟩
        case round =>
          obtain ⟨j, B, rfl, hj1, hj, HBj, HKr, HBy, hrow⟩ := hrel
          obtain ⟨ab, cb, eb⟩ := hrow.form
          obtain ⟨nb, hnb⟩ : ∃ nb, B.length = nb := ⟨_, rfl⟩
          rw [hnb] at eb
          subst eb
          have HNB := hide1 hnb
          have HRB := hide1 hrow
          clear hrow hnb
          have t5 := grown_cell HKr.out HBX.out.1.2.2.2.2.2
          by_cases hlt : (j : Int) < (L.length : Int)
          · obtain ⟨q2, hq2⟩ : ∃ q2, L[j]? = some q2 := ⟨_, List.getElem?_eq_getElem (by omega)⟩
            obtain ⟨v', f0, f1, f2, f3, f4, f5, f6⟩ := H7.out j q2 hq2
            obtain ⟨a4, cap4, rfl⟩ := f6.form
            have HKK := hide1 (gtrans HKW.out HKr.out)
            have s0 := grown_cell HKK.out f0
            have s1 := grown_cell HKK.out f1
            have s2 := grown_cell HKK.out f2
            have s3 := grown_cell HKK.out f3
            have s4 := grown_cell HKK.out f4
            have s5 := grown_cell HKK.out f5
            have HG2 := hide1 (f6.kept HKK.out)
            have HI2 := hide1 (HIL.out q2 (List.mem_of_getElem? hq2))
            have HQ2 := hide1 hq2
            obtain ⟨Y, hY⟩ : ∃ Y, shortA (n + 1) q2 = Y := ⟨_, rfl⟩
            have HYB : Hid (∀ z ∈ Y, IsB z) := by rw [← hY]; exact HBL.out q2 (List.mem_of_getElem? hq2)
            have HY := hide1 hY
            obtain ⟨ny, hny⟩ : ∃ ny, Y.length = ny := ⟨_, rfl⟩
            have HNY := hide1 hny
            have hg0 : 0 < j := by omega
            clear hny hq2 hY f0 f1 f2 f3 f4 f5 f6
            by_cases hsh : shorter Y B = true
            · have HSH := hide1 hsh
              clear hsh
              go_wp2_with (first
                | (go_at_call 14; refine (HI2.out S _ _ HG2.out).mono ?_; rintro e w7 ⟨⟨v7, rfl, hr7⟩, hk7⟩; rw [HY.out] at hr7; obtain ⟨a7, c7, e7⟩ := hr7.form; rw [HNY.out] at e7; subst e7; have HR7 := hide1 hr7; have HK7 := hide1 hk7; clear hr7 hk7)
                | (go_at_call 26; refine (dless_is _ _ _ _ _ _ _ _ Y B _ HNY.out HNB.out HR7.out (HRB.out.keep HK7.out) HYB.out HBy.out true HSH.out).mono ?_; rintro e w8 ⟨rfl, hw8⟩; have hw9 := hw8.symm; subst hw9))
              go_roundw
              case rel =>
                refine ⟨j + 1, Y, by go_num, by omega, by omega, ?_, gtrans HKr.out HK7.out, HYB, RowIn.low HR7.out (gtrans HKW.out HKr.out).size⟩
                show bestOf _ = _
                rw [best_take HQ2.out hg0, HBj.out, HY.out, HSH.out]
                rfl
              case measure => simp [intOf]; omega
            · have hsh : shorter Y B = false := by simpa using hsh
              have HSH := hide1 hsh
              clear hsh
              go_wp2_with (first
                | (go_at_call 14; refine (HI2.out S _ _ HG2.out).mono ?_; rintro e w7 ⟨⟨v7, rfl, hr7⟩, hk7⟩; rw [HY.out] at hr7; obtain ⟨a7, c7, e7⟩ := hr7.form; rw [HNY.out] at e7; subst e7; have HR7 := hide1 hr7; have HK7 := hide1 hk7; clear hr7 hk7)
                | (go_at_call 26; refine (dless_is _ _ _ _ _ _ _ _ Y B _ HNY.out HNB.out HR7.out (HRB.out.keep HK7.out) HYB.out HBy.out false HSH.out).mono ?_; rintro e w8 ⟨rfl, hw8⟩; have hw9 := hw8.symm; subst hw9))
              go_roundw
              case rel =>
                refine ⟨j + 1, B, by go_num, by omega, by omega, ?_, gtrans HKr.out HK7.out, HBy, HRB.out.keep HK7.out⟩
                show bestOf _ = _
                rw [best_take HQ2.out hg0, HBj.out, HY.out, HSH.out]
                rfl
              case measure => simp [intOf]; omega
          · obtain rfl : j = L.length := by omega
            go_wp2_with fail
            go_ret
            refine ⟨⟨_, rfl, ?_⟩, gtrans HKW.out HKr.out⟩
            have e := HBj.out
            rw [List.take_of_length_le (Nat.le_refl _)] at e
            rw [HSA.out, e]
            exact HRB.out
    · rw [if_neg hk3] at HSA
      have e3 : (kind p == 3) = false := by simpa using hk3
      by_cases hk4 : kind p = 4
      · rw [if_pos hk4] at HSA
        have e2 : (kind p == 2) = false := by simp; omega
        rw [if_neg (by omega), if_neg hk3, if_pos hk4] at htop
        simp [timesP] at htop
        obtain ⟨mn, hmn⟩ : ∃ mn : Nat, min_ p = (mn : Int) := ⟨(min_ p).toNat, by omega⟩
        rw [hmn] at htop ⊢
        have HSB : Hid (shortA (n + 1) p = (List.replicate mn (((kids p).take 1).flatMap (shortA n))).flatten) := by
          have e := HSA.out
          rw [hmn, Int.toNat_natCast] at e
          exact e
        by_cases hm0 : mn = 0
        · subst hm0
          have HSC : Hid (shortA (n + 1) p = []) := by show _ = _; rw [HSB.out]; rfl
          clear hk1 hk3 hk4 htop hlen hp
          go_wp2_with fail
          go_ret
          rw [HSC.out]
          exact ⟨⟨_, rfl, RowIn.nil _ _ _ _⟩, (Kept.refl w).alloc _ _⟩
        · have HIH := hide1 (IH.out (fun _ => by omega))
          obtain ⟨q, hq⟩ := List.length_eq_one_iff.1 (HONE.out hk4)
          cases n with
          | zero => exact (show Empty from q).elim
          | succ n =>
            have HIQ : Hid (DShortC n q) := HIH.out q (by rw [hq]; exact List.mem_cons_self ..)
            obtain ⟨Y, hY⟩ : ∃ Y, shortA (n + 1) q = Y := ⟨_, rfl⟩
            have HY := hide1 hY
            have HSC : Hid (shortA (n + 1 + 1) p = (List.replicate mn Y).flatten) := by
              show _ = _
              rw [HSB.out, hq, ← hY]
              simp
            have hYl : mn * Y.length ≤ 4096 := by
              have e := rep_len Y mn
              rw [← HSC.out] at e
              omega
            have em : ((mn : Int) == 0) = false := by simp; omega
            have hk := HK.out
            rw [hq] at hk ⊢
            obtain ⟨a2, cap2, e2', hc2, _, h4⟩ := hk
            simp only [Value.slice.injEq] at e2'
            obtain ⟨rfl, _, rfl⟩ := e2'
            have gc : (1 : Int) ≤ (cap : Int) := by have := hc2; simp at this; omega
            rcases h4 with h4 | ⟨c, o, rfl, hSc, h7⟩
            · cases h4
            obtain ⟨v', g0, g1, g2, g3, g4, g5, g6⟩ := h7 0 q rfl
            obtain ⟨a3, cap3, rfl⟩ := g6.form
            simp only [Nat.zero_mul, Nat.add_zero] at g0 g1 g2 g3 g4 g5
            have HG6 := hide1 g6
            have gmn : (mn : Int) ≤ 1000 := by omega
            have HYL := hide1 hYl
            clear h7 g6 hq hk1 hk3 hk4 htop hlen hp hYl hmn hY hc2 hm0
            go_upto_region 5 with fail
            have HKW := hide1 ((Kept.refl w).alloc #[.int .i64 (kind p), .int .i64 (from_ p), .int .i64 (to_ p), .int .i64 (mn : Int), .int .i64 (max_ p), .slice (some ⟨c, o, none⟩) 1 cap] 24)
            have HBX := hide1 (BoxAt.new w (.int .i64 (kind p)) (.int .i64 (from_ p)) (.int .i64 (to_ p)) (.int .i64 (mn : Int)) (.int .i64 (max_ p)) (.slice (some ⟨c, o, none⟩) 1 cap)).facts
            generalize hW : w.alloc (.cells #[.int .i64 (kind p), .int .i64 (from_ p), .int .i64 (to_ p), .int .i64 (mn : Int), .int .i64 (max_ p), .slice (some ⟨c, o, none⟩) 1 cap] 24) = W at HKW HBX ⊢
            clear hW
            have t3 := HBX.out.1.2.2.2.1
            have t5 := HBX.out.1.2.2.2.2.2
            have f0 := grown_cell HKW.out g0
            have f1 := grown_cell HKW.out g1
            have f2 := grown_cell HKW.out g2
            have f3 := grown_cell HKW.out g3
            have f4 := grown_cell HKW.out g4
            have f5 := grown_cell HKW.out g5
            clear g0 g1 g2 g3 g4 g5
            go_wp2_with (go_at_call 14; refine (HIQ.out S _ _ (HG6.out.kept HKW.out)).mono ?_; rintro e w7 ⟨⟨v7, rfl, hr7⟩, hk7⟩; rw [HY.out] at hr7; have HR7 := hide1 hr7; have HK7 := hide1 hk7; clear hr7 hk7)
            clear t3 t5 f0 f1 f2 f3 f4 f5
            go_loopw [3, 8] (DRep Y mn w7) (fun _ i _ => mn - (intOf i).toNat)
            case atStart => exact ⟨0, [], rfl, Nat.zero_le _, rfl, Kept.refl _, OutAt.nil _ _⟩
            case round =>
              obtain ⟨j, X, rfl, hj, HX, HKr, hown⟩ := hrel
              obtain ⟨ao, co, eo⟩ := hown.form
              obtain ⟨nx, hnx⟩ : ∃ nx, X.length = nx := ⟨_, rfl⟩
              rw [hnx] at eo
              subst eo
              have HOW := hide1 hown
              clear hown hnx
              have t3 := grown_cell HKr.out (grown_cell HK7.out HBX.out.1.2.2.2.1)
              by_cases hlt : (j : Int) < (mn : Int)
              · obtain ⟨Z, hZ⟩ : ∃ Z, X ++ Y = Z := ⟨_, rfl⟩
                have HZ := hide1 hZ
                have HZ2 : Hid ((List.replicate (j + 1) Y).flatten = Z) := by show _ = _; rw [rep_snoc, HX.out, hZ]
                obtain ⟨nz, hnz⟩ : ∃ nz, Z.length = nz := ⟨_, rfl⟩
                have HNZ := hide1 hnz
                have HZL : Hid (nz ≤ 4096) := by
                  show nz ≤ 4096
                  have e := rep_len Y (j + 1)
                  rw [HZ2.out, hnz] at e
                  have h2 : (j + 1) * Y.length ≤ mn * Y.length := Nat.mul_le_mul_right _ (by omega)
                  have := HYL.out
                  omega
                clear hZ hnz
                go_wp2_with (at_builtin; go_must (refine wpl_out_row rfl _ _ rfl w7 _ _ X (by rfl) HKr.out HOW.out _ _ Y Z nz HZ.out HNZ.out (by rfl) (HR7.out.keep HKr.out) (by have := HZL.out; omega) ?_; intro b8 c8 w8 ho8 hk8; have HO8 := hide1 ho8; have HK8 := hide1 hk8; clear ho8 hk8))
                go_roundw
                case rel => exact ⟨j + 1, Z, by go_num, by omega, HZ2, HK8, HO8.out⟩
                case measure => simp [intOf]; omega
              · obtain rfl : j = mn := by omega
                go_wp2_with fail
                go_ret
                rw [HSC.out, HX.out]
                exact ⟨⟨_, rfl, HOW.out.row.low (gtrans HKW.out HK7.out).size⟩, gtrans HKW.out (gtrans HK7.out HKr.out)⟩
      · rw [if_neg hk4] at HSA
        have hk2 : kind p = 2 := by
          by_cases e : kind p = 2
          · exact e
          · rw [if_neg e, if_neg hk3, if_neg hk4] at htop
            cases htop
        have e2 : (kind p == 2) = true := by simpa using hk2
        have HIH := hide1 (IH.out (fun e => absurd e hk4))
        rw [HSA.out] at hlen
        obtain ⟨L, hL⟩ : ∃ L, kids p = L := ⟨_, rfl⟩
        rw [hL] at hlen HK HSA HIH ⊢
        have hlb : (L.flatMap (shortA n)).length ≤ 4096 := by omega
        have HLB := hide1 hlb
        have gl : (L.length : Int) ≤ 17592186044416 := by have := HK.out.short; omega
        have gc : (L.length : Int) ≤ (cap : Int) := by
          cases n with
          | zero => rw [none_of L]; simp
          | succ n => obtain ⟨_, _, e, h, _⟩ := HK.out; simp only [Value.slice.injEq] at e; omega
        clear hk1 hk2 hk3 hk4 htop hlen hp hL hlb HRK HONE
        go_wp2_with fail
        have HKW := hide1 ((Kept.refl w).alloc #[.int .i64 (kind p), .int .i64 (from_ p), .int .i64 (to_ p), .int .i64 (min_ p), .int .i64 (max_ p), .slice a L.length cap] 24)
        have HBX := hide1 (BoxAt.new w (.int .i64 (kind p)) (.int .i64 (from_ p)) (.int .i64 (to_ p)) (.int .i64 (min_ p)) (.int .i64 (max_ p)) (.slice a L.length cap)).facts
        generalize hW : w.alloc (.cells #[.int .i64 (kind p), .int .i64 (from_ p), .int .i64 (to_ p), .int .i64 (min_ p), .int .i64 (max_ p), .slice a L.length cap] 24) = W at HKW HBX ⊢
        clear hW
        go_loopw [3, 4] (ShRow n L W) (fun _ i _ => L.length - (intOf i).toNat)
        case atStart => exact ⟨0, [], rfl, Nat.zero_le _, rfl, Kept.refl W, OutAt.nil _ _⟩
        case round =>
          obtain ⟨j, X, rfl, hj, HX, HKr, hown⟩ := hrel
          obtain ⟨ao, co, eo⟩ := hown.form
          obtain ⟨nx, hnx⟩ : ∃ nx, X.length = nx := ⟨_, rfl⟩
          rw [hnx] at eo
          subst eo
          have HOW := hide1 hown
          have HNX := hide1 hnx
          clear hown hnx
          have t5 := grown_cell HKr.out HBX.out.1.2.2.2.2.2
          by_cases hlt : (j : Int) < (L.length : Int)
          · obtain ⟨q, hq⟩ : ∃ q, L[j]? = some q := ⟨_, List.getElem?_eq_getElem (by omega)⟩
            cases n with
            | zero => exact (show Empty from q).elim
            | succ n =>
            obtain ⟨a2, cap2, e2', _, _, h4⟩ := HK.out.kept (gtrans HKW.out HKr.out)
            simp only [Value.slice.injEq] at e2'
            obtain ⟨rfl, _, rfl⟩ := e2'
            rcases h4 with h4 | ⟨c, o, rfl, hSc, h7⟩
            · rw [h4] at hq; simp at hq
            · obtain ⟨v', g0, g1, g2, g3, g4, g5, g6⟩ := h7 j q hq
              obtain ⟨a3, cap3, rfl⟩ := g6.form
              have HG6 := hide1 g6
              have HQ := hide1 hq
              have HIQ : Hid (DShortC n q) := HIH.out q (List.mem_of_getElem? hq)
              obtain ⟨Y, hY⟩ : ∃ Y, shortA (n + 1) q = Y := ⟨_, rfl⟩
              have HY := hide1 hY
              obtain ⟨Z, hZ⟩ : ∃ Z, X ++ Y = Z := ⟨_, rfl⟩
              have HZ := hide1 hZ
              have hZ2 : (L.take (j + 1)).flatMap (shortA (n + 1)) = Z := by rw [row_take hq, HX.out, hY, hZ]
              have HZ2 := hide1 hZ2
              have hzl := take_len (shortA (n + 1)) L (j + 1)
              rw [hZ2] at hzl
              obtain ⟨nz, hnz⟩ : ∃ nz, Z.length = nz := ⟨_, rfl⟩
              have HNZ := hide1 hnz
              have hnz2 : nz ≤ 4096 := by have := HLB.out; omega
              have HZL := hide1 hnz2
              clear h7 g6 hq hY hZ hZ2 hzl hnz hnz2
              go_wp2_with (first
                | (go_at_call 14; refine (HIQ.out S _ _ HG6.out).mono ?_; rintro e w7 ⟨⟨v7, rfl, hr7⟩, hk7⟩; rw [HY.out] at hr7; have HR7 := hide1 hr7; have HK7 := hide1 hk7; clear hr7 hk7)
                | (at_builtin; go_must (refine wpl_out_row rfl _ _ rfl W _ _ X (by rfl) (gtrans HKr.out HK7.out) (HOW.out.keep HK7.out) _ _ Y Z nz HZ.out HNZ.out (by rfl) HR7.out (by have := HZL.out; omega) ?_; intro b8 c8 w8 ho8 hk8; have HO8 := hide1 ho8; have HK8 := hide1 hk8; clear ho8 hk8)))
              go_roundw
              case rel => exact ⟨j + 1, Z, by go_num, by omega, HZ2, HK8, HO8.out⟩
              case measure => simp [intOf]; omega
          · have HXX : Hid (L.flatMap (shortA n) = X) := by
              have e := HX.out
              rw [List.take_of_length_le (by omega)] at e
              exact e
            go_wp2_with fail
            go_ret
            rw [HSA.out, HXX.out]
            exact ⟨⟨_, rfl, HOW.out.row.low HKW.out.size⟩, gtrans HKW.out HKr.out⟩
theorem dshort_is : ∀ (n : Nat) (p : PatN (n + 1)), rightP (n + 1) p = true → posP (n + 1) p ≤ 4096 → DShortC n p
  | 0, p, hr, hp => dshort_step 0 p hr hp (fun _ _ _ => trivial)
  | n + 1, p, hr, hp => dshort_step (n + 1) p hr hp (fun h4 q hq => dshort_is n q (by
      have h' : (topOf p && (kids p).all (rightP (n + 1))) = true := hr
      rw [Bool.and_eq_true] at h'
      exact List.all_eq_true.1 h'.2 q hq) (pos_kid hr hp h4 q hq))
set_option linter.unusedSimpArgs false in
set_option maxRecDepth 100000 in
set_option maxHeartbeats 4000000 in
theorem rShortest_is (S : Nat → Prop) (n : Nat) (p : PatN (n + 1)) (v : Value) (w : World) (h : KidsAt S w n (kids p) v) :
    Calls Tryz.prog 6 #[valOf p v] w fun e w' => (∃ vr, e = .returned (.tuple #[vr, .int .i64 (checkP p)]) ∧ RowIn w' w.heap.size vr (shortTop p)) ∧ Kept w w' := by
  have HK := hide1 h
  obtain ⟨a, cap, rfl⟩ := h.form
  obtain ⟨b0, b1, b2, b3, b4, b5⟩ := box_at w (.int .i64 (kind p)) (.int .i64 (from_ p)) (.int .i64 (to_ p)) (.int .i64 (min_ p)) (.int .i64 (max_ p)) (.slice a (kids p).length cap) 24
  have HB := hide1 (And.intro b0 (And.intro b1 (And.intro b2 (And.intro b3 (And.intro b4 b5)))))
  clear b0 b1 b2 b3 b4 b5
  rw [valOf_eq]
  have HE : Hid (shortTop p = if checkP p = 0 then shortA (n + 1) p else []) := rfl
  obtain ⟨ck, hck⟩ : ∃ ck, checkP p = ck := ⟨_, rfl⟩
  have HC := hide1 hck
  rw [hck] at HE ⊢
  go_enter Tryz.func6, Tryz.ntmps6
  by_cases hc : ck = 0
  · have HSC := hide1 (dshort_is n p (check_right (hck.trans hc)) (check_pos (hck.trans hc)))
    have ec : (ck != 0) = false := by simpa using hc
    rw [if_pos hc] at HE
    have HZ := hide1 hc
    clear hc hck h
    go_wp2_with (first
      | (go_at_call 13; refine (rCheck_is S n p _ _ (HK.out.kept ((Kept.refl w).alloc _ _))).mono ?_; rintro e w6 ⟨rfl, hk6⟩; rw [HC.out]; have HK6 := hide1 (gtrans ((Kept.refl w).alloc _ _) hk6); have d0 := grown_cell hk6 HB.out.1; have d1 := grown_cell hk6 HB.out.2.1; have d2 := grown_cell hk6 HB.out.2.2.1; have d3 := grown_cell hk6 HB.out.2.2.2.1; have d4 := grown_cell hk6 HB.out.2.2.2.2.1; have d5 := grown_cell hk6 HB.out.2.2.2.2.2; clear hk6)
      | (go_at_call 14; refine (HSC.out S _ _ (HK.out.kept HK6.out)).mono ?_; rintro e w7 ⟨⟨v7, rfl, hr7⟩, hk7⟩; have HK7 := hide1 (gtrans HK6.out hk7); have HR7 := hide1 (hr7.low (b' := w.heap.size) HK6.out.size); clear hk7 hr7))
    go_ret2
    exact ⟨⟨_, by rw [HZ.out]; rfl, by rw [HE.out]; exact HR7.out⟩, HK7.out⟩
  · have ec : (ck != 0) = true := by simpa using hc
    rw [if_neg hc] at HE
    clear hc hck h
    go_wp2_with (go_at_call 13; refine (rCheck_is S n p _ _ (HK.out.kept ((Kept.refl w).alloc _ _))).mono ?_; rintro e w6 ⟨rfl, hk6⟩; rw [HC.out]; have HK6 := hide1 (gtrans ((Kept.refl w).alloc _ _) hk6); clear hk6)
    go_ret2
    exact ⟨⟨_, rfl, by rw [HE.out]; exact RowIn.nil _ _ _ _⟩, HK6.out⟩

end Ex
end Go.Proofs.YtkkdhlngmjcolaaGreatDoor
