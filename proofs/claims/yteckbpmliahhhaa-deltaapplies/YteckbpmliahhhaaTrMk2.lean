import Derived.Test.YteckbpmliahhhaaTrMake
namespace Go.Proofs.Yteckbpmliahhhaa
open Go.RowKit
attribute [local go_sem] Oper.semAt_some
namespace Ex
namespace Tr

theorem RawAt.heads {w : World} {b : Nat} {kd n : Int} {kv : Value} {wd lf sz : Nat} {fl : Bool} (h : RawAt w b kd n kv wd lf sz fl) : w.cell? ⟨b, 0, none⟩ = some (.pointer none) ∧ w.cell? ⟨b, 1, none⟩ = some (.int .i64 0) ∧ w.cell? ⟨b, 2, none⟩ = some (.int .i64 kd) ∧ w.cell? ⟨b, 3, none⟩ = some (.int .i64 n) ∧ w.cell? ⟨b, 4, none⟩ = some (.int .i64 0) ∧ w.cell? ⟨b, 5, none⟩ = some (.int .i64 0) ∧ w.cell? ⟨b, 6, none⟩ = some (.int .i64 0) ∧ w.cell? ⟨b, 7, none⟩ = some (.int .i64 0) := by
  unfold RawAt at h
  refine ⟨?_, ?_, ?_, ?_, ?_, ?_, ?_, ?_⟩ <;> simp [World.cell?, h]
def ownP (N : Nat → Nd) (s : Nat) (ks : List Nat) : Bool := ks.all fun b => (N b).st == s
def mkErr (N : Nat → Nd) (s : Nat) (kd n : Int) (ks : List Nat) : Int :=
  if mayP kd n = false then 101 else if ownP N s ks = false then 100 else if 4194304 < 1 + sizeS N ks then 6 else 0
set_option linter.unusedSimpArgs false in
set_option maxRecDepth 100000 in
set_option maxHeartbeats 2000000 in
theorem make_bad (N : Nat → Nd) (B s m : Nat) (kd n : Int) (ks : List Nat) (v : Value) (w : World) (hs : StoreAt w s m) (hv : PtrsAt w v ks) (hN : ∀ b ∈ ks, NodeAt B w b (N b)) (hok : ∀ b ∈ ks, NdOk (N b)) (hst : ∀ b ∈ ks, ∃ k, StoreAt w (N b).st k) (he : mkErr N s kd n ks ≠ 0) :
    Calls Try.prog 16 #[.pointer (some ⟨s, 0, none⟩), .int .i64 kd, .int .i64 n, v] w fun e w' => e = .returned (.tuple #[.pointer none, .int .i64 (mkErr N s kd n ks)]) ∧ w' = w := by
  have HO := hide1 (owns_q N B s ks v w hv hN m hs hst)
  have HR := hide1 (rows_q N B ks v w hv hN (fun b hb => (hok b hb).2.1))
  have HE := hide1 he
  obtain ⟨c, o, cap, rfl, hl, hc⟩ := hv
  unfold mkErr at he ⊢
  clear hs hN hok hst hc
  go_enter Try.func16, Try.ntmps16
  cases hm : mayP kd n with
  | false =>
    rw [if_pos rfl]
    clear he
    go_wp2_with (go_at_call 31; refine (may_q _ _ _).mono ?_; rintro e w1 ⟨rfl, hw⟩; have hw := hw.symm; subst hw; rw [hm])
    go_ret2
    exact ⟨rfl, by first | rfl | trivial⟩
  | true =>
    rw [if_neg (by simp)]
    rw [hm, if_neg (by simp)] at he
    cases hq : ownP N s ks with
    | false =>
      rw [if_pos rfl]
      clear he
      have HQ := hide1 hq
      unfold ownP at HQ
      go_wp2_with (first
        | (go_at_call 31; refine (may_q _ _ _).mono ?_; rintro e w1 ⟨rfl, hw⟩; have hw := hw.symm; subst hw; rw [hm])
        | (go_at_call 32; refine HO.out.mono ?_; rintro e w1 ⟨rfl, hw⟩; have hw := hw.symm; subst hw; rw [HQ.out]))
      go_ret2
      exact ⟨rfl, by first | rfl | trivial⟩
    | true =>
      rw [if_neg (by simp)]
      rw [hq, if_neg (by simp)] at he
      have HQ := hide1 hq
      unfold ownP at HQ
      by_cases hz : 4194304 < 1 + sizeS N ks
      · rw [if_pos hz]
        clear he
        obtain ⟨S, hS⟩ : ∃ S, 1 + sizeS N ks = S := ⟨_, rfl⟩
        rw [hS] at hz HR
        have hzI : (4194304 : Int) < (S : Int) := by omega
        clear hS hz
        go_wp2_with (first
          | (go_at_call 31; refine (may_q _ _ _).mono ?_; rintro e w1 ⟨rfl, hw⟩; have hw := hw.symm; subst hw; rw [hm])
          | (go_at_call 32; refine HO.out.mono ?_; rintro e w1 ⟨rfl, hw⟩; have hw := hw.symm; subst hw; rw [HQ.out])
          | (go_at_call 33; refine HR.out.mono ?_; rintro e w1 ⟨rfl, hw⟩; have hw := hw.symm; subst hw))
        go_ret2
        exact ⟨rfl, by first | rfl | trivial⟩
      · rw [if_neg hz] at he
        exact absurd rfl he

/-- A node's row of children lies at A or behind. -/
def RowLow (A : Nat) (w : World) (b : Nat) : Prop := ∀ kv, w.cell? ⟨b, 8, none⟩ = some kv → ∀ g, kv.ownBlock = some g → A ≤ g

set_option linter.unusedSimpArgs false in
set_option maxRecDepth 100000 in
set_option maxHeartbeats 2000000 in
theorem make_okL (N : Nat → Nd) (B s m : Nat) (kd n : Int) (ks : List Nat) (v : Value) (w : World) (hs : StoreAt w s m) (hv : PtrsAt w v ks) (hN : ∀ b ∈ ks, NodeAt B w b (N b)) (hB : B ≤ w.heap.size) (hok : ∀ b ∈ ks, NdOk (N b)) (hm : m ≤ 4611686018427387904)
    (hmay : mayP kd n = true) (hown : ownP N s ks = true) (hz : 1 + sizeS N ks ≤ 4194304) :
    Calls Try.prog 16 #[.pointer (some ⟨s, 0, none⟩), .int .i64 kd, .int .i64 n, v] w fun e w' => ∃ b, e = .returned (.tuple #[.pointer (some ⟨b, 0, none⟩), .int .i64 0]) ∧ w.heap.size ≤ b ∧ KeptBut s w w' ∧ StoreAt w' s (m + 1) ∧ NodeAt w'.heap.size w' b (makeN N s m kd n ks) ∧ RowLow w.heap.size w' b := by
  have hst : ∀ b ∈ ks, ∃ k, StoreAt w (N b).st k := fun b hb => by
    have := List.all_eq_true.1 hown b hb
    exact ⟨m, by rw [eq_of_beq this]; exact hs⟩
  have HO := hide1 (owns_q N B s ks v w hv hN m hs hst)
  have HR := hide1 (rows_q N B ks v w hv hN (fun b hb => (hok b hb).2.1))
  have HV := hide1 hv
  have HN := hide1 hN
  have HK := hide1 hok
  have HS := hide1 hs
  have HQ := hide1 hown
  unfold ownP at HQ
  have HM := hide1 hm
  have HZ := hide1 hz
  have hle := (sums_le ks hok).1
  have hlen : ks.length ≤ 4194304 := by omega
  obtain ⟨c, o, cap, rfl, hl, hc⟩ := hv
  obtain ⟨S, hS⟩ : ∃ S, 1 + sizeS N ks = S := ⟨_, rfl⟩
  rw [hS] at hz HR
  have hzI : (S : Int) ≤ 4194304 := by omega
  have hlI : (ks.length : Int) ≤ 4194304 := by omega
  have HC := hide1 hc
  clear hs hN hok hst hc hS hz hown hm hle hl
  go_enter Try.func16, Try.ntmps16
  go_upto_region 7 with (first
          | (go_at_call 31; refine (may_q _ _ _).mono ?_; rintro e w1 ⟨rfl, hw⟩; have hw := hw.symm; subst hw; rw [hmay])
          | (go_at_call 32; refine HO.out.mono ?_; rintro e w1 ⟨rfl, hw⟩; have hw := hw.symm; subst hw; rw [HQ.out])
          | (go_at_call 33; refine HR.out.mono ?_; rintro e w1 ⟨rfl, hw⟩; have hw := hw.symm; subst hw))
  obtain ⟨fl, hfl⟩ : ∃ fl, (kd == 3 || kd == 5) = fl := ⟨_, rfl⟩
  have HFL := hide1 hfl
  obtain ⟨i0, hi, hz0, hz1, hz2⟩ := info_parts kid_info
  cases h3 : (kd == 3)
  · go_upto_region 8 with fail
    rw [show (kd == 5) = fl by rw [← hfl, h3]; rfl]
    obtain ⟨wA, hwA⟩ : ∃ wA, w.alloc (.cells #[.pointer none, .int .i64 0, .int .i64 kd, .int .i64 n, .int .i64 0, .int .i64 0, .int .i64 0, .int .i64 0, .slice none 0 0, .int .i64 0, .int .i64 0, .int .i64 1, .bool fl] 88) = wA := ⟨_, rfl⟩
    have HKA : Hid (Kept w wA) := by rw [← hwA]; exact (Kept.refl w).alloc _ _
    have hrA : RawAt wA w.heap.size kd n (.slice none 0 0) 0 0 1 fl := by rw [← hwA]; exact World.alloc_heap_new w _
    have hsA : wA.heap.size = w.heap.size + 1 := by rw [← hwA]; simp
    rw [hwA]
    obtain ⟨wM, hmk, hoM, hgM⟩ := run_make_own (P := Try.prog) wA (w.heap.size + 1) 86 100 i0 _ 2 Try.underlying86 hi hz0 hz1 .i64 .i64 ks.length (by rw [hz2]; omega) (by unfold maxLen; omega) (by omega)
    obtain ⟨bn, hbn⟩ : ∃ bn, w.heap.size = bn := ⟨_, rfl⟩
    have hrM : RawAt wM bn kd n (.slice none 0 0) 0 0 1 fl := by rw [← hbn]; exact (hgM.block _ hrA.lt (by simp)).trans hrA
    have HKM : Hid (Kept wA wM) := ⟨hgM.os, hgM.tape, hgM.output, hgM.size, fun k hk => hgM.block k hk (by simp)⟩
    rw [hbn] at hoM hsA ⊢
    rw [hsA] at hmk hoM
    obtain ⟨y8, y9, y10, y11, y12, v8, v9, v10, v11, v12⟩ := hrM.cells
    have hblM := hrM.lt
    have HRM := hide1 hrM
    have HOM := hide1 hoM
    have HBN := hide1 hbn
    clear hwA hrA hgM hrM hoM hbn hfl h3 hi hz0 hz1 hz2
    go_upto_region 9 with fail
    have HIS : Hid (MkI N w bn (bn + 1) kd n (ks.take 0) (wM.setCell ⟨bn, 8, none⟩ (.slice (some ⟨bn + 1, 0, none⟩) 0 ks.length))) := by
      have hbt := setCell_but wM bn 8 (.slice (some ⟨bn + 1, 0, none⟩) 0 ks.length)
      have hk := gtrans HKA.out HKM.out
      refine ⟨⟨hk.1, hk.2.1, hk.2.2.1, Nat.le_trans hk.2.2.2.1 hbt.2.2.2.1, fun d hd => (hbt.2.2.2.2 d (Nat.lt_of_lt_of_le hd hk.2.2.2.1) (by have := HBN.out; omega)).trans (hk.2.2.2.2 d hd)⟩, Nat.le_trans (by omega) hbt.2.2.2.1, .slice (some ⟨bn + 1, 0, none⟩) 0 ks.length, ?_, ?_⟩
      · have e := HRM.out.setK (.slice (some ⟨bn + 1, 0, none⟩) 0 ks.length)
        have e4 : failS N (kd == 3 || kd == 5) [] = fl := by rw [HFL.out]; simp [failS]
        rw [List.take_zero, e4]
        exact e
      · exact owns_same HOM.out (fun d hd => Below.heap_setCell _ _ _ _ (show d ≠ bn by have := (HOM.out.lt d hd).1; omega))
    generalize wM.setCell ⟨bn, 8, none⟩ (.slice (some ⟨bn + 1, 0, none⟩) 0 ks.length) = wS at *
    clear y8 y9 y10 y11 y12 v8 v9 v10 v11 v12 hblM HRM HOM HKA HKM hmk hsA HFL
    go_wp2_with fail
    go_loopw [39] (fun vi wr => ∃ j : Nat, j ≤ ks.length ∧ vi = .int .i64 (j : Int) ∧ Hid (MkI N w bn (bn + 1) kd n (ks.take j) wr)) (fun vi _ => ks.length - (intOf vi).toNat)
    case atStart => exact ⟨0, Nat.zero_le _, rfl, HIS⟩
    case round =>
      obtain ⟨j, hj, rfl, HI⟩ := hrel
      clear HIS
      obtain ⟨hk, hbs, kv, hr, ho⟩ := HI.out
      by_cases hlt : j < ks.length
      · obtain ⟨b, hb⟩ : ∃ b, ks[j]? = some b := ⟨_, List.getElem?_eq_getElem hlt⟩
        have hmem := List.mem_of_getElem? hb
        have t0 := grown_cell hk (HC.out j b hb)
        have hjI : (j : Int) < (ks.length : Int) := by omega
        have hNb := (HN.out b hmem).keep hk
        have hsum := sums_le (ks.take j) (fun d hd => HK.out d (List.mem_of_mem_take hd))
        have hmono := sizeS_mono (N := N) ks j
        have hz1 := HZ.out
        have hob := HK.out b hmem
        unfold NdOk at hob
        have HT := hide1 (take_is B (bn + 1) bn b kd n kv _ _ _ _ _ (N b) wr hr ho hNb (by omega) (by have := HBN.out; omega) hbs (by rw [kidG_len, List.length_take]; omega) (by omega) (by omega) (by omega) (by omega) (by omega) (by omega))
        have HST : Hid (∀ w', TakeE w' (bn + 1) bn kd n (widthS N (ks.take j) + (N b).width) (leafS N (ks.take j) + (N b).leafs) (1 + sizeS N (ks.take j) + (N b).size) (failS N (kd == 3 || kd == 5) (ks.take j) || (N b).failed) (kidG N 0 (ks.take j) ++ [(b, widthS N (ks.take j))]) kv.ownBlock wr.heap.size → TK bn kv.ownBlock wr w' → MkI N w bn (bn + 1) kd n (ks.take (j + 1)) w') := fun w' h1 h2 => by
          obtain ⟨hj2, hb2⟩ := List.getElem?_eq_some_iff.1 hb
          rw [List.take_succ_eq_append_getElem hj2, hb2]
          exact MkI.step hk (by have := HBN.out; omega) (by omega) hbs ho h1 h2
        clear hk hbs hr ho hb hNb hsum hmono hz1 hob HI hmem
        go_wp2_with (go_at_call 34; refine HT.out.mono ?_; rintro e w6 ⟨rfl, he6, ht6⟩; have HI6 := hide1 (HST.out w6 he6 ht6); clear he6 ht6)
        go_roundw
        case rel => exact ⟨j + 1, by omega, by go_num, HI6⟩
        case measure => simp [intOf]; omega
      · have hjj : j = ks.length := by omega
        subst hjj
        rw [List.take_length] at hr ho
        obtain ⟨W, hW⟩ : ∃ W, widthS N ks = W := ⟨_, rfl⟩
        obtain ⟨L, hL⟩ : ∃ L, leafS N ks = L := ⟨_, rfl⟩
        obtain ⟨Z, hZ⟩ : ∃ Z, 1 + sizeS N ks = Z := ⟨_, rfl⟩
        obtain ⟨F, hF⟩ : ∃ F, failS N (kd == 3 || kd == 5) ks = F := ⟨_, rfl⟩
        rw [hW, hL, hZ, hF] at hr
        obtain ⟨ka, kc, rfl⟩ := ho.form
        rw [kidG_len] at hr
        have HE := hide1 (show makeN N s m kd n ks = { st := s, num := m + 1, kind := kd, n := n, l0 := 0, l1 := 0, l2 := 0, l3 := 0, kids := kidG N 0 ks, width := W, leafs := L, size := Z, failed := F } by rw [← hW, ← hL, ← hZ, ← hF]; rfl)
        obtain ⟨x0, x1, x2, x3, x4, x5, x6, x7⟩ := hr.heads
        obtain ⟨y8, y9, y10, y11, y12, _⟩ := hr.cells
        have hbl := hr.lt
        have HSr := hide1 (HS.out.keep hk)
        have HOr := hide1 ho
        rw [kidG_len] at HOr
        have HKr := hide1 hk
        have hsn : s < bn := by have := HS.out.lt; have := HBN.out; omega
        clear hr ho hk hbs HI hW hL hZ hF
        go_wp2_with (go_at_call 29; refine (add_is _ _ _ _ _ _ _ _ _ _ _ _ _ s m _ HSr.out HM.out).mono ?_; rintro e w7 ⟨rfl, hk7, hs7, hn7⟩; have HK7 := hide1 hk7; have HS7 := hide1 hs7; have HN7 := hide1 hn7; clear hk7 hs7 hn7)
        go_ret2
        refine ⟨wr.heap.size, rfl, HKr.out.size, (HKr.out.tbut s).trans HK7.out, HS7.out, ?_, ?_⟩
        rotate_left
        · intro kv hkv g hg
          have e8 : w7.cell? ⟨wr.heap.size, 8, none⟩ = some (.slice ka ks.length kc) := by simp [World.cell?, HN7.out]
          rw [e8] at hkv
          injection hkv with hkv
          subst hkv
          have h1 := (HOr.out.lt g hg).1
          have h2 := HBN.out
          omega
        rw [HE.out]
        have hl7 := (Array.getElem?_eq_some_iff.1 HN7.out).1
        refine ⟨hl7, _, HN7.out, ?_⟩
        have hrow := KOwn.row (w := w7) (base := bn + 1) (B := w7.heap.size) (kv := .slice ka ks.length kc) (l := kidG N 0 ks) (owns_same HOr.out (fun d hd => HK7.out.2.2.2.2 d (HOr.out.lt d hd).2 (by have := (HOr.out.lt d hd).1; omega))) (by rw [kidG_len]; exact hlen) (fun g hg => Nat.lt_of_lt_of_le (HOr.out.lt g hg).2 HK7.out.2.2.2.1)
        exact hrow
  · go_upto_region 8 with fail
    rw [show true = fl by rw [← hfl, h3]; rfl]
    obtain ⟨wA, hwA⟩ : ∃ wA, w.alloc (.cells #[.pointer none, .int .i64 0, .int .i64 kd, .int .i64 n, .int .i64 0, .int .i64 0, .int .i64 0, .int .i64 0, .slice none 0 0, .int .i64 0, .int .i64 0, .int .i64 1, .bool fl] 88) = wA := ⟨_, rfl⟩
    have HKA : Hid (Kept w wA) := by rw [← hwA]; exact (Kept.refl w).alloc _ _
    have hrA : RawAt wA w.heap.size kd n (.slice none 0 0) 0 0 1 fl := by rw [← hwA]; exact World.alloc_heap_new w _
    have hsA : wA.heap.size = w.heap.size + 1 := by rw [← hwA]; simp
    rw [hwA]
    obtain ⟨wM, hmk, hoM, hgM⟩ := run_make_own (P := Try.prog) wA (w.heap.size + 1) 86 100 i0 _ 2 Try.underlying86 hi hz0 hz1 .i64 .i64 ks.length (by rw [hz2]; omega) (by unfold maxLen; omega) (by omega)
    obtain ⟨bn, hbn⟩ : ∃ bn, w.heap.size = bn := ⟨_, rfl⟩
    have hrM : RawAt wM bn kd n (.slice none 0 0) 0 0 1 fl := by rw [← hbn]; exact (hgM.block _ hrA.lt (by simp)).trans hrA
    have HKM : Hid (Kept wA wM) := ⟨hgM.os, hgM.tape, hgM.output, hgM.size, fun k hk => hgM.block k hk (by simp)⟩
    rw [hbn] at hoM hsA ⊢
    rw [hsA] at hmk hoM
    obtain ⟨y8, y9, y10, y11, y12, v8, v9, v10, v11, v12⟩ := hrM.cells
    have hblM := hrM.lt
    have HRM := hide1 hrM
    have HOM := hide1 hoM
    have HBN := hide1 hbn
    clear hwA hrA hgM hrM hoM hbn hfl h3 hi hz0 hz1 hz2
    go_upto_region 9 with fail
    have HIS : Hid (MkI N w bn (bn + 1) kd n (ks.take 0) (wM.setCell ⟨bn, 8, none⟩ (.slice (some ⟨bn + 1, 0, none⟩) 0 ks.length))) := by
      have hbt := setCell_but wM bn 8 (.slice (some ⟨bn + 1, 0, none⟩) 0 ks.length)
      have hk := gtrans HKA.out HKM.out
      refine ⟨⟨hk.1, hk.2.1, hk.2.2.1, Nat.le_trans hk.2.2.2.1 hbt.2.2.2.1, fun d hd => (hbt.2.2.2.2 d (Nat.lt_of_lt_of_le hd hk.2.2.2.1) (by have := HBN.out; omega)).trans (hk.2.2.2.2 d hd)⟩, Nat.le_trans (by omega) hbt.2.2.2.1, .slice (some ⟨bn + 1, 0, none⟩) 0 ks.length, ?_, ?_⟩
      · have e := HRM.out.setK (.slice (some ⟨bn + 1, 0, none⟩) 0 ks.length)
        have e4 : failS N (kd == 3 || kd == 5) [] = fl := by rw [HFL.out]; simp [failS]
        rw [List.take_zero, e4]
        exact e
      · exact owns_same HOM.out (fun d hd => Below.heap_setCell _ _ _ _ (show d ≠ bn by have := (HOM.out.lt d hd).1; omega))
    generalize wM.setCell ⟨bn, 8, none⟩ (.slice (some ⟨bn + 1, 0, none⟩) 0 ks.length) = wS at *
    clear y8 y9 y10 y11 y12 v8 v9 v10 v11 v12 hblM HRM HOM HKA HKM hmk hsA HFL
    go_wp2_with fail
    go_loopw [39] (fun vi wr => ∃ j : Nat, j ≤ ks.length ∧ vi = .int .i64 (j : Int) ∧ Hid (MkI N w bn (bn + 1) kd n (ks.take j) wr)) (fun vi _ => ks.length - (intOf vi).toNat)
    case atStart => exact ⟨0, Nat.zero_le _, rfl, HIS⟩
    case round =>
      obtain ⟨j, hj, rfl, HI⟩ := hrel
      clear HIS
      obtain ⟨hk, hbs, kv, hr, ho⟩ := HI.out
      by_cases hlt : j < ks.length
      · obtain ⟨b, hb⟩ : ∃ b, ks[j]? = some b := ⟨_, List.getElem?_eq_getElem hlt⟩
        have hmem := List.mem_of_getElem? hb
        have t0 := grown_cell hk (HC.out j b hb)
        have hjI : (j : Int) < (ks.length : Int) := by omega
        have hNb := (HN.out b hmem).keep hk
        have hsum := sums_le (ks.take j) (fun d hd => HK.out d (List.mem_of_mem_take hd))
        have hmono := sizeS_mono (N := N) ks j
        have hz1 := HZ.out
        have hob := HK.out b hmem
        unfold NdOk at hob
        have HT := hide1 (take_is B (bn + 1) bn b kd n kv _ _ _ _ _ (N b) wr hr ho hNb (by omega) (by have := HBN.out; omega) hbs (by rw [kidG_len, List.length_take]; omega) (by omega) (by omega) (by omega) (by omega) (by omega) (by omega))
        have HST : Hid (∀ w', TakeE w' (bn + 1) bn kd n (widthS N (ks.take j) + (N b).width) (leafS N (ks.take j) + (N b).leafs) (1 + sizeS N (ks.take j) + (N b).size) (failS N (kd == 3 || kd == 5) (ks.take j) || (N b).failed) (kidG N 0 (ks.take j) ++ [(b, widthS N (ks.take j))]) kv.ownBlock wr.heap.size → TK bn kv.ownBlock wr w' → MkI N w bn (bn + 1) kd n (ks.take (j + 1)) w') := fun w' h1 h2 => by
          obtain ⟨hj2, hb2⟩ := List.getElem?_eq_some_iff.1 hb
          rw [List.take_succ_eq_append_getElem hj2, hb2]
          exact MkI.step hk (by have := HBN.out; omega) (by omega) hbs ho h1 h2
        clear hk hbs hr ho hb hNb hsum hmono hz1 hob HI hmem
        go_wp2_with (go_at_call 34; refine HT.out.mono ?_; rintro e w6 ⟨rfl, he6, ht6⟩; have HI6 := hide1 (HST.out w6 he6 ht6); clear he6 ht6)
        go_roundw
        case rel => exact ⟨j + 1, by omega, by go_num, HI6⟩
        case measure => simp [intOf]; omega
      · have hjj : j = ks.length := by omega
        subst hjj
        rw [List.take_length] at hr ho
        obtain ⟨W, hW⟩ : ∃ W, widthS N ks = W := ⟨_, rfl⟩
        obtain ⟨L, hL⟩ : ∃ L, leafS N ks = L := ⟨_, rfl⟩
        obtain ⟨Z, hZ⟩ : ∃ Z, 1 + sizeS N ks = Z := ⟨_, rfl⟩
        obtain ⟨F, hF⟩ : ∃ F, failS N (kd == 3 || kd == 5) ks = F := ⟨_, rfl⟩
        rw [hW, hL, hZ, hF] at hr
        obtain ⟨ka, kc, rfl⟩ := ho.form
        rw [kidG_len] at hr
        have HE := hide1 (show makeN N s m kd n ks = { st := s, num := m + 1, kind := kd, n := n, l0 := 0, l1 := 0, l2 := 0, l3 := 0, kids := kidG N 0 ks, width := W, leafs := L, size := Z, failed := F } by rw [← hW, ← hL, ← hZ, ← hF]; rfl)
        obtain ⟨x0, x1, x2, x3, x4, x5, x6, x7⟩ := hr.heads
        obtain ⟨y8, y9, y10, y11, y12, _⟩ := hr.cells
        have hbl := hr.lt
        have HSr := hide1 (HS.out.keep hk)
        have HOr := hide1 ho
        rw [kidG_len] at HOr
        have HKr := hide1 hk
        have hsn : s < bn := by have := HS.out.lt; have := HBN.out; omega
        clear hr ho hk hbs HI hW hL hZ hF
        go_wp2_with (go_at_call 29; refine (add_is _ _ _ _ _ _ _ _ _ _ _ _ _ s m _ HSr.out HM.out).mono ?_; rintro e w7 ⟨rfl, hk7, hs7, hn7⟩; have HK7 := hide1 hk7; have HS7 := hide1 hs7; have HN7 := hide1 hn7; clear hk7 hs7 hn7)
        go_ret2
        refine ⟨wr.heap.size, rfl, HKr.out.size, (HKr.out.tbut s).trans HK7.out, HS7.out, ?_, ?_⟩
        rotate_left
        · intro kv hkv g hg
          have e8 : w7.cell? ⟨wr.heap.size, 8, none⟩ = some (.slice ka ks.length kc) := by simp [World.cell?, HN7.out]
          rw [e8] at hkv
          injection hkv with hkv
          subst hkv
          have h1 := (HOr.out.lt g hg).1
          have h2 := HBN.out
          omega
        rw [HE.out]
        have hl7 := (Array.getElem?_eq_some_iff.1 HN7.out).1
        refine ⟨hl7, _, HN7.out, ?_⟩
        have hrow := KOwn.row (w := w7) (base := bn + 1) (B := w7.heap.size) (kv := .slice ka ks.length kc) (l := kidG N 0 ks) (owns_same HOr.out (fun d hd => HK7.out.2.2.2.2 d (HOr.out.lt d hd).2 (by have := (HOr.out.lt d hd).1; omega))) (by rw [kidG_len]; exact hlen) (fun g hg => Nat.lt_of_lt_of_le (HOr.out.lt g hg).2 HK7.out.2.2.2.1)
        exact hrow

theorem make_ok (N : Nat → Nd) (B s m : Nat) (kd n : Int) (ks : List Nat) (v : Value) (w : World) (hs : StoreAt w s m) (hv : PtrsAt w v ks) (hN : ∀ b ∈ ks, NodeAt B w b (N b)) (hB : B ≤ w.heap.size) (hok : ∀ b ∈ ks, NdOk (N b)) (hm : m ≤ 4611686018427387904)
    (hmay : mayP kd n = true) (hown : ownP N s ks = true) (hz : 1 + sizeS N ks ≤ 4194304) :
    Calls Try.prog 16 #[.pointer (some ⟨s, 0, none⟩), .int .i64 kd, .int .i64 n, v] w fun e w' => ∃ b, e = .returned (.tuple #[.pointer (some ⟨b, 0, none⟩), .int .i64 0]) ∧ w.heap.size ≤ b ∧ KeptBut s w w' ∧ StoreAt w' s (m + 1) ∧ NodeAt w'.heap.size w' b (makeN N s m kd n ks) := (make_okL N B s m kd n ks v w hs hv hN hB hok hm hmay hown hz).mono fun _ _ ⟨b, h1, h2, h3, h4, h5, _⟩ => ⟨b, h1, h2, h3, h4, h5⟩

end Tr
end Ex
end Go.Proofs.Yteckbpmliahhhaa
