import Derived.Test.YteckbpmliahhhaaTrMk2
namespace Go.Proofs.Yteckbpmliahhhaa
open Go.RowKit
attribute [local go_sem] Oper.semAt_some
namespace Ex
namespace Tr

/-- A slice of pointers to blocks, nil too. -/
def PtrsN (w : World) (v : Value) (ks : List Nat) : Prop := ∃ a cap, v = .slice a ks.length cap ∧ ks.length ≤ 1099511627776 ∧ ∀ (i b : Nat), ks[i]? = some b → ∃ c o, a = some ⟨c, o, none⟩ ∧ w.cell? ⟨c, o + i, none⟩ = some (.pointer (some ⟨b, 0, none⟩))

set_option linter.unusedSimpArgs false in
set_option maxRecDepth 100000 in
set_option maxHeartbeats 2000000 in
theorem rows_n (N : Nat → Nd) (B : Nat) (ks : List Nat) (v : Value) (w : World) (hv : PtrsN w v ks) (hN : ∀ b ∈ ks, NodeAt B w b (N b)) (hz : ∀ b ∈ ks, (N b).size ≤ 4194304) :
    Calls Try.prog 33 #[v] w fun e w' => e = .returned (.int .i64 ((1 + sizeS N ks : Nat) : Int)) ∧ w' = w := by
  obtain ⟨a, cap, rfl, hl, hc⟩ := hv
  have HC := hide1 hc
  have HN := hide1 hN
  have HZ := hide1 hz
  have hlI : (ks.length : Int) ≤ 1099511627776 := by omega
  clear hc hN hz
  go_enter Try.func33, Try.ntmps33
  go_wp2_with fail
  go_loopw [3, 8] (fun vs vi wr => ∃ j : Nat, j ≤ ks.length ∧ vi = .int .i64 (j : Int) ∧ vs = .int .i64 ((1 + sizeS N (ks.take j) : Nat) : Int) ∧ wr = w) (fun _ vi _ => ks.length - (intOf vi).toNat)
  case atStart => exact ⟨0, Nat.zero_le _, rfl, by simp [sizeS], rfl⟩
  case round =>
    obtain ⟨j, hj, rfl, rfl, rfl⟩ := hrel
    have hS : sizeS N (ks.take j) ≤ 4611686018427387904 := by
      have h1 := sizeS_le (N := N) (M := 4194304) (ks.take j) (fun b hb => HZ.out b (List.mem_of_mem_take hb))
      rw [List.length_take] at h1
      omega
    by_cases hlt : j < ks.length
    · obtain ⟨b, hb⟩ : ∃ b, ks[j]? = some b := ⟨_, List.getElem?_eq_getElem hlt⟩
      obtain ⟨c, o, rfl, t0⟩ := HC.out j b hb
      obtain ⟨kv, _, _, _, _, _, _, _, _, _, _, _, _, _, c11, _⟩ := (HN.out b (List.mem_of_getElem? hb)).cells
      have hz := HZ.out b (List.mem_of_getElem? hb)
      have HE := hide1 (sizeS_take (N := N) hb)
      obtain ⟨S0, hS0⟩ : ∃ S0, sizeS N (ks.take j) = S0 := ⟨_, rfl⟩
      obtain ⟨z, hzz⟩ : ∃ z, (N b).size = z := ⟨_, rfl⟩
      rw [hS0, hzz] at HE
      rw [hS0] at hS
      rw [hzz] at hz c11
      rw [hS0]
      clear hb hS0 hzz
      have hjI : (j : Int) < (ks.length : Int) := by omega
      have hzI : (z : Int) ≤ 4194304 := by omega
      have hSI : (S0 : Int) ≤ 4611686018427387904 := by omega
      clear hz hS
      go_wp2_with fail
      go_roundw
      case rel => exact ⟨j + 1, by omega, by go_num, by rw [HE.out]; go_num, by first | rfl | trivial⟩
      case measure => simp [intOf]; omega
    · have hjj : j = ks.length := by omega
      subst hjj
      rw [List.take_length] at hS ⊢
      go_wp2_with fail
      go_ret
      exact ⟨rfl, rfl⟩

set_option linter.unusedSimpArgs false in
set_option maxRecDepth 100000 in
set_option maxHeartbeats 2000000 in
theorem owns_n (N : Nat → Nd) (B s : Nat) (ks : List Nat) (v : Value) (w : World) (hv : PtrsN w v ks) (hN : ∀ b ∈ ks, NodeAt B w b (N b)) (m : Nat) (hs : StoreAt w s m) (hst : ∀ b ∈ ks, ∃ k, StoreAt w (N b).st k) :
    Calls Try.prog 32 #[.pointer (some ⟨s, 0, none⟩), v] w fun e w' => e = .returned (.bool (ks.all fun b => (N b).st == s)) ∧ w' = w := by
  obtain ⟨a, cap, rfl, hl, hc⟩ := hv
  have HC := hide1 hc
  have HN := hide1 hN
  have HS := hide1 hs
  have HST := hide1 hst
  have hlI : (ks.length : Int) ≤ 1099511627776 := by omega
  clear hc hN hs hst
  go_enter Try.func32, Try.ntmps32
  go_wp2_with fail
  go_loopw [9] (fun vi wr => ∃ j : Nat, j ≤ ks.length ∧ vi = .int .i64 (j : Int) ∧ Hid (∀ b ∈ ks.take j, (N b).st = s) ∧ wr = w) (fun vi _ => ks.length - (intOf vi).toNat)
  case atStart => exact ⟨0, Nat.zero_le _, rfl, by simp [Hid], rfl⟩
  case round =>
    obtain ⟨j, hj, rfl, HJ, rfl⟩ := hrel
    by_cases hlt : j < ks.length
    · obtain ⟨b, hb⟩ : ∃ b, ks[j]? = some b := ⟨_, List.getElem?_eq_getElem hlt⟩
      obtain ⟨c, o, rfl, t0⟩ := HC.out j b hb
      obtain ⟨kv, _, _, c0, _⟩ := (HN.out b (List.mem_of_getElem? hb)).cells
      have HB := hide1 hb
      clear hb
      have hjI : (j : Int) < (ks.length : Int) := by omega
      by_cases he : (N b).st = s
      · rw [he] at c0
        have hq := store_same wr s
        go_wp2_with fail
        go_roundw
        case rel =>
          refine ⟨j + 1, by omega, by go_num, ?_, by first | rfl | trivial⟩
          intro d hd
          obtain ⟨hj2, hb2⟩ := List.getElem?_eq_some_iff.1 HB.out
          rw [List.take_succ_eq_append_getElem hj2, List.mem_append] at hd
          rcases hd with hd | hd
          · exact HJ.out d hd
          · rw [List.mem_singleton.1 hd, hb2]; exact he
        case measure => simp [intOf]; omega
      · obtain ⟨k, hk⟩ := HST.out b (List.mem_of_getElem? HB.out)
        have hq := store_other hk HS.out he
        clear hk
        go_wp2_with fail
        go_ret
        refine ⟨?_, rfl⟩
        have : (ks.all fun b => (N b).st == s) = false := by
          rw [List.all_eq_false]
          exact ⟨b, List.mem_of_getElem? HB.out, by simpa using he⟩
        rw [this]
        rfl
    · have hjj : j = ks.length := by omega
      subst hjj
      go_wp2_with fail
      go_ret
      refine ⟨?_, rfl⟩
      have : (ks.all fun b => (N b).st == s) = true := by
        rw [List.all_eq_true]
        intro b hb
        have := HJ.out b (by rw [List.take_length]; exact hb)
        simpa using this
      rw [this]
      rfl

set_option linter.unusedSimpArgs false in
set_option maxRecDepth 100000 in
set_option maxHeartbeats 2000000 in
theorem make_okN (N : Nat → Nd) (B s m : Nat) (kd n : Int) (ks : List Nat) (v : Value) (w : World) (hs : StoreAt w s m) (hv : PtrsN w v ks) (hN : ∀ b ∈ ks, NodeAt B w b (N b)) (hB : B ≤ w.heap.size) (hok : ∀ b ∈ ks, NdOk (N b)) (hm : m ≤ 4611686018427387904)
    (hmay : mayP kd n = true) (hown : ownP N s ks = true) (hz : 1 + sizeS N ks ≤ 4194304) :
    Calls Try.prog 16 #[.pointer (some ⟨s, 0, none⟩), .int .i64 kd, .int .i64 n, v] w fun e w' => ∃ b, e = .returned (.tuple #[.pointer (some ⟨b, 0, none⟩), .int .i64 0]) ∧ w.heap.size ≤ b ∧ KeptBut s w w' ∧ StoreAt w' s (m + 1) ∧ NodeAt w'.heap.size w' b (makeN N s m kd n ks) ∧ RowLow w.heap.size w' b := by
  have hst : ∀ b ∈ ks, ∃ k, StoreAt w (N b).st k := fun b hb => by
    have := List.all_eq_true.1 hown b hb
    exact ⟨m, by rw [eq_of_beq this]; exact hs⟩
  have HO := hide1 (owns_n N B s ks v w hv hN m hs hst)
  have HR := hide1 (rows_n N B ks v w hv hN (fun b hb => (hok b hb).2.1))
  have HV := hide1 hv
  have HN := hide1 hN
  have HK := hide1 hok
  have HS := hide1 hs
  have HQ := hide1 hown
  unfold ownP at HQ
  have HM := hide1 hm
  have HZ := hide1 hz
  have hle := (sums_le ks hok).1
  have hlen : ks.length ≤ 4194304 := by omega
  obtain ⟨a, cap, rfl, hl, hc⟩ := hv
  obtain ⟨S, hS⟩ : ∃ S, 1 + sizeS N ks = S := ⟨_, rfl⟩
  rw [hS] at hz HR
  have hzI : (S : Int) ≤ 4194304 := by omega
  have hlI : (ks.length : Int) ≤ 4194304 := by omega
  have HC := hide1 hc
  clear hs hN hok hst hc hS hz hown hm hle hl
  go_enter Try.func16, Try.ntmps16
  go_upto_region 7 with (first
          | (go_at_call 31; refine (may_q _ _ _).mono ?_; rintro e w1 ⟨rfl, hw⟩; have hw := hw.symm; subst hw; rw [hmay])
          | (go_at_call 32; refine HO.out.mono ?_; rintro e w1 ⟨rfl, hw⟩; have hw := hw.symm; subst hw; rw [HQ.out])
          | (go_at_call 33; refine HR.out.mono ?_; rintro e w1 ⟨rfl, hw⟩; have hw := hw.symm; subst hw))
  obtain ⟨fl, hfl⟩ : ∃ fl, (kd == 3 || kd == 5) = fl := ⟨_, rfl⟩
  have HFL := hide1 hfl
  obtain ⟨i0, hi, hz0, hz1, hz2⟩ := info_parts kid_info
  cases h3 : (kd == 3)
  · go_upto_region 8 with fail
    rw [show (kd == 5) = fl by rw [← hfl, h3]; rfl]
    obtain ⟨wA, hwA⟩ : ∃ wA, w.alloc (.cells #[.pointer none, .int .i64 0, .int .i64 kd, .int .i64 n, .int .i64 0, .int .i64 0, .int .i64 0, .int .i64 0, .slice none 0 0, .int .i64 0, .int .i64 0, .int .i64 1, .bool fl] 88) = wA := ⟨_, rfl⟩
    have HKA : Hid (Kept w wA) := by rw [← hwA]; exact (Kept.refl w).alloc _ _
    have hrA : RawAt wA w.heap.size kd n (.slice none 0 0) 0 0 1 fl := by rw [← hwA]; exact World.alloc_heap_new w _
    have hsA : wA.heap.size = w.heap.size + 1 := by rw [← hwA]; simp
    rw [hwA]
    obtain ⟨wM, hmk, hoM, hgM⟩ := run_make_own (P := Try.prog) wA (w.heap.size + 1) 86 100 i0 _ 2 Try.underlying86 hi hz0 hz1 .i64 .i64 ks.length (by rw [hz2]; omega) (by unfold maxLen; omega) (by omega)
    obtain ⟨bn, hbn⟩ : ∃ bn, w.heap.size = bn := ⟨_, rfl⟩
    have hrM : RawAt wM bn kd n (.slice none 0 0) 0 0 1 fl := by rw [← hbn]; exact (hgM.block _ hrA.lt (by simp)).trans hrA
    have HKM : Hid (Kept wA wM) := ⟨hgM.os, hgM.tape, hgM.output, hgM.size, fun k hk => hgM.block k hk (by simp)⟩
    rw [hbn] at hoM hsA ⊢
    rw [hsA] at hmk hoM
    obtain ⟨y8, y9, y10, y11, y12, v8, v9, v10, v11, v12⟩ := hrM.cells
    have hblM := hrM.lt
    have HRM := hide1 hrM
    have HOM := hide1 hoM
    have HBN := hide1 hbn
    clear hwA hrA hgM hrM hoM hbn hfl h3 hi hz0 hz1 hz2
    go_upto_region 9 with fail
    have HIS : Hid (MkI N w bn (bn + 1) kd n (ks.take 0) (wM.setCell ⟨bn, 8, none⟩ (.slice (some ⟨bn + 1, 0, none⟩) 0 ks.length))) := by
      have hbt := setCell_but wM bn 8 (.slice (some ⟨bn + 1, 0, none⟩) 0 ks.length)
      have hk := gtrans HKA.out HKM.out
      refine ⟨⟨hk.1, hk.2.1, hk.2.2.1, Nat.le_trans hk.2.2.2.1 hbt.2.2.2.1, fun d hd => (hbt.2.2.2.2 d (Nat.lt_of_lt_of_le hd hk.2.2.2.1) (by have := HBN.out; omega)).trans (hk.2.2.2.2 d hd)⟩, Nat.le_trans (by omega) hbt.2.2.2.1, .slice (some ⟨bn + 1, 0, none⟩) 0 ks.length, ?_, ?_⟩
      · have e := HRM.out.setK (.slice (some ⟨bn + 1, 0, none⟩) 0 ks.length)
        have e4 : failS N (kd == 3 || kd == 5) [] = fl := by rw [HFL.out]; simp [failS]
        rw [List.take_zero, e4]
        exact e
      · exact owns_same HOM.out (fun d hd => Below.heap_setCell _ _ _ _ (show d ≠ bn by have := (HOM.out.lt d hd).1; omega))
    generalize wM.setCell ⟨bn, 8, none⟩ (.slice (some ⟨bn + 1, 0, none⟩) 0 ks.length) = wS at *
    clear y8 y9 y10 y11 y12 v8 v9 v10 v11 v12 hblM HRM HOM HKA HKM hmk hsA HFL
    go_wp2_with fail
    go_loopw [39] (fun vi wr => ∃ j : Nat, j ≤ ks.length ∧ vi = .int .i64 (j : Int) ∧ Hid (MkI N w bn (bn + 1) kd n (ks.take j) wr)) (fun vi _ => ks.length - (intOf vi).toNat)
    case atStart => exact ⟨0, Nat.zero_le _, rfl, HIS⟩
    case round =>
      obtain ⟨j, hj, rfl, HI⟩ := hrel
      clear HIS
      obtain ⟨hk, hbs, kv, hr, ho⟩ := HI.out
      by_cases hlt : j < ks.length
      · obtain ⟨b, hb⟩ : ∃ b, ks[j]? = some b := ⟨_, List.getElem?_eq_getElem hlt⟩
        have hmem := List.mem_of_getElem? hb
        obtain ⟨c, o, rfl, t00⟩ := HC.out j b hb
        have t0 := grown_cell hk t00
        clear t00
        have hjI : (j : Int) < (ks.length : Int) := by omega
        have hNb := (HN.out b hmem).keep hk
        have hsum := sums_le (ks.take j) (fun d hd => HK.out d (List.mem_of_mem_take hd))
        have hmono := sizeS_mono (N := N) ks j
        have hz1 := HZ.out
        have hob := HK.out b hmem
        unfold NdOk at hob
        have HT := hide1 (take_is B (bn + 1) bn b kd n kv _ _ _ _ _ (N b) wr hr ho hNb (by omega) (by have := HBN.out; omega) hbs (by rw [kidG_len, List.length_take]; omega) (by omega) (by omega) (by omega) (by omega) (by omega) (by omega))
        have HST : Hid (∀ w', TakeE w' (bn + 1) bn kd n (widthS N (ks.take j) + (N b).width) (leafS N (ks.take j) + (N b).leafs) (1 + sizeS N (ks.take j) + (N b).size) (failS N (kd == 3 || kd == 5) (ks.take j) || (N b).failed) (kidG N 0 (ks.take j) ++ [(b, widthS N (ks.take j))]) kv.ownBlock wr.heap.size → TK bn kv.ownBlock wr w' → MkI N w bn (bn + 1) kd n (ks.take (j + 1)) w') := fun w' h1 h2 => by
          obtain ⟨hj2, hb2⟩ := List.getElem?_eq_some_iff.1 hb
          rw [List.take_succ_eq_append_getElem hj2, hb2]
          exact MkI.step hk (by have := HBN.out; omega) (by omega) hbs ho h1 h2
        clear hk hbs hr ho hb hNb hsum hmono hz1 hob HI hmem
        go_wp2_with (go_at_call 34; refine HT.out.mono ?_; rintro e w6 ⟨rfl, he6, ht6⟩; have HI6 := hide1 (HST.out w6 he6 ht6); clear he6 ht6)
        go_roundw
        case rel => exact ⟨j + 1, by omega, by go_num, HI6⟩
        case measure => simp [intOf]; omega
      · have hjj : j = ks.length := by omega
        subst hjj
        rw [List.take_length] at hr ho
        obtain ⟨W, hW⟩ : ∃ W, widthS N ks = W := ⟨_, rfl⟩
        obtain ⟨L, hL⟩ : ∃ L, leafS N ks = L := ⟨_, rfl⟩
        obtain ⟨Z, hZ⟩ : ∃ Z, 1 + sizeS N ks = Z := ⟨_, rfl⟩
        obtain ⟨F, hF⟩ : ∃ F, failS N (kd == 3 || kd == 5) ks = F := ⟨_, rfl⟩
        rw [hW, hL, hZ, hF] at hr
        obtain ⟨ka, kc, rfl⟩ := ho.form
        rw [kidG_len] at hr
        have HE := hide1 (show makeN N s m kd n ks = { st := s, num := m + 1, kind := kd, n := n, l0 := 0, l1 := 0, l2 := 0, l3 := 0, kids := kidG N 0 ks, width := W, leafs := L, size := Z, failed := F } by rw [← hW, ← hL, ← hZ, ← hF]; rfl)
        obtain ⟨x0, x1, x2, x3, x4, x5, x6, x7⟩ := hr.heads
        obtain ⟨y8, y9, y10, y11, y12, _⟩ := hr.cells
        have hbl := hr.lt
        have HSr := hide1 (HS.out.keep hk)
        have HOr := hide1 ho
        rw [kidG_len] at HOr
        have HKr := hide1 hk
        have hsn : s < bn := by have := HS.out.lt; have := HBN.out; omega
        clear hr ho hk hbs HI hW hL hZ hF
        go_wp2_with (go_at_call 29; refine (add_is _ _ _ _ _ _ _ _ _ _ _ _ _ s m _ HSr.out HM.out).mono ?_; rintro e w7 ⟨rfl, hk7, hs7, hn7⟩; have HK7 := hide1 hk7; have HS7 := hide1 hs7; have HN7 := hide1 hn7; clear hk7 hs7 hn7)
        go_ret2
        refine ⟨wr.heap.size, rfl, HKr.out.size, (HKr.out.tbut s).trans HK7.out, HS7.out, ?_, ?_⟩
        rotate_left
        · intro kv hkv g hg
          have e8 : w7.cell? ⟨wr.heap.size, 8, none⟩ = some (.slice ka ks.length kc) := by simp [World.cell?, HN7.out]
          rw [e8] at hkv
          injection hkv with hkv
          subst hkv
          have h1 := (HOr.out.lt g hg).1
          have h2 := HBN.out
          omega
        rw [HE.out]
        have hl7 := (Array.getElem?_eq_some_iff.1 HN7.out).1
        refine ⟨hl7, _, HN7.out, ?_⟩
        have hrow := KOwn.row (w := w7) (base := bn + 1) (B := w7.heap.size) (kv := .slice ka ks.length kc) (l := kidG N 0 ks) (owns_same HOr.out (fun d hd => HK7.out.2.2.2.2 d (HOr.out.lt d hd).2 (by have := (HOr.out.lt d hd).1; omega))) (by rw [kidG_len]; exact hlen) (fun g hg => Nat.lt_of_lt_of_le (HOr.out.lt g hg).2 HK7.out.2.2.2.1)
        exact hrow
  · go_upto_region 8 with fail
    rw [show true = fl by rw [← hfl, h3]; rfl]
    obtain ⟨wA, hwA⟩ : ∃ wA, w.alloc (.cells #[.pointer none, .int .i64 0, .int .i64 kd, .int .i64 n, .int .i64 0, .int .i64 0, .int .i64 0, .int .i64 0, .slice none 0 0, .int .i64 0, .int .i64 0, .int .i64 1, .bool fl] 88) = wA := ⟨_, rfl⟩
    have HKA : Hid (Kept w wA) := by rw [← hwA]; exact (Kept.refl w).alloc _ _
    have hrA : RawAt wA w.heap.size kd n (.slice none 0 0) 0 0 1 fl := by rw [← hwA]; exact World.alloc_heap_new w _
    have hsA : wA.heap.size = w.heap.size + 1 := by rw [← hwA]; simp
    rw [hwA]
    obtain ⟨wM, hmk, hoM, hgM⟩ := run_make_own (P := Try.prog) wA (w.heap.size + 1) 86 100 i0 _ 2 Try.underlying86 hi hz0 hz1 .i64 .i64 ks.length (by rw [hz2]; omega) (by unfold maxLen; omega) (by omega)
    obtain ⟨bn, hbn⟩ : ∃ bn, w.heap.size = bn := ⟨_, rfl⟩
    have hrM : RawAt wM bn kd n (.slice none 0 0) 0 0 1 fl := by rw [← hbn]; exact (hgM.block _ hrA.lt (by simp)).trans hrA
    have HKM : Hid (Kept wA wM) := ⟨hgM.os, hgM.tape, hgM.output, hgM.size, fun k hk => hgM.block k hk (by simp)⟩
    rw [hbn] at hoM hsA ⊢
    rw [hsA] at hmk hoM
    obtain ⟨y8, y9, y10, y11, y12, v8, v9, v10, v11, v12⟩ := hrM.cells
    have hblM := hrM.lt
    have HRM := hide1 hrM
    have HOM := hide1 hoM
    have HBN := hide1 hbn
    clear hwA hrA hgM hrM hoM hbn hfl h3 hi hz0 hz1 hz2
    go_upto_region 9 with fail
    have HIS : Hid (MkI N w bn (bn + 1) kd n (ks.take 0) (wM.setCell ⟨bn, 8, none⟩ (.slice (some ⟨bn + 1, 0, none⟩) 0 ks.length))) := by
      have hbt := setCell_but wM bn 8 (.slice (some ⟨bn + 1, 0, none⟩) 0 ks.length)
      have hk := gtrans HKA.out HKM.out
      refine ⟨⟨hk.1, hk.2.1, hk.2.2.1, Nat.le_trans hk.2.2.2.1 hbt.2.2.2.1, fun d hd => (hbt.2.2.2.2 d (Nat.lt_of_lt_of_le hd hk.2.2.2.1) (by have := HBN.out; omega)).trans (hk.2.2.2.2 d hd)⟩, Nat.le_trans (by omega) hbt.2.2.2.1, .slice (some ⟨bn + 1, 0, none⟩) 0 ks.length, ?_, ?_⟩
      · have e := HRM.out.setK (.slice (some ⟨bn + 1, 0, none⟩) 0 ks.length)
        have e4 : failS N (kd == 3 || kd == 5) [] = fl := by rw [HFL.out]; simp [failS]
        rw [List.take_zero, e4]
        exact e
      · exact owns_same HOM.out (fun d hd => Below.heap_setCell _ _ _ _ (show d ≠ bn by have := (HOM.out.lt d hd).1; omega))
    generalize wM.setCell ⟨bn, 8, none⟩ (.slice (some ⟨bn + 1, 0, none⟩) 0 ks.length) = wS at *
    clear y8 y9 y10 y11 y12 v8 v9 v10 v11 v12 hblM HRM HOM HKA HKM hmk hsA HFL
    go_wp2_with fail
    go_loopw [39] (fun vi wr => ∃ j : Nat, j ≤ ks.length ∧ vi = .int .i64 (j : Int) ∧ Hid (MkI N w bn (bn + 1) kd n (ks.take j) wr)) (fun vi _ => ks.length - (intOf vi).toNat)
    case atStart => exact ⟨0, Nat.zero_le _, rfl, HIS⟩
    case round =>
      obtain ⟨j, hj, rfl, HI⟩ := hrel
      clear HIS
      obtain ⟨hk, hbs, kv, hr, ho⟩ := HI.out
      by_cases hlt : j < ks.length
      · obtain ⟨b, hb⟩ : ∃ b, ks[j]? = some b := ⟨_, List.getElem?_eq_getElem hlt⟩
        have hmem := List.mem_of_getElem? hb
        obtain ⟨c, o, rfl, t00⟩ := HC.out j b hb
        have t0 := grown_cell hk t00
        clear t00
        have hjI : (j : Int) < (ks.length : Int) := by omega
        have hNb := (HN.out b hmem).keep hk
        have hsum := sums_le (ks.take j) (fun d hd => HK.out d (List.mem_of_mem_take hd))
        have hmono := sizeS_mono (N := N) ks j
        have hz1 := HZ.out
        have hob := HK.out b hmem
        unfold NdOk at hob
        have HT := hide1 (take_is B (bn + 1) bn b kd n kv _ _ _ _ _ (N b) wr hr ho hNb (by omega) (by have := HBN.out; omega) hbs (by rw [kidG_len, List.length_take]; omega) (by omega) (by omega) (by omega) (by omega) (by omega) (by omega))
        have HST : Hid (∀ w', TakeE w' (bn + 1) bn kd n (widthS N (ks.take j) + (N b).width) (leafS N (ks.take j) + (N b).leafs) (1 + sizeS N (ks.take j) + (N b).size) (failS N (kd == 3 || kd == 5) (ks.take j) || (N b).failed) (kidG N 0 (ks.take j) ++ [(b, widthS N (ks.take j))]) kv.ownBlock wr.heap.size → TK bn kv.ownBlock wr w' → MkI N w bn (bn + 1) kd n (ks.take (j + 1)) w') := fun w' h1 h2 => by
          obtain ⟨hj2, hb2⟩ := List.getElem?_eq_some_iff.1 hb
          rw [List.take_succ_eq_append_getElem hj2, hb2]
          exact MkI.step hk (by have := HBN.out; omega) (by omega) hbs ho h1 h2
        clear hk hbs hr ho hb hNb hsum hmono hz1 hob HI hmem
        go_wp2_with (go_at_call 34; refine HT.out.mono ?_; rintro e w6 ⟨rfl, he6, ht6⟩; have HI6 := hide1 (HST.out w6 he6 ht6); clear he6 ht6)
        go_roundw
        case rel => exact ⟨j + 1, by omega, by go_num, HI6⟩
        case measure => simp [intOf]; omega
      · have hjj : j = ks.length := by omega
        subst hjj
        rw [List.take_length] at hr ho
        obtain ⟨W, hW⟩ : ∃ W, widthS N ks = W := ⟨_, rfl⟩
        obtain ⟨L, hL⟩ : ∃ L, leafS N ks = L := ⟨_, rfl⟩
        obtain ⟨Z, hZ⟩ : ∃ Z, 1 + sizeS N ks = Z := ⟨_, rfl⟩
        obtain ⟨F, hF⟩ : ∃ F, failS N (kd == 3 || kd == 5) ks = F := ⟨_, rfl⟩
        rw [hW, hL, hZ, hF] at hr
        obtain ⟨ka, kc, rfl⟩ := ho.form
        rw [kidG_len] at hr
        have HE := hide1 (show makeN N s m kd n ks = { st := s, num := m + 1, kind := kd, n := n, l0 := 0, l1 := 0, l2 := 0, l3 := 0, kids := kidG N 0 ks, width := W, leafs := L, size := Z, failed := F } by rw [← hW, ← hL, ← hZ, ← hF]; rfl)
        obtain ⟨x0, x1, x2, x3, x4, x5, x6, x7⟩ := hr.heads
        obtain ⟨y8, y9, y10, y11, y12, _⟩ := hr.cells
        have hbl := hr.lt
        have HSr := hide1 (HS.out.keep hk)
        have HOr := hide1 ho
        rw [kidG_len] at HOr
        have HKr := hide1 hk
        have hsn : s < bn := by have := HS.out.lt; have := HBN.out; omega
        clear hr ho hk hbs HI hW hL hZ hF
        go_wp2_with (go_at_call 29; refine (add_is _ _ _ _ _ _ _ _ _ _ _ _ _ s m _ HSr.out HM.out).mono ?_; rintro e w7 ⟨rfl, hk7, hs7, hn7⟩; have HK7 := hide1 hk7; have HS7 := hide1 hs7; have HN7 := hide1 hn7; clear hk7 hs7 hn7)
        go_ret2
        refine ⟨wr.heap.size, rfl, HKr.out.size, (HKr.out.tbut s).trans HK7.out, HS7.out, ?_, ?_⟩
        rotate_left
        · intro kv hkv g hg
          have e8 : w7.cell? ⟨wr.heap.size, 8, none⟩ = some (.slice ka ks.length kc) := by simp [World.cell?, HN7.out]
          rw [e8] at hkv
          injection hkv with hkv
          subst hkv
          have h1 := (HOr.out.lt g hg).1
          have h2 := HBN.out
          omega
        rw [HE.out]
        have hl7 := (Array.getElem?_eq_some_iff.1 HN7.out).1
        refine ⟨hl7, _, HN7.out, ?_⟩
        have hrow := KOwn.row (w := w7) (base := bn + 1) (B := w7.heap.size) (kv := .slice ka ks.length kc) (l := kidG N 0 ks) (owns_same HOr.out (fun d hd => HK7.out.2.2.2.2 d (HOr.out.lt d hd).2 (by have := (HOr.out.lt d hd).1; omega))) (by rw [kidG_len]; exact hlen) (fun g hg => Nat.lt_of_lt_of_le (HOr.out.lt g hg).2 HK7.out.2.2.2.1)
        exact hrow

end Tr
end Ex
end Go.Proofs.Yteckbpmliahhhaa
