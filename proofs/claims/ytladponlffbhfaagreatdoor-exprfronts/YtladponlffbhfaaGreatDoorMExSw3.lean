import Derived.Test.YtladponlffbhfaaGreatDoorMExSw1
import Derived.Laws.CopyOwn
import Derived.Lib.MakeNoZero
import Derived.Laws.Bits64b
import Derived.Deep.RegionLaw
import Derived.Deep.RegionHeld3
import Derived.Deep.Cut
import Derived.Lib.SlBuf
namespace Go.Proofs.YtladponlffbhfaaGreatDoor
open Go.RowKit
attribute [local go_sem] Oper.semAt_some
namespace Ex

theorem and_lo32 (x : Nat) (h : x < 4294967296) : bits .and .u64 (x : Int) 4294967295 = (x : Int) := by
  have h2 := bits_and_u64_nat x 4294967295 (by omega) (by omega)
  have e : x &&& 4294967295 = x % 4294967296 := Nat.and_two_pow_sub_one_eq_mod x 32
  rw [e, Nat.mod_eq_of_lt h] at h2
  exact h2
set_option linter.unusedSimpArgs false in
set_option maxRecDepth 100000 in
set_option maxHeartbeats 4000000 in
theorem mul64_is (x y : Nat) (hx : x ≤ 65535) (hy : y ≤ 65535) (w : World) : Calls Tryz.prog 63 #[.int .u64 (x : Int), .int .u64 (y : Int)] w fun e w' => e = .returned (.tuple #[.int .u64 0, .int .u64 ((x * y : Nat) : Int)]) ∧ w' = w := by
  have hp : x * y ≤ 65535 * 65535 := Nat.mul_le_mul hx hy
  have a1 := and_lo32 x (by omega)
  have a2 := and_lo32 y (by omega)
  have a3 := and_lo32 0 (by omega)
  have d1 : (x : Int) / 4294967296 = 0 := by omega
  have d2 : (y : Int) / 4294967296 = 0 := by omega
  have m1 : (x : Int) * (y : Int) = ((x * y : Nat) : Int) := (Int.natCast_mul x y).symm
  have w1 : IntKind.u64.wrap ((x * y : Nat) : Int) = ((x * y : Nat) : Int) := by rw [IntKind.wrap_u64]; omega
  have d3 : ((x * y : Nat) : Int) / 4294967296 = 0 := by omega
  have w0 : IntKind.u64.wrap 0 = 0 := by rw [IntKind.wrap_u64]; rfl
  generalize hz : x * y = z at *
  go_enter Tryz.func63, Tryz.ntmps63
  go_wp2_with fail
  go_ret2
  exact ⟨rfl, rfl⟩
set_option linter.unusedSimpArgs false in
set_option maxRecDepth 100000 in
set_option maxHeartbeats 4000000 in
theorem mul_is (x y : Nat) (hx : x ≤ 65535) (hy : y ≤ 65535) (w : World) : Calls Tryz.prog 38 #[.int .u64 (x : Int), .int .u64 (y : Int)] w fun e w' => e = .returned (.tuple #[.int .u64 0, .int .u64 ((x * y : Nat) : Int)]) ∧ w' = w := by
  generalize hz : x * y = z
  go_enter Tryz.func38, Tryz.ntmps38
  go_wp2_with (go_at_call 63; refine (mul64_is x y hx hy _).mono ?_; rintro e w6 ⟨rfl, rfl⟩; rw [hz])
  go_ret2
  exact ⟨rfl, rfl⟩

end Ex
end Go.Proofs.YtladponlffbhfaaGreatDoor
namespace Go.Proofs.YtladponlffbhfaaGreatDoor
open Go.RowKit
attribute [local go_sem] Oper.semAt_some
namespace Ex

theorem splice_get {α : Type} (L : List α) (off : Nat) (cs : List α) (h : off + cs.length ≤ L.length) (i : Nat) : (splice L off cs)[i]? = if i < off then L[i]? else if i < off + cs.length then cs[i - off]? else L[i]? := by
  unfold splice
  rw [List.getElem?_append, List.length_take, Nat.min_eq_left (by omega), List.getElem?_append, List.getElem?_take, List.getElem?_drop]
  by_cases h1 : i < off
  · rw [if_pos h1, if_pos h1, if_pos h1]
  · rw [if_neg h1, if_neg h1]
    by_cases h2 : i < off + cs.length
    · rw [if_pos h2, if_pos (by omega)]
    · rw [if_neg h2, if_neg (by omega)]
      congr 1
      omega
/-- The first j bytes of a row lie in the cells. -/
def RepUp (R : List Int) (cur : List Value) (j : Nat) : Prop := ∀ (i : Nat) (y : Int), i < j → R[i]? = some y → cur[i]? = some (.int .u8 y)
theorem byteV_get (xs : List Int) (i : Nat) : (byteV xs)[i]? = (xs[i]?).map (Value.int .u8) := by rw [byteV, List.getElem?_map]
theorem rep_start {b : List Int} {c : Nat} {cur : List Value} (hc : 1 ≤ c) (hl : b.length ≤ cur.length) : RepUp (List.replicate c b).flatten (splice cur 0 (byteV b)) b.length := by
  intro i y hi hy
  rw [splice_get _ _ _ (by rw [byteV_len]; omega), if_neg (by omega), byteV_len, if_pos (by omega), byteV_get, Nat.sub_zero]
  have : b.length ≤ c * b.length := Nat.le_mul_of_pos_left _ hc
  rw [rep_get b c i (by omega), Nat.mod_eq_of_lt hi] at hy
  rw [hy]
  rfl
theorem rep_step {b : List Int} {c j m k : Nat} {cur : List Value} (h : RepUp (List.replicate c b).flatten cur j) (hj : j = m * b.length) (hT : j + k ≤ c * b.length) (hl : c * b.length ≤ cur.length) :
    RepUp (List.replicate c b).flatten (splice cur j (byteV ((List.replicate c b).flatten.take k))) (j + k) := by
  have hlen : (byteV ((List.replicate c b).flatten.take k)).length = k := by rw [byteV_len, List.length_take, rep_len]; omega
  intro i y hi hy
  rw [splice_get _ _ _ (by rw [hlen]; omega), hlen]
  by_cases h1 : i < j
  · rw [if_pos h1]
    exact h i y h1 hy
  · rw [if_neg h1, if_pos hi, byteV_get, List.getElem?_take, if_pos (by omega), rep_get b c (i - j) (by omega), rep_on hj (by omega), ← rep_get b c i (by omega), hy]
    rfl
theorem byteV_take_one (R : List Int) (k : Nat) : ∀ u ∈ byteV (R.take k), u.oneCell' = true := byteV_one _
theorem rep_src {R : List Int} {cur : List Value} {j k : Nat} {w : World} {g : Nat} {t : TypeId} (h : RepUp R cur j) (hg : w.heap[g]? = some (.cells cur.toArray t (0, 0))) (hk : k ≤ j) (i : Nat) (v : Value) (hv : (byteV (R.take k))[i]? = some v) : w.cell? ((⟨g, 0, none⟩ : Addr).add i) = some v := by
  rw [byteV_get, List.getElem?_take] at hv
  by_cases hi : i < k
  · rw [if_pos hi] at hv
    obtain ⟨y, hy, rfl⟩ := Option.map_eq_some_iff.1 hv
    have := h i y (by omega) hy
    rw [Addr.add_lit, Nat.zero_add]
    simp [World.cell?, hg, this]
  · rw [if_neg hi] at hv
    cases hv
theorem rep_row {R : List Int} {cur : List Value} {w : World} {g base : Nat} {t : TypeId} (h : RepUp R cur R.length) (hg : w.heap[g]? = some (.cells cur.toArray t (0, 0))) (hb : base ≤ g) (n : Nat) (hn : R.length = n) : RowIn w base (.slice (some ⟨g, 0, none⟩) n n) R := by
  subst hn
  refine ⟨_, _, rfl, Nat.le_refl _, .inr ⟨g, rfl, hb, fun i y hy => ?_⟩⟩
  have hi := (List.getElem?_eq_some_iff.1 hy).1
  have := h i y hi hy
  simp [World.cell?, hg, this]
/-- The loop of bytes.Repeat. -/
def RepL (b : List Int) (c T g nc : Nat) (w0 : World) (bp : Value) (wr : World) : Prop :=
  ∃ (j : Nat) (cur : List Value), bp = .int .i64 (j : Int) ∧ b.length ≤ j ∧ j ≤ T ∧ (j = T ∨ ∃ m, j = m * b.length) ∧ Hid (wr.heap[g]? = some (.cells cur.toArray 5 (0, 0))) ∧ Hid (cur.length = nc) ∧ Hid (RepUp (List.replicate c b).flatten cur j) ∧ Hid (Below w0.heap.size w0 wr)
set_option linter.unusedSimpArgs false in
set_option maxRecDepth 100000 in
set_option maxHeartbeats 800000 in
theorem brepeat_is (b : List Int) (c : Nat) (a : Option Addr) (cap base : Nat) (w : World) (h : RowIn w base (.slice a b.length cap) b) (hc1 : 1 ≤ c) (hc2 : c ≤ 1000) (hl : c * b.length ≤ 4096) :
    Calls Tryz.prog 25 #[.slice a b.length cap, .int .i64 (c : Int)] w fun e w' => (∃ v, e = .returned v ∧ RowIn w' w.heap.size v (List.replicate c b).flatten) ∧ Kept w w' := by
  obtain ⟨R, hR⟩ : ∃ R, (List.replicate c b).flatten = R := ⟨_, rfl⟩
  have hRl := rep_len b c
  rw [hR] at hRl ⊢
  have g1 : (1 : Int) ≤ (c : Int) := by omega
  have g2 : (c : Int) ≤ 1000 := by omega
  have wc : IntKind.u64.wrap (c : Int) = (c : Int) := by rw [IntKind.wrap_u64]; omega
  have HC := hide1 (And.intro hc1 hc2)
  clear hc1 hc2
  go_enter Tryz.func25, Tryz.ntmps25
  by_cases hb0 : b = []
  · subst hb0
    have hR0 : R = [] := List.length_eq_zero_iff.1 (by simpa using hRl)
    subst hR0
    clear hRl hR hl
    go_wp2_with (go_at_call 38; refine (mul_is 0 c (by omega) (by have := HC.out; omega) _).mono ?_; rintro e w6 ⟨rfl, hw6⟩; have hw7 := hw6.symm; subst hw7; rw [Nat.zero_mul])
    go_ret
    exact ⟨⟨_, rfl, RowIn.nil _ _ _ _⟩, (Kept.refl w).alloc _ _⟩
  · have hd : 1 ≤ b.length := List.length_pos_iff.2 hb0
    have hdl : b.length ≤ c * b.length := Nat.le_mul_of_pos_left _ HC.out.1
    obtain ⟨d, hdd⟩ : ∃ d, b.length = d := ⟨_, rfl⟩
    have HROW := hide1 h
    obtain ⟨av, cv, ev, _, hv⟩ := h
    simp only [Value.slice.injEq] at ev
    obtain ⟨rfl, _, rfl⟩ := ev
    rcases hv with hv | ⟨lb, rfl, _, hbc⟩
    · exact absurd hv hb0
    have HBC := hide1 hbc
    obtain ⟨T, hT⟩ : ∃ T, d * c = T := ⟨_, rfl⟩
    have hT2 : c * b.length = T := by rw [hdd, Nat.mul_comm]; exact hT
    rw [hT2] at hl hRl hdl
    rw [hdd] at hd hdl ⊢
    have gd1 : (1 : Int) ≤ (d : Int) := by omega
    have gd2 : (d : Int) ≤ (T : Int) := by omega
    have gT : (T : Int) ≤ 4096 := by omega
    have wd : IntKind.u64.wrap (d : Int) = (d : Int) := by rw [IntKind.wrap_u64]; omega
    have wT : IntKind.i64.wrap (T : Int) = (T : Int) := by rw [IntKind.wrap_i64]; omega
    have HT := hide1 hT
    have HTT := hide1 hT2
    have HDD := hide1 hdd
    have HR := hide1 hR
    have HRL := hide1 hRl
    obtain ⟨cs, hrunM, hle, _⟩ := Lib.run_makeNoZero (P := Tryz.prog) w #[3] 25 5 Tryz.underlying25 T (by omega)
    have hcall : (callFunc 39 #[.int .i64 (T : Int)]).run Tryz.prog w = .ok (.value (.slice (some ⟨w.heap.size, 0, none⟩) T cs.size)) ((w.alloc (.cells cs 5)).drewN 2) := by
      rw [run_callFunc_extern Tryz.func39 (by kernel_rfl) (by kernel_rfl) (by kernel_rfl) (e := Extern.BytealgMakeNoZero.makeNoZero #[3] #[25]) (by kernel_rfl), hrunM]
      rfl
    clear hrunM hT hT2 hdd hR hRl hbc hb0
    have i1 : (T : Int) ≤ (cs.size : Int) := by omega
    obtain ⟨nc, hnc⟩ : ∃ nc, cs.size = nc := ⟨_, rfl⟩
    have HNC := hide1 hnc
    rw [hnc] at hcall i1 hle
    have HG0 : Hid (((w.alloc (.cells cs 5)).drewN 2).heap[w.heap.size]? = some (.cells cs.toList.toArray 5 (0, 0))) := by
      show ((w.alloc (.cells cs 5)).drewN 2).heap[w.heap.size]? = _
      rw [Array.toArray_toList]
      exact heap_alloc_new w _
    have HB0 : Hid (Below w.heap.size w ((w.alloc (.cells cs 5)).drewN 2)) := ⟨rfl, rfl, rfl, by simp, fun k hk => heap_alloc_old w _ hk⟩
    clear hnc
    have hu : Tryz.prog.underlying 25 = some (.slice 5) := Tryz.underlying25
    have hsz : (Tryz.prog.info? 5).map (·.size) = some 1 := by kernel_rfl
    have HU := hide1 (And.intro hu hsz)
    clear hu hsz
    go_upto_region 17 with (go_at_call 38; refine (mul_is d c (by omega) (by have := HC.out; omega) _).mono ?_; rintro e w6 ⟨rfl, hw6⟩; have hw7 := hw6.symm; subst hw7; rw [HT.out])
    go_wp2_with ((refine wpList_copy_splice rfl _ _ 25 25 rfl 5 HU.out.1 HU.out.2 (some ⟨w.heap.size, 0, none⟩) (some ⟨lb, 0, none⟩) T T d cap rfl rfl w.heap.size 0 cs.toList 5 HG0.out (byteV b) (by rw [byteV_len, HDD.out]; exact (Nat.min_eq_left hdl).symm) (fun _ => ⟨rfl, ⟨lb, 0, none⟩, rfl, fun j u hj => by rw [byteV_get] at hj; obtain ⟨y, hy, rfl⟩ := Option.map_eq_some_iff.1 hj; rw [Addr.add_lit, Nat.zero_add]; exact Lib.Below.cellOf HB0.out (HBC.out j y hy) (Nat.le_refl _)⟩) (by have e0 : cs.toList.length = cs.size := Array.length_toList; have e1 := HNC.out; have e2 := HDD.out; rw [byteV_len]; omega) (byteV_one b) w.heap.size w HB0.out (Nat.le_refl _) ?_; intro w2 HG2 hB2; rw [byteV_len, HDD.out]; have HB2 := hide1 hB2; clear hB2))
    go_loopw [10] (RepL b c T w.heap.size nc w) (fun i _ => T - (intOf i).toNat)
    case atStart =>
      have hcl : b.length ≤ cs.toList.length := by have e0 : cs.toList.length = cs.size := Array.length_toList; have e1 := HNC.out; have e2 := HDD.out; omega
      refine ⟨d, _, rfl, Nat.le_of_eq HDD.out, hdl, .inr ⟨1, (Nat.one_mul b.length).trans HDD.out |>.symm⟩, HG2, ?_, ?_, HB2⟩
      · show (splice cs.toList 0 (byteV b)).length = nc
        rw [length_splice _ _ _ (by rw [byteV_len]; omega), Array.length_toList, HNC.out]
      · have := rep_start (b := b) (c := c) (cur := cs.toList) HC.out.1 hcl
        rw [HDD.out] at this
        exact this
    case round =>
      obtain ⟨j, cur, rfl, hj0, hj1, hjm, HG, HL, HU2, HBB⟩ := hrel
      rw [HDD.out] at hj0
      by_cases hlt : (j : Int) < (T : Int)
      · obtain ⟨m, hm⟩ : ∃ m, j = m * b.length := by
          rcases hjm with e | e
          · omega
          · exact e
        have HMM := hide1 hm
        obtain ⟨k, hk⟩ : ∃ k, Nat.min j (T - j) = k := ⟨_, rfl⟩
        have hk3 : k ≤ j ∧ j + k ≤ T ∧ 1 ≤ k ∧ (k = j ∨ j + k = T) := by
          have : min j (T - j) = k := hk
          omega
        obtain ⟨k1, k2, k3, k4⟩ := hk3
        obtain ⟨X, hX⟩ : ∃ X, byteV (R.take k) = X := ⟨_, rfl⟩
        have hXl : X.length = k := by rw [← hX, byteV_len, List.length_take, HRL.out]; omega
        have HX := hide1 hX
        have HXL := hide1 hXl
        have HK4 := hide1 k4
        have HKK := hide1 hk
        have hTj : ¬ T = j := by omega
        have hmin : min (j : Int) (T : Int) = (j : Int) := by omega
        have HSRC : Hid (∀ (i : Nat) (u : Value), X[i]? = some u → wr.cell? ((⟨w.heap.size, 0, none⟩ : Addr).add i) = some u) := fun i u hu => by
          rw [← hX, ← HR.out] at hu
          exact rep_src HU2.out HG.out k1 i u hu
        have HX1 : Hid (∀ u ∈ X, u.oneCell' = true) := by rw [← hX]; exact byteV_one _
        clear hjm hm hk k4 hX hXl
        go_upto_region 20 with fail
        go_region_held3 (fun _ => True) (exact trivial)
          ((first
            | (refine step_copy_splice (by rfl) _ _ 25 25 (by rfl) 5 HU.out.1 HU.out.2 (some ⟨w.heap.size, j, none⟩) (some ⟨w.heap.size, 0, none⟩) (T - j) (T - j) j T (by rfl) (by rfl) w.heap.size j cur 5 (by exact HG.out) X (by rw [HXL.out]; exact HKK.out.symm) (fun _ => ⟨rfl, ⟨w.heap.size, 0, none⟩, rfl, by exact HSRC.out⟩) (by rw [HXL.out, HL.out]; omega) HX1.out w.heap.size w (by first | exact HBB.out | exact HBB.out.drew | exact HBB.out.drew.drew) (Nat.le_refl _) ?_; intro w4 HG4 hB4; rw [HXL.out]; have k4 : True := trivial)))
        have HB4 := hide1 hB4
        have hwk : IntKind.i64.wrap ((j : Int) + (k : Int)) = (j : Int) + (k : Int) := by rw [IntKind.wrap_i64]; omega
        clear hB4 k4
        go_wp2_with fail
        go_roundw
        case rel =>
          refine ⟨j + k, _, by go_num, by rw [HDD.out]; omega, k2, ?_, HG4, ?_, ?_, HB4⟩
          · rcases HK4.out with e | e
            · refine .inr ⟨m + m, ?_⟩
              rw [Nat.add_mul, ← HMM.out, e]
            · exact .inl e
          · show (splice cur j X).length = nc
            rw [length_splice _ _ _ (by rw [HXL.out, HL.out]; omega), HL.out]
          · have h5 := rep_step HU2.out HMM.out (k := k) (by rw [HTT.out]; exact k2) (by rw [HTT.out, HL.out]; omega)
            rw [HR.out, HX.out, ← HR.out] at h5
            exact h5
        case measure => simp [intOf]; omega
      · obtain rfl : j = T := by omega
        clear hjm
        go_wp2_with fail
        go_ret
        have h5 := HU2.out
        rw [HR.out] at h5
        refine ⟨⟨_, rfl, rep_row (by rw [HRL.out]; exact h5) HG.out (Nat.le_refl _) _ HRL.out⟩, Kept.of HBB.out⟩

end Ex
end Go.Proofs.YtladponlffbhfaaGreatDoor
