import Derived.Test.YthnbmkapmnpkoaaDoorMExSt1
import Derived.Deep.AppendLies
import Derived.Deep.DeepMust
import Derived.OwnWalk
namespace Go.Proofs.YthnbmkapmnpkoaaDoor
open Go.RowKit
attribute [local go_sem] Oper.semAt_some
namespace Ex

theorem info_of {P : Program} {e : TypeId} {z : Value} {s b : Nat} (h : (P.info? e).map (fun i => (i.zero, i.size, i.bytes)) = some (some z, s, b)) : ∃ i, P.info? e = some i ∧ i.zero = some z ∧ i.size = s ∧ i.bytes = b := by
  obtain ⟨i, hi, h2⟩ := Option.map_eq_some_iff.1 h
  simp only [Prod.mk.injEq] at h2
  exact ⟨i, hi, h2.1, h2.2.1, h2.2.2⟩
theorem owns_kept {w w' : World} {base size n : Nat} {e : TypeId} {v : Value} {xs : List Value} (h : w.ownsRow base e size v n xs) (hh : ∀ g, v.ownBlock = some g → w'.heap[g]? = w.heap[g]?) : w'.ownsRow base e size v n xs := by
  refine ⟨h.1, ?_⟩
  rcases h.2 with h0 | ⟨g, cap, cur, rfl, h1, h2, h3⟩
  · exact .inl h0
  · exact .inr ⟨g, cap, cur, rfl, h1, by rw [hh g rfl]; exact h2, h3⟩
/-- Chunks anywhere. -/
def ChunksAt (S : Nat → Prop) (w : World) (v : Value) (l : List (Nat × Nat)) : Prop :=
  ∃ a cap, v = .slice a l.length cap ∧ l.length ≤ cap ∧ l.length ≤ 65 ∧ (l = [] ∨ ∃ g, a = some ⟨g, 0, none⟩ ∧ S g ∧ ∀ (i : Nat) (c : Nat × Nat), l[i]? = some c → w.cell? ⟨g, i * 2, none⟩ = some (.int .i64 (c.1 : Int)) ∧ w.cell? ⟨g, i * 2 + 1, none⟩ = some (.int .u64 (c.2 : Int)))
theorem cells_row {w : World} {g n : Nat} {cur : Array Value} {xs : List Value} {t : TypeId} (h : w.heap[g]? = some (.cells cur t (0, 0))) (hx : cur.toList.take n = xs) {j : Nat} {u : Value} (hj : xs[j]? = some u) : w.cell? ⟨g, j, none⟩ = some u := by
  rw [← hx, List.getElem?_take] at hj
  split at hj
  · unfold World.cell?
    simp only [h]
    simpa using hj
  · cases hj
theorem ChunksAt.mono {S S' : Nat → Prop} {w w' : World} {v : Value} {l : List (Nat × Nat)} (h : ChunksAt S w v l) (hs : Holds S w w') (hS : ∀ d, S d → S' d) : ChunksAt S' w' v l := by
  obtain ⟨a, cap, h1, h2, h3, h4⟩ := h
  refine ⟨a, cap, h1, h2, h3, ?_⟩
  rcases h4 with h4 | ⟨g, h5, h6, h7⟩
  · exact .inl h4
  · exact .inr ⟨g, h5, hS g h6, fun i c hi => ⟨hs _ _ _ h6 (h7 i c hi).1, hs _ _ _ h6 (h7 i c hi).2⟩⟩
theorem kept_grow {w W w' : World} {base size n : Nat} {e : TypeId} {v : Value} {xs : List Value} (h : Kept w W) (ho : W.ownsRow base e size v n xs) (hb : w.heap.size ≤ base) (hg : W.grownBy w' v.ownBlock) : Kept w w' :=
  ⟨hg.os.trans h.1, hg.tape.trans h.2.1, hg.output.trans h.2.2.1, Nat.le_trans h.size hg.size, fun k hk => (hg.block k (Nat.lt_of_lt_of_le hk h.size) (fun e => by have := (ho.lt k e.symm).1; omega)).trans (h.2.2.2.2 k hk)⟩
theorem word_size : (Tryd.prog.info? 87).map (·.size) = some 1 := by kernel_rfl
/-- Chunks as they are joined: their places and words are small. -/
def ChunkOk (l : List (Nat × Nat)) : Prop := ∀ c ∈ l, c.1 < 65 ∧ c.2 < 18446744073709551616
theorem chunkTo_ok (A : Nat) : ∀ j, j ≤ 65 → ChunkOk (chunkTo A j) := by
  intro j hj c hc
  unfold chunkTo at hc
  obtain ⟨i, hi, rfl⟩ := List.mem_map.1 hc
  have := List.mem_range.1 (List.mem_filter.1 hi).1
  exact ⟨by show i < 65; omega, word_lt A i⟩
end Ex
end Go.Proofs.YthnbmkapmnpkoaaDoor
namespace Go.Proofs.YthnbmkapmnpkoaaDoor
open Go.RowKit
attribute [local go_sem] Oper.semAt_some
namespace Ex

/-- The table of math/bits lies in its variable. -/
def TabAt (w : World) : Prop := ∀ j, j < 64 → w.cell? ⟨0, j, none⟩ = some (.int .u8 (Lib.deBruijn64tab.getD j 0 : Nat))
theorem TabAt.keep {w w' : World} (h : TabAt w) (hk : Kept w w') : TabAt w' := fun j hj => grown_cell hk (h j hj)
theorem TabAt.lt {w : World} (h : TabAt w) : 0 < w.heap.size := World.block_lt_of_cell? w _ (h 0 (by decide))
theorem TabAt.but {w w' : World} {b : Nat} (h : TabAt w) (hk : KeptBut b w w') (hb : b ≠ 0) : TabAt w' := fun j hj =>
  (World.cell?_of_block (w := w) (a := ⟨0, j, none⟩) (hk.2.2.2.2 _ h.lt (Ne.symm hb))).trans (h j hj)

theorem tz_key (x a : Nat) (hx : x < 18446744073709551616) (hx0 : x ≠ 0) (hlow : x &&& (18446744073709551616 - x) = a) :
    IntKind.u64.wrap (bits BinOp.and IntKind.u64 (x : Int) (IntKind.u64.wrap (-(x : Int))) * 285870213051353865) / 288230376151711744 = ((a * 285870213051353865 % 18446744073709551616 / 288230376151711744 : Nat) : Int) := by
  have e1 : IntKind.u64.wrap (-(x : Int)) = ((18446744073709551616 - x : Nat) : Int) := by rw [IntKind.wrap_u64]; omega
  rw [e1, bits_and_u64_nat x _ hx (by omega), hlow, IntKind.wrap_u64]
  omega
set_option linter.unusedSimpArgs false in
set_option maxRecDepth 100000 in
set_option maxHeartbeats 2000000 in
theorem tz_core (x k idx : Nat) (w : World) (hx0 : ((x : Int) == 0) = false)
    (key : IntKind.u64.wrap (bits BinOp.and IntKind.u64 (x : Int) (IntKind.u64.wrap (-(x : Int))) * 285870213051353865) / 288230376151711744 = (idx : Int))
    (hi : idx < 64) (hk : k < 64) (hcell : w.cell? ⟨0, idx, none⟩ = some (.int .u8 k)) :
    Calls Tryd.prog 74 #[.int .u64 x] w fun e w' => e = .returned (.int .i64 k) ∧ ∃ m, w' = w.drewN m := by
  go_enter Tryd.func74, Tryd.ntmps74
  go_wp2_with (simp only [key])
  go_ret
  exact ⟨rfl, 0, rfl⟩
/-- How many zero bits a word ends in. -/
theorem tz_is (x : Nat) (hx : x < 18446744073709551616) (hx0 : x ≠ 0) (w : World) (hT : TabAt w) :
    Calls Tryd.prog 74 #[.int .u64 x] w fun e w' => e = .returned (.int .i64 (Lib.ctz 64 x : Nat)) ∧ ∃ m, w' = w.drewN m := by
  obtain ⟨hlow, hk⟩ := Lib.lowest_bit 64 x hx0 hx
  obtain ⟨hi, htab⟩ := Lib.deBruijn64_at _ hk
  have hcell := hT _ hi
  rw [htab] at hcell
  exact tz_core x _ _ w (by simp; omega) (tz_key x _ hx hx0 hlow) hi hk hcell

/-- The lowest bit, and the word without it. -/
theorem ctz_bit {x : Nat} (hx : x < 18446744073709551616) (hx0 : x ≠ 0) : Lib.ctz 64 x < 64 ∧ x.testBit (Lib.ctz 64 x) = true ∧ (∀ j, j < Lib.ctz 64 x → x.testBit j = false) ∧ x &&& (x - 1) = x - 2 ^ Lib.ctz 64 x ∧ ∀ j, (x &&& (x - 1)).testBit j = (x.testBit j && decide (j ≠ Lib.ctz 64 x)) := by
  obtain ⟨m, hm, hk⟩ := Lib.ctzFrom_spec 64 x (by omega) hx
  have e : Lib.ctz 64 x = Lib.ctzFrom 64 x := by simp [Lib.ctz, hx0]
  rw [e]
  obtain ⟨k, hkk⟩ : ∃ k, Lib.ctzFrom 64 x = k := ⟨_, rfl⟩
  rw [hkk] at hm hk ⊢
  clear e hkk
  have hbit : ∀ j, x.testBit j = (decide (k ≤ j) && (2 * m + 1).testBit (j - k)) := fun j => by rw [hm, Nat.mul_comm, Nat.testBit_mul_two_pow]
  have hp : 0 < 2 ^ k := Nat.pow_pos (by decide)
  have hsub : x - 1 = 2 ^ k * (2 * m) + (2 ^ k - 1) := by
    rw [hm, Nat.mul_add, Nat.mul_one]
    omega
  have hbit1 : ∀ j, (x - 1).testBit j = if j < k then true else (2 * m).testBit (j - k) := fun j => by
    rw [hsub, Nat.testBit_two_pow_mul_add _ (by omega)]
    by_cases hj : j < k
    · simp [hj]
    · simp [hj]
  have hand : ∀ j, (x &&& (x - 1)).testBit j = (x.testBit j && decide (j ≠ k)) := fun j => by
    rw [Nat.testBit_and, hbit, hbit1]
    by_cases hj : j < k
    · simp [hj, show ¬ k ≤ j by omega]
    · by_cases hjk : j = k
      · subst hjk; simp
      · obtain ⟨i, hi⟩ : ∃ i, j - k = i + 1 := ⟨j - k - 1, by omega⟩
        simp only [hj, if_false, hi, hjk, ne_eq, not_false_eq_true, decide_true, Bool.and_true, Nat.testBit_succ, show (2 * m + 1) / 2 = m by omega, show 2 * m / 2 = m by omega, show k ≤ j by omega, Bool.true_and, Bool.and_self]
  refine ⟨hk, by rw [hbit]; simp [Nat.testBit_zero], fun j hj => by rw [hbit]; simp [show ¬ k ≤ j by omega], ?_, hand⟩
  have h2 : x - 2 ^ k = 2 ^ k * (2 * m) := by rw [hm, Nat.mul_add, Nat.mul_one]; omega
  rw [h2]
  apply Nat.eq_of_testBit_eq
  intro j
  rw [hand, hbit, Nat.mul_comm (2 ^ k), Nat.testBit_mul_two_pow]
  by_cases hj : k ≤ j
  · by_cases hjk : j = k
    · subst hjk; simp [Nat.testBit_zero]
    · obtain ⟨i, hi⟩ : ∃ i, j - k = i + 1 := ⟨j - k - 1, by omega⟩
      simp [hi, hjk, Nat.testBit_succ, show (2 * m + 1) / 2 = m by omega]
  · simp [hj]

end Ex
end Go.Proofs.YthnbmkapmnpkoaaDoor
