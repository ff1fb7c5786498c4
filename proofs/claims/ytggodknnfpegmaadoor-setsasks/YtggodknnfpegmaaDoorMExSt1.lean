import Derived.Test.YtggodknnfpegmaaDoorMExWr1
import Derived.Laws.Bits64b
import Derived.Lib.TrailingZeros
import Derived.Deep.AppendLies
import Derived.Deep.DeepMust
import Derived.OwnWalk
namespace Go.Proofs.YtggodknnfpegmaaDoor
open Go.RowKit
attribute [local go_sem] Oper.semAt_some
namespace Ex

/-- A set of places as one number: word i of it. -/
def wordAt (A i : Nat) : Nat := A / 2 ^ (64 * i) % 18446744073709551616
/-- Its 65 words, as they lie in memory. -/
def setL (A : Nat) : List Value := (List.range 65).map fun i => Value.int .u64 (wordAt A i : Nat)
def setV (A : Nat) : Array Value := (setL A).toArray
theorem setL_len (A : Nat) : (setL A).length = 65 := by simp [setL]
theorem setV_size (A : Nat) : (setV A).size = 65 := by simp [setV, setL]
theorem setV_at (A : Nat) {i : Nat} (h : i < 65) : (setV A)[i]? = some (.int .u64 (wordAt A i : Nat)) := by
  simp [setV, setL, h]
theorem setL_one (A : Nat) : ∀ v ∈ setL A, v.oneCell' = true := by
  intro x hx
  simp only [setL, List.mem_map] at hx
  obtain ⟨i, _, rfl⟩ := hx
  rfl
theorem word_lt (A i : Nat) : wordAt A i < 18446744073709551616 := Nat.mod_lt _ (by decide)
theorem word_bit (A i j : Nat) : (wordAt A i).testBit j = (decide (j < 64) && A.testBit (64 * i + j)) := by
  unfold wordAt
  rw [show (18446744073709551616 : Nat) = 2 ^ 64 by decide, Nat.testBit_mod_two_pow, Nat.testBit_div_two_pow, Nat.add_comm]
/-- The sets' bound. -/
def bitsN : Nat := 4160
def top : Nat := 2 ^ bitsN
theorem bit_top {A j : Nat} (h : A < top) (hj : ¬ j < 4160) : A.testBit j = false := by
  have hb : bitsN ≤ j := by unfold bitsN; omega
  exact Nat.testBit_lt_two_pow (Nat.lt_of_lt_of_le h (Nat.pow_le_pow_right (by decide) hb))
theorem top_or {A B : Nat} (hA : A < top) (hB : B < top) : A ||| B < top := Nat.or_lt_two_pow hA hB
theorem top_pow {p : Nat} (h : p < 4160) : 2 ^ p < top := Nat.pow_lt_pow_right (by decide) (show p < bitsN from h)
theorem top_zero : 0 < top := Nat.pow_pos (by decide)
theorem set_ext {A B : Nat} (hA : A < top) (hB : B < top) (h : ∀ i, i < 65 → wordAt A i = wordAt B i) : A = B := by
  apply Nat.eq_of_testBit_eq
  intro j
  by_cases hj : j < 4160
  · have := congrArg (fun x => x.testBit (j % 64)) (h (j / 64) (by omega))
    simp only [word_bit] at this
    rw [show 64 * (j / 64) + j % 64 = j by omega] at this
    simpa [show j % 64 < 64 by omega] using this
  · rw [bit_top hA hj, bit_top hB hj]
theorem word_or (A B i : Nat) : wordAt (A ||| B) i = wordAt A i ||| wordAt B i := by
  apply Nat.eq_of_testBit_eq
  intro j
  simp only [word_bit, Nat.testBit_or]
  cases decide (j < 64) <;> simp
theorem word_shift {x : Nat} (k i : Nat) (hx : x < 18446744073709551616) : wordAt (x * 2 ^ (64 * k)) i = if k = i then x else 0 := by
  apply Nat.eq_of_testBit_eq
  intro j
  rw [word_bit, Nat.testBit_mul_two_pow]
  have hb : ∀ m, 64 ≤ m → x.testBit m = false := fun m hm => Nat.testBit_lt_two_pow (Nat.lt_of_lt_of_le hx (by rw [show (18446744073709551616 : Nat) = 2 ^ 64 by decide]; exact Nat.pow_le_pow_right (by decide) hm))
  by_cases h : k = i
  · subst h
    rw [if_pos rfl]
    by_cases hj : j < 64
    · simp [hj, show 64 * k + j - 64 * k = j by omega]
    · simp [hj, hb j (by omega)]
  · rw [if_neg h]
    by_cases hj : j < 64
    · by_cases hk : 64 * k ≤ 64 * i + j
      · simp [hb (64 * i + j - 64 * k) (by omega)]
      · simp [hk]
    · simp [hj]
theorem setV_or (A k x : Nat) (hk : k < 65) (hx : x < 18446744073709551616) {v : Value} (hv : v = .int .u64 ((wordAt A k ||| x : Nat) : Int)) : (setV A).setIfInBounds k v = setV (A ||| x * 2 ^ (64 * k)) := by
  subst hv
  apply Array.ext_getElem?
  intro i
  rw [Array.getElem?_setIfInBounds, setV_size]
  by_cases hi : i < 65
  · rw [setV_at _ hi, setV_at _ hi, word_or, word_shift k i hx]
    by_cases h : k = i
    · subst h; simp [hi]
    · simp [h]
  · have h1 : ∀ B, (setV B)[i]? = none := fun B => by rw [Array.getElem?_eq_none_iff, setV_size]; omega
    rw [h1, h1, if_neg (by omega)]
theorem pow_split (p : Nat) : 2 ^ (p % 64) * 2 ^ (64 * (p / 64)) = 2 ^ p := by
  rw [← Nat.pow_add, show p % 64 + 64 * (p / 64) = p by omega]
theorem pow_lt (p : Nat) : 2 ^ (p % 64) < 18446744073709551616 := by
  rw [show (18446744073709551616 : Nat) = 2 ^ 64 by decide]
  exact Nat.pow_lt_pow_right (by decide) (Nat.mod_lt _ (by decide))
theorem or_word (a b : Nat) (ha : a < 18446744073709551616) (hb : b < 18446744073709551616) : bits BinOp.or IntKind.u64 (a : Int) (b : Int) = ((a ||| b : Nat) : Int) := bits_or_u64_nat a b ha hb
theorem or_put (A p : Nat) : bits BinOp.or IntKind.u64 ((wordAt A (p / 64) : Nat) : Int) (IntKind.u64.wrap (2 ^ (p % 64))) = ((wordAt A (p / 64) ||| 2 ^ (p % 64) : Nat) : Int) := by
  have h : IntKind.u64.wrap (2 ^ (p % 64)) = ((2 ^ (p % 64) : Nat) : Int) := by
    rw [IntKind.wrap_u64]
    have := pow_lt p
    have e : (2 : Int) ^ (p % 64) = ((2 ^ (p % 64) : Nat) : Int) := by simp
    rw [e]
    exact Int.emod_eq_of_lt (Int.natCast_nonneg _) (by omega)
  rw [h, or_word _ _ (word_lt _ _) (pow_lt p)]

theorem bit_and_one (A p : Nat) : (bits BinOp.and IntKind.u64 ((wordAt A (p / 64) : Nat) / 2 ^ (p % 64) : Int) 1 == 1) = A.testBit p := by
  have h1 : ((wordAt A (p / 64) : Nat) / 2 ^ (p % 64) : Int) = ((wordAt A (p / 64) / 2 ^ (p % 64) : Nat) : Int) := by simp
  have h2 : wordAt A (p / 64) / 2 ^ (p % 64) < 18446744073709551616 := Nat.lt_of_le_of_lt (Nat.div_le_self _ _) (word_lt _ _)
  rw [h1, show (1 : Int) = ((1 : Nat) : Int) by rfl, bits_and_u64_nat _ _ h2 (by decide)]
  have h3 : A.testBit p = (wordAt A (p / 64)).testBit (p % 64) := by
    rw [word_bit, show 64 * (p / 64) + p % 64 = p by omega]
    simp [show p % 64 < 64 by omega]
  rw [h3, Nat.testBit_eq_decide_div_mod_eq, Nat.and_one_is_mod]
  rw [Bool.eq_iff_iff]
  simp
  omega

/-- A set's words that are not 0, each with its place: of the first j. -/
def chunkTo (A j : Nat) : List (Nat × Nat) := ((List.range j).filter fun i => wordAt A i != 0).map fun i => (i, wordAt A i)
def chunkL (A : Nat) : List (Nat × Nat) := chunkTo A 65
theorem chunkTo_zero (A : Nat) : chunkTo A 0 = [] := rfl
theorem chunkTo_succ (A j : Nat) : chunkTo A (j + 1) = if wordAt A j = 0 then chunkTo A j else chunkTo A j ++ [(j, wordAt A j)] := by
  unfold chunkTo
  rw [List.range_succ, List.filter_append, List.map_append]
  by_cases h : wordAt A j = 0 <;> simp [h]
theorem chunkTo_len (A j : Nat) : (chunkTo A j).length ≤ j := by
  unfold chunkTo
  rw [List.length_map]
  exact Nat.le_trans (List.length_filter_le _ _) (by simp)
def chunkC (l : List (Nat × Nat)) : List Value := l.flatMap fun c => [.int .i64 (c.1 : Int), .int .u64 (c.2 : Int)]
theorem chunkC_len (l : List (Nat × Nat)) : (chunkC l).length = l.length * 2 := by
  unfold chunkC
  induction l with
  | nil => rfl
  | cons c l ih => rw [List.flatMap_cons, List.length_append, ih, List.length_cons]; simp; omega
theorem chunkC_snoc (l : List (Nat × Nat)) (c : Nat × Nat) : chunkC (l ++ [c]) = chunkC l ++ [.int .i64 (c.1 : Int), .int .u64 (c.2 : Int)] := by
  unfold chunkC
  rw [List.flatMap_append]
  rfl
theorem chunkC_at : ∀ (l : List (Nat × Nat)) (i : Nat) (c : Nat × Nat), l[i]? = some c → (chunkC l)[i * 2]? = some (.int .i64 (c.1 : Int)) ∧ (chunkC l)[i * 2 + 1]? = some (.int .u64 (c.2 : Int))
  | [], i, c, h => by simp at h
  | d :: l, 0, c, h => by
    simp only [List.getElem?_cons_zero, Option.some.injEq] at h
    subst h
    exact ⟨rfl, rfl⟩
  | d :: l, i + 1, c, h => by
    rw [List.getElem?_cons_succ] at h
    have := chunkC_at l i c h
    have e : chunkC (d :: l) = .int .i64 (d.1 : Int) :: .int .u64 (d.2 : Int) :: chunkC l := rfl
    rw [e, show (i + 1) * 2 = i * 2 + 2 by omega, show i * 2 + 2 + 1 = i * 2 + 1 + 2 by omega]
    simp only [List.getElem?_cons_succ]
    exact this
/-- Chunks joined to a set. -/
def joinG (A : Nat) (l : List (Nat × Nat)) : Nat := l.foldl (fun A c => A ||| c.2 * 2 ^ (64 * c.1)) A
theorem joinG_snoc (A : Nat) (l : List (Nat × Nat)) (c : Nat × Nat) : joinG A (l ++ [c]) = joinG A l ||| c.2 * 2 ^ (64 * c.1) := by
  unfold joinG
  rw [List.foldl_append]
  rfl
theorem joinG_bit (A B : Nat) : ∀ (j m : Nat), m < 64 * j → (joinG A (chunkTo B j)).testBit m = (A.testBit m || B.testBit m)
  | 0, m, h => by omega
  | j + 1, m, h => by
    rw [chunkTo_succ]
    have hw : ∀ n, 64 * j ≤ n → n < 64 * (j + 1) → B.testBit n = (wordAt B j).testBit (n - 64 * j) := fun n h1 h2 => by
      rw [word_bit, show 64 * j + (n - 64 * j) = n by omega]
      simp [show n - 64 * j < 64 by omega]
    have hhi : ∀ n, 64 * j ≤ n → (joinG A (chunkTo B j)).testBit n = A.testBit n := fun n hn => by
      have key : ∀ (i : Nat), i ≤ j → (joinG A (chunkTo B i)).testBit n = A.testBit n := by
        intro i
        induction i with
        | zero => intro _; rfl
        | succ i ih =>
          intro hi
          rw [chunkTo_succ]
          split
          · exact ih (by omega)
          · rw [joinG_snoc, Nat.testBit_or, ih (by omega), Nat.testBit_mul_two_pow]
            have hb : (wordAt B i).testBit (n - 64 * i) = false := by rw [word_bit]; simp; omega
            simp [hb]
      exact key j (Nat.le_refl _)
    by_cases hm : m < 64 * j
    · have ih := joinG_bit A B j m hm
      split
      · exact ih
      · rw [joinG_snoc, Nat.testBit_or, ih, Nat.testBit_mul_two_pow]
        simp [show ¬ 64 * j ≤ m by omega]
    · split
      · rename_i h0
        rw [hhi m (by omega), hw m (by omega) h, h0]
        simp
      · rw [joinG_snoc, Nat.testBit_or, hhi m (by omega), hw m (by omega) h, Nat.testBit_mul_two_pow]
        simp [show 64 * j ≤ m by omega]
theorem joinG_top {A : Nat} (B : Nat) (hA : A < top) : ∀ (j : Nat), j ≤ 65 → joinG A (chunkTo B j) < top
  | 0, _ => hA
  | j + 1, h => by
    have ih := joinG_top B hA j (by omega)
    rw [chunkTo_succ]
    split
    · exact ih
    · rw [joinG_snoc]
      refine top_or ih ?_
      have h1 := word_lt B j
      have h2 : wordAt B j * 2 ^ (64 * j) < 2 ^ 64 * 2 ^ (64 * j) := Nat.mul_lt_mul_of_pos_right h1 (Nat.pow_pos (by decide))
      rw [← Nat.pow_add] at h2
      exact Nat.lt_of_lt_of_le h2 (Nat.pow_le_pow_right (by decide) (show 64 + 64 * j ≤ bitsN by unfold bitsN; omega))
theorem joinG_all {A B : Nat} (hA : A < top) (hB : B < top) : joinG A (chunkL B) = A ||| B := by
  apply Nat.eq_of_testBit_eq
  intro m
  by_cases hm : m < 4160
  · rw [chunkL, joinG_bit A B 65 m hm, Nat.testBit_or]
  · show (joinG A (chunkTo B 65)).testBit m = _
    rw [bit_top (joinG_top B hA 65 (Nat.le_refl _)) hm, bit_top (top_or hA hB) hm]

end Ex
end Go.Proofs.YtggodknnfpegmaaDoor
namespace Go.Proofs.YtggodknnfpegmaaDoor
open Go.RowKit
attribute [local go_sem] Oper.semAt_some
namespace Ex

theorem info_of {P : Program} {e : TypeId} {z : Value} {s b : Nat} (h : (P.info? e).map (fun i => (i.zero, i.size, i.bytes)) = some (some z, s, b)) : ∃ i, P.info? e = some i ∧ i.zero = some z ∧ i.size = s ∧ i.bytes = b := by
  obtain ⟨i, hi, h2⟩ := Option.map_eq_some_iff.1 h
  simp only [Prod.mk.injEq] at h2
  exact ⟨i, hi, h2.1, h2.2.1, h2.2.2⟩
theorem owns_kept {w w' : World} {base size n : Nat} {e : TypeId} {v : Value} {xs : List Value} (h : w.ownsRow base e size v n xs) (hh : ∀ g, v.ownBlock = some g → w'.heap[g]? = w.heap[g]?) : w'.ownsRow base e size v n xs := by
  refine ⟨h.1, ?_⟩
  rcases h.2 with h0 | ⟨g, cap, cur, rfl, h1, h2, h3⟩
  · exact .inl h0
  · exact .inr ⟨g, cap, cur, rfl, h1, by rw [hh g rfl]; exact h2, h3⟩
/-- Chunks anywhere. -/
def ChunksAt (S : Nat → Prop) (w : World) (v : Value) (l : List (Nat × Nat)) : Prop :=
  ∃ a cap, v = .slice a l.length cap ∧ l.length ≤ cap ∧ l.length ≤ 65 ∧ (l = [] ∨ ∃ g, a = some ⟨g, 0, none⟩ ∧ S g ∧ ∀ (i : Nat) (c : Nat × Nat), l[i]? = some c → w.cell? ⟨g, i * 2, none⟩ = some (.int .i64 (c.1 : Int)) ∧ w.cell? ⟨g, i * 2 + 1, none⟩ = some (.int .u64 (c.2 : Int)))
theorem cells_row {w : World} {g n : Nat} {cur : Array Value} {xs : List Value} {t : TypeId} (h : w.heap[g]? = some (.cells cur t (0, 0))) (hx : cur.toList.take n = xs) {j : Nat} {u : Value} (hj : xs[j]? = some u) : w.cell? ⟨g, j, none⟩ = some u := by
  rw [← hx, List.getElem?_take] at hj
  split at hj
  · unfold World.cell?
    simp only [h]
    simpa using hj
  · cases hj
theorem ChunksAt.mono {S S' : Nat → Prop} {w w' : World} {v : Value} {l : List (Nat × Nat)} (h : ChunksAt S w v l) (hs : Holds S w w') (hS : ∀ d, S d → S' d) : ChunksAt S' w' v l := by
  obtain ⟨a, cap, h1, h2, h3, h4⟩ := h
  refine ⟨a, cap, h1, h2, h3, ?_⟩
  rcases h4 with h4 | ⟨g, h5, h6, h7⟩
  · exact .inl h4
  · exact .inr ⟨g, h5, hS g h6, fun i c hi => ⟨hs _ _ _ h6 (h7 i c hi).1, hs _ _ _ h6 (h7 i c hi).2⟩⟩
theorem kept_grow {w W w' : World} {base size n : Nat} {e : TypeId} {v : Value} {xs : List Value} (h : Kept w W) (ho : W.ownsRow base e size v n xs) (hb : w.heap.size ≤ base) (hg : W.grownBy w' v.ownBlock) : Kept w w' :=
  ⟨hg.os.trans h.1, hg.tape.trans h.2.1, hg.output.trans h.2.2.1, Nat.le_trans h.size hg.size, fun k hk => (hg.block k (Nat.lt_of_lt_of_le hk h.size) (fun e => by have := (ho.lt k e.symm).1; omega)).trans (h.2.2.2.2 k hk)⟩
theorem word_size : (Tryd.prog.info? 83).map (·.size) = some 1 := by kernel_rfl
/-- Chunks as they are joined: their places and words are small. -/
def ChunkOk (l : List (Nat × Nat)) : Prop := ∀ c ∈ l, c.1 < 65 ∧ c.2 < 18446744073709551616
theorem chunkTo_ok (A : Nat) : ∀ j, j ≤ 65 → ChunkOk (chunkTo A j) := by
  intro j hj c hc
  unfold chunkTo at hc
  obtain ⟨i, hi, rfl⟩ := List.mem_map.1 hc
  have := List.mem_range.1 (List.mem_filter.1 hi).1
  exact ⟨by show i < 65; omega, word_lt A i⟩
end Ex
end Go.Proofs.YtggodknnfpegmaaDoor
namespace Go.Proofs.YtggodknnfpegmaaDoor
open Go.RowKit
attribute [local go_sem] Oper.semAt_some
namespace Ex

/-- The table of math/bits lies in its variable. -/
def TabAt (w : World) : Prop := ∀ j, j < 64 → w.cell? ⟨0, j, none⟩ = some (.int .u8 (Lib.deBruijn64tab.getD j 0 : Nat))
theorem TabAt.keep {w w' : World} (h : TabAt w) (hk : Kept w w') : TabAt w' := fun j hj => grown_cell hk (h j hj)
theorem TabAt.lt {w : World} (h : TabAt w) : 0 < w.heap.size := World.block_lt_of_cell? w _ (h 0 (by decide))
theorem TabAt.but {w w' : World} {b : Nat} (h : TabAt w) (hk : KeptBut b w w') (hb : b ≠ 0) : TabAt w' := fun j hj =>
  (World.cell?_of_block (w := w) (a := ⟨0, j, none⟩) (hk.2.2.2.2 _ h.lt (Ne.symm hb))).trans (h j hj)

theorem tz_key (x a : Nat) (hx : x < 18446744073709551616) (hx0 : x ≠ 0) (hlow : x &&& (18446744073709551616 - x) = a) :
    IntKind.u64.wrap (bits BinOp.and IntKind.u64 (x : Int) (IntKind.u64.wrap (-(x : Int))) * 285870213051353865) / 288230376151711744 = ((a * 285870213051353865 % 18446744073709551616 / 288230376151711744 : Nat) : Int) := by
  have e1 : IntKind.u64.wrap (-(x : Int)) = ((18446744073709551616 - x : Nat) : Int) := by rw [IntKind.wrap_u64]; omega
  rw [e1, bits_and_u64_nat x _ hx (by omega), hlow, IntKind.wrap_u64]
  omega
set_option linter.unusedSimpArgs false in
set_option maxRecDepth 100000 in
set_option maxHeartbeats 2000000 in
theorem tz_core (x k idx : Nat) (w : World) (hx0 : ((x : Int) == 0) = false)
    (key : IntKind.u64.wrap (bits BinOp.and IntKind.u64 (x : Int) (IntKind.u64.wrap (-(x : Int))) * 285870213051353865) / 288230376151711744 = (idx : Int))
    (hi : idx < 64) (hk : k < 64) (hcell : w.cell? ⟨0, idx, none⟩ = some (.int .u8 k)) :
    Calls Tryd.prog 77 #[.int .u64 x] w fun e w' => e = .returned (.int .i64 k) ∧ ∃ m, w' = w.drewN m := by
  go_enter Tryd.func77, Tryd.ntmps77
  go_wp2_with (simp only [key])
  go_ret
  exact ⟨rfl, 0, rfl⟩
/-- How many zero bits a word ends in. -/
theorem tz_is (x : Nat) (hx : x < 18446744073709551616) (hx0 : x ≠ 0) (w : World) (hT : TabAt w) :
    Calls Tryd.prog 77 #[.int .u64 x] w fun e w' => e = .returned (.int .i64 (Lib.ctz 64 x : Nat)) ∧ ∃ m, w' = w.drewN m := by
  obtain ⟨hlow, hk⟩ := Lib.lowest_bit 64 x hx0 hx
  obtain ⟨hi, htab⟩ := Lib.deBruijn64_at _ hk
  have hcell := hT _ hi
  rw [htab] at hcell
  exact tz_core x _ _ w (by simp; omega) (tz_key x _ hx hx0 hlow) hi hk hcell

/-- The lowest bit, and the word without it. -/
theorem ctz_bit {x : Nat} (hx : x < 18446744073709551616) (hx0 : x ≠ 0) : Lib.ctz 64 x < 64 ∧ x.testBit (Lib.ctz 64 x) = true ∧ (∀ j, j < Lib.ctz 64 x → x.testBit j = false) ∧ x &&& (x - 1) = x - 2 ^ Lib.ctz 64 x ∧ ∀ j, (x &&& (x - 1)).testBit j = (x.testBit j && decide (j ≠ Lib.ctz 64 x)) := by
  obtain ⟨m, hm, hk⟩ := Lib.ctzFrom_spec 64 x (by omega) hx
  have e : Lib.ctz 64 x = Lib.ctzFrom 64 x := by simp [Lib.ctz, hx0]
  rw [e]
  obtain ⟨k, hkk⟩ : ∃ k, Lib.ctzFrom 64 x = k := ⟨_, rfl⟩
  rw [hkk] at hm hk ⊢
  clear e hkk
  have hbit : ∀ j, x.testBit j = (decide (k ≤ j) && (2 * m + 1).testBit (j - k)) := fun j => by rw [hm, Nat.mul_comm, Nat.testBit_mul_two_pow]
  have hp : 0 < 2 ^ k := Nat.pow_pos (by decide)
  have hsub : x - 1 = 2 ^ k * (2 * m) + (2 ^ k - 1) := by
    rw [hm, Nat.mul_add, Nat.mul_one]
    omega
  have hbit1 : ∀ j, (x - 1).testBit j = if j < k then true else (2 * m).testBit (j - k) := fun j => by
    rw [hsub, Nat.testBit_two_pow_mul_add _ (by omega)]
    by_cases hj : j < k
    · simp [hj]
    · simp [hj]
  have hand : ∀ j, (x &&& (x - 1)).testBit j = (x.testBit j && decide (j ≠ k)) := fun j => by
    rw [Nat.testBit_and, hbit, hbit1]
    by_cases hj : j < k
    · simp [hj, show ¬ k ≤ j by omega]
    · by_cases hjk : j = k
      · subst hjk; simp
      · obtain ⟨i, hi⟩ : ∃ i, j - k = i + 1 := ⟨j - k - 1, by omega⟩
        simp only [hj, if_false, hi, hjk, ne_eq, not_false_eq_true, decide_true, Bool.and_true, Nat.testBit_succ, show (2 * m + 1) / 2 = m by omega, show 2 * m / 2 = m by omega, show k ≤ j by omega, Bool.true_and, Bool.and_self]
  refine ⟨hk, by rw [hbit]; simp [Nat.testBit_zero], fun j hj => by rw [hbit]; simp [show ¬ k ≤ j by omega], ?_, hand⟩
  have h2 : x - 2 ^ k = 2 ^ k * (2 * m) := by rw [hm, Nat.mul_add, Nat.mul_one]; omega
  rw [h2]
  apply Nat.eq_of_testBit_eq
  intro j
  rw [hand, hbit, Nat.mul_comm (2 ^ k), Nat.testBit_mul_two_pow]
  by_cases hj : k ≤ j
  · by_cases hjk : j = k
    · subst hjk; simp [Nat.testBit_zero]
    · obtain ⟨i, hi⟩ : ∃ i, j - k = i + 1 := ⟨j - k - 1, by omega⟩
      simp [hi, hjk, Nat.testBit_succ, show (2 * m + 1) / 2 = m by omega]
  · simp [hj]

end Ex
end Go.Proofs.YtggodknnfpegmaaDoor
