import Derived.Test.YthnbmkapmnpkoaaDoorMExNt1
import Derived.Laws.Bits64b
import Derived.Lib.TrailingZeros
namespace Go.Proofs.YthnbmkapmnpkoaaDoor
open Go.RowKit
attribute [local go_sem] Oper.semAt_some
namespace Ex

/-- A set of places as one number: word i of it. -/
def wordAt (A i : Nat) : Nat := A / 2 ^ (64 * i) % 18446744073709551616
/-- Its 65 words, as they lie in memory. -/
def setL (A : Nat) : List Value := (List.range 65).map fun i => Value.int .u64 (wordAt A i : Nat)
def setV (A : Nat) : Array Value := (setL A).toArray
theorem setL_len (A : Nat) : (setL A).length = 65 := by simp [setL]
theorem setV_size (A : Nat) : (setV A).size = 65 := by simp [setV, setL]
theorem setV_at (A : Nat) {i : Nat} (h : i < 65) : (setV A)[i]? = some (.int .u64 (wordAt A i : Nat)) := by
  simp [setV, setL, h]
theorem setL_one (A : Nat) : ∀ v ∈ setL A, v.oneCell' = true := by
  intro x hx
  simp only [setL, List.mem_map] at hx
  obtain ⟨i, _, rfl⟩ := hx
  rfl
theorem word_lt (A i : Nat) : wordAt A i < 18446744073709551616 := Nat.mod_lt _ (by decide)
theorem word_bit (A i j : Nat) : (wordAt A i).testBit j = (decide (j < 64) && A.testBit (64 * i + j)) := by
  unfold wordAt
  rw [show (18446744073709551616 : Nat) = 2 ^ 64 by decide, Nat.testBit_mod_two_pow, Nat.testBit_div_two_pow, Nat.add_comm]
/-- The sets' bound. -/
def bitsN : Nat := 4160
def top : Nat := 2 ^ bitsN
theorem bit_top {A j : Nat} (h : A < top) (hj : ¬ j < 4160) : A.testBit j = false := by
  have hb : bitsN ≤ j := by unfold bitsN; omega
  exact Nat.testBit_lt_two_pow (Nat.lt_of_lt_of_le h (Nat.pow_le_pow_right (by decide) hb))
theorem top_or {A B : Nat} (hA : A < top) (hB : B < top) : A ||| B < top := Nat.or_lt_two_pow hA hB
theorem top_pow {p : Nat} (h : p < 4160) : 2 ^ p < top := Nat.pow_lt_pow_right (by decide) (show p < bitsN from h)
theorem top_zero : 0 < top := Nat.pow_pos (by decide)
theorem set_ext {A B : Nat} (hA : A < top) (hB : B < top) (h : ∀ i, i < 65 → wordAt A i = wordAt B i) : A = B := by
  apply Nat.eq_of_testBit_eq
  intro j
  by_cases hj : j < 4160
  · have := congrArg (fun x => x.testBit (j % 64)) (h (j / 64) (by omega))
    simp only [word_bit] at this
    rw [show 64 * (j / 64) + j % 64 = j by omega] at this
    simpa [show j % 64 < 64 by omega] using this
  · rw [bit_top hA hj, bit_top hB hj]
theorem word_or (A B i : Nat) : wordAt (A ||| B) i = wordAt A i ||| wordAt B i := by
  apply Nat.eq_of_testBit_eq
  intro j
  simp only [word_bit, Nat.testBit_or]
  cases decide (j < 64) <;> simp
theorem word_shift {x : Nat} (k i : Nat) (hx : x < 18446744073709551616) : wordAt (x * 2 ^ (64 * k)) i = if k = i then x else 0 := by
  apply Nat.eq_of_testBit_eq
  intro j
  rw [word_bit, Nat.testBit_mul_two_pow]
  have hb : ∀ m, 64 ≤ m → x.testBit m = false := fun m hm => Nat.testBit_lt_two_pow (Nat.lt_of_lt_of_le hx (by rw [show (18446744073709551616 : Nat) = 2 ^ 64 by decide]; exact Nat.pow_le_pow_right (by decide) hm))
  by_cases h : k = i
  · subst h
    rw [if_pos rfl]
    by_cases hj : j < 64
    · simp [hj, show 64 * k + j - 64 * k = j by omega]
    · simp [hj, hb j (by omega)]
  · rw [if_neg h]
    by_cases hj : j < 64
    · by_cases hk : 64 * k ≤ 64 * i + j
      · simp [hb (64 * i + j - 64 * k) (by omega)]
      · simp [hk]
    · simp [hj]
theorem setV_or (A k x : Nat) (hk : k < 65) (hx : x < 18446744073709551616) {v : Value} (hv : v = .int .u64 ((wordAt A k ||| x : Nat) : Int)) : (setV A).setIfInBounds k v = setV (A ||| x * 2 ^ (64 * k)) := by
  subst hv
  apply Array.ext_getElem?
  intro i
  rw [Array.getElem?_setIfInBounds, setV_size]
  by_cases hi : i < 65
  · rw [setV_at _ hi, setV_at _ hi, word_or, word_shift k i hx]
    by_cases h : k = i
    · subst h; simp [hi]
    · simp [h]
  · have h1 : ∀ B, (setV B)[i]? = none := fun B => by rw [Array.getElem?_eq_none_iff, setV_size]; omega
    rw [h1, h1, if_neg (by omega)]
theorem pow_split (p : Nat) : 2 ^ (p % 64) * 2 ^ (64 * (p / 64)) = 2 ^ p := by
  rw [← Nat.pow_add, show p % 64 + 64 * (p / 64) = p by omega]
theorem pow_lt (p : Nat) : 2 ^ (p % 64) < 18446744073709551616 := by
  rw [show (18446744073709551616 : Nat) = 2 ^ 64 by decide]
  exact Nat.pow_lt_pow_right (by decide) (Nat.mod_lt _ (by decide))
theorem or_word (a b : Nat) (ha : a < 18446744073709551616) (hb : b < 18446744073709551616) : bits BinOp.or IntKind.u64 (a : Int) (b : Int) = ((a ||| b : Nat) : Int) := bits_or_u64_nat a b ha hb
theorem or_put (A p : Nat) : bits BinOp.or IntKind.u64 ((wordAt A (p / 64) : Nat) : Int) (IntKind.u64.wrap (2 ^ (p % 64))) = ((wordAt A (p / 64) ||| 2 ^ (p % 64) : Nat) : Int) := by
  have h : IntKind.u64.wrap (2 ^ (p % 64)) = ((2 ^ (p % 64) : Nat) : Int) := by
    rw [IntKind.wrap_u64]
    have := pow_lt p
    have e : (2 : Int) ^ (p % 64) = ((2 ^ (p % 64) : Nat) : Int) := by simp
    rw [e]
    exact Int.emod_eq_of_lt (Int.natCast_nonneg _) (by omega)
  rw [h, or_word _ _ (word_lt _ _) (pow_lt p)]

theorem bit_and_one (A p : Nat) : (bits BinOp.and IntKind.u64 ((wordAt A (p / 64) : Nat) / 2 ^ (p % 64) : Int) 1 == 1) = A.testBit p := by
  have h1 : ((wordAt A (p / 64) : Nat) / 2 ^ (p % 64) : Int) = ((wordAt A (p / 64) / 2 ^ (p % 64) : Nat) : Int) := by simp
  have h2 : wordAt A (p / 64) / 2 ^ (p % 64) < 18446744073709551616 := Nat.lt_of_le_of_lt (Nat.div_le_self _ _) (word_lt _ _)
  rw [h1, show (1 : Int) = ((1 : Nat) : Int) by rfl, bits_and_u64_nat _ _ h2 (by decide)]
  have h3 : A.testBit p = (wordAt A (p / 64)).testBit (p % 64) := by
    rw [word_bit, show 64 * (p / 64) + p % 64 = p by omega]
    simp [show p % 64 < 64 by omega]
  rw [h3, Nat.testBit_eq_decide_div_mod_eq, Nat.and_one_is_mod]
  rw [Bool.eq_iff_iff]
  simp
  omega

/-- A set's words that are not 0, each with its place: of the first j. -/
def chunkTo (A j : Nat) : List (Nat × Nat) := ((List.range j).filter fun i => wordAt A i != 0).map fun i => (i, wordAt A i)
def chunkL (A : Nat) : List (Nat × Nat) := chunkTo A 65
theorem chunkTo_zero (A : Nat) : chunkTo A 0 = [] := rfl
theorem chunkTo_succ (A j : Nat) : chunkTo A (j + 1) = if wordAt A j = 0 then chunkTo A j else chunkTo A j ++ [(j, wordAt A j)] := by
  unfold chunkTo
  rw [List.range_succ, List.filter_append, List.map_append]
  by_cases h : wordAt A j = 0 <;> simp [h]
theorem chunkTo_len (A j : Nat) : (chunkTo A j).length ≤ j := by
  unfold chunkTo
  rw [List.length_map]
  exact Nat.le_trans (List.length_filter_le _ _) (by simp)
def chunkC (l : List (Nat × Nat)) : List Value := l.flatMap fun c => [.int .i64 (c.1 : Int), .int .u64 (c.2 : Int)]
theorem chunkC_len (l : List (Nat × Nat)) : (chunkC l).length = l.length * 2 := by
  unfold chunkC
  induction l with
  | nil => rfl
  | cons c l ih => rw [List.flatMap_cons, List.length_append, ih, List.length_cons]; simp; omega
theorem chunkC_snoc (l : List (Nat × Nat)) (c : Nat × Nat) : chunkC (l ++ [c]) = chunkC l ++ [.int .i64 (c.1 : Int), .int .u64 (c.2 : Int)] := by
  unfold chunkC
  rw [List.flatMap_append]
  rfl
theorem chunkC_at : ∀ (l : List (Nat × Nat)) (i : Nat) (c : Nat × Nat), l[i]? = some c → (chunkC l)[i * 2]? = some (.int .i64 (c.1 : Int)) ∧ (chunkC l)[i * 2 + 1]? = some (.int .u64 (c.2 : Int))
  | [], i, c, h => by simp at h
  | d :: l, 0, c, h => by
    simp only [List.getElem?_cons_zero, Option.some.injEq] at h
    subst h
    exact ⟨rfl, rfl⟩
  | d :: l, i + 1, c, h => by
    rw [List.getElem?_cons_succ] at h
    have := chunkC_at l i c h
    have e : chunkC (d :: l) = .int .i64 (d.1 : Int) :: .int .u64 (d.2 : Int) :: chunkC l := rfl
    rw [e, show (i + 1) * 2 = i * 2 + 2 by omega, show i * 2 + 2 + 1 = i * 2 + 1 + 2 by omega]
    simp only [List.getElem?_cons_succ]
    exact this
/-- Chunks joined to a set. -/
def joinG (A : Nat) (l : List (Nat × Nat)) : Nat := l.foldl (fun A c => A ||| c.2 * 2 ^ (64 * c.1)) A
theorem joinG_snoc (A : Nat) (l : List (Nat × Nat)) (c : Nat × Nat) : joinG A (l ++ [c]) = joinG A l ||| c.2 * 2 ^ (64 * c.1) := by
  unfold joinG
  rw [List.foldl_append]
  rfl
theorem joinG_bit (A B : Nat) : ∀ (j m : Nat), m < 64 * j → (joinG A (chunkTo B j)).testBit m = (A.testBit m || B.testBit m)
  | 0, m, h => by omega
  | j + 1, m, h => by
    rw [chunkTo_succ]
    have hw : ∀ n, 64 * j ≤ n → n < 64 * (j + 1) → B.testBit n = (wordAt B j).testBit (n - 64 * j) := fun n h1 h2 => by
      rw [word_bit, show 64 * j + (n - 64 * j) = n by omega]
      simp [show n - 64 * j < 64 by omega]
    have hhi : ∀ n, 64 * j ≤ n → (joinG A (chunkTo B j)).testBit n = A.testBit n := fun n hn => by
      have key : ∀ (i : Nat), i ≤ j → (joinG A (chunkTo B i)).testBit n = A.testBit n := by
        intro i
        induction i with
        | zero => intro _; rfl
        | succ i ih =>
          intro hi
          rw [chunkTo_succ]
          split
          · exact ih (by omega)
          · rw [joinG_snoc, Nat.testBit_or, ih (by omega), Nat.testBit_mul_two_pow]
            have hb : (wordAt B i).testBit (n - 64 * i) = false := by rw [word_bit]; simp; omega
            simp [hb]
      exact key j (Nat.le_refl _)
    by_cases hm : m < 64 * j
    · have ih := joinG_bit A B j m hm
      split
      · exact ih
      · rw [joinG_snoc, Nat.testBit_or, ih, Nat.testBit_mul_two_pow]
        simp [show ¬ 64 * j ≤ m by omega]
    · split
      · rename_i h0
        rw [hhi m (by omega), hw m (by omega) h, h0]
        simp
      · rw [joinG_snoc, Nat.testBit_or, hhi m (by omega), hw m (by omega) h, Nat.testBit_mul_two_pow]
        simp [show 64 * j ≤ m by omega]
theorem joinG_top {A : Nat} (B : Nat) (hA : A < top) : ∀ (j : Nat), j ≤ 65 → joinG A (chunkTo B j) < top
  | 0, _ => hA
  | j + 1, h => by
    have ih := joinG_top B hA j (by omega)
    rw [chunkTo_succ]
    split
    · exact ih
    · rw [joinG_snoc]
      refine top_or ih ?_
      have h1 := word_lt B j
      have h2 : wordAt B j * 2 ^ (64 * j) < 2 ^ 64 * 2 ^ (64 * j) := Nat.mul_lt_mul_of_pos_right h1 (Nat.pow_pos (by decide))
      rw [← Nat.pow_add] at h2
      exact Nat.lt_of_lt_of_le h2 (Nat.pow_le_pow_right (by decide) (show 64 + 64 * j ≤ bitsN by unfold bitsN; omega))
theorem joinG_all {A B : Nat} (hA : A < top) (hB : B < top) : joinG A (chunkL B) = A ||| B := by
  apply Nat.eq_of_testBit_eq
  intro m
  by_cases hm : m < 4160
  · rw [chunkL, joinG_bit A B 65 m hm, Nat.testBit_or]
  · show (joinG A (chunkTo B 65)).testBit m = _
    rw [bit_top (joinG_top B hA 65 (Nat.le_refl _)) hm, bit_top (top_or hA hB) hm]

end Ex
end Go.Proofs.YthnbmkapmnpkoaaDoor
