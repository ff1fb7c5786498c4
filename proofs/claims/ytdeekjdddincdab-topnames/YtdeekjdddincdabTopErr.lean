import Derived.Test.YtdeekjdddincdabRows
import Derived.WalkKit
import Derived.ProofKit
import Derived.Deep.DeepCutAuto
import Derived.Deep.DeepMust
namespace Go.Proofs.Ytdeekjdddincdab.TopErr
open Go.RowKit

/-- The words, by number. -/
def rows : List (Int × List UInt8) := [
  (0, [111, 107]),
  (1, [97, 114, 103]),
  (2, [108, 111, 110, 103]),
  (3, [114, 97, 110, 103, 101]),
  (4, [118, 101, 114, 115, 105, 111, 110]),
  (5, [110, 101, 115, 116]),
  (6, [102, 117, 108, 108]),
  (20, [101, 120, 112, 114]),
  (21, [112, 111, 115, 105, 116, 105, 111, 110, 115]),
  (22, [112, 97, 116, 116, 101, 114, 110]),
  (23, [101, 110, 100, 115]),
  (24, [98, 114, 97, 99, 101, 115]),
  (30, [115, 101, 116, 115]),
  (31, [101, 109, 112, 116, 121]),
  (50, [108, 101, 97, 118, 101, 115]),
  (51, [101, 100, 105, 116]),
  (60, [115, 112, 101, 99]),
  (61, [116, 119, 105, 99, 101]),
  (62, [117, 110, 107, 110, 111, 119, 110]),
  (63, [115, 116, 97, 114, 116]),
  (64, [115, 108, 97, 115, 104]),
  (65, [112, 114, 105, 110, 116]),
  (70, [105, 110, 100, 101, 120]),
  (71, [116, 114, 105, 118, 105, 97]),
  (72, [117, 110, 114, 101, 97, 99, 104, 101, 100]),
  (73, [117, 110, 112, 114, 111, 100, 117, 99, 116, 105, 118, 101]),
  (74, [116, 101, 114, 109, 105, 110, 97, 108]),
  (80, [115, 116, 97, 116, 101, 115]),
  (81, [115, 116, 97, 116, 101]),
  (90, [99, 111, 110, 102, 108, 105, 99, 116]),
  (100, [107, 105, 100, 115]),
  (101, [107, 105, 110, 100]),
  (110, [108, 101, 97, 102]),
  (111, [103, 111, 101, 115]),
  (120, [102, 114, 111, 109]),
  (140, [113, 117, 101, 114, 121]),
  (141, [113, 117, 101, 114, 121, 110, 97, 109, 101]),
  (142, [99, 97, 112, 116, 117, 114, 101]),
  (143, [116, 114, 105, 101, 115]),
  (150, [111, 112]),
  (151, [112, 108, 97, 99, 101]),
  (160, [115, 116, 121, 108, 101]),
  (170, [108, 97, 121, 111, 117, 116]),
  (171, [103, 108, 117, 101]),
  (172, [98, 114, 111, 107, 101, 110]),
  (180, [112, 97, 99, 107]),
  (181, [115, 117, 109]),
  (182, [99, 117, 116]),
  (190, [115, 101, 115, 115, 105, 111, 110]),
  (191, [100, 111, 99]),
  (192, [117, 110, 100, 111]),
  (193, [98, 97, 116, 99, 104]),
  (194, [115, 104, 117, 116]),
  (200, [99, 111, 109, 109, 97, 110, 100]),
  (201, [110, 111, 110, 101])]

/-- The table as the walk lays it. -/
def tab : Value := .agg (rows.flatMap fun r => [.int .i64 r.1, .string ⟨r.2.toArray⟩]).toArray

def code (k : Nat) : Int := (rows.getD k (0, [])).1
def text (k : Nat) : ByteArray := ⟨(rows.getD k (0, [])).2.toArray⟩

theorem at_index : ∀ (k : Nat) (_ : k < 55) (w : World), (Instr.index 81 tab (.int .i64 k)).run Try.prog w = .ok (.agg #[.int .i64 (code k), .string (text k)]) w
  | 0, _, w => by kernel_rfl
  | 1, _, w => by kernel_rfl
  | 2, _, w => by kernel_rfl
  | 3, _, w => by kernel_rfl
  | 4, _, w => by kernel_rfl
  | 5, _, w => by kernel_rfl
  | 6, _, w => by kernel_rfl
  | 7, _, w => by kernel_rfl
  | 8, _, w => by kernel_rfl
  | 9, _, w => by kernel_rfl
  | 10, _, w => by kernel_rfl
  | 11, _, w => by kernel_rfl
  | 12, _, w => by kernel_rfl
  | 13, _, w => by kernel_rfl
  | 14, _, w => by kernel_rfl
  | 15, _, w => by kernel_rfl
  | 16, _, w => by kernel_rfl
  | 17, _, w => by kernel_rfl
  | 18, _, w => by kernel_rfl
  | 19, _, w => by kernel_rfl
  | 20, _, w => by kernel_rfl
  | 21, _, w => by kernel_rfl
  | 22, _, w => by kernel_rfl
  | 23, _, w => by kernel_rfl
  | 24, _, w => by kernel_rfl
  | 25, _, w => by kernel_rfl
  | 26, _, w => by kernel_rfl
  | 27, _, w => by kernel_rfl
  | 28, _, w => by kernel_rfl
  | 29, _, w => by kernel_rfl
  | 30, _, w => by kernel_rfl
  | 31, _, w => by kernel_rfl
  | 32, _, w => by kernel_rfl
  | 33, _, w => by kernel_rfl
  | 34, _, w => by kernel_rfl
  | 35, _, w => by kernel_rfl
  | 36, _, w => by kernel_rfl
  | 37, _, w => by kernel_rfl
  | 38, _, w => by kernel_rfl
  | 39, _, w => by kernel_rfl
  | 40, _, w => by kernel_rfl
  | 41, _, w => by kernel_rfl
  | 42, _, w => by kernel_rfl
  | 43, _, w => by kernel_rfl
  | 44, _, w => by kernel_rfl
  | 45, _, w => by kernel_rfl
  | 46, _, w => by kernel_rfl
  | 47, _, w => by kernel_rfl
  | 48, _, w => by kernel_rfl
  | 49, _, w => by kernel_rfl
  | 50, _, w => by kernel_rfl
  | 51, _, w => by kernel_rfl
  | 52, _, w => by kernel_rfl
  | 53, _, w => by kernel_rfl
  | 54, _, w => by kernel_rfl
  | k + 55, h, _ => absurd h (by omega)

/-- The first row of that number from a place on. -/
def wordFrom (n : Int) : List (Int × List UInt8) → ByteArray
  | [] => ⟨#[101, 114, 114, 111, 114]⟩
  | r :: rest => if r.1 = n then ⟨r.2.toArray⟩ else wordFrom n rest
def word (n : Int) : ByteArray := wordFrom n rows

theorem word_at (n : Int) : ∀ (l : List (Int × List UInt8)) (k : Nat), k < l.length → (∀ j, j < k → (l.getD j (0, [])).1 ≠ n) → (l.getD k (0, [])).1 = n → wordFrom n l = ⟨(l.getD k (0, [])).2.toArray⟩ := by
  intro l
  induction l with
  | nil => intro k h; simp at h
  | cons r l ih =>
    intro k hk hj he
    cases k with
    | zero => simp at he; simp [wordFrom, he]
    | succ k =>
      have h0 := hj 0 (by omega)
      simp at h0
      simp only [wordFrom, h0, if_false]
      simpa using ih k (by simpa using hk) (fun j hj' => by have := hj (j + 1) (by omega); simpa using this) (by simpa using he)

theorem word_no (n : Int) : ∀ (l : List (Int × List UInt8)), (∀ j, j < l.length → (l.getD j (0, [])).1 ≠ n) → wordFrom n l = ⟨#[101, 114, 114, 111, 114]⟩ := by
  intro l
  induction l with
  | nil => intro _; rfl
  | cons r l ih =>
    intro hj
    have h0 := hj 0 (by simp)
    simp at h0
    simp only [wordFrom, h0, if_false]
    exact ih (fun j h => by have := hj (j + 1) (by simpa using h); simpa using this)

theorem word_hit (n : Int) (k : Nat) (hk : k < 55) (hj : ∀ j, j < k → code j ≠ n) (he : code k = n) : word n = text k :=
  word_at n rows k hk hj he
theorem word_miss (n : Int) (hj : ∀ j, j < 55 → code j ≠ n) : word n = ⟨#[101, 114, 114, 111, 114]⟩ :=
  word_no n rows hj

theorem ret_string {a b : ByteArray} (h : a = b) : Ending.returned (.string a) = .returned (.string b) := by rw [h]

set_option maxRecDepth 100000 in
set_option maxHeartbeats 1000000 in
theorem error_any (n : Int) (w : World) :
    Calls Try.prog 17 #[.int .i64 n] w fun e w' => e = .returned (.string (word n)) ∧ Grown w w' := by
  go_enter Try.func17, Try.ntmps17
  go_upto_region 1 with fail
  go_cut [60, 61] (fun t i wx => t = tab ∧ i = .int .i64 0 ∧ wx = w)
  case first =>
    go_wp2
    go_meet
    exact ⟨by kernel_rfl, rfl, rfl⟩
  case rest =>
    obtain ⟨rfl, rfl, rfl⟩ := hcut
    go_wp2_with fail
    go_loopw [61] (fun i w' => ∃ k : Nat, k ≤ 55 ∧ i = .int .i64 k ∧ Hid (∀ j, j < k → code j ≠ n) ∧ Grown wc w') (fun i _ => 55 - (intOf i).toNat)
    case atStart => exact ⟨0, by omega, rfl, (fun j hj => absurd hj (by omega) : ∀ j, j < 0 → code j ≠ n), Grown.refl _⟩
    case round =>
      obtain ⟨k, hk, rfl, hno, hg⟩ := hrel
      by_cases hlt : k < 55
      · have hix := at_index k hlt
        by_cases he : code k = n
        · have heb : (code k == n) = true := by simp [he]
          have HE : Hid (code k = n) := he
          clear he
          go_wp2
          go_ret
          exact ⟨ret_string (word_hit n k hlt hno.out HE.out).symm, hg.alloc _ _⟩
        · have heb : (code k == n) = false := by simp [he]
          go_wp2
          refine ⟨⟨k + 1, by omega, by go_num, ?_, hg.alloc _ _⟩, by simp [intOf]; omega⟩
          intro j hj
          by_cases h : j = k
          · rw [h]; exact he
          · exact hno.out j (by omega)
      · have hk55 : ∀ j, j < 55 → code j ≠ n := fun j hj => hno.out j (by omega)
        have HK : Hid (∀ j, j < 55 → code j ≠ n) := hk55
        clear hk55
        go_wp2
        go_ret
        exact ⟨ret_string (word_miss n HK.out).symm, hg⟩
end Go.Proofs.Ytdeekjdddincdab.TopErr
