import Derived.Test.YthjagnnbhpfpoaaRefMore
import Derived.Test.YthjagnnbhpfpoaaRopeSame
namespace Go.Proofs.Ythjagnnbhpfpoaa
open Go.RowKit
attribute [local go_sem] Oper.semAt_some
namespace Rope

theorem ends_snoc {xs : List Int} {j : Nat} {x : Int} (h : xs[j]? = some x) : ends (xs.take (j + 1)) = ends (xs.take j) + if x = 10 then 1 else 0 := by
  rw [take_snoc h, ends_append]
  congr 1
  rw [ends_cons]
  simp [ends_nil]
theorem ends_ten {xs : List Int} {j : Nat} (h : xs[j]? = some 10) : ends (xs.take (j + 1)) = ends (xs.take j) + 1 := ends_snoc h
theorem ends_no {xs : List Int} {j : Nat} {x : Int} (h : xs[j]? = some x) (hx : ¬ x = 10) : ends (xs.take (j + 1)) = ends (xs.take j) := by
  rw [ends_snoc h, if_neg hx]; rfl
theorem behind_at (xs : List Int) : ∀ j, xs[j]? = some 10 → behind xs (ends (xs.take j) + 1) = j + 1 := by
  induction xs with
  | nil => intro j h; simp at h
  | cons x r ih =>
    intro j h
    cases j with
    | zero =>
      simp at h
      subst h
      simp [behind, ends, behind_zero]
    | succ j =>
      simp at h
      rw [List.take_succ_cons, ends_cons]
      have := ih j h
      by_cases hx : x = 10
      · rw [if_pos hx]; simp only [behind]; rw [if_pos hx, this]; omega
      · rw [if_neg hx, Nat.add_zero]; simp only [behind]; rw [if_neg hx, this]; omega

set_option maxRecDepth 100000 in
set_option maxHeartbeats 2000000 in
theorem rrows_any (S : Nat → Prop) (r : Value) (xs : List Int) (w : World) (h : RefAt S w r xs) :
    Calls Try.prog 28 #[r] w fun e w' => e = .returned (.int .i64 ((ends xs : Int) + 1)) ∧ w' = w := by
  obtain ⟨b, v, rfl, _, hc, hl, hn⟩ := h
  obtain ⟨a, cap, rfl⟩ := lform hl
  have HL := hide1 hl
  have g : (xs.length : Int) ≤ 16777216 := by omega
  clear hl
  go_enter Try.func28, Try.ntmps28
  go_wp2_with fail
  go_loopw [3, 4] (fun n i wr => ∃ j : Nat, n = .int .i64 ((ends (xs.take j) : Int) + 1) ∧ i = .int .i64 (j : Int) ∧ j ≤ xs.length ∧ wr = w) (fun _ i _ => xs.length - (intOf i).toNat)
  case atStart => exact ⟨0, by simp [ends_nil], rfl, Nat.zero_le _, rfl⟩
  case round =>
    obtain ⟨j, rfl, rfl, hj, rfl⟩ := hrel
    have he := ends_le (xs.take j)
    have hlt' : (xs.take j).length ≤ j := by simp; omega
    by_cases hlt : (j : Int) < (xs.length : Int)
    · obtain ⟨x, hx⟩ : ∃ x, xs[j]? = some x := ⟨_, List.getElem?_eq_getElem (by omega)⟩
      obtain ⟨c, o, rfl, hcell⟩ := lcell HL.out hx
      by_cases h10 : x = 10
      · subst h10
        have HS := hide1 (ends_ten hx)
        clear hx
        go_wp2
        go_roundw
        case rel => exact ⟨j + 1, by rw [HS.out]; go_num, by go_num, by omega, trivial⟩
        case measure => simp [intOf]; omega
      · have HS := hide1 (ends_no hx h10)
        have hne : (x == 10) = false := by simpa using h10
        clear hx
        go_wp2
        go_roundw
        case rel => exact ⟨j + 1, by rw [HS.out], by go_num, by omega, trivial⟩
        case measure => simp [intOf]; omega
    · obtain rfl : j = xs.length := by omega
      rw [List.take_length]
      go_wp2
      go_ret
      exact ⟨rfl, rfl⟩

set_option maxRecDepth 100000 in
set_option maxHeartbeats 2000000 in
theorem rrow_in (S : Nat → Prop) (r : Value) (xs : List Int) (i : Nat) (w : World) (h : RefAt S w r xs) (hi : i ≤ xs.length) :
    Calls Try.prog 46 #[r, .int .i64 i] w fun e w' => e = .returned (.tuple #[.int .i64 (ends (xs.take i)), .int .i64 ((i : Int) - behind xs (ends (xs.take i))), .int .i64 0]) ∧ w' = w := by
  obtain ⟨b, v, rfl, _, hc, hl, hn⟩ := h
  obtain ⟨a, cap, rfl⟩ := lform hl
  have HL := hide1 hl
  have g : (xs.length : Int) ≤ 16777216 := by omega
  have gi : (i : Int) ≤ (xs.length : Int) := by omega
  have e0 : decide ((i : Int) < 0) = false := decide_eq_false (by omega)
  have e1 : decide ((xs.length : Int) < (i : Int)) = false := decide_eq_false (by omega)
  clear hl
  go_enter Try.func46, Try.ntmps46
  go_wp2_with fail
  go_loopw [7, 8, 9] (fun n c k wr => ∃ j : Nat, n = .int .i64 (ends (xs.take j) : Int) ∧ c = .int .i64 ((j : Int) - behind xs (ends (xs.take j))) ∧ k = .int .i64 (j : Int) ∧ j ≤ i ∧ wr = w) (fun _ _ k _ => i - (intOf k).toNat)
  case atStart => exact ⟨0, by simp [ends_nil], by simp [ends_nil, behind_zero], rfl, Nat.zero_le _, rfl⟩
  case round =>
    obtain ⟨j, rfl, rfl, rfl, hj, rfl⟩ := hrel
    have he := ends_le (xs.take j)
    have hlt' : (xs.take j).length ≤ j := by simp; omega
    have hb := behind_upto xs j
    by_cases hlt : (j : Int) < (i : Int)
    · obtain ⟨x, hx⟩ : ∃ x, xs[j]? = some x := ⟨_, List.getElem?_eq_getElem (by omega)⟩
      obtain ⟨c, o, rfl, hcell⟩ := lcell HL.out hx
      by_cases h10 : x = 10
      · subst h10
        have HS := hide1 (ends_ten hx)
        have HA := hide1 (behind_at xs j hx)
        clear hx
        go_wp2
        go_roundw
        case rel => exact ⟨j + 1, by rw [HS.out]; go_num, by rw [HS.out, HA.out]; go_num, by go_num, by omega, trivial⟩
        case measure => simp [intOf]; omega
      · have HS := hide1 (ends_no hx h10)
        have hne : (x == 10) = false := by simpa using h10
        clear hx
        go_wp2
        go_roundw
        case rel => exact ⟨j + 1, by rw [HS.out], by rw [HS.out]; congr 1; omega, by go_num, by omega, trivial⟩
        case measure => simp [intOf]; omega
    · obtain rfl : j = i := by omega
      go_wp2
      go_ret3
      exact ⟨rfl, rfl⟩

set_option maxRecDepth 100000 in
set_option maxHeartbeats 2000000 in
theorem rrow_out (S : Nat → Prop) (r : Value) (xs : List Int) (i : Int) (w : World) (h : RefAt S w r xs) (hi : i < 0 ∨ xs.length < i) :
    Calls Try.prog 46 #[r, .int .i64 i] w fun e w' => e = .returned (.tuple #[.int .i64 0, .int .i64 0, .int .i64 3]) ∧ w' = w := by
  obtain ⟨b, v, rfl, _, hc, hl, hn⟩ := h
  obtain ⟨a, cap, rfl⟩ := lform hl
  clear hl
  by_cases h0 : i < 0
  · clear hi
    go_enter Try.func46, Try.ntmps46
    go_wp2
    go_ret3
    exact ⟨rfl, rfl⟩
  · have h1 : (xs.length : Int) < i := by omega
    have e0 : decide (i < 0) = false := decide_eq_false h0
    clear hi
    go_enter Try.func46, Try.ntmps46
    go_wp2
    go_ret3
    exact ⟨rfl, rfl⟩

set_option maxRecDepth 100000 in
set_option maxHeartbeats 2000000 in
theorem rstart_any (S : Nat → Prop) (r : Value) (xs : List Int) (k : Nat) (w : World) (h : RefAt S w r xs) (hk : k ≤ 9223372036854775807) :
    Calls Try.prog 29 #[r, .int .i64 k] w fun e w' => (k ≤ ends xs → e = .returned (.tuple #[.int .i64 (behind xs k), .int .i64 0])) ∧ (ends xs < k → e = .returned (.tuple #[.int .i64 0, .int .i64 3])) ∧ w' = w := by
  obtain ⟨b, v, rfl, _, hc, hl, hn⟩ := h
  obtain ⟨a, cap, rfl⟩ := lform hl
  have HL := hide1 hl
  have g : (xs.length : Int) ≤ 16777216 := by omega
  have gk : (k : Int) ≤ 9223372036854775807 := by omega
  have e0 : decide ((k : Int) < 0) = false := decide_eq_false (by omega)
  clear hl
  go_enter Try.func29, Try.ntmps29
  go_wp2_with fail
  go_loopw [1, 6, 7] (fun n c i wr => ∃ j m : Nat, n = .int .i64 (m : Int) ∧ m + ends (xs.take j) = k ∧ c = .int .i64 (behind xs (ends (xs.take j)) : Int) ∧ i = .int .i64 (j : Int) ∧ j ≤ xs.length ∧ wr = w) (fun _ _ i _ => xs.length - (intOf i).toNat)
  case atStart => exact ⟨0, k, rfl, by simp [ends_nil], by simp [ends_nil, behind_zero], rfl, Nat.zero_le _, rfl⟩
  case round =>
    obtain ⟨j, m, rfl, hm, rfl, rfl, hj, rfl⟩ := hrel
    have HM := hide1 hm
    have gm : (m : Int) ≤ 9223372036854775807 := by omega
    have HT := hide1 (ends_take_le xs j)
    clear hm
    by_cases hlt : (j : Int) < (xs.length : Int)
    · by_cases hm0 : (0 : Int) < (m : Int)
      · obtain ⟨x, hx⟩ : ∃ x, xs[j]? = some x := ⟨_, List.getElem?_eq_getElem (by omega)⟩
        obtain ⟨c, o, rfl, hcell⟩ := lcell HL.out hx
        by_cases h10 : x = 10
        · subst h10
          have HS := hide1 (ends_ten hx)
          have HA := hide1 (behind_at xs j hx)
          clear hx
          go_wp2
          go_roundw
          case rel => exact ⟨j + 1, m - 1, by go_num, by rw [HS.out]; have := HM.out; omega, by rw [HS.out, HA.out]; go_num, by go_num, by omega, trivial⟩
          case measure => simp [intOf]; omega
        · have HS := hide1 (ends_no hx h10)
          have hne : (x == 10) = false := by simpa using h10
          clear hx
          go_wp2
          go_roundw
          case rel => exact ⟨j + 1, m, rfl, by rw [HS.out]; exact HM.out, by rw [HS.out], by go_num, by omega, trivial⟩
          case measure => simp [intOf]; omega
      · have h1 := HM.out
        have h2 := HT.out
        obtain rfl : m = 0 := by omega
        have h3 : ends (xs.take j) = k := by omega
        rw [h3]
        have hno : Hid (¬ ends xs < k) := by show ¬ _; omega
        clear h1 h2 h3
        go_wp2
        go_ret2
        exact ⟨fun _ => rfl, fun h => absurd h hno.out, rfl⟩
    · obtain rfl : j = xs.length := by omega
      have h1 := HM.out
      rw [List.take_length] at h1
      by_cases hm0 : (0 : Int) < (m : Int)
      · have hno : Hid (¬ k ≤ ends xs) := by show ¬ _; omega
        clear h1
        go_wp2
        go_ret2
        exact ⟨fun h => absurd h hno.out, fun _ => rfl, rfl⟩
      · have h3 : ends xs = k := by omega
        obtain rfl : m = 0 := by omega
        have hno : Hid (¬ ends xs < k) := by show ¬ _; omega
        rw [List.take_length, h3]
        clear h1 h3
        go_wp2
        go_ret2
        exact ⟨fun _ => rfl, fun h => absurd h hno.out, rfl⟩

set_option maxHeartbeats 1000000 in
theorem rstart_low (r : Value) (k : Int) (w : World) (hk : k < 0) :
    Calls Try.prog 29 #[r, .int .i64 k] w fun e w' => e = .returned (.tuple #[.int .i64 0, .int .i64 3]) ∧ w' = w := by
  go_enter Try.func29, Try.ntmps29
  go_wp2
  go_ret2
  exact ⟨rfl, rfl⟩

end Rope
end Go.Proofs.Ythjagnnbhpfpoaa
