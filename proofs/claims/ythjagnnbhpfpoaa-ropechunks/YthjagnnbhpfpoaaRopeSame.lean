import Derived.Test.YthjagnnbhpfpoaaRopeMake
namespace Go.Proofs.Ythjagnnbhpfpoaa
open Go.RowKit
attribute [local go_sem] Oper.semAt_some
namespace Rope

theorem eq_of_take {xs ys : List Int} {n : Nat} (h1 : xs.length = n) (h2 : ys.length = n) (h : xs.take n = ys.take n) : xs = ys := by
  rw [List.take_of_length_le (by omega), List.take_of_length_le (by omega)] at h; exact h
theorem take_snoc {xs : List Int} {j : Nat} {x : Int} (h : xs[j]? = some x) : xs.take (j + 1) = xs.take j ++ [x] := by
  obtain ⟨hj, rfl⟩ := List.getElem?_eq_some_iff.1 h
  exact List.take_succ_eq_append_getElem hj

set_option maxRecDepth 100000 in
set_option maxHeartbeats 2000000 in
theorem same_cells (c o p d o' q n : Nat) (xs ys : List Int) (w : World) (hl1 : xs.length = n) (hl2 : ys.length = n) (hn : n ≤ 1000000000)
    (h1 : Hid (∀ j x, xs[j]? = some x → w.cell? ⟨c, o + j, none⟩ = some (.int .u8 x))) (h2 : Hid (∀ j x, ys[j]? = some x → w.cell? ⟨d, o' + j, none⟩ = some (.int .u8 x))) :
    Calls Try.prog 22 #[.slice (some ⟨c, o, none⟩) n p, .slice (some ⟨d, o', none⟩) n q] w fun e w' => e = .returned (.bool (decide (xs = ys))) ∧ Kept w w' := by
  have gn : (n : Int) ≤ 1000000000 := by omega
  go_enter Try.func22, Try.ntmps22
  go_wp2_with fail
  go_loopw [5] (fun i wr => ∃ j : Nat, i = .int .i64 (j : Int) ∧ j ≤ n ∧ Kept w wr ∧ Hid (xs.take j = ys.take j)) (fun i _ => n - (intOf i).toNat)
  case atStart => exact ⟨0, rfl, by omega, Kept.refl w, rfl⟩
  case round =>
    obtain ⟨j, rfl, hj, hk, heq⟩ := hrel
    by_cases hlt : (j : Int) < (n : Int)
    · obtain ⟨x, hx⟩ : ∃ x, xs[j]? = some x := ⟨_, List.getElem?_eq_getElem (by omega)⟩
      obtain ⟨y, hy⟩ : ∃ y, ys[j]? = some y := ⟨_, List.getElem?_eq_getElem (by omega)⟩
      have c1 := grown_cell hk (h1.out j x hx)
      have c2 := grown_cell hk (h2.out j y hy)
      have HK := hide1 hk
      have HX := hide1 hx
      have HY := hide1 hy
      clear hk hx hy
      by_cases hxy : x = y
      · subst hxy
        go_wp2_with fail
        go_quiet (fail)
        go_wp2
        go_roundw
        case rel => exact ⟨j + 1, by go_num, by omega, HK.out, by rw [take_snoc HX.out, take_snoc HY.out, heq.out]; exact rfl⟩
        case measure => simp [intOf]; omega
      · have hne : (x == y) = false := by simpa using hxy
        go_wp2_with fail
        go_quiet (fail)
        go_wp2
        go_ret
        have hd : decide (xs = ys) = false := decide_eq_false (fun e => hxy (by have a := HX.out; have b := HY.out; rw [e, b] at a; injection a with a; exact a.symm))
        rw [hd]
        exact ⟨rfl, HK.out⟩
    · go_wp2
      go_ret
      have hjn : j = n := by omega
      subst hjn
      have hd : decide (xs = ys) = true := decide_eq_true (eq_of_take hl1 hl2 heq.out)
      rw [hd]
      exact ⟨rfl, hk⟩

set_option maxRecDepth 100000 in
set_option maxHeartbeats 2000000 in
theorem same_none (a b : Option Addr) (p q : Nat) (w : World) :
    Calls Try.prog 22 #[.slice a 0 p, .slice b 0 q] w fun e w' => e = .returned (.bool true) ∧ Kept w w' := by
  go_enter Try.func22, Try.ntmps22
  go_wp2_with fail
  go_loopw [5] (fun i wr => i = .int .i64 0 ∧ wr = w) (fun i _ => (intOf i).toNat)
  case atStart => exact ⟨rfl, rfl⟩
  case round =>
    obtain ⟨rfl, rfl⟩ := hrel
    go_wp2
    go_ret
    exact ⟨rfl, Kept.refl _⟩

set_option maxRecDepth 100000 in
set_option maxHeartbeats 2000000 in
theorem same_len (a b : Option Addr) (m n p q : Nat) (w : World) (h : m ≠ n) :
    Calls Try.prog 22 #[.slice a m p, .slice b n q] w fun e w' => e = .returned (.bool false) ∧ Kept w w' := by
  have hne : ((m : Int) == (n : Int)) = false := by simp; omega
  go_enter Try.func22, Try.ntmps22
  go_wp2
  go_ret
  exact ⟨rfl, Kept.refl _⟩

theorem same_any (S S' : Nat → Prop) (u v : Value) (xs ys : List Int) (w : World) (h1 : ListAt S w u xs) (h2 : ListAt S' w v ys) (hn1 : xs.length ≤ 1000000000) (hn2 : ys.length ≤ 1000000000) :
    Calls Try.prog 22 #[u, v] w fun e w' => e = .returned (.bool (decide (xs = ys))) ∧ Kept w w' := by
  by_cases hl : xs.length = ys.length
  · rcases h1 with ⟨rfl, a, p, rfl⟩ | h1
    · have : ys = [] := List.length_eq_zero_iff.1 hl.symm
      subst this
      obtain ⟨b, q, rfl⟩ := h2.form
      exact same_none a b p q w
    · rcases h2 with ⟨rfl, b, q, rfl⟩ | h2
      · have : xs = [] := List.length_eq_zero_iff.1 hl
        subst this
        obtain ⟨c, o, cap, rfl, _⟩ := h1
        exact same_none _ b cap q w
      · obtain ⟨c, o, p, rfl, _, _, hc, _⟩ := h1
        obtain ⟨d, o', q, rfl, _, _, hd, _⟩ := h2
        rw [← hl]
        exact same_cells c o p d o' q xs.length xs ys w rfl hl.symm hn1 hc hd
  · obtain ⟨a, p, rfl⟩ := h1.form
    obtain ⟨b, q, rfl⟩ := h2.form
    have hd : decide (xs = ys) = false := decide_eq_false (fun e => hl (by rw [e]))
    rw [hd]
    exact same_len a b _ _ p q w hl

end Rope
end Go.Proofs.Ythjagnnbhpfpoaa
