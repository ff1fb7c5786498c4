import Derived.Test.YthjagnnbhpfpoaaRopeCount
import Derived.Deep.LoopGhost
namespace Go.Proofs.Ythjagnnbhpfpoaa
open Go.RowKit
namespace Rope

theorem ret_two {a b c d : Value} (h1 : a = c) (h2 : b = d) : Ending.returned (.tuple #[a, b]) = .returned (.tuple #[c, d]) := by rw [h1, h2]

set_option maxRecDepth 100000 in
set_option maxHeartbeats 2000000 in
theorem find_any (S : Nat → Prop) (a h i : Nat) (xs : List Int) (w : World) (hp : IsPart S w a h xs) (hi : i < xs.length) (hn : xs.length ≤ 100000000) :
    Calls Try.prog 39 #[at_ a, .int .i64 i] w fun e w' => ∃ x j ys, e = .returned (.tuple #[at_ x, .int .i64 (j : Nat)]) ∧ w' = w ∧ LeafAt S w x ys ∧ j < ys.length ∧ ys[j]? = xs[i]? := by
  unfold at_
  go_enter Try.func39, Try.ntmps39
  go_wp2_with fail
  go_loopg [0, 1] h (fun k p q wr => wr = w ∧ ∃ x j ys, p = .pointer (some ⟨x, 0, none⟩) ∧ q = .int .i64 (j : Nat) ∧ IsPart S w x k ys ∧ j < ys.length ∧ ys.length ≤ 100000000 ∧ Hid (ys[j]? = xs[i]?))
  case atStart => exact ⟨rfl, a, i, xs, rfl, rfl, hp, hi, hn, rfl⟩
  case round =>
    obtain ⟨rfl, x, j, ys, rfl, rfl, px, hj, hny, hjx⟩ := hrel
    rcases px.cases with ⟨rfl, hl⟩ | ⟨l, r, hl, hr, bl, br, _, rfl, rfl, hc, pl, pr⟩
    · obtain ⟨_, _, v, hc, _⟩ := id hl
      have c0 := hc.1
      clear hc
      go_wp2_with (go_at_call 52; go_must (refine (isPiece_cells _ _ _ c0).mono ?_; rintro e w1 ⟨rfl, hw1⟩; subst hw1))
      go_ret2
      exact ⟨x, j, ys, rfl, rfl, hl, hj, hjx.out⟩
    · have c0 := hc.1
      have c1 := hc.2.1
      unfold at_ at c0 c1
      obtain ⟨_, _, _, _, cl⟩ := pl.cells
      have l4 := cl.2.2.2.2.1
      clear hc cl
      have hlen : (bl ++ br).length = bl.length + br.length := List.length_append
      have HL : Hid ((bl ++ br).length = bl.length + br.length) := hlen
      rw [hlen] at hj hny
      clear hlen
      by_cases hlt : (j : Int) < (bl.length : Int)
      · go_wp2_with (go_at_call 52; go_must (refine (isPiece_cells _ _ _ c0).mono ?_; rintro e w1 ⟨rfl, hw1⟩; subst hw1))
        go_roundg hl
        case rel => exact ⟨rfl, l, j, bl, rfl, rfl, pl, by omega, by omega, by have := hjx.out; rw [List.getElem?_append_left (by omega)] at this; exact this⟩
        case measure => omega
      · go_wp2_with (go_at_call 52; go_must (refine (isPiece_cells _ _ _ c0).mono ?_; rintro e w1 ⟨rfl, hw1⟩; subst hw1))
        go_roundg hr
        case rel => exact ⟨rfl, r, j - bl.length, br, rfl, by go_num, pr, by omega, by omega, by have := hjx.out; rw [List.getElem?_append_right (by omega)] at this; exact this⟩
        case measure => omega

set_option maxRecDepth 100000 in
set_option maxHeartbeats 2000000 in
theorem endsAhead_all (S : Nat → Prop) (p : Value) (xs : List Int) (w : World) (hp : TreeAt S w p xs) :
    Calls Try.prog 36 #[p, .int .i64 xs.length] w fun e w' => e = .returned (.int .i64 (ends xs)) ∧ Kept w w' := by
  have hf0 := field0
  have hf1 := field1
  go_enter Try.func36, Try.ntmps36
  go_wp2_with fail
  refine (tell_tree S p xs _ hp).mono ?_
  rintro e w1 ⟨rfl, hk1⟩
  go_wp2_with fail
  refine (tell_tree S p xs _ (hp.grown hk1)).mono ?_
  rintro e w2 ⟨rfl, hk2⟩
  go_wp2
  go_ret
  exact ⟨rfl, gtrans hk1 hk2⟩

set_option maxRecDepth 100000 in
set_option maxHeartbeats 2000000 in
theorem endsAhead_in (S : Nat → Prop) (a h i : Nat) (xs : List Int) (w : World) (hp : IsPart S w a h xs) (hi : i < xs.length) (hn : xs.length ≤ 100000000) :
    Calls Try.prog 36 #[at_ a, .int .i64 i] w fun e w' => e = .returned (.int .i64 (ends (xs.take i))) ∧ Kept w w' := by
  have hne : ((i : Int) == (xs.length : Int)) = false := by simp; omega
  have htell := tell_tree S (at_ a) xs w (Or.inr ⟨a, h, rfl, hp⟩)
  have HT : Hid (Calls Try.prog 33 #[at_ a] w fun e w' => e = .returned (.agg #[.int .i64 xs.length, .int .i64 (ends xs)]) ∧ Kept w w') := htell
  clear htell
  unfold at_ at HT ⊢
  have hf0 := field0
  have hf1 := field1
  go_enter Try.func36, Try.ntmps36
  go_wp2_with (go_at_call 33; go_must (refine HT.out.mono ?_; rintro e w0 ⟨rfl, hk0⟩))
  go_loopg [0, 1, 5] h (fun k p q s wr => wr = w0 ∧ ∃ x j ys m, p = .pointer (some ⟨x, 0, none⟩) ∧ q = .int .i64 (j : Nat) ∧ s = .int .i64 (m : Nat) ∧ IsPart S w x k ys ∧ j < ys.length ∧ ys.length + m ≤ 100000000 ∧ Hid (m + ends (ys.take j) = ends (xs.take i)))
  case atStart => exact ⟨rfl, a, i, xs, 0, rfl, rfl, rfl, hp, hi, by omega, by show 0 + _ = _; omega⟩
  case round =>
    obtain ⟨rfl, x, j, ys, m, rfl, rfl, rfl, px, hj, hny, hjx⟩ := hrel
    have px0 := px
    replace px := px.grown hk0
    rcases px0.cases with ⟨rfl, _, hne, v, hc, hv⟩ | ⟨l, r, hl, hr, bl, br, _, rfl, rfl, hc, pl, pr⟩
    · replace hc := hc.mono (S := fun _ => True) trivial (Kept.same hk0 _)
      replace hv := hv.mono (Kept.same hk0 S) (fun _ h => h)
      have c0 := hc.1
      have c2 := hc.2.2.1
      obtain ⟨c, o, cap, rfl, hcap, _, hcc, hby⟩ := id hv
      have ht := hv.take j (by omega)
      obtain ⟨l1, _, _, hcells, hbt⟩ := ht.parts
      have HC : Hid (∀ k x, (ys.take j)[k]? = some x → wr.cell? ⟨c, o + k, none⟩ = some (.int .u8 x)) := hcells
      have HB : Hid (Byt (ys.take j)) := hbt
      have HL : Hid (j = (ys.take j).length) := l1
      have g1 : (j : Int) ≤ (cap : Int) := by omega
      have eb := ends_le (ys.take j)
      have eb2 : (ends (ys.take j) : Int) ≤ (j : Int) := by rw [← HL.out] at eb; omega
      clear hc hcc hcells hbt l1 hby eb ht hv
      go_wp2_with (first
        | (go_at_call 52; go_must (refine (isPiece_cells _ _ _ c0).mono ?_; rintro e w1 ⟨rfl, hw1⟩; subst hw1))
        | (go_at_call 54; go_must (have hce := countEnds_any c o cap (ys.take j) _ HC HB; rw [← HL.out] at hce; refine hce.mono ?_; clear hce; rintro e w2 ⟨rfl, hk2⟩)))
      go_ret
      exact ⟨ret_int (by have := hjx.out; omega), gtrans hk0 hk2⟩
    · replace hc := hc.mono (S := fun _ => True) trivial (Kept.same hk0 _)
      have c0 := hc.1
      have c1 := hc.2.1
      unfold at_ at c0 c1
      obtain ⟨_, _, _, _, cl⟩ := pl.cells
      replace cl := cl.mono (S := fun _ => True) trivial (Kept.same hk0 _)
      have l4 := cl.2.2.2.2.1
      have l5 := cl.2.2.2.2.2.1
      clear hc cl
      have hlen : (bl ++ br).length = bl.length + br.length := List.length_append
      rw [hlen] at hj hny
      clear hlen
      have el := ends_le bl
      by_cases hlt : (j : Int) < (bl.length : Int)
      · go_wp2_with (go_at_call 52; go_must (refine (isPiece_cells _ _ _ c0).mono ?_; rintro e w1 ⟨rfl, hw1⟩; subst hw1))
        go_roundg hl
        case rel => exact ⟨rfl, l, j, bl, m, rfl, rfl, rfl, pl, by omega, by omega, by have := hjx.out; rw [List.take_append_of_le_length (by omega)] at this; exact this⟩
        case measure => omega
      · go_wp2_with (go_at_call 52; go_must (refine (isPiece_cells _ _ _ c0).mono ?_; rintro e w1 ⟨rfl, hw1⟩; subst hw1))
        go_roundg hr
        case rel =>
          refine ⟨rfl, r, j - bl.length, br, m + ends bl, rfl, by go_num, by go_num, pr, by omega, by omega, ?_⟩
          have := hjx.out
          rw [List.take_append, List.take_of_length_le (by omega), ends_append] at this
          show _ = _
          omega
        case measure => omega

end Rope
end Go.Proofs.Ythjagnnbhpfpoaa
