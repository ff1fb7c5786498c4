import Derived.Test.YthjagnnbhpfpoaaRopeBytes
import Derived.Lib.AppendZeros
namespace Go.Proofs.Ythjagnnbhpfpoaa
open Go.RowKit
namespace Rope

set_option maxRecDepth 100000 in
set_option maxHeartbeats 1000000 in
theorem grow_nil (n : Nat) (w : World) (h0 : 0 < n) (hn : n ≤ 100000000) :
    Calls Try.prog 77 #[.slice none 0 0, .int .i64 n] w fun e w' => ∃ g cap, e = .returned (.slice (some ⟨g, 0, none⟩) 0 cap) ∧ Kept w w' ∧ Own w' w.heap.size (.slice (some ⟨g, 0, none⟩) 0 cap) [] ∧ w.heap.size ≤ g := by
  obtain ⟨i0, hi, hz0, hz1, hz2⟩ := info_parts u8_info
  have hrz : ∀ ty, (Builtin.append_ #[22, 3] ty #[.slice none 0 0, .int .i64 n]).run Try.prog w =
      .ok (.slice (some ⟨w.heap.size, 0, none⟩) n (grownCap w n 0 5)) (w.drew.alloc (.cells (Builtin.zeroCells #[.int .u8 0] n ++ Builtin.zeroCells #[.int .u8 0] (grownCap w n 0 5 - n)) 5)) :=
    fun ty => Lib.run_append_nil_zeros w 22 3 ty 5 i0 (.int .u8 0) .i64 .i64 Try.underlying22 Try.underlying3 hi hz0 n h0 (by omega) (by omega) (by rw [hz2]; omega)
  clear hi hz0 hz1 hz2
  have hGn : n ≤ grownCap w n 0 5 := grownCap_ge w _ _ _
  have hGm : grownCap w n 0 5 ≤ maxLen := grownCap_le_maxLen w n 0 5 (by unfold maxLen; omega)
  generalize grownCap w n 0 5 = G at hrz hGn hGm
  have hG63 : G ≤ 9223372036854775807 := by unfold maxLen at hGm; omega
  have HG : Hid (G ≤ maxLen) := hGm
  clear hGm
  go_enter Try.func77, Try.ntmps77
  go_wp2_with (at_builtin; go_must (refine Lib.wpList_append_run _ rfl _ _ _ _ rfl _ _ rfl rfl _ _ (hrz _) ?_))
  go_ret
  refine ⟨w.heap.size, G, rfl, (Kept.refl w).alloc _ _, ⟨rfl, .inr ⟨w.heap.size, G, _, rfl, Nat.le_refl _, heap_alloc_new w _, Nat.zero_le _, HG.out, ?_, ?_⟩⟩, Nat.le_refl _⟩
  · rw [Array.size_append, size_zeroCells, size_zeroCells]; simp; omega
  · simp [bytesV]

set_option maxRecDepth 100000 in
set_option maxHeartbeats 2000000 in
theorem concat_any (b cx ox px cy oy py : Nat) (xs ys : List Int) (w : World)
    (b0 : w.cell? ⟨b, 0, none⟩ = some (.slice (some ⟨cx, ox, none⟩) xs.length px)) (b1 : w.cell? ⟨b, 1, none⟩ = some (.slice (some ⟨cy, oy, none⟩) ys.length py))
    (hx : Hid (∀ j x, xs[j]? = some x → w.cell? ⟨cx, ox + j, none⟩ = some (.int .u8 x))) (hy : Hid (∀ j x, ys[j]? = some x → w.cell? ⟨cy, oy + j, none⟩ = some (.int .u8 x)))
    (nx : 0 < xs.length) (ny : 0 < ys.length) (hn : xs.length + ys.length ≤ 100000000) :
    Calls Try.prog 73 #[.slice (some ⟨b, 0, none⟩) 2 2] w fun e w' => ∃ g cap, e = .returned (.slice (some ⟨g, 0, none⟩) (xs ++ ys).length cap) ∧ Kept w w' ∧ Own w' w.heap.size (.slice (some ⟨g, 0, none⟩) (xs ++ ys).length cap) (xs ++ ys) ∧ w.heap.size ≤ g := by
  have HI := info_parts u8_info
  have hb : b < w.heap.size := World.block_lt_of_cell? w _ b0
  go_enter Try.func73, Try.ntmps73
  go_wp2_with fail
  go_loop [3, 11] (fun s i => (i = .int .i64 0 ∧ s = .int .i64 0) ∨ (i = .int .i64 1 ∧ s = .int .i64 xs.length) ∨ (i = .int .i64 2 ∧ s = .int .i64 (xs.length + ys.length : Nat))) (fun _ i => 2 - (intOf i).toNat)
  case atStart => exact Or.inl ⟨rfl, rfl⟩
  case round =>
    rcases hrel with ⟨rfl, rfl⟩ | ⟨rfl, rfl⟩ | ⟨rfl, rfl⟩
    · go_wp2_with fail
      go_round
      case rel => exact Or.inr (Or.inl ⟨rfl, by go_num⟩)
      case measure => simp [intOf]
    · go_wp2_with fail
      go_round
      case rel => exact Or.inr (Or.inr ⟨rfl, by go_num⟩)
      case measure => simp [intOf]
    · go_wp2_with (go_at_call 77; go_must (refine (grow_nil (xs.length + ys.length) _ (by omega) (by omega)).mono ?_; rintro e w1 ⟨g0, cap0, rfl, hk0, ho0, hg0⟩))
      have hcat : Hid (∀ wr, Kept w wr → wr.cell? ⟨b, 0, none⟩ = some (.slice (some ⟨cx, ox, none⟩) xs.length px) ∧ wr.cell? ⟨b, 1, none⟩ = some (.slice (some ⟨cy, oy, none⟩) ys.length py)) := fun wr hk => ⟨grown_cell hk b0, grown_cell hk b1⟩
      go_loopw [6, 27] (fun v i wr => ∃ g cap bs, v = .slice (some ⟨g, 0, none⟩) bs.length cap ∧ Own wr w.heap.size (.slice (some ⟨g, 0, none⟩) bs.length cap) bs ∧ Kept w wr ∧ w.heap.size ≤ g ∧
          ((i = .int .i64 0 ∧ bs = []) ∨ (i = .int .i64 1 ∧ bs = xs) ∨ (i = .int .i64 2 ∧ bs = xs ++ ys))) (fun _ i _ => 2 - (intOf i).toNat)
      case atStart => exact ⟨g0, cap0, [], rfl, ho0, hk0, hg0, Or.inl ⟨rfl, rfl⟩⟩
      case round =>
        obtain ⟨g, cap, bs, rfl, how, hk, hg, hcase⟩ := hrel
        obtain ⟨d0, d1⟩ := hcat wr hk
        have hle := hk.size
        rcases hcase with ⟨rfl, rfl⟩ | ⟨rfl, rfl⟩ | ⟨rfl, rfl⟩
        · go_wp2_with (at_builtin; go_must (refine wpl_append_bytes rfl _ _ rfl wr w.heap.size _ [] (by rfl) how cx ox px xs (by rfl) (fun j x h => grown_cell hk (hx j x h)) nx (by simp; omega) hle ?_; intro g2 cap2 w2 how2 hgrow hg2))
          have hk2 := hk.grown hgrow how.base
          go_roundw
          case rel => exact ⟨g2, cap2, xs, rfl, how2, hk2, hg2, Or.inr (Or.inl ⟨rfl, rfl⟩)⟩
          case measure => simp [intOf]
        · go_wp2_with (at_builtin; go_must (refine wpl_append_bytes rfl _ _ rfl wr w.heap.size _ _ (by rfl) how cy oy py ys (by rfl) (fun j x h => grown_cell hk (hy j x h)) ny (by omega) hle ?_; intro g2 cap2 w2 how2 hgrow hg2))
          have hk2 := hk.grown hgrow how.base
          go_roundw
          case rel => exact ⟨g2, cap2, _, by rw [List.length_append], how2, hk2, hg2, Or.inr (Or.inr ⟨rfl, rfl⟩)⟩
          case measure => simp [intOf]
        · go_wp2
          go_ret
          exact ⟨g, cap, rfl, hk, how, hg⟩
end Rope
end Go.Proofs.Ythjagnnbhpfpoaa
