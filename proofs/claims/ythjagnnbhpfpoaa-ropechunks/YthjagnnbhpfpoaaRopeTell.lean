import Derived.Test.YthjagnnbhpfpoaaRows
import Derived.Test.YthjagnnbhpfpoaaRopeBase
import Derived.ProofKit
import Derived.Deep.RegionHeld3
import Derived.Deep.QuietTactic
import Derived.BigQuiet
import Derived.Deep.DeepCutAuto
namespace Go.Proofs.Ythjagnnbhpfpoaa
open Go.RowKit
namespace Rope

theorem wrap_small (x : Int) (h0 : 0 ≤ x) (h1 : x ≤ 4000000000) : IntKind.i64.wrap x = x := by
  simp only [IntKind.wrap, IntKind.signed, IntKind.bits]
  simp
  omega

set_option maxHeartbeats 400000 in
theorem isPiece_cells (b : Nat) (w : World) (q : Option Addr) (h0 : w.cell? ⟨b, 0, none⟩ = some (.pointer q)) :
    Calls Try.prog 52 #[.pointer (some ⟨b, 0, none⟩)] w fun e w' => e = .returned (.bool q.isNone) ∧ w' = w := by
  go_enter Try.func52, Try.ntmps52
  go_wp2
  go_ret
  exact ⟨rfl, rfl⟩

set_option maxHeartbeats 400000 in
theorem tell_nil (w : World) :
    Calls Try.prog 33 #[.pointer none] w fun e w' => e = .returned (.agg #[.int .i64 0, .int .i64 0]) ∧ Kept w w' := by
  go_enter Try.func33, Try.ntmps33
  go_wp2
  exact bodyPost_ret (v := .agg #[.int .i64 0, .int .i64 0]) (by simp [results, Try.results33, go_sem]) rfl ⟨rfl, ((Kept.refl _).alloc _ _).alloc _ _⟩

set_option maxHeartbeats 400000 in
theorem tell_cells (b : Nat) (x y : Int) (w : World) (h4 : w.cell? ⟨b, 4, none⟩ = some (.int .i64 x)) (h5 : w.cell? ⟨b, 5, none⟩ = some (.int .i64 y)) :
    Calls Try.prog 33 #[.pointer (some ⟨b, 0, none⟩)] w fun e w' => e = .returned (.agg #[.int .i64 x, .int .i64 y]) ∧ Kept w w' := by
  have hb : b < w.heap.size := World.block_lt_of_cell? w _ h4
  go_enter Try.func33, Try.ntmps33
  go_wp2
  exact bodyPost_ret (v := .agg #[.int .i64 x, .int .i64 y]) (by simp [results, Try.results33, go_sem]) rfl ⟨rfl, (Kept.refl _).alloc _ _⟩

set_option maxHeartbeats 400000 in
theorem plus_any (x y x' y' : Int) (w : World) (h0 : 0 ≤ x) (h1 : x ≤ 1000000000) (h2 : 0 ≤ y) (h3 : y ≤ 1000000000) (h4 : 0 ≤ x') (h5 : x' ≤ 1000000000) (h6 : 0 ≤ y') (h7 : y' ≤ 1000000000) :
    Calls Try.prog 99 #[.agg #[.int .i64 x, .int .i64 y], .agg #[.int .i64 x', .int .i64 y']] w fun e w' => e = .returned (.agg #[.int .i64 (x + x'), .int .i64 (y + y')]) ∧ Kept w w' := by
  go_enter Try.func99, Try.ntmps99
  go_wp2
  exact bodyPost_ret (v := .agg #[.int .i64 (x + x'), .int .i64 (y + y')]) (by simp [results, Try.results99, go_sem]) rfl ⟨rfl, (((Kept.refl _).alloc _ _).alloc _ _).alloc _ _⟩

theorem tell_tree (S : Nat → Prop) (p : Value) (bs : List Int) (w : World) (hp : TreeAt S w p bs) :
    Calls Try.prog 33 #[p] w fun e w' => e = .returned (.agg #[.int .i64 bs.length, .int .i64 (ends bs)]) ∧ Kept w w' := by
  rcases hp with ⟨rfl, rfl⟩ | ⟨b, h, rfl, hp⟩
  · exact tell_nil w
  · obtain ⟨_, l, r, v, hc⟩ := hp.cells
    exact tell_cells b _ _ w hc.2.2.2.2.1 hc.2.2.2.2.2.1

theorem field0 (x y : Int) (w : World) : (Instr.field 76 (.agg #[.int .i64 x, .int .i64 y]) 0).run Try.prog w = .ok (.int .i64 x) w := by kernel_rfl
theorem field1 (x y : Int) (w : World) : (Instr.field 76 (.agg #[.int .i64 x, .int .i64 y]) 1).run Try.prog w = .ok (.int .i64 y) w := by kernel_rfl
theorem int_some {k : IntKind} {a b : Int} (h : a = b) : some (Value.int k a) = some (Value.int k b) := by rw [h]
theorem ret_int {k : IntKind} {a b : Int} (h : a = b) : Ending.returned (.int k a) = .returned (.int k b) := by rw [h]
theorem ret_ptr {a b : Option Addr} (h : a = b) : Ending.returned (.pointer a) = .returned (.pointer b) := by rw [h]

end Rope
end Go.Proofs.Ythjagnnbhpfpoaa
