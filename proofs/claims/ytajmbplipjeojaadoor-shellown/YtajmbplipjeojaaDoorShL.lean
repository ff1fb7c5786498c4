import Derived.Test.YtajmbplipjeojaaDoorShM
import Derived.Laws.Externs
import Derived.Laws.Runes
import Derived.Lib.Strings
import Derived.Lib.Walk
import Derived.Lib.BufferWrite
import Derived.Lib.UnsafeStr
import Derived.Lib.Hide
import Derived.Laws.MakeOwn
namespace Go.Proofs.YtajmbplipjeojaaDoor
open Go.RowKit
attribute [local go_sem] Oper.semAt_some
namespace Ex
namespace Sh

set_option maxRecDepth 100000 in
set_option maxHeartbeats 2000000 in
theorem indexByte_is (s : ByteArray) (c : Int) (w : World) : Calls Tryd.prog 40 #[.string s, .int .u8 c] w fun e w' => e = .returned (.int .i64 (firstIdx s c.toNat.toUInt8)) ∧ w' = w := by
  have h90 := @run_callFunc_extern Tryd.prog 50 _ Extern.BytealgIndexByte.indexByte Tryd.func50 (by kernel_rfl) (by kernel_rfl) (by kernel_rfl) (by kernel_rfl)
  have hi := fun w => run_indexByte_string (P := Tryd.prog) s c w
  go_enter Tryd.func40, Tryd.ntmps40
  go_wp2_with go_in
  all_goals
    go_ret
    exact ⟨rfl, rfl⟩


def blankS : ByteArray := ⟨#[32, 9]⟩
set_option maxRecDepth 100000 in
set_option maxHeartbeats 2000000 in
theorem sIndexByte_is (s : ByteArray) (c : Int) (w : World) : Calls Tryd.prog 46 #[.string s, .int .u8 c] w fun e w' => e = .returned (.int .i64 (firstIdx s c.toNat.toUInt8)) ∧ w' = w := by
  have h90 := @run_callFunc_extern Tryd.prog 50 _ Extern.BytealgIndexByte.indexByte Tryd.func50 (by kernel_rfl) (by kernel_rfl) (by kernel_rfl) (by kernel_rfl)
  have hi := fun w => run_indexByte_string (P := Tryd.prog) s c w
  go_enter Tryd.func46, Tryd.ntmps46
  go_wp2_with go_in
  all_goals
    go_ret
    exact ⟨rfl, rfl⟩
theorem idx_blank (c : Int) (h0 : 0 ≤ c) (h1 : c < 256) : decide (0 ≤ firstIdx blankS c.toNat.toUInt8) = blank c := by
  rw [firstIdx_nonneg]
  obtain ⟨n, rfl⟩ : ∃ n : Nat, c = (n : Int) := ⟨c.toNat, by omega⟩
  have hn : n < 256 := by omega
  have key : ∀ k : Fin 256, (blankS.data.toList.any (· == (k.val : Int).toNat.toUInt8)) = blank (k.val : Int) := by decide +kernel
  exact key ⟨n, hn⟩
set_option maxRecDepth 100000 in
set_option maxHeartbeats 2000000 in
theorem crune_lo (r : Int) (w : World) (h0 : 0 ≤ r) (h1 : r < 128) : Calls Tryd.prog 31 #[.string blankS, .int .i32 r] w fun e w' => e = .returned (.bool (blank r)) ∧ w' = w := by
  have hb := idx_blank r h0 (by omega)
  have HB := hide1 hb
  clear hb
  have hw8 : IntKind.u8.wrap r = r := by
    rw [IntKind.wrap_u8]; omega
  go_enter Tryd.func31, Tryd.ntmps31
  go_wp2_with (first | (go_at_call 40; refine (indexByte_is _ _ _).mono ?_; rintro e w6 ⟨rfl, rfl⟩) | go_in)
  go_ret
  refine ⟨?_, rfl⟩
  rw [← HB.out]
  rfl

theorem valid_of (s : ByteArray) (pos : Nat) : Utf8.valid ((Utf8.decode s pos).1 : Int) = true := by
  have hb : (s.get! pos).toNat < 256 := (s.get! pos).toNat_lt
  rw [Lib.decode_at, validRune_eq, validRune]
  rcases Lib.decodeN_shape (s.size - pos) (s.get! pos).toNat (s.get! (pos + 1)).toNat (s.get! (pos + 2)).toNat (s.get! (pos + 3)).toNat with ⟨h0, e⟩ | ⟨h0, h1, h2, _, e⟩ | ⟨h0, h1, h2, h3, _, _, e⟩ | ⟨h0, h1, h2, h3, h4, _, _, e⟩ | e
  all_goals rw [e]
  all_goals simp only [decide_eq_true_eq]
  all_goals omega
end Sh
end Ex
end Go.Proofs.YtajmbplipjeojaaDoor
