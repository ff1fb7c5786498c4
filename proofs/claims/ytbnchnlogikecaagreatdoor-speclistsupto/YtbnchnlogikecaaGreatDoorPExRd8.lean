import Derived.Test.YtbnchnlogikecaaGreatDoorPShO
namespace Go.Proofs.YtbnchnlogikecaaGreatDoor
open Go.RowKit
attribute [local go_sem] Oper.semAt_some
namespace Ex
theorem box_start {w : World} {b : Nat} {T : ByteArray} {k e f : Int} (h : RAt w b T k e f) (nd : Nat) :
    KeptBut b w ((w.alloc (.cells #[.int .i64 0, .int .i64 0, .int .i64 0, .int .i64 0, .int .i64 0, .slice none 0 0] 70)).drewN nd) ∧ RAt ((w.alloc (.cells #[.int .i64 0, .int .i64 0, .int .i64 0, .int .i64 0, .int .i64 0, .slice none 0 0] 70)).drewN nd) b T k e f ∧
    BoxAt ((w.alloc (.cells #[.int .i64 0, .int .i64 0, .int .i64 0, .int .i64 0, .int .i64 0, .slice none 0 0] 70)).drewN nd) w.heap.size (.int .i64 0) (.int .i64 0) (.int .i64 0) (.int .i64 0) (.int .i64 0) (.slice none 0 0) :=
  ⟨but_drew (((Kept.refl w).alloc _ _).but b) nd, (h.keep ((Kept.refl _).alloc _ _)).drew nd, BoxAt.new w _ _ _ _ _ _⟩
def zeroP : Pat := mkP 0 0 0 0 0 []
def PatOk (T : ByteArray) (N : Nat) (pat : Int × Int × Int → Pat × Int × Int × Int) : Prop := ∀ s, OkS T s → (T.size : Int) < s.1 + (N : Int) → OkS T (pat s).2 ∧ s.1 ≤ (pat s).2.1
end Ex
end Go.Proofs.YtbnchnlogikecaaGreatDoor
