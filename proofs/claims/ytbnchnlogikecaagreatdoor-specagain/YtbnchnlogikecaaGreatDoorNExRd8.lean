import Derived.Test.YtbnchnlogikecaaGreatDoorNShO
import Derived.Test.YtbnchnlogikecaaGreatDoorNExCl2
namespace Go.Proofs.YtbnchnlogikecaaGreatDoor
open Go.RowKit
attribute [local go_sem] Oper.semAt_some
namespace Ex
theorem box_start {w : World} {b : Nat} {T : ByteArray} {k e f : Int} (h : RAt w b T k e f) (nd : Nat) :
    KeptBut b w ((w.alloc (.cells #[.int .i64 0, .int .i64 0, .int .i64 0, .int .i64 0, .int .i64 0, .slice none 0 0] 70)).drewN nd) ∧ RAt ((w.alloc (.cells #[.int .i64 0, .int .i64 0, .int .i64 0, .int .i64 0, .int .i64 0, .slice none 0 0] 70)).drewN nd) b T k e f ∧
    BoxAt ((w.alloc (.cells #[.int .i64 0, .int .i64 0, .int .i64 0, .int .i64 0, .int .i64 0, .slice none 0 0] 70)).drewN nd) w.heap.size (.int .i64 0) (.int .i64 0) (.int .i64 0) (.int .i64 0) (.int .i64 0) (.slice none 0 0) :=
  ⟨but_drew (((Kept.refl w).alloc _ _).but b) nd, (h.keep ((Kept.refl _).alloc _ _)).drew nd, BoxAt.new w _ _ _ _ _ _⟩
def zeroP : Pat := mkP 0 0 0 0 0 []
def PatOk (T : ByteArray) (N : Nat) (pat : Int × Int × Int → Pat × Int × Int × Int) : Prop := ∀ s, OkS T s → (T.size : Int) < s.1 + (N : Int) → OkS T (pat s).2 ∧ s.1 ≤ (pat s).2.1
def atomA (pat : Int × Int × Int → Pat × Int × Int × Int) (T : ByteArray) (s : Int × Int × Int) : Pat × Int × Int × Int :=
  if peekP T s.1 = 92 then (rangeP (escapeS T s).1 (escapeS T s).1, (escapeS T s).2)
  else if peekP T s.1 = 91 then classA T s
  else if peekP T s.1 = 46 then (rangeP 0 255, s.1 + 1, s.2)
  else if peekP T s.1 = 40 then ((pat (s.1 + 1, s.2)).1, if peekP T (pat (s.1 + 1, s.2)).2.1 = 41 then ((pat (s.1 + 1, s.2)).2.1 + 1, (pat (s.1 + 1, s.2)).2.2) else wrongS T (pat (s.1 + 1, s.2)).2)
  else if plainP (peekP T s.1) then (rangeP (peekP T s.1) (peekP T s.1), s.1 + 1, s.2)
  else (zeroP, wrongS T s)
end Ex
end Go.Proofs.YtbnchnlogikecaaGreatDoor
