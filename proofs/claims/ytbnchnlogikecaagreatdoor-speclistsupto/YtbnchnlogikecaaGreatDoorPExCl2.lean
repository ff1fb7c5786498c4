import Derived.Test.YtbnchnlogikecaaGreatDoorPExRh3
namespace Go.Proofs.YtbnchnlogikecaaGreatDoor
open Go.RowKit
attribute [local go_sem] Oper.semAt_some
namespace Ex
def ClassR (b : Nat) (w : World) (T : ByteArray) (k : Int) (l0 : List (Int × Int)) (k1 : Int) (s0 : Int × Int × Int) (v : Value) (wr : World) : Prop :=
  ∃ (j : Nat) (l : List (Int × Int)) (k2 e2 f2 : Int), 0 ≤ k2 ∧ k2 ≤ (T.size : Int) ∧ l.length = j + 1 ∧ classB k1 j k2 e2 ∧ KeptBut b w wr ∧ RAt wr b T k2 e2 f2 ∧
    BoxAt wr w.heap.size (.int .i64 0) (.int .i64 0) (.int .i64 0) (.int .i64 0) (.int .i64 0) (.slice none 0 0) ∧ PatsOwn wr (w.heap.size + 1) (fun d => w.heap.size < d) v (rangesP l) ∧ Bytes l ∧ ∀ N, clG T k (j + N) l0 s0 = clG T k N l (k2, e2, f2)
theorem rangesP_len (l : List (Int × Int)) : (rangesP l).length = l.length := by simp [rangesP]
theorem clE_one (T : ByteArray) (y : Int) {l : List (Int × Int)} {q : Int × Int} (s : Int × Int × Int) (h : l = [q]) : clE T y l s = (oneOf 3 [rangeP q.1 q.2], s) := by subst h; rfl
theorem clE_more (T : ByteArray) (y : Int) {l : List (Int × Int)} (s : Int × Int × Int) (h : l.length ≠ 0) : clE T y l s = (oneOf 3 (rangesP l), s) := by unfold clE; rw [if_neg h]
theorem clE_none (T : ByteArray) (y : Int) {l : List (Int × Int)} (s : Int × Int × Int) (h : l.length = 0) : clE T y l s = (mkP 0 0 0 0 0 [], failS T s 22 y) := by unfold clE; rw [if_pos h]
end Ex
end Go.Proofs.YtbnchnlogikecaaGreatDoor
