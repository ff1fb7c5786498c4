import Derived.Test.YteckbpmliahhhaaTrWalk
namespace Go.Proofs.Yteckbpmliahhhaa
open Go.RowKit
attribute [local go_sem] Oper.semAt_some
namespace Ex
namespace Tr

theorem walk_is (b : Nat) (w : World) : Calls Try.prog 35 #[.pointer (some ⟨b, 0, none⟩)] w fun e w' => e = .returned (.func (.func 43) #[] #[.pointer (some ⟨w.heap.size, 0, none⟩)]) ∧ w' = w.alloc (.cells #[.pointer (some ⟨b, 0, none⟩)] 43) := by
  go_enter Try.func35, Try.ntmps35
  go_wp2_with fail
  go_ret
  exact ⟨rfl, rfl⟩
theorem leaves_is (b : Nat) (w : World) : Calls Try.prog 47 #[.pointer (some ⟨b, 0, none⟩)] w fun e w' => e = .returned (.func (.func 53) #[] #[.pointer (some ⟨w.heap.size, 0, none⟩)]) ∧ w' = w.alloc (.cells #[.pointer (some ⟨b, 0, none⟩)] 43) := by
  go_enter Try.func47, Try.ntmps47
  go_wp2_with fail
  go_ret
  exact ⟨rfl, rfl⟩

theorem KeptBut.drew {b : Nat} {u w : World} (h : KeptBut b u w) : KeptBut b u w.drew := h.trans ((drew_kept _).tbut b)
theorem drew_heap (w : World) (g : Nat) : w.drew.heap[g]? = w.heap[g]? := rfl
theorem but6 (g : Nat) (w : World) (x0 x1 x2 x3 x4 x5 : Value) : KeptBut g w ((((((w.setCell ⟨g, 0, none⟩ x0).setCell ⟨g, 1, none⟩ x1).setCell ⟨g, 2, none⟩ x2).setCell ⟨g, 3, none⟩ x3).setCell ⟨g, 4, none⟩ x4).setCell ⟨g, 5, none⟩ x5) :=
  (((((setCell_but _ _ _ _).trans (setCell_but _ _ _ _)).trans (setCell_but _ _ _ _)).trans (setCell_but _ _ _ _)).trans (setCell_but _ _ _ _)).trans (setCell_but _ _ _ _)
theorem set6 {w : World} {g : Nat} {y0 y1 y2 y3 y4 y5 : Value} {t : TypeId} (h : w.heap[g]? = some (.cells #[y0, y1, y2, y3, y4, y5] t (0, 0))) (x0 x1 x2 x3 x4 x5 : Value) : ((((((w.setCell ⟨g, 0, none⟩ x0).setCell ⟨g, 1, none⟩ x1).setCell ⟨g, 2, none⟩ x2).setCell ⟨g, 3, none⟩ x3).setCell ⟨g, 4, none⟩ x4).setCell ⟨g, 5, none⟩ x5).heap[g]? = some (.cells #[x0, x1, x2, x3, x4, x5] t (0, 0)) := by
  have hl := (Array.getElem?_eq_some_iff.1 h).1
  have he := Option.some.inj ((Array.getElem?_eq_getElem hl).symm.trans h)
  simp [World.setCell, Array.getElem_modify, hl, he]
/-- A node's row. -/
def rowL (x : Nd) : List Value := [.int .i64 x.kind, .int .i64 x.n, .int .i64 x.l1, .int .i64 x.l2, .int .i64 (x.kids.length : Int), .int .i64 (x.num : Int)]
end Tr
end Ex
end Go.Proofs.Yteckbpmliahhhaa
