import Derived.Test.YtpbnjdnlgcfiiaaTrHead
namespace Go.Proofs.Ytpbnjdnlgcfiiaa
open Go.RowKit
attribute [local go_sem] Oper.semAt_some
namespace Ex
namespace Tr

theorem results_bool {fn : Func} {p : Tmp} (h : fn.results = #[.cell p 4]) (tmps : Array Value) (w : World) (g : Nat) (v : Value) (hp : tmps.getD p undef = .pointer (some ⟨g, 0, none⟩)) (hc : w.cell? ⟨g, 0, none⟩ = some v) : (results fn tmps).run Try.prog w = .ok v w := by
  have hp' : tmps[p]?.getD undef = .pointer (some ⟨g, 0, none⟩) := by simpa using hp
  have hl : (loadVar 4 ⟨g, 0, none⟩).run Try.prog w = .ok v w := by
    simp [loadVar, isAgg, run_underlying Try.underlying4, go_sem, hc]
  simp [results, h, hp', asAddr, hl]
/-- The end of a law that stores its answer into a cell. -/
theorem rc_end {w u : World} {rc : Nat} (hk : Kept w u) (hr : w.heap.size ≤ rc) (hc : u.heap[rc]? = some (.cells #[.bool false] 4 (0, 0))) : Kept w (u.setCell ⟨rc, 0, none⟩ (.bool true)) ∧ (u.setCell ⟨rc, 0, none⟩ (.bool true)).heap[rc]? = some (.cells #[.bool true] 4 (0, 0)) := by
  refine ⟨KeptBut.new hk (setCell_but _ _ _ _) hr, ?_⟩
  have hl := (Array.getElem?_eq_some_iff.1 hc).1
  have he := Option.some.inj ((Array.getElem?_eq_getElem hl).symm.trans hc)
  simp [World.setCell, Array.getElem_modify, hl, he]


end Tr
end Ex
end Go.Proofs.Ytpbnjdnlgcfiiaa
