import Derived.Test.YtnjmbijebckncaaMTrK1
import Derived.Test.YtnjmbijebckncaaTrRow
namespace Go.Proofs.Ytnjmbijebckncaa
open Go.RowKit
attribute [local go_sem] Oper.semAt_some
namespace Ex
namespace Tr

theorem but4 (g : Nat) (w : World) (x0 x1 x2 x3 : Value) : KeptBut g w ((((w.setCell ⟨g, 0, none⟩ x0).setCell ⟨g, 1, none⟩ x1).setCell ⟨g, 2, none⟩ x2).setCell ⟨g, 3, none⟩ x3) :=
  (((setCell_but _ _ _ _).trans (setCell_but _ _ _ _)).trans (setCell_but _ _ _ _)).trans (setCell_but _ _ _ _)
theorem set4 {w : World} {g : Nat} {y0 y1 y2 y3 : Value} {t : TypeId} (h : w.heap[g]? = some (.cells #[y0, y1, y2, y3] t (0, 0))) (x0 x1 x2 x3 : Value) : ((((w.setCell ⟨g, 0, none⟩ x0).setCell ⟨g, 1, none⟩ x1).setCell ⟨g, 2, none⟩ x2).setCell ⟨g, 3, none⟩ x3).heap[g]? = some (.cells #[x0, x1, x2, x3] t (0, 0)) := by
  have hl := (Array.getElem?_eq_some_iff.1 h).1
  have he := Option.some.inj ((Array.getElem?_eq_getElem hl).symm.trans h)
  simp [World.setCell, Array.getElem_modify, hl, he]
section
variable {B b : Nat} {w : World} {x : Nd}
set_option linter.unusedSimpArgs false
set_option maxRecDepth 100000
theorem kindK_is (h : NodeAt B w b x) : Calls Try.prog 58 #[.pointer (some ⟨b, 0, none⟩)] w fun e w' => e = .returned (.int .i64 x.kind) ∧ w' = w := by
  obtain ⟨kv, _, _, _, c1, c2, _, _, _, _, _, _, c9, _⟩ := h.cells
  clear h
  go_enter Try.func58, Try.ntmps58
  go_wp2_with fail
  go_ret
  exact ⟨rfl, rfl⟩
theorem nK_is (h : NodeAt B w b x) : Calls Try.prog 59 #[.pointer (some ⟨b, 0, none⟩)] w fun e w' => e = .returned (.int .i64 x.n) ∧ w' = w := by
  obtain ⟨kv, _, _, _, c1, c2, c3, _⟩ := h.cells
  clear h
  go_enter Try.func59, Try.ntmps59
  go_wp2_with fail
  go_ret
  exact ⟨rfl, rfl⟩
theorem kidK_in (h : NodeAt B w b x) {k : Nat} {q : Nat × Nat} (hk : x.kids[k]? = some q) : Calls Try.prog 57 #[.pointer (some ⟨b, 0, none⟩), .int .i64 (k : Int)] w fun e w' => e = .returned (.tuple #[.pointer (some ⟨q.1, 0, none⟩), .bool true]) ∧ w' = w := by
  obtain ⟨kv, ⟨a, cap, rfl, hl1, hl2, hc⟩, _, _, _, _, _, _, _, _, _, c8, _⟩ := h.cells
  clear h
  rcases hc with hc | ⟨g, rfl, _, hc⟩
  · rw [hc] at hk
    simp at hk
  · obtain ⟨t0, t1⟩ := hc k q hk
    have hlt := (List.getElem?_eq_some_iff.1 hk).1
    have hkI : (k : Int) < (x.kids.length : Int) := by omega
    clear hc hk
    go_enter Try.func57, Try.ntmps57
    go_wp2_with fail
    go_ret2
    exact ⟨rfl, rfl⟩
theorem kidK_out (h : NodeAt B w b x) (k : Int) (hk : k < 0 ∨ (x.kids.length : Int) ≤ k) : Calls Try.prog 57 #[.pointer (some ⟨b, 0, none⟩), .int .i64 k] w fun e w' => e = .returned (.tuple #[.pointer none, .bool false]) ∧ w' = w := by
  obtain ⟨kv, ⟨a, cap, rfl, hl1, hl2, hc⟩, _, _, _, _, _, _, _, _, _, c8, _⟩ := h.cells
  clear h hc
  go_enter Try.func57, Try.ntmps57
  by_cases h0 : k < 0
  · go_wp2_with fail
    go_ret2
    exact ⟨rfl, rfl⟩
  · have h1 : (x.kids.length : Int) ≤ k := by omega
    clear hk
    go_wp2_with fail
    go_ret2
    exact ⟨rfl, rfl⟩
end
end Tr
end Ex
end Go.Proofs.Ytnjmbijebckncaa
