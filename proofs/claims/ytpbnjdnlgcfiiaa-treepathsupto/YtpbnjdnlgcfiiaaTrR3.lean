import Derived.Test.YtpbnjdnlgcfiiaaTrR2
namespace Go.Proofs.Ytpbnjdnlgcfiiaa
open Go.RowKit
attribute [local go_sem] Oper.semAt_some
namespace Ex
namespace Tr

theorem wpl_row {ops : Array Oper} {rest : List Oper} {o : Oper} {a : Act} {Q : Exit → Act → World → Prop} (hgd : o.guard = none) (s x : Operand) (ho : o.op = .call { callee := .builtin .append, args := #[s, x], argTypes := #[76, 76] }) (w : World)
    (base : Nat) (v : Value) (l : List Nd) (m : Nat) (hm : l.length = m) (hs : a.eval s = v) (hown : ROwn w base v l) (lb : Nat) (y : Nd) (hx : a.eval x = .slice (some ⟨lb, 0, none⟩) 1 1) (hbx : w.heap[lb]? = some (.cells (rowL y).toArray 115 (0, 0))) (hl : l.length ≤ 4194304) (hbase : base ≤ w.heap.size)
    (h : ∀ g cap w', ROwn w' base (.slice (some ⟨g, 0, none⟩) (m + 1) cap) (l ++ [y]) → w.grownBy w' v.ownBlock → (v.ownBlock = some g ∨ g = w.heap.size) → g < w'.heap.size → wpList Try.prog ops Q rest (a.put o.dst (.slice (some ⟨g, 0, none⟩) (m + 1) cap)) w') :
    wpList Try.prog ops Q (o :: rest) a w := by
  obtain ⟨i0, hi, hz0, hz1, hz2⟩ := info_parts rowt_info
  subst hm
  refine wpList_append_lies w hgd s x 76 ho base 115 i0 _ 6 48 Try.underlying76 hi hz0 hz1 hz2 rfl (by decide) v l.length (flatR l) hs hown ⟨lb, 0, none⟩ 1 1 (rowL y) hx rfl ?_ ?_ (by decide) (by unfold maxLen; omega) (by omega) hbase w.heap.size rfl ?_
  · intro j u hj
    have hj2 : j < 6 := (List.getElem?_eq_some_iff.1 hj).1
    match j, hj2 with
    | 0, _ => rw [← hj]; simp [World.cell?, Addr.add, hbx]
    | 1, _ => rw [← hj]; simp [World.cell?, Addr.add, hbx]
    | 2, _ => rw [← hj]; simp [World.cell?, Addr.add, hbx]
    | 3, _ => rw [← hj]; simp [World.cell?, Addr.add, hbx]
    | 4, _ => rw [← hj]; simp [World.cell?, Addr.add, hbx]
    | 5, _ => rw [← hj]; simp [World.cell?, Addr.add, hbx]
  · intro u hu
    simp only [rowL, List.mem_cons, List.not_mem_nil, or_false] at hu
    rcases hu with rfl | rfl | rfl | rfl | rfl | rfl <;> rfl
  · intro g cap w' h1 h2 h3 h4
    refine h g cap w' ?_ h2 h3 h4
    unfold ROwn
    rw [flatR_app, List.length_append]
    exact h1
theorem ROwn.form {w : World} {base : Nat} {v : Value} {l : List Nd} (h : ROwn w base v l) : ∃ a c, v = .slice a l.length c := by
  rcases h.2 with ⟨rfl, h0⟩ | ⟨g, cap, cur, rfl, _⟩
  · exact ⟨none, 0, by rw [h0]⟩
  · exact ⟨_, _, rfl⟩
/-- A row without its number. -/
def noId (x : Nd) : Nd := { x with num := 0 }

end Tr
end Ex
end Go.Proofs.Ytpbnjdnlgcfiiaa
