import Derived.Test.YtemfnbccjbojfaaTrH1
namespace Go.Proofs.Ytemfnbccjbojfaa
open Go.RowKit
attribute [local go_sem] Oper.semAt_some
namespace Ex
namespace Tr

theorem flatPt_app (l : List Nat) (b : Nat) : flatPt (l ++ [b]) = flatPt l ++ [.pointer (some ⟨b, 0, none⟩)] := by simp [flatPt]
theorem wpl_P {ops : Array Oper} {rest : List Oper} {o : Oper} {a : Act} {Q : Exit → Act → World → Prop} (hgd : o.guard = none) (s x : Operand) (ho : o.op = .call { callee := .builtin .append, args := #[s, x], argTypes := #[44, 44] }) (w : World)
    (base : Nat) (v : Value) (l : List Nat) (m : Nat) (hm : l.length = m) (hs : a.eval s = v) (hown : POwn w base v l) (lb k : Nat) (hx : a.eval x = .slice (some ⟨lb, 0, none⟩) 1 1) (hbx : w.heap[lb]? = some (.cells #[.pointer (some ⟨k, 0, none⟩)] 48 (0, 0))) (hl : l.length ≤ 8388608) (hbase : base ≤ w.heap.size)
    (h : ∀ g cap w', POwn w' base (.slice (some ⟨g, 0, none⟩) (m + 1) cap) (l ++ [k]) → w.grownBy w' v.ownBlock → (v.ownBlock = some g ∨ g = w.heap.size) → g < w'.heap.size → wpList Try.prog ops Q rest (a.put o.dst (.slice (some ⟨g, 0, none⟩) (m + 1) cap)) w') :
    wpList Try.prog ops Q (o :: rest) a w := by
  obtain ⟨i0, hi, hz0, hz1, hz2⟩ := info_parts nptr_info
  subst hm
  refine wpList_append_lies w hgd s x 44 ho base 48 i0 _ 1 8 Try.underlying44 hi hz0 hz1 hz2 rfl (by decide) v l.length (flatPt l) hs hown ⟨lb, 0, none⟩ 1 1 [.pointer (some ⟨k, 0, none⟩)] hx rfl ?_ ?_ (by decide) (by unfold maxLen; omega) (by omega) hbase w.heap.size rfl ?_
  · intro j y hj
    have hj2 : j < 1 := (List.getElem?_eq_some_iff.1 hj).1
    match j, hj2 with
    | 0, _ => rw [← hj]; simp [World.cell?, Addr.add, hbx]
  · intro u hu
    simp only [List.mem_cons, List.not_mem_nil, or_false] at hu
    subst hu
    rfl
  · intro g cap w' h1 h2 h3 h4
    refine h g cap w' ?_ h2 h3 h4
    unfold POwn
    rw [flatPt_app, List.length_append]
    exact h1
end Tr
end Ex
end Go.Proofs.Ytemfnbccjbojfaa
