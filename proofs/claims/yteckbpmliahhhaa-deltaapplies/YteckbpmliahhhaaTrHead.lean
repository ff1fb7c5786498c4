import Derived.Test.YteckbpmliahhhaaTrRows
namespace Go.Proofs.Yteckbpmliahhhaa
open Go.RowKit
attribute [local go_sem] Oper.semAt_some
namespace Ex
namespace Tr

theorem ptrs2 {w : World} {g b c : Nat} {t : TypeId} (h : w.heap[g]? = some (.cells #[.pointer (some ⟨b, 0, none⟩), .pointer (some ⟨c, 0, none⟩)] t (0, 0))) : PtrsAt w (.slice (some ⟨g, 0, none⟩) 2 2) [b, c] := by
  refine ⟨g, 0, 2, rfl, by simp, fun i d hd => ?_⟩
  have hi : i < 2 := (List.getElem?_eq_some_iff.1 hd).1
  match i, hi with
  | 0, _ => simp only [List.getElem?_cons_zero, Option.some.injEq] at hd; subst hd; simp [World.cell?, h]
  | 1, _ => simp only [List.getElem?_cons_succ, List.getElem?_cons_zero, Option.some.injEq] at hd; subst hd; simp [World.cell?, h]
theorem ptrs1 {w : World} {g b : Nat} {t : TypeId} (h : w.heap[g]? = some (.cells #[.pointer (some ⟨b, 0, none⟩)] t (0, 0))) : PtrsAt w (.slice (some ⟨g, 0, none⟩) 1 1) [b] := by
  refine ⟨g, 0, 1, rfl, by simp, fun i d hd => ?_⟩
  have hi : i < 1 := (List.getElem?_eq_some_iff.1 hd).1
  match i, hi with
  | 0, _ => simp only [List.getElem?_cons_zero, Option.some.injEq] at hd; subst hd; simp [World.cell?, h]
theorem leafN_ok (s m : Nat) (l0 l1 l2 l3 : Int) : NdOk (leafN s m l0 l1 l2 l3) := by
  have h1 := count_le l1
  have h2 := count_le l2
  unfold NdOk leafN
  dsimp only
  omega
/-- What changes only a block that is new is kept. -/
theorem KeptBut.new {s : Nat} {w w1 w2 : World} (h : Kept w w1) (hk : KeptBut s w1 w2) (hs : w.heap.size ≤ s) : Kept w w2 :=
  ⟨hk.1.trans h.1, hk.2.1.trans h.2.1, hk.2.2.1.trans h.2.2.1, Nat.le_trans h.2.2.2.1 hk.2.2.2.1, fun k hk' => (hk.2.2.2.2 k (Nat.lt_of_lt_of_le hk' h.2.2.2.1) (by omega)).trans (h.2.2.2.2 k hk')⟩
def headA (s : Nat) : Nd := leafN s 0 4 1 2 5
def headX (s a : Nat) : Nd := makeN (fun _ => headA s) s 1 2 3 [a, a]
theorem headX_is (s a : Nat) : headX s a = { st := s, num := 2, kind := 2, n := 3, l0 := 0, l1 := 0, l2 := 0, l3 := 0, kids := [(a, 0), (a, 3)], width := 6, leafs := 2, size := 3, failed := false } := rfl
theorem head_forest {N : Nat → Nd} {s a x : Nat} {w : World} (hx : N x = headX s a) (ha : N a = headA s) (hA : NodeAt w.heap.size w a (headA s)) (hX : NodeAt w.heap.size w x (headX s a)) : Forest (fun d => d = a ∨ d = x) N w.heap.size w := by
  rintro b (rfl | rfl)
  · rw [ha]
    exact ⟨hA, leafN_ok _ _ _ _ _ _, fun _ => rfl, (fun q hq => absurd hq (by simp [headA, leafN])), rfl⟩
  · rw [hx]
    refine ⟨hX, ?_, fun h => absurd h (by simp [headX, makeN]), fun q hq => ?_, ?_⟩
    · rw [headX_is]; unfold NdOk; dsimp only; omega
    · rw [headX_is] at hq
      simp only [List.mem_cons, List.not_mem_nil, or_false] at hq
      rcases hq with rfl | rfl <;> exact Or.inl rfl
    · have e : (headX s a).kids.map Prod.fst = [a, a] := rfl
      rw [e, sizeS_cons, sizeS_cons, ha]
      rfl
theorem head_wl {N : Nat → Nd} {s a x : Nat} (hx : N x = headX s a) (ha : N a = headA s) : (wl N 3 [x] 0).map (fun q => N q.2) = [headX s a, headA s, headA s] := by
  have e : (headX s a).kids.map Prod.fst ++ ([] : List Nat) = [a, a] := rfl
  have e2 : (headA s).kids.map Prod.fst ++ [a] = [a] := rfl
  have e3 : ∀ k l, wl N (k + 1) [a] l = (l, a) :: wl N k ((N a).kids.map Prod.fst ++ []) (l + lwid (N a)) := fun _ _ => rfl
  rw [wl, hx, e, wl, ha, e2, e3]
  simp [wl, hx, ha]
theorem func_nil (f : Nat) (bs : Array Value) (w : World) : (binOp .eql 94 (.func (.func f) #[] bs) .nilFunc).run Try.prog w = .ok (.bool false) w := by
  have h : ∀ d : Nat, (Op.equalIn (d + 1) 94 (.func (.func f) #[] bs) .nilFunc).run Try.prog w = .ok false w := fun d => by
    simp [Op.equalIn, run_underlying Try.underlying94]
  simp only [binOp]
  simp [Op.equal, Op.maxDepth, h 9999]
end Tr
end Ex
end Go.Proofs.Yteckbpmliahhhaa
