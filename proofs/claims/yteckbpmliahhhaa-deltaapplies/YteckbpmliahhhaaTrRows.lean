import Derived.Test.YteckbpmliahhhaaTrRow
import Derived.OwnWalkIn
import Derived.Shelf.Abstract
namespace Go.Proofs.Yteckbpmliahhhaa
open Go.RowKit
attribute [local go_sem] Oper.semAt_some
namespace Ex
namespace Tr

def flatR (l : List Nd) : List Value := l.flatMap rowL
theorem flatR_len (l : List Nd) : (flatR l).length = l.length * 6 := by
  induction l with
  | nil => rfl
  | cons q l ih => unfold flatR at ih ⊢; simp only [List.flatMap_cons, List.length_append, ih, List.length_cons]; unfold rowL; simp only [List.length_cons, List.length_nil]; omega
theorem flatR_app (l : List Nd) (q : Nd) : flatR (l ++ [q]) = flatR l ++ rowL q := by unfold flatR; simp
theorem wl_mem {R : Nat → Prop} {N : Nat → Nd} (hR : ∀ b, R b → ∀ q ∈ (N b).kids, R q.1) : ∀ (f : Nat) (ps : List Nat) (a : Nat), (∀ p ∈ ps, R p) → ∀ q ∈ wl N f ps a, R q.2
  | 0, _, _, _, _, h => by cases h
  | _ + 1, [], _, _, _, h => by cases h
  | f + 1, b :: bs, a, hp, q, h => by
    rw [wl] at h
    rcases List.mem_cons.1 h with rfl | h
    · exact hp b List.mem_cons_self
    · refine wl_mem hR f _ _ (fun p hp' => ?_) q h
      rcases List.mem_append.1 hp' with h1 | h1
      · obtain ⟨k, hk, rfl⟩ := List.mem_map.1 h1
        exact hR b (hp b List.mem_cons_self) k hk
      · exact hp p (List.mem_cons_of_mem _ h1)
theorem wl_len (N : Nat → Nd) : ∀ (f : Nat) (ps : List Nat) (a : Nat), (wl N f ps a).length ≤ f
  | 0, _, _ => Nat.le_refl _
  | _ + 1, [], _ => Nat.zero_le _
  | f + 1, b :: bs, a => by rw [wl, List.length_cons]; exact Nat.succ_le_succ (wl_len N f _ _)
theorem _root_.Go.Proofs.Yteckbpmliahhhaa.Ex.Kept.put {w w' : World} {D : Nat} (h : Kept w w') (hD : w.heap.size ≤ D) (o : Obj) : Kept w (w'.putObj D o) := ⟨h.1, h.2.1, h.2.2.1, Nat.le_trans h.2.2.2.1 (by simp), fun k hk => (World.putObj_heap_other (by omega)).trans (h.2.2.2.2 k hk)⟩
end Tr
end Ex
end Go.Proofs.Yteckbpmliahhhaa
