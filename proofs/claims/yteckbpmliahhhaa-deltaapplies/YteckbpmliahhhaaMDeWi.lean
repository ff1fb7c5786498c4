import Derived.Test.YteckbpmliahhhaaMDeLe
namespace Go.Proofs.Yteckbpmliahhhaa
open Go.RowKit
attribute [local go_sem] Oper.semAt_some
namespace Ex
namespace Tr

/-- A number from 0 to n - 1. -/
def wiN (x : Int) (n : Nat) : Nat := (x % (n : Int)).toNat
theorem wiN_lt (x : Int) {n : Nat} (hn : 0 < n) : wiN x n < n := by
  unfold wiN
  have h1 := Int.emod_nonneg x (by omega : (n : Int) ≠ 0)
  have h2 := Int.emod_lt_of_pos x (by omega : (0 : Int) < (n : Int))
  omega
theorem wi_tmod (x : Int) {n : Nat} (hn : 0 < n) : (if x.tmod (n : Int) < 0 then x.tmod (n : Int) + (n : Int) else x.tmod (n : Int)) = (wiN x n : Int) := by
  unfold wiN
  have h1 := Int.emod_nonneg x (by omega : (n : Int) ≠ 0)
  have h2 := Int.emod_lt_of_pos x (by omega : (0 : Int) < (n : Int))
  rw [Int.toNat_of_nonneg h1]
  have h3 := Int.tmod_eq_emod (a := x) (b := (n : Int))
  rw [h3]
  split <;> split <;> omega
set_option linter.unusedSimpArgs false in
set_option maxRecDepth 100000 in
set_option maxHeartbeats 4000000 in
theorem withinD_is (x : Int) (n : Nat) (w : World) (hn : 0 < n) (hn2 : n ≤ 4611686018427387904) :
    Calls Try.prog 5 #[.int .i64 x, .int .i64 (n : Int)] w fun e w' => e = .returned (.int .i64 (wiN x n : Int)) ∧ w' = w := by
  have hw := wi_tmod x hn
  have h1 : -(n : Int) < x.tmod (n : Int) := by have := Int.lt_tmod_of_pos x (by omega : (0 : Int) < (n : Int)); omega
  have h2 : x.tmod (n : Int) < (n : Int) := Int.tmod_lt_of_pos x (by omega)
  obtain ⟨t, ht⟩ : ∃ t, x.tmod (n : Int) = t := ⟨_, rfl⟩
  rw [ht] at hw h1 h2
  have hnI : (n : Int) ≤ 4611686018427387904 := by omega
  have hn0 : (n : Int) ≠ 0 := by omega
  have hn1 : (0 : Int) < (n : Int) := by omega
  have HW := hide1 hw
  clear hw
  by_cases hneg : t < 0
  · go_enter Try.func5, Try.ntmps5
    go_wp2_with fail
    go_ret
    have h := HW.out
    rw [if_pos hneg] at h
    rw [h]
    exact ⟨rfl, rfl⟩
  · go_enter Try.func5, Try.ntmps5
    go_wp2_with fail
    go_ret
    have h := HW.out
    rw [if_neg (by omega)] at h
    rw [h]
    exact ⟨rfl, rfl⟩

end Tr
end Ex
end Go.Proofs.Yteckbpmliahhhaa
namespace Go.Proofs.Yteckbpmliahhhaa
open Go.RowKit
attribute [local go_sem] Oper.semAt_some
namespace Ex
namespace Tr

/-- A node of the document: its numbers, its leaf, its children's blocks. -/
structure Pn where
  id : Int
  kind : Int
  n : Int
  size : Int
  l0 : Int
  l1 : Int
  l2 : Int
  l3 : Int
  kids : List Nat
/-- Where such a node lies. -/
def PnAt (w : World) (b : Nat) (p : Pn) : Prop := ∃ a c, w.heap[b]? = some (.cells #[.int .i64 p.id, .int .i64 p.kind, .int .i64 p.n, .int .i64 p.size, .int .i64 p.l0, .int .i64 p.l1, .int .i64 p.l2, .int .i64 p.l3, .slice a p.kids.length c] 36 (0, 0)) ∧ p.kids.length ≤ c ∧ ∀ (i k : Nat), p.kids[i]? = some k → ∃ g o, a = some ⟨g, o, none⟩ ∧ w.cell? ⟨g, o + i, none⟩ = some (.pointer (some ⟨k, 0, none⟩))
set_option linter.unusedSimpArgs false in
set_option maxRecDepth 100000 in
set_option maxHeartbeats 4000000 in
theorem oneP_is (l0 l1 l2 l3 : Int) (w : World) :
    Calls Try.prog 13 #[.agg #[.int .i64 l0, .int .i64 l1, .int .i64 l2, .int .i64 l3]] w fun e w' => ∃ b, e = .returned (.pointer (some ⟨b, 0, none⟩)) ∧ w.heap.size ≤ b ∧ PnAt w' b ⟨0, 1, l0, 1, l0, l1, l2, l3, []⟩ ∧ Kept w w' := by
  go_enter Try.func13, Try.ntmps13
  go_wp2_with fail
  go_ret
  refine ⟨w.heap.size + 1, rfl, by omega, ⟨none, 0, ?_, Nat.le_refl _, fun i k h => by simp at h⟩, gtrans ((Kept.refl w).alloc _ _) ((Kept.refl _).alloc _ _)⟩
  have h := World.alloc_heap_new (w.alloc (.cells #[.int .i64 l0, .int .i64 l1, .int .i64 l2, .int .i64 l3] 34)) (.cells #[.int .i64 0, .int .i64 1, .int .i64 l0, .int .i64 1, .int .i64 l0, .int .i64 l1, .int .i64 l2, .int .i64 l3, .slice none 0 0] 36)
  rw [World.size_alloc] at h
  exact h
/-- A list of the document's nodes that can be read: their blocks and their numbers. -/
def PlRd (w : World) (v : Value) (ks : List Nat) (idF : Nat → Int) : Prop := ∃ a c, v = .slice a ks.length c ∧ ks.length ≤ c ∧ ∀ (i k : Nat), ks[i]? = some k → ∃ g o, a = some ⟨g, o, none⟩ ∧ w.cell? ⟨g, o + i, none⟩ = some (.pointer (some ⟨k, 0, none⟩)) ∧ w.cell? ⟨k, 0, none⟩ = some (.int .i64 (idF k))
/-- The document's once: where a number stands, if it stands there just once. -/
def onceG (id : Int) : List Int → Nat → Int → Int
  | [], _, a => a
  | x :: l, i, a => if x = id then (if 0 ≤ a then -1 else onceG id l (i + 1) (i : Int)) else onceG id l (i + 1) a
end Tr
end Ex
end Go.Proofs.Yteckbpmliahhhaa
