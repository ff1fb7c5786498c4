import Derived.Test.YtkkilkojmdeopaaMDeLe
namespace Go.Proofs.Ytkkilkojmdeopaa
open Go.RowKit
attribute [local go_sem] Oper.semAt_some
namespace Ex
namespace Tr

/-- A number from 0 to n - 1. -/
def wiN (x : Int) (n : Nat) : Nat := (x % (n : Int)).toNat
theorem wiN_lt (x : Int) {n : Nat} (hn : 0 < n) : wiN x n < n := by
  unfold wiN
  have h1 := Int.emod_nonneg x (by omega : (n : Int) ≠ 0)
  have h2 := Int.emod_lt_of_pos x (by omega : (0 : Int) < (n : Int))
  omega
theorem wi_tmod (x : Int) {n : Nat} (hn : 0 < n) : (if x.tmod (n : Int) < 0 then x.tmod (n : Int) + (n : Int) else x.tmod (n : Int)) = (wiN x n : Int) := by
  unfold wiN
  have h1 := Int.emod_nonneg x (by omega : (n : Int) ≠ 0)
  have h2 := Int.emod_lt_of_pos x (by omega : (0 : Int) < (n : Int))
  rw [Int.toNat_of_nonneg h1]
  have h3 := Int.tmod_eq_emod (a := x) (b := (n : Int))
  rw [h3]
  split <;> split <;> omega
set_option linter.unusedSimpArgs false in
set_option maxRecDepth 100000 in
set_option maxHeartbeats 4000000 in
theorem withinD_is (x : Int) (n : Nat) (w : World) (hn : 0 < n) (hn2 : n ≤ 4611686018427387904) :
    Calls Try.prog 7 #[.int .i64 x, .int .i64 (n : Int)] w fun e w' => e = .returned (.int .i64 (wiN x n : Int)) ∧ w' = w := by
  have hw := wi_tmod x hn
  have h1 : -(n : Int) < x.tmod (n : Int) := by have := Int.lt_tmod_of_pos x (by omega : (0 : Int) < (n : Int)); omega
  have h2 : x.tmod (n : Int) < (n : Int) := Int.tmod_lt_of_pos x (by omega)
  obtain ⟨t, ht⟩ : ∃ t, x.tmod (n : Int) = t := ⟨_, rfl⟩
  rw [ht] at hw h1 h2
  have hnI : (n : Int) ≤ 4611686018427387904 := by omega
  have hn0 : (n : Int) ≠ 0 := by omega
  have hn1 : (0 : Int) < (n : Int) := by omega
  have HW := hide1 hw
  clear hw
  by_cases hneg : t < 0
  · go_enter Try.func7, Try.ntmps7
    go_wp2_with fail
    go_ret
    have h := HW.out
    rw [if_pos hneg] at h
    rw [h]
    exact ⟨rfl, rfl⟩
  · go_enter Try.func7, Try.ntmps7
    go_wp2_with fail
    go_ret
    have h := HW.out
    rw [if_neg (by omega)] at h
    rw [h]
    exact ⟨rfl, rfl⟩

end Tr
end Ex
end Go.Proofs.Ytkkilkojmdeopaa
namespace Go.Proofs.Ytkkilkojmdeopaa
open Go.RowKit
attribute [local go_sem] Oper.semAt_some
namespace Ex
namespace Tr

/-- A node of the document: its numbers, its leaf, its children's blocks. -/
structure Pn where
  id : Int
  kind : Int
  n : Int
  size : Int
  l0 : Int
  l1 : Int
  l2 : Int
  l3 : Int
  kids : List Nat
/-- Where such a node lies. -/
def PnAt (w : World) (b : Nat) (p : Pn) : Prop := ∃ a c, w.heap[b]? = some (.cells #[.int .i64 p.id, .int .i64 p.kind, .int .i64 p.n, .int .i64 p.size, .int .i64 p.l0, .int .i64 p.l1, .int .i64 p.l2, .int .i64 p.l3, .slice a p.kids.length c] 53 (0, 0)) ∧ p.kids.length ≤ c ∧ ∀ (i k : Nat), p.kids[i]? = some k → ∃ g o, a = some ⟨g, o, none⟩ ∧ w.cell? ⟨g, o + i, none⟩ = some (.pointer (some ⟨k, 0, none⟩))
set_option linter.unusedSimpArgs false in
set_option maxRecDepth 100000 in
set_option maxHeartbeats 4000000 in
theorem oneP_is (l0 l1 l2 l3 : Int) (w : World) :
    Calls Try.prog 27 #[.agg #[.int .i64 l0, .int .i64 l1, .int .i64 l2, .int .i64 l3]] w fun e w' => ∃ b, e = .returned (.pointer (some ⟨b, 0, none⟩)) ∧ w.heap.size ≤ b ∧ PnAt w' b ⟨0, 1, l0, 1, l0, l1, l2, l3, []⟩ ∧ Kept w w' := by
  go_enter Try.func27, Try.ntmps27
  go_wp2_with fail
  go_ret
  refine ⟨w.heap.size + 1, rfl, by omega, ⟨none, 0, ?_, Nat.le_refl _, fun i k h => by simp at h⟩, gtrans ((Kept.refl w).alloc _ _) ((Kept.refl _).alloc _ _)⟩
  have h := World.alloc_heap_new (w.alloc (.cells #[.int .i64 l0, .int .i64 l1, .int .i64 l2, .int .i64 l3] 51)) (.cells #[.int .i64 0, .int .i64 1, .int .i64 l0, .int .i64 1, .int .i64 l0, .int .i64 l1, .int .i64 l2, .int .i64 l3, .slice none 0 0] 53)
  rw [World.size_alloc] at h
  exact h
/-- A list of the document's nodes that can be read: their blocks and their numbers. -/
def PlRd (w : World) (v : Value) (ks : List Nat) (idF : Nat → Int) : Prop := ∃ a c, v = .slice a ks.length c ∧ ks.length ≤ c ∧ ∀ (i k : Nat), ks[i]? = some k → ∃ g o, a = some ⟨g, o, none⟩ ∧ w.cell? ⟨g, o + i, none⟩ = some (.pointer (some ⟨k, 0, none⟩)) ∧ w.cell? ⟨k, 0, none⟩ = some (.int .i64 (idF k))
/-- The document's once: where a number stands, if it stands there just once. -/
def onceG (id : Int) : List Int → Nat → Int → Int
  | [], _, a => a
  | x :: l, i, a => if x = id then (if 0 ≤ a then -1 else onceG id l (i + 1) (i : Int)) else onceG id l (i + 1) a
set_option linter.unusedSimpArgs false in
set_option maxRecDepth 100000 in
set_option maxHeartbeats 4000000 in
theorem onceP_is (v : Value) (ks : List Nat) (idF : Nat → Int) (id : Int) (w : World) (h : PlRd w v ks idF) (hl : ks.length ≤ 4611686018427387904) :
    Calls Try.prog 49 #[v, .int .i64 id] w fun e w' => e = .returned (.int .i64 (onceG id (ks.map idF) 0 (-1))) ∧ w' = w := by
  obtain ⟨m, hm⟩ : ∃ m, ks.length = m := ⟨_, rfl⟩
  obtain ⟨va, vc, rfl, hcap, hrd⟩ := h
  rw [hm] at hcap ⊢
  obtain ⟨r, hr⟩ : ∃ r, onceG id (ks.map idF) 0 (-1) = r := ⟨_, rfl⟩
  rw [hr]
  have HR := hide1 hr
  have HM := hide1 hm
  have HRD := hide1 hrd
  have hmI : (m : Int) ≤ 4611686018427387904 := by omega
  have hcI : (m : Int) ≤ (vc : Int) := by omega
  clear hr hm hrd hl hcap
  go_enter Try.func49, Try.ntmps49
  go_wp2_with fail
  go_loopw [5, 6] (fun v4 v5 wr => ∃ (j : Nat) (a : Int), v4 = .int .i64 a ∧ v5 = .int .i64 (j : Int) ∧ j ≤ m ∧ wr = w ∧ Hid (onceG id ((ks.drop j).map idF) j a = r)) (fun _ v5 _ => m - (intOf v5).toNat)
  case atStart => exact ⟨0, -1, rfl, rfl, Nat.zero_le _, rfl, by rw [List.drop_zero]; exact HR.out⟩
  case round =>
    obtain ⟨j, a, rfl, rfl, hj, rfl, hI⟩ := hrel
    by_cases hjm : j < m
    · obtain ⟨k, hk⟩ : ∃ k, ks[j]? = some k := ⟨_, List.getElem?_eq_getElem (by rw [HM.out]; exact hjm)⟩
      obtain ⟨g, o, rfl, r0, r1⟩ := HRD.out j k hk
      have hd : ks.drop j = k :: ks.drop (j + 1) := by
        have h9 := List.getElem?_eq_some_iff.1 hk
        rw [List.drop_eq_getElem_cons h9.1, h9.2]
      have hst := hI.out
      rw [hd, List.map_cons, onceG] at hst
      obtain ⟨x, hx⟩ : ∃ x, idF k = x := ⟨_, rfl⟩
      rw [hx] at hst r1
      have hjI : (j : Int) < (m : Int) := by omega
      clear hI hd hk hx
      by_cases e1 : x = id
      · subst e1
        rw [if_pos rfl] at hst
        by_cases e2 : 0 ≤ a
        · rw [if_pos e2] at hst
          have HST := hide1 hst
          clear hst
          go_wp2_with fail
          go_ret
          exact ⟨by rw [← HST.out]; rfl, rfl⟩
        · rw [if_neg e2] at hst
          have HST := hide1 hst
          clear hst
          go_wp2_with fail
          exact ⟨⟨j + 1, (j : Int), rfl, by simp, by omega, trivial, HST.out⟩, by simp [intOf] <;> omega⟩
      · rw [if_neg e1] at hst
        have HST := hide1 hst
        clear hst
        go_wp2_with fail
        exact ⟨⟨j + 1, a, rfl, by simp, by omega, trivial, HST.out⟩, by simp [intOf] <;> omega⟩
    · obtain rfl : j = m := by omega
      have hst := hI.out
      rw [List.drop_of_length_le (by rw [HM.out]; exact Nat.le_refl _), List.map_nil, onceG] at hst
      subst hst
      clear hI
      go_wp2_with fail
      go_ret
      exact ⟨rfl, rfl⟩

end Tr
end Ex
end Go.Proofs.Ytkkilkojmdeopaa
