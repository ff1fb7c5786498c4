import Derived.Test.YteckbpmliahhhaaExBase
import Derived.RangeFuncRecord
import Derived.RangeFuncNested
import Derived.RangeFuncBound
import Derived.RangeFuncCalls
import Derived.RangeFuncLeaves
import Derived.RangeFuncWrites
import Derived.RangeFuncBox
namespace Go.Proofs.Yteckbpmliahhhaa
open Go.RowKit
attribute [local go_sem] Oper.semAt_some
namespace Ex
namespace Tr

/-- A node: its store's block, number, kind, what the kind says, its leaf, its children (block, place), and the sums. -/
structure Nd where
  st : Nat
  num : Nat
  kind : Int
  n : Int
  l0 : Int
  l1 : Int
  l2 : Int
  l3 : Int
  kids : List (Nat × Nat)
  width : Nat
  leafs : Nat
  size : Nat
  failed : Bool

def cellsN (x : Nd) (kv : Value) : Array Value := #[.pointer (some ⟨x.st, 0, none⟩), .int .i64 (x.num : Int), .int .i64 x.kind, .int .i64 x.n, .int .i64 x.l0, .int .i64 x.l1, .int .i64 x.l2, .int .i64 x.l3, kv, .int .i64 (x.width : Int), .int .i64 (x.leafs : Int), .int .i64 (x.size : Int), .bool x.failed]
/-- The children's row, in blocks below B. -/
def KidRow (B : Nat) (w : World) (kv : Value) (l : List (Nat × Nat)) : Prop := ∃ a cap, kv = .slice a l.length cap ∧ l.length ≤ cap ∧ l.length ≤ 4194304 ∧ (l = [] ∨ ∃ g, a = some ⟨g, 0, none⟩ ∧ g < B ∧ ∀ (i : Nat) (q : Nat × Nat), l[i]? = some q → w.cell? ⟨g, i * 2, none⟩ = some (.pointer (some ⟨q.1, 0, none⟩)) ∧ w.cell? ⟨g, i * 2 + 1, none⟩ = some (.int .i64 (q.2 : Int)))
/-- A node in memory, in blocks below B. -/
def NodeAt (B : Nat) (w : World) (b : Nat) (x : Nd) : Prop := b < B ∧ ∃ kv, w.heap[b]? = some (.cells (cellsN x kv) 88 (0, 0)) ∧ KidRow B w kv x.kids
def StoreAt (w : World) (s m : Nat) : Prop := w.heap[s]? = some (.cells #[.int .i64 (m : Int)] 72 (0, 0))
/-- The blocks below B lie as they lay. -/
def KB (B : Nat) (w w' : World) : Prop := w.heap.size ≤ w'.heap.size ∧ ∀ k, k < B → w'.heap[k]? = w.heap[k]?
theorem KB.refl (B : Nat) (w : World) : KB B w w := ⟨Nat.le_refl _, fun _ _ => rfl⟩
theorem KB.trans {B : Nat} {u v w : World} (h : KB B u v) (k : KB B v w) : KB B u w := ⟨Nat.le_trans h.1 k.1, fun d hd => (k.2 d hd).trans (h.2 d hd)⟩
theorem _root_.Go.Proofs.Yteckbpmliahhhaa.Ex.Kept.kb {w w' : World} (h : Kept w w') {B : Nat} (hB : B ≤ w.heap.size) : KB B w w' := ⟨h.2.2.2.1, fun k hk => h.2.2.2.2 k (by omega)⟩
theorem KB.cell {B : Nat} {w w' : World} (h : KB B w w') {d o : Nat} {v : Value} (hd : d < B) (hc : w.cell? ⟨d, o, none⟩ = some v) : w'.cell? ⟨d, o, none⟩ = some v := (World.cell?_of_block (w := w) (a := ⟨d, o, none⟩) (h.2 d hd)).trans hc
theorem KidRow.kb {B : Nat} {w w' : World} {kv : Value} {l : List (Nat × Nat)} (h : KidRow B w kv l) (hk : KB B w w') : KidRow B w' kv l := by
  obtain ⟨a, cap, h1, h2, h3, h4⟩ := h
  refine ⟨a, cap, h1, h2, h3, ?_⟩
  rcases h4 with h4 | ⟨g, h5, h6, h7⟩
  · exact Or.inl h4
  · exact Or.inr ⟨g, h5, h6, fun i q hq => ⟨hk.cell h6 (h7 i q hq).1, hk.cell h6 (h7 i q hq).2⟩⟩
theorem NodeAt.kb {B b : Nat} {w w' : World} {x : Nd} (h : NodeAt B w b x) (hk : KB B w w') : NodeAt B w' b x := by
  obtain ⟨h0, kv, h1, h2⟩ := h
  exact ⟨h0, kv, (hk.2 b h0).trans h1, h2.kb hk⟩
theorem NodeAt.lt {B b : Nat} {w : World} {x : Nd} (h : NodeAt B w b x) : b < w.heap.size := (Array.getElem?_eq_some_iff.1 h.2.choose_spec.1).1
theorem NodeAt.wide {B B' b : Nat} {w : World} {x : Nd} (h : NodeAt B w b x) (hB : B ≤ B') : NodeAt B' w b x := by
  obtain ⟨h0, kv, h1, a, cap, h2, h3, h4, h5⟩ := h
  refine ⟨by omega, kv, h1, a, cap, h2, h3, h4, ?_⟩
  rcases h5 with h5 | ⟨g, h6, h7, h8⟩
  · exact Or.inl h5
  · exact Or.inr ⟨g, h6, by omega, h8⟩
/-- All but the block b lies as it lay. -/
def KeptBut (b : Nat) (w w' : World) : Prop :=
  w'.os = w.os ∧ w'.tape = w.tape ∧ w'.output = w.output ∧ w.heap.size ≤ w'.heap.size ∧ ∀ k, k < w.heap.size → k ≠ b → w'.heap[k]? = w.heap[k]?
theorem KeptBut.trans {b : Nat} {u v w : World} (h1 : KeptBut b u v) (h2 : KeptBut b v w) : KeptBut b u w :=
  ⟨h2.1.trans h1.1, h2.2.1.trans h1.2.1, h2.2.2.1.trans h1.2.2.1, Nat.le_trans h1.2.2.2.1 h2.2.2.2.1, fun k hk hn => (h2.2.2.2.2 k (Nat.lt_of_lt_of_le hk h1.2.2.2.1) hn).trans (h1.2.2.2.2 k hk hn)⟩
theorem _root_.Go.Proofs.Yteckbpmliahhhaa.Ex.Kept.tbut {w w' : World} (h : Kept w w') (b : Nat) : KeptBut b w w' := ⟨h.1, h.2.1, h.2.2.1, h.2.2.2.1, fun k hk _ => h.2.2.2.2 k hk⟩
theorem setCell_but (w : World) (b o : Nat) (v : Value) : KeptBut b w (w.setCell ⟨b, o, none⟩ v) := ⟨rfl, rfl, rfl, by simp [World.setCell], fun k _ hn => Below.heap_setCell _ _ _ _ hn⟩
theorem KeptBut.cell {b : Nat} {w w' : World} (h : KeptBut b w w') {d o : Nat} {v : Value} (hd : d ≠ b) (hc : w.cell? ⟨d, o, none⟩ = some v) : w'.cell? ⟨d, o, none⟩ = some v :=
  (World.cell?_of_block (w := w) (a := ⟨d, o, none⟩) (h.2.2.2.2 d (World.block_lt_of_cell? w _ hc) hd)).trans hc
theorem StoreAt.lt {w : World} {s m : Nat} (h : StoreAt w s m) : s < w.heap.size := (Array.getElem?_eq_some_iff.1 h).1
theorem StoreAt.keep {w w' : World} {s m : Nat} (h : StoreAt w s m) (hk : Kept w w') : StoreAt w' s m := (hk.2.2.2.2 s h.lt).trans h
theorem StoreAt.cells {w : World} {s m : Nat} (h : StoreAt w s m) : w.cell? ⟨s, 0, none⟩ = some (.int .i64 (m : Int)) ∧ w.frozen? ⟨s, 0, none⟩ = false := by
  unfold StoreAt at h
  refine ⟨?_, ?_⟩ <;> simp [World.cell?, World.frozen?, h]
theorem StoreAt.one {w : World} {s m o : Nat} (h : StoreAt w s m) (ho : 1 ≤ o) : w.cell? ⟨s, o, none⟩ = none := by
  unfold StoreAt at h
  simp [World.cell?, h]
  omega
theorem NodeAt.cells {B b : Nat} {w : World} {x : Nd} (h : NodeAt B w b x) : ∃ kv, KidRow B w kv x.kids ∧ w.heap[b]? = some (.cells (cellsN x kv) 88 (0, 0)) ∧ w.cell? ⟨b, 0, none⟩ = some (.pointer (some ⟨x.st, 0, none⟩)) ∧ w.cell? ⟨b, 1, none⟩ = some (.int .i64 (x.num : Int)) ∧ w.cell? ⟨b, 2, none⟩ = some (.int .i64 x.kind) ∧ w.cell? ⟨b, 3, none⟩ = some (.int .i64 x.n) ∧
    w.cell? ⟨b, 4, none⟩ = some (.int .i64 x.l0) ∧ w.cell? ⟨b, 5, none⟩ = some (.int .i64 x.l1) ∧ w.cell? ⟨b, 6, none⟩ = some (.int .i64 x.l2) ∧ w.cell? ⟨b, 7, none⟩ = some (.int .i64 x.l3) ∧ w.cell? ⟨b, 8, none⟩ = some kv ∧
    w.cell? ⟨b, 9, none⟩ = some (.int .i64 (x.width : Int)) ∧ w.cell? ⟨b, 10, none⟩ = some (.int .i64 (x.leafs : Int)) ∧ w.cell? ⟨b, 11, none⟩ = some (.int .i64 (x.size : Int)) ∧ w.cell? ⟨b, 12, none⟩ = some (.bool x.failed) := by
  obtain ⟨h0, kv, h1, h2⟩ := h
  refine ⟨kv, h2, h1, ?_, ?_, ?_, ?_, ?_, ?_, ?_, ?_, ?_, ?_, ?_, ?_, ?_⟩ <;> simp [World.cell?, h1, cellsN]
/-- A node is no store. -/
theorem NodeAt.ne {B b s m : Nat} {w : World} {x : Nd} (h : NodeAt B w b x) (hs : StoreAt w s m) : b ≠ s := by
  rintro rfl
  obtain ⟨_, _, _, _, h1, _⟩ := h.cells
  rw [hs.one (by omega)] at h1
  cases h1
/-- What changes a store keeps the nodes. -/
theorem NodeAt.but {B b s m : Nat} {w w' : World} {x : Nd} (h : NodeAt B w b x) (hs : StoreAt w s m) (hk : KeptBut s w w') : NodeAt B w' b x := by
  have hne := h.ne hs
  have hlt := h.lt
  obtain ⟨h0, kv, h1, a, cap, h2, h3, h4, h5⟩ := h
  refine ⟨h0, kv, (hk.2.2.2.2 b hlt hne).trans h1, a, cap, h2, h3, h4, ?_⟩
  rcases h5 with h5 | ⟨g, h6, h7, h8⟩
  · exact Or.inl h5
  · cases hl : x.kids with
    | nil => exact Or.inl rfl
    | cons q l =>
      have hg : g ≠ s := by
        rintro rfl
        have := (h8 0 q (by rw [hl]; rfl)).2
        rw [hs.one (by omega)] at this
        cases this
      rw [← hl]
      exact Or.inr ⟨g, h6, h7, fun i q hq => ⟨hk.cell hg (h8 i q hq).1, hk.cell hg (h8 i q hq).2⟩⟩

set_option linter.unusedSimpArgs false in
set_option maxRecDepth 100000 in
set_option maxHeartbeats 2000000 in
theorem new_is (w : World) : Calls Try.prog 10 #[] w fun e w' => e = .returned (.pointer (some ⟨w.heap.size, 0, none⟩)) ∧ Kept w w' ∧ StoreAt w' w.heap.size 0 := by
  go_enter Try.func10, Try.ntmps10
  go_wp2_with fail
  go_ret
  exact ⟨rfl, (Kept.refl w).alloc _ _, World.alloc_heap_new w _⟩

section
variable {B b : Nat} {w : World} {x : Nd}
set_option linter.unusedSimpArgs false
theorem width_is (h : NodeAt B w b x) : Calls Try.prog 48 #[.pointer (some ⟨b, 0, none⟩)] w fun e w' => e = .returned (.int .i64 (x.width : Int)) ∧ w' = w := by
  obtain ⟨kv, _, _, _, _, _, _, _, _, _, _, _, c9, _⟩ := h.cells
  clear h
  go_enter Try.func48, Try.ntmps48
  go_wp2_with fail
  go_ret
  exact ⟨rfl, rfl⟩
theorem leafs_is (h : NodeAt B w b x) : Calls Try.prog 50 #[.pointer (some ⟨b, 0, none⟩)] w fun e w' => e = .returned (.int .i64 (x.leafs : Int)) ∧ w' = w := by
  obtain ⟨kv, _, _, _, _, _, _, _, _, _, _, _, c9, c10, _⟩ := h.cells
  clear h
  go_enter Try.func50, Try.ntmps50
  go_wp2_with fail
  go_ret
  exact ⟨rfl, rfl⟩
theorem number_is (h : NodeAt B w b x) : Calls Try.prog 14 #[.pointer (some ⟨b, 0, none⟩)] w fun e w' => e = .returned (.int .i64 (x.num : Int)) ∧ w' = w := by
  obtain ⟨kv, _, _, _, c1, _, _, _, _, _, _, _, c9, c10, c11, c12⟩ := h.cells
  clear h
  go_enter Try.func14, Try.ntmps14
  go_wp2_with fail
  go_ret
  exact ⟨rfl, rfl⟩
end

end Tr
end Ex
end Go.Proofs.Yteckbpmliahhhaa
