import Derived.Test.YthpampfbmpdmoaaTrOwn
namespace Go.Proofs.Ythpampfbmpdmoaa
open Go.RowKit
attribute [local go_sem] Oper.semAt_some
namespace Ex
namespace Tr

/-- A node of the document's trees. -/
structure Rd where
  st : Int
  place : Int
  kind : Int
  n : Int
  l0 : Int
  l1 : Int
  l2 : Int
  l3 : Int
  kids : List Nat
  size : Nat
def cellsR (x : Rd) (kv : Value) : Array Value := #[.int .i64 x.st, .int .i64 x.place, .int .i64 x.kind, .int .i64 x.n, .int .i64 x.l0, .int .i64 x.l1, .int .i64 x.l2, .int .i64 x.l3, kv, .int .i64 (x.size : Int)]
/-- Its children: a list of pointers below B. -/
def RKids (A B : Nat) (w : World) (kv : Value) (ks : List Nat) : Prop := ∃ a cap, kv = .slice a ks.length cap ∧ ks.length ≤ 4194304 ∧ (ks = [] ∨ ∃ g, a = some ⟨g, 0, none⟩ ∧ A ≤ g ∧ g < B ∧ g < w.heap.size ∧ ∀ (i b : Nat), ks[i]? = some b → w.cell? ⟨g, i, none⟩ = some (.pointer (some ⟨b, 0, none⟩)))
def RAt (A B : Nat) (w : World) (b : Nat) (x : Rd) : Prop := A ≤ b ∧ b < B ∧ ∃ kv, w.heap[b]? = some (.cells (cellsR x kv) 59 (0, 0)) ∧ RKids A B w kv x.kids
theorem RKids.keep {A B : Nat} {w w' : World} {kv : Value} {ks : List Nat} (h : RKids A B w kv ks) (hk : Kept w w') : RKids A B w' kv ks := by
  obtain ⟨a, cap, h1, h2, h3⟩ := h
  refine ⟨a, cap, h1, h2, ?_⟩
  rcases h3 with h3 | ⟨g, g1, g0, g2, g3, g4⟩
  · exact Or.inl h3
  · exact Or.inr ⟨g, g1, g0, g2, Nat.lt_of_lt_of_le g3 hk.size, fun i b hb => grown_cell hk (g4 i b hb)⟩
theorem RAt.lt {A B b : Nat} {w : World} {x : Rd} (h : RAt A B w b x) : b < w.heap.size := by
  obtain ⟨_, _, kv, h1, _⟩ := h
  exact (Array.getElem?_eq_some_iff.1 h1).1
theorem RAt.keep {A B b : Nat} {w w' : World} {x : Rd} (h : RAt A B w b x) (hk : Kept w w') : RAt A B w' b x := by
  have hl := h.lt
  obtain ⟨h0, h0', kv, h1, h2⟩ := h
  exact ⟨h0, h0', kv, (hk.2.2.2.2 b hl).trans h1, h2.keep hk⟩
theorem RAt.cells {A B b : Nat} {w : World} {x : Rd} (h : RAt A B w b x) : w.cell? ⟨b, 0, none⟩ = some (.int .i64 x.st) ∧ w.cell? ⟨b, 1, none⟩ = some (.int .i64 x.place) ∧ w.cell? ⟨b, 2, none⟩ = some (.int .i64 x.kind) ∧ w.cell? ⟨b, 9, none⟩ = some (.int .i64 (x.size : Int)) := by
  obtain ⟨_, h0, kv, h1, _⟩ := h
  refine ⟨?_, ?_, ?_, ?_⟩ <;> simp [World.cell?, h1, cellsR]
/-- A node of the document's, wherever its blocks lie. -/
def RIs (w : World) (b : Nat) (x : Rd) : Prop := ∃ A B, RAt A B w b x
theorem RIs.cells {b : Nat} {w : World} {x : Rd} (h : RIs w b x) : w.cell? ⟨b, 0, none⟩ = some (.int .i64 x.st) ∧ w.cell? ⟨b, 1, none⟩ = some (.int .i64 x.place) ∧ w.cell? ⟨b, 2, none⟩ = some (.int .i64 x.kind) ∧ w.cell? ⟨b, 9, none⟩ = some (.int .i64 (x.size : Int)) := by
  obtain ⟨_, _, h⟩ := h
  exact h.cells
theorem RIs.keep {b : Nat} {w w' : World} {x : Rd} (h : RIs w b x) (hk : Kept w w') : RIs w' b x := by
  obtain ⟨A, B, h⟩ := h
  exact ⟨A, B, h.keep hk⟩
def leafR (st l0 l1 l2 l3 : Int) : Rd := ⟨st, 0, 1, l0, l0, l1, l2, l3, [], 1⟩

set_option linter.unusedSimpArgs false in
set_option maxRecDepth 100000 in
set_option maxHeartbeats 2000000 in
theorem rleaf_is (st l0 l1 l2 l3 : Int) (w : World) : Calls Try.prog 36 #[.int .i64 st, .agg #[.int .i64 l0, .int .i64 l1, .int .i64 l2, .int .i64 l3]] w fun e w' => ∃ b, e = .returned (.pointer (some ⟨b, 0, none⟩)) ∧ w.heap.size ≤ b ∧ Kept w w' ∧ RAt w.heap.size w'.heap.size w' b (leafR st l0 l1 l2 l3) := by
  go_enter Try.func36, Try.ntmps36
  go_wp2_with fail
  go_ret
  obtain ⟨wA, hwA⟩ : ∃ wA, w.alloc (.cells #[.int .i64 l0, .int .i64 l1, .int .i64 l2, .int .i64 l3] 57) = wA := ⟨_, rfl⟩
  have hk : Kept w wA := by rw [← hwA]; exact (Kept.refl w).alloc _ _
  have hs : wA.heap.size = w.heap.size + 1 := by rw [← hwA]; simp
  rw [hwA, ← hs]
  refine ⟨_, rfl, by omega, gtrans hk ((Kept.refl wA).alloc _ _), ?_⟩
  exact ⟨by omega, by simp, _, World.alloc_heap_new wA _, none, 0, rfl, by simp [leafR], Or.inl rfl⟩

end Tr
end Ex
end Go.Proofs.Ythpampfbmpdmoaa
