import Derived.Test.YtfajoknacfjedaaGreatDoorMExRd7
import Derived.Test.YtfajoknacfjedaaGreatDoorMExRd5
import Derived.Test.YtfajoknacfjedaaGreatDoorMExPos
import Derived.Lib.AppendZeros
import Derived.Deep.DeepMust
import Derived.OwnWalk
import Derived.Laws.MakeOwn
import Derived.Deep.Cut
namespace Go.Proofs.YtfajoknacfjedaaGreatDoor
open Go.RowKit
set_option linter.unusedVariables false
namespace Ex
open Sh

/-- A pattern's six cells. -/
abbrev ExM : Type := Int × Int × Int × Int × Int × SlV
def encEx (x : ExM) : List Value := [.int .i64 x.1, .int .i64 x.2.1, .int .i64 x.2.2.1, .int .i64 x.2.2.2.1, .int .i64 x.2.2.2.2.1, val x.2.2.2.2.2]
theorem encEx_one (x : ExM) : ∀ u ∈ encEx x, u.oneCell' = true := fun u hu => by
  simp only [encEx, List.mem_cons, List.not_mem_nil, or_false] at hu
  rcases hu with rfl | rfl | rfl | rfl | rfl | rfl <;> rfl
def exE : ElK ExM := { T := 24, TT := 22, sz := 6, by_ := 64, z := .agg #[.int .i64 0, .int .i64 0, .int .i64 0, .int .i64 0, .int .i64 0, .slice none 0 0], enc := encEx, pos := by decide, info := by kernel_rfl, zs := rfl, und := Tryz.underlying22, len := fun _ => rfl, one := encEx_one }
theorem take_six {l : List Value} {a b c d e f : Value} (h0 : l[0]? = some a) (h1 : l[1]? = some b) (h2 : l[2]? = some c) (h3 : l[3]? = some d) (h4 : l[4]? = some e) (h5 : l[5]? = some f) : l.take 6 = [a, b, c, d, e, f] := by
  match l, h0, h1, h2, h3, h4, h5 with
  | x0 :: x1 :: x2 :: x3 :: x4 :: x5 :: t, h0, h1, h2, h3, h4, h5 =>
    simp at h0 h1 h2 h3 h4 h5
    subst h0 h1 h2 h3 h4 h5
    rfl
theorem take_rows (cs : List Value) : ∀ N : Nat, (∀ i, i < N → ∃ y : ExM, (cs.drop (i * 6)).take 6 = encEx y) → ∃ ys : List ExM, ys.length = N ∧ cs.take (N * 6) = flatE exE ys
  | 0, _ => ⟨[], rfl, by simp [flatE]⟩
  | N + 1, h => by
    obtain ⟨ys, h1, h2⟩ := take_rows cs N (fun i hi => h i (by omega))
    obtain ⟨y, hy⟩ := h N (by omega)
    refine ⟨ys ++ [y], by rw [List.length_append, h1]; rfl, ?_⟩
    rw [Nat.succ_mul, List.take_add, h2, hy]
    simp [flatE, exE]
theorem cell_list {w : World} {c o : Nat} {cur : Array Value} {t : TypeId} {v : Value} (hg : w.heap[c]? = some (.cells cur t (0, 0))) (h : w.cell? ⟨c, o, none⟩ = some v) : cur.toList[o]? = some v := by
  unfold World.cell? at h
  simp only [hg] at h
  simpa using h
/-- A list of patterns, as a row of cells. -/
theorem KidsO.lo {S : Nat → Prop} {w : World} {n : Nat} {l : List (PatN n)} {v : Value} (h : KidsO S w n l v) (hl : l ≠ []) : ∃ (c N cap : Nat) (ys : List ExM), v = .slice (some ⟨c, 0, none⟩) N cap ∧ S c ∧ N = l.length ∧ LO exE w 0 v ys := by
  match n, l, h with
  | 0, l, _ => exact absurd (none_of l) hl
  | n + 1, l, ⟨a, cap, hv, hlc, hl44, hor⟩ =>
    obtain ⟨c, cur, F, rfl, hSc, hg, hcm, hcs, f1, f2, hq⟩ := hor.resolve_left hl
    obtain ⟨ys, h1, h2⟩ := take_rows cur.toList l.length (fun i hi => by
      obtain ⟨v', g0, g1, g2, g3, g4, g5, g6⟩ := hq i _ (List.getElem?_eq_getElem hi)
      obtain ⟨au, cu, rfl⟩ := g6.form
      exact ⟨(_, _, _, _, _, (au, _, cu)), take_six (by rw [List.getElem?_drop]; exact cell_list hg g0) (by rw [List.getElem?_drop]; exact cell_list hg g1) (by rw [List.getElem?_drop]; exact cell_list hg g2) (by rw [List.getElem?_drop]; exact cell_list hg g3) (by rw [List.getElem?_drop]; exact cell_list hg g4) (by rw [List.getElem?_drop]; exact cell_list hg g5)⟩)
    refine ⟨c, l.length, cap, ys, hv, hSc, rfl, ?_⟩
    rw [hv]
    refine ⟨?_, .inr ⟨c, cap, cur, by rw [h1], Nat.zero_le _, hg, by rw [h1]; exact hlc, hcm, hcs, by rw [h1]; exact h2⟩⟩
    have h3 := congrArg List.length h2
    rw [List.length_take] at h3
    rw [← h3, h1]
    have h4 : cur.toList.length = cap * 6 := by rw [Array.length_toList]; exact hcs
    show min (l.length * 6) cur.toList.length = l.length * 6
    omega

end Ex
end Go.Proofs.YtfajoknacfjedaaGreatDoor
namespace Go.Proofs.YtfajoknacfjedaaGreatDoor
open Go.RowKit
namespace Ex

/-- A deep copy (in the blocks S) with a mark behind each list. -/
def MarkAt (S : Nat → Prop) (w : World) : (n : Nat) → List (PatN n) → Value → Prop
  | 0, _, v => v = .slice none 0 0
  | n + 1, l, v => (l = [] ∧ v = .slice none 0 0) ∨ (l ≠ [] ∧ ∃ c, v = .slice (some ⟨c, 0, none⟩) l.length (l.length + 1) ∧ l.length ≤ 4096 ∧ S c ∧ w.cell? ⟨c, l.length * 6, none⟩ = some (.int .i64 93) ∧ ∀ (i : Nat) (q : PatN (n + 1)), l[i]? = some q → ∃ v',
      w.cell? ⟨c, i * 6, none⟩ = some (.int .i64 (kind q)) ∧ w.cell? ⟨c, i * 6 + 1, none⟩ = some (.int .i64 (from_ q)) ∧ w.cell? ⟨c, i * 6 + 2, none⟩ = some (.int .i64 (to_ q)) ∧
      w.cell? ⟨c, i * 6 + 3, none⟩ = some (.int .i64 (min_ q)) ∧ w.cell? ⟨c, i * 6 + 4, none⟩ = some (.int .i64 (max_ q)) ∧ w.cell? ⟨c, i * 6 + 5, none⟩ = some v' ∧ MarkAt S w n (kids q) v')
theorem MarkAt.mono {S S' : Nat → Prop} {w w' : World} (hs : Holds S w w') (hS : ∀ b, S b → S' b) : ∀ (n : Nat) (l : List (PatN n)) (v : Value), MarkAt S w n l v → MarkAt S' w' n l v
  | 0, _, _, h => h
  | n + 1, l, v, h => by
    rcases h with h | ⟨h0, c, h1, h2, h3, h4, h5⟩
    · exact Or.inl h
    · refine Or.inr ⟨h0, c, h1, h2, hS c h3, hs _ _ _ h3 h4, fun i q hq => ?_⟩
      obtain ⟨v', g0, g1, g2, g3, g4, g5, g6⟩ := h5 i q hq
      exact ⟨v', hs _ _ _ h3 g0, hs _ _ _ h3 g1, hs _ _ _ h3 g2, hs _ _ _ h3 g3, hs _ _ _ h3 g4, hs _ _ _ h3 g5, MarkAt.mono hs hS n (kids q) v' g6⟩
theorem MarkAt.kept {S : Nat → Prop} {w w' : World} {n : Nat} {l : List (PatN n)} {v : Value} (h : MarkAt S w n l v) (hk : Kept w w') : MarkAt S w' n l v := MarkAt.mono (hk.holds S) (fun _ h => h) n l v h
theorem MarkAt.kids {S : Nat → Prop} {w : World} : ∀ (n : Nat) (l : List (PatN n)) (v : Value), MarkAt S w n l v → KidsAt S w n l v
  | 0, _, _, h => ⟨_, _, h⟩
  | n + 1, l, v, h => by
    rcases h with ⟨rfl, rfl⟩ | ⟨h0, c, h1, h2, h3, h4, h5⟩
    · exact kids_nil _ _ _ _ _ _ rfl
    · refine ⟨_, _, h1, by omega, by omega, Or.inr ⟨c, 0, rfl, h3, fun i q hq => ?_⟩⟩
      obtain ⟨v', g0, g1, g2, g3, g4, g5, g6⟩ := h5 i q hq
      rw [Nat.zero_add]
      exact ⟨v', g0, g1, g2, g3, g4, g5, MarkAt.kids n (Ex.kids q) v' g6⟩
theorem MarkAt.form {S : Nat → Prop} {w : World} {n : Nat} {l : List (PatN n)} {v : Value} (h : MarkAt S w n l v) : ∃ a cap, v = .slice a l.length cap := (MarkAt.kids n l v h).form

/-- A row of M values in a block of its own. -/
def RowAt (w : World) (g M : Nat) : Prop := ∃ cur : Array Value, w.heap[g]? = some (.cells cur 24 (0, 0)) ∧ cur.size = M * 6
theorem RowAt.lt {w : World} {g M : Nat} (h : RowAt w g M) : g < w.heap.size := by obtain ⟨_, h, _⟩ := h; exact (Array.getElem?_eq_some_iff.1 h).1
theorem RowAt.keep {w w' : World} {g M : Nat} (h : RowAt w g M) (hk : Kept w w') : RowAt w' g M := by
  obtain ⟨cur, h1, h2⟩ := h
  exact ⟨cur, (hk.2.2.2.2 g (Array.getElem?_eq_some_iff.1 h1).1).trans h1, h2⟩
theorem RowAt.set {w : World} {g M : Nat} (h : RowAt w g M) (o : Nat) (x : Value) : RowAt (w.setCell ⟨g, o, none⟩ x) g M := by
  obtain ⟨cur, h1, h2⟩ := h
  have hl : g < w.heap.size := (Array.getElem?_eq_some_iff.1 h1).1
  have he : w.heap[g] = Obj.cells cur 24 (0, 0) := by rw [Array.getElem?_eq_getElem hl] at h1; exact Option.some.inj h1
  refine ⟨cur.setIfInBounds o x, ?_, by rw [Array.size_setIfInBounds]; exact h2⟩
  simp [World.setCell, Array.getElem_modify, hl, he]
theorem RowAt.cell {w : World} {g M k : Nat} (h : RowAt w g M) (hk : k < M * 6) : (∃ x, w.cell? ⟨g, k, none⟩ = some x) ∧ w.frozen? ⟨g, k, none⟩ = false := by
  obtain ⟨cur, h1, h2⟩ := h
  refine ⟨⟨cur[k]'(by omega), ?_⟩, ?_⟩
  · simp [World.cell?, h1, h2, hk]
  · simp [World.frozen?, h1]
theorem RowAt.at {w : World} {g M j : Nat} (h : RowAt w g M) (hj : j < M) : ∃ x0 x1 x2 x3 x4 x5, (w.cell? ⟨g, j * 6, none⟩ = some x0 ∧ w.cell? ⟨g, j * 6 + 1, none⟩ = some x1 ∧ w.cell? ⟨g, j * 6 + 2, none⟩ = some x2 ∧ w.cell? ⟨g, j * 6 + 3, none⟩ = some x3 ∧ w.cell? ⟨g, j * 6 + 4, none⟩ = some x4 ∧ w.cell? ⟨g, j * 6 + 5, none⟩ = some x5) ∧
    w.frozen? ⟨g, j * 6, none⟩ = false ∧ w.frozen? ⟨g, j * 6 + 1, none⟩ = false ∧ w.frozen? ⟨g, j * 6 + 2, none⟩ = false ∧ w.frozen? ⟨g, j * 6 + 3, none⟩ = false ∧ w.frozen? ⟨g, j * 6 + 4, none⟩ = false ∧ w.frozen? ⟨g, j * 6 + 5, none⟩ = false := by
  obtain ⟨⟨x0, c0⟩, f0⟩ := h.cell (k := j * 6) (by omega)
  obtain ⟨⟨x1, c1⟩, f1⟩ := h.cell (k := j * 6 + 1) (by omega)
  obtain ⟨⟨x2, c2⟩, f2⟩ := h.cell (k := j * 6 + 2) (by omega)
  obtain ⟨⟨x3, c3⟩, f3⟩ := h.cell (k := j * 6 + 3) (by omega)
  obtain ⟨⟨x4, c4⟩, f4⟩ := h.cell (k := j * 6 + 4) (by omega)
  obtain ⟨⟨x5, c5⟩, f5⟩ := h.cell (k := j * 6 + 5) (by omega)
  exact ⟨x0, x1, x2, x3, x4, x5, ⟨c0, c1, c2, c3, c4, c5⟩, f0, f1, f2, f3, f4, f5⟩
theorem set_same {w : World} {g M o : Nat} {x : Value} (h : RowAt w g M) (ho : o < M * 6) : (w.setCell ⟨g, o, none⟩ x).cell? ⟨g, o, none⟩ = some x := by
  obtain ⟨⟨y, hy⟩, _⟩ := h.cell ho
  exact World.cell?_setCell_same w _ _ hy
theorem set_other {w : World} {g b o k : Nat} {x : Value} (h : b ≠ g ∨ k ≠ o) : (w.setCell ⟨g, o, none⟩ x).cell? ⟨b, k, none⟩ = w.cell? ⟨b, k, none⟩ :=
  World.cell?_setCell_other _ _ _ _ (by intro e; simp only [Addr.mk.injEq, and_true] at e; omega)
theorem put_row {w : World} {g M o : Nat} {x0 x1 x2 x3 x4 x5 : Value} (h : RowAt w g M) : RowAt ((((((w.setCell ⟨g, o, none⟩ x0).setCell ⟨g, o + 1, none⟩ x1).setCell ⟨g, o + 2, none⟩ x2).setCell ⟨g, o + 3, none⟩ x3).setCell ⟨g, o + 4, none⟩ x4).setCell ⟨g, o + 5, none⟩ x5) g M := (((((h.set _ _).set _ _).set _ _).set _ _).set _ _).set _ _
theorem put_other {w : World} {g b o k : Nat} {x0 x1 x2 x3 x4 x5 : Value} (h : b ≠ g ∨ k < o ∨ o + 6 ≤ k) : ((((((w.setCell ⟨g, o, none⟩ x0).setCell ⟨g, o + 1, none⟩ x1).setCell ⟨g, o + 2, none⟩ x2).setCell ⟨g, o + 3, none⟩ x3).setCell ⟨g, o + 4, none⟩ x4).setCell ⟨g, o + 5, none⟩ x5).cell? ⟨b, k, none⟩ = w.cell? ⟨b, k, none⟩ := by
  rw [set_other (by omega), set_other (by omega), set_other (by omega), set_other (by omega), set_other (by omega), set_other (by omega)]
theorem put_cells {w : World} {g M o : Nat} {x0 x1 x2 x3 x4 x5 : Value} (h : RowAt w g M) (ho : o + 6 ≤ M * 6) : ((((((w.setCell ⟨g, o, none⟩ x0).setCell ⟨g, o + 1, none⟩ x1).setCell ⟨g, o + 2, none⟩ x2).setCell ⟨g, o + 3, none⟩ x3).setCell ⟨g, o + 4, none⟩ x4).setCell ⟨g, o + 5, none⟩ x5).cell? ⟨g, o, none⟩ = some x0 ∧ ((((((w.setCell ⟨g, o, none⟩ x0).setCell ⟨g, o + 1, none⟩ x1).setCell ⟨g, o + 2, none⟩ x2).setCell ⟨g, o + 3, none⟩ x3).setCell ⟨g, o + 4, none⟩ x4).setCell ⟨g, o + 5, none⟩ x5).cell? ⟨g, o + 1, none⟩ = some x1 ∧ ((((((w.setCell ⟨g, o, none⟩ x0).setCell ⟨g, o + 1, none⟩ x1).setCell ⟨g, o + 2, none⟩ x2).setCell ⟨g, o + 3, none⟩ x3).setCell ⟨g, o + 4, none⟩ x4).setCell ⟨g, o + 5, none⟩ x5).cell? ⟨g, o + 2, none⟩ = some x2 ∧ ((((((w.setCell ⟨g, o, none⟩ x0).setCell ⟨g, o + 1, none⟩ x1).setCell ⟨g, o + 2, none⟩ x2).setCell ⟨g, o + 3, none⟩ x3).setCell ⟨g, o + 4, none⟩ x4).setCell ⟨g, o + 5, none⟩ x5).cell? ⟨g, o + 3, none⟩ = some x3 ∧ ((((((w.setCell ⟨g, o, none⟩ x0).setCell ⟨g, o + 1, none⟩ x1).setCell ⟨g, o + 2, none⟩ x2).setCell ⟨g, o + 3, none⟩ x3).setCell ⟨g, o + 4, none⟩ x4).setCell ⟨g, o + 5, none⟩ x5).cell? ⟨g, o + 4, none⟩ = some x4 ∧ ((((((w.setCell ⟨g, o, none⟩ x0).setCell ⟨g, o + 1, none⟩ x1).setCell ⟨g, o + 2, none⟩ x2).setCell ⟨g, o + 3, none⟩ x3).setCell ⟨g, o + 4, none⟩ x4).setCell ⟨g, o + 5, none⟩ x5).cell? ⟨g, o + 5, none⟩ = some x5 := by
  refine ⟨?_, ?_, ?_, ?_, ?_, ?_⟩
  · rw [set_other (by omega), set_other (by omega), set_other (by omega), set_other (by omega), set_other (by omega)]; exact set_same h (by omega)
  · rw [set_other (by omega), set_other (by omega), set_other (by omega), set_other (by omega)]; exact set_same (h.set _ _) (by omega)
  · rw [set_other (by omega), set_other (by omega), set_other (by omega)]; exact set_same ((h.set _ _).set _ _) (by omega)
  · rw [set_other (by omega), set_other (by omega)]; exact set_same (((h.set _ _).set _ _).set _ _) (by omega)
  · rw [set_other (by omega)]; exact set_same ((((h.set _ _).set _ _).set _ _).set _ _) (by omega)
  · exact set_same (((((h.set _ _).set _ _).set _ _).set _ _).set _ _) (by omega)
theorem keep_set {w W : World} {g o : Nat} {x : Value} (h : Kept w W) (hg : w.heap.size ≤ g) : Kept w (W.setCell ⟨g, o, none⟩ x) :=
  ⟨h.1, h.2.1, h.2.2.1, by rw [World.size_setCell]; exact h.size, fun k hk => (Below.heap_setCell W _ _ k (by show k ≠ g; omega)).trans (h.2.2.2.2 k hk)⟩
theorem put_kept {w w1 : World} {g o : Nat} {x0 x1 x2 x3 x4 x5 : Value} (h : Kept w1 w) (hg : w1.heap.size ≤ g) : Kept w1 ((((((w.setCell ⟨g, o, none⟩ x0).setCell ⟨g, o + 1, none⟩ x1).setCell ⟨g, o + 2, none⟩ x2).setCell ⟨g, o + 3, none⟩ x3).setCell ⟨g, o + 4, none⟩ x4).setCell ⟨g, o + 5, none⟩ x5) := keep_set (keep_set (keep_set (keep_set (keep_set (keep_set h hg) hg) hg) hg) hg) hg

end Ex
end Go.Proofs.YtfajoknacfjedaaGreatDoor
namespace Go.Proofs.YtfajoknacfjedaaGreatDoor
open Go.RowKit
attribute [local go_sem] Oper.semAt_some
namespace Ex

/-- Is a tree small enough? -/
def boundsP {n : Nat} (p : PatN (n + 1)) : Int := if 4096 < (lookP (n + 1) p 1 (0, 0)).1 then 2 else if 64 < (lookP (n + 1) p 1 (0, 0)).2 then 5 else 0

theorem KeptBut.up {b : Nat} {w u w' : World} (h : Kept w u) (hb : w.heap.size ≤ b) (hk : KeptBut b u w') : Kept w w' :=
  ⟨hk.1.trans h.1, hk.2.1.trans h.2.1, hk.2.2.1.trans h.2.2.1, Nat.le_trans h.size hk.2.2.2.1, fun k hlt => (hk.2.2.2.2 k (Nat.lt_of_lt_of_le hlt h.size) (by omega)).trans (h.2.2.2.2 k hlt)⟩
theorem new_walk (w : World) (o : Obj) : WalkAt ((w.alloc o).alloc (.cells #[.int .i64 0, .int .i64 0] 77)) (w.heap.size + 1) (0, 0) := by
  show ((w.heap.push o).push (.cells #[.int .i64 0, .int .i64 0] 77))[w.heap.size + 1]? = _
  simp [Array.getElem_push]

set_option linter.unusedSimpArgs false in
set_option maxRecDepth 100000 in
set_option maxHeartbeats 4000000 in
theorem bounds_is (S : Nat → Prop) (n : Nat) (p : PatN (n + 1)) (v : Value) (w : World) (h : KidsAt S w n (kids p) v) (hS : ∀ b, S b → b < w.heap.size) :
    Calls Tryz.prog 33 #[valOf p v] w fun e w' => e = .returned (.int .i64 (boundsP p)) ∧ Kept w w' := by
  have HK := hide1 h
  have HS := hide1 hS
  obtain ⟨a, cap, rfl⟩ := h.form
  rw [valOf_eq]
  clear h hS
  go_enter Tryz.func33, Tryz.ntmps33
  obtain ⟨⟨s1, s2⟩, hs⟩ : ∃ s, lookP (n + 1) p 1 (0, 0) = s := ⟨_, rfl⟩
  have HB : Hid (boundsP p = if 4096 < s1 then 2 else if 64 < s2 then 5 else 0) := by show _ = _; unfold boundsP; rw [hs]
  have HLS := hide1 hs
  clear hs
  go_wp2_with (go_at_call 50; refine (look_is S n p _ _ (w.heap.size + 1) 0 0 1 (HK.out.kept (((Kept.refl w).alloc _ _).alloc _ _)) (fun h => absurd (HS.out _ h) (by omega)) (new_walk _ _) (by omega) (by omega) (by omega) (by omega) (by omega) (by omega)).mono ?_; rintro e w6 ⟨rfl, hk6, hw6⟩; rw [HLS.out] at hw6; obtain ⟨c0, c1, z0, z1⟩ := hw6.cells; have HK6 := hide1 (KeptBut.up (((Kept.refl w).alloc _ _).alloc _ _) (by omega) hk6); clear hk6 hw6 z0 z1)
  all_goals
    go_ret
    refine ⟨?_, HK6.out⟩
    rw [HB.out]
    first
    | (rw [if_pos (by omega)]; rfl)
    | (rw [if_neg (by omega), if_pos (by omega)]; rfl)
    | (rw [if_neg (by omega), if_neg (by omega)]; rfl)

end Ex
end Go.Proofs.YtfajoknacfjedaaGreatDoor
namespace Go.Proofs.YtfajoknacfjedaaGreatDoor
open Go.RowKit
attribute [local go_sem] Oper.semAt_some
namespace Ex

/-- What is wrong with a tree, if anything is (P201). -/
def checkP {n : Nat} (p : PatN (n + 1)) : Int := if boundsP p = 0 then if rightP (n + 1) p = true then if 4096 < posP (n + 1) p then 21 else 0 else 20 else boundsP p
def positionsP {n : Nat} (p : PatN (n + 1)) : Int := if checkP p = 0 then posP (n + 1) p else 0

set_option linter.unusedSimpArgs false in
set_option maxRecDepth 100000 in
set_option maxHeartbeats 4000000 in
theorem Positions_is (S : Nat → Prop) (n : Nat) (p : PatN (n + 1)) (v : Value) (w : World) (h : KidsAt S w n (kids p) v) (hS : ∀ b, S b → b < w.heap.size) :
    Calls Tryz.prog 24 #[valOf p v] w fun e w' => e = .returned (.tuple #[.int .i64 (positionsP p), .int .i64 (checkP p)]) ∧ Kept w w' := by
  have HK := hide1 h
  have HS := hide1 hS
  obtain ⟨a, cap, rfl⟩ := h.form
  obtain ⟨b0, b1, b2, b3, b4, b5⟩ := box_at w (.int .i64 (kind p)) (.int .i64 (from_ p)) (.int .i64 (to_ p)) (.int .i64 (min_ p)) (.int .i64 (max_ p)) (.slice a (kids p).length cap) 24
  have HB := hide1 (And.intro b0 (And.intro b1 (And.intro b2 (And.intro b3 (And.intro b4 b5)))))
  clear b0 b1 b2 b3 b4 b5
  rw [valOf_eq]
  clear h hS
  have HC : Hid (checkP p = if boundsP p = 0 then if rightP (n + 1) p = true then if 4096 < posP (n + 1) p then 21 else 0 else 20 else boundsP p) := rfl
  have HP : Hid (positionsP p = if checkP p = 0 then posP (n + 1) p else 0) := rfl
  go_enter Tryz.func24, Tryz.ntmps24
  obtain ⟨bo, hbo⟩ : ∃ x, boundsP p = x := ⟨_, rfl⟩
  obtain ⟨po, hpo⟩ : ∃ x, posP (n + 1) p = x := ⟨_, rfl⟩
  have HBO := hide1 hbo
  have HPO := hide1 hpo
  rw [hbo, hpo] at HC
  rw [hpo] at HP
  clear hbo hpo
  by_cases hb0 : bo = 0
  · have eb : (bo != 0) = false := by simpa using hb0
    rw [if_pos hb0] at HC
    clear hb0
    by_cases hr : rightP (n + 1) p = true
    · have HRT := hide1 hr
      rw [if_pos hr] at HC
      clear hr
      by_cases hp : 4096 < po
      · rw [if_pos hp] at HC
        go_wp2_with (first
          | (go_at_call 33; refine (bounds_is S n p _ _ (HK.out.kept ((Kept.refl w).alloc _ _)) (fun b hb => Nat.lt_of_lt_of_le (HS.out b hb) ((Kept.refl w).alloc _ _).size)).mono ?_; rintro e w6 ⟨rfl, hk6⟩; rw [HBO.out]; have HK6 := hide1 (gtrans ((Kept.refl w).alloc _ _) hk6); have d0 := grown_cell hk6 HB.out.1; have d1 := grown_cell hk6 HB.out.2.1; have d2 := grown_cell hk6 HB.out.2.2.1; have d3 := grown_cell hk6 HB.out.2.2.2.1; have d4 := grown_cell hk6 HB.out.2.2.2.2.1; have d5 := grown_cell hk6 HB.out.2.2.2.2.2; clear hk6)
          | (go_at_call 34; refine (right_is S n p _ _ (HK.out.kept HK6.out)).mono ?_; rintro e w7 ⟨rfl, hk7⟩; rw [HRT.out]; have HK7 := hide1 (gtrans HK6.out hk7); have f0 := grown_cell hk7 d0; have f1 := grown_cell hk7 d1; have f2 := grown_cell hk7 d2; have f3 := grown_cell hk7 d3; have f4 := grown_cell hk7 d4; have f5 := grown_cell hk7 d5; clear hk7 d0 d1 d2 d3 d4 d5)
          | (go_at_call 35; refine (pos_is S n p _ _ (HK.out.kept HK7.out) HRT.out).mono ?_; rintro e w8 ⟨rfl, hk8⟩; rw [HPO.out]; have HK8 := hide1 (gtrans HK7.out hk8); clear hk8 f0 f1 f2 f3 f4 f5))
        go_ret2
        exact ⟨by rw [HP.out, HC.out]; rfl, HK8.out⟩
      · rw [if_neg hp] at HC
        go_wp2_with (first
          | (go_at_call 33; refine (bounds_is S n p _ _ (HK.out.kept ((Kept.refl w).alloc _ _)) (fun b hb => Nat.lt_of_lt_of_le (HS.out b hb) ((Kept.refl w).alloc _ _).size)).mono ?_; rintro e w6 ⟨rfl, hk6⟩; rw [HBO.out]; have HK6 := hide1 (gtrans ((Kept.refl w).alloc _ _) hk6); have d0 := grown_cell hk6 HB.out.1; have d1 := grown_cell hk6 HB.out.2.1; have d2 := grown_cell hk6 HB.out.2.2.1; have d3 := grown_cell hk6 HB.out.2.2.2.1; have d4 := grown_cell hk6 HB.out.2.2.2.2.1; have d5 := grown_cell hk6 HB.out.2.2.2.2.2; clear hk6)
          | (go_at_call 34; refine (right_is S n p _ _ (HK.out.kept HK6.out)).mono ?_; rintro e w7 ⟨rfl, hk7⟩; rw [HRT.out]; have HK7 := hide1 (gtrans HK6.out hk7); have f0 := grown_cell hk7 d0; have f1 := grown_cell hk7 d1; have f2 := grown_cell hk7 d2; have f3 := grown_cell hk7 d3; have f4 := grown_cell hk7 d4; have f5 := grown_cell hk7 d5; clear hk7 d0 d1 d2 d3 d4 d5)
          | (go_at_call 35; refine (pos_is S n p _ _ (HK.out.kept HK7.out) HRT.out).mono ?_; rintro e w8 ⟨rfl, hk8⟩; rw [HPO.out]; have HK8 := hide1 (gtrans HK7.out hk8); clear hk8 f0 f1 f2 f3 f4 f5))
        go_ret2
        exact ⟨by rw [HP.out, HC.out]; rfl, HK8.out⟩
    · have HRT : Hid (rightP (n + 1) p = false) := by show _ = _; simpa using hr
      rw [if_neg hr] at HC
      clear hr
      go_wp2_with (first
        | (go_at_call 33; refine (bounds_is S n p _ _ (HK.out.kept ((Kept.refl w).alloc _ _)) (fun b hb => Nat.lt_of_lt_of_le (HS.out b hb) ((Kept.refl w).alloc _ _).size)).mono ?_; rintro e w6 ⟨rfl, hk6⟩; rw [HBO.out]; have HK6 := hide1 (gtrans ((Kept.refl w).alloc _ _) hk6); have d0 := grown_cell hk6 HB.out.1; have d1 := grown_cell hk6 HB.out.2.1; have d2 := grown_cell hk6 HB.out.2.2.1; have d3 := grown_cell hk6 HB.out.2.2.2.1; have d4 := grown_cell hk6 HB.out.2.2.2.2.1; have d5 := grown_cell hk6 HB.out.2.2.2.2.2; clear hk6)
        | (go_at_call 34; refine (right_is S n p _ _ (HK.out.kept HK6.out)).mono ?_; rintro e w7 ⟨rfl, hk7⟩; rw [HRT.out]; have HK7 := hide1 (gtrans HK6.out hk7); have f0 := grown_cell hk7 d0; have f1 := grown_cell hk7 d1; have f2 := grown_cell hk7 d2; have f3 := grown_cell hk7 d3; have f4 := grown_cell hk7 d4; have f5 := grown_cell hk7 d5; clear hk7 d0 d1 d2 d3 d4 d5))
      go_ret2
      exact ⟨by rw [HP.out, HC.out]; rfl, HK7.out⟩
  · have eb : (bo != 0) = true := by simpa using hb0
    rw [if_neg hb0] at HC
    have HZ := hide1 hb0
    clear hb0
    go_wp2_with (go_at_call 33; refine (bounds_is S n p _ _ (HK.out.kept ((Kept.refl w).alloc _ _)) (fun b hb => Nat.lt_of_lt_of_le (HS.out b hb) ((Kept.refl w).alloc _ _).size)).mono ?_; rintro e w6 ⟨rfl, hk6⟩; rw [HBO.out]; have HK6 := hide1 (gtrans ((Kept.refl w).alloc _ _) hk6); have d0 := grown_cell hk6 HB.out.1; have d1 := grown_cell hk6 HB.out.2.1; have d2 := grown_cell hk6 HB.out.2.2.1; have d3 := grown_cell hk6 HB.out.2.2.2.1; have d4 := grown_cell hk6 HB.out.2.2.2.2.1; have d5 := grown_cell hk6 HB.out.2.2.2.2.2; clear hk6)
    go_ret2
    exact ⟨by rw [HP.out, HC.out, if_neg HZ.out]; rfl, HK6.out⟩

end Ex
end Go.Proofs.YtfajoknacfjedaaGreatDoor
namespace Go.Proofs.YtfajoknacfjedaaGreatDoor
open Go.RowKit
attribute [local go_sem] Oper.semAt_some
namespace Ex

set_option linter.unusedSimpArgs false in
set_option maxRecDepth 100000 in
set_option maxHeartbeats 4000000 in
theorem Check_is (S : Nat → Prop) (n : Nat) (p : PatN (n + 1)) (v : Value) (w : World) (h : KidsAt S w n (kids p) v) (hS : ∀ b, S b → b < w.heap.size) :
    Calls Tryz.prog 14 #[valOf p v] w fun e w' => e = .returned (.int .i64 (checkP p)) ∧ Kept w w' := by
  have HK := hide1 h
  have HS := hide1 hS
  obtain ⟨a, cap, rfl⟩ := h.form
  obtain ⟨b0, b1, b2, b3, b4, b5⟩ := box_at w (.int .i64 (kind p)) (.int .i64 (from_ p)) (.int .i64 (to_ p)) (.int .i64 (min_ p)) (.int .i64 (max_ p)) (.slice a (kids p).length cap) 24
  have HB := hide1 (And.intro b0 (And.intro b1 (And.intro b2 (And.intro b3 (And.intro b4 b5)))))
  clear b0 b1 b2 b3 b4 b5
  rw [valOf_eq]
  clear h hS
  go_enter Tryz.func14, Tryz.ntmps14
  go_wp2_with (go_at_call 24; refine (Positions_is S n p _ _ (HK.out.kept ((Kept.refl w).alloc _ _)) (fun b hb => Nat.lt_of_lt_of_le (HS.out b hb) ((Kept.refl w).alloc _ _).size)).mono ?_; rintro e w6 ⟨rfl, hk6⟩; have HK6 := hide1 (gtrans ((Kept.refl w).alloc _ _) hk6); clear hk6)
  go_ret
  exact ⟨rfl, HK6.out⟩

theorem check_right {n : Nat} {p : PatN (n + 1)} (h : checkP p = 0) : rightP (n + 1) p = true := by
  unfold checkP at h
  split at h
  · split at h
    · assumption
    · cases h
  · exact absurd h (by assumption)

/-- Does it match the empty text (P202)? -/
def emptyTop {n : Nat} (p : PatN (n + 1)) : Bool := checkP p == 0 && emptyP (n + 1) p

set_option linter.unusedSimpArgs false in
set_option maxRecDepth 100000 in
set_option maxHeartbeats 4000000 in
theorem Empty_is (S : Nat → Prop) (n : Nat) (p : PatN (n + 1)) (v : Value) (w : World) (h : KidsAt S w n (kids p) v) (hS : ∀ b, S b → b < w.heap.size) :
    Calls Tryz.prog 25 #[valOf p v] w fun e w' => e = .returned (.bool (emptyTop p)) ∧ Kept w w' := by
  have HK := hide1 h
  have HS := hide1 hS
  obtain ⟨a, cap, rfl⟩ := h.form
  obtain ⟨b0, b1, b2, b3, b4, b5⟩ := box_at w (.int .i64 (kind p)) (.int .i64 (from_ p)) (.int .i64 (to_ p)) (.int .i64 (min_ p)) (.int .i64 (max_ p)) (.slice a (kids p).length cap) 24
  have HB := hide1 (And.intro b0 (And.intro b1 (And.intro b2 (And.intro b3 (And.intro b4 b5)))))
  clear b0 b1 b2 b3 b4 b5
  rw [valOf_eq]
  clear h hS
  have HE : Hid (emptyTop p = (checkP p == 0 && emptyP (n + 1) p)) := rfl
  go_enter Tryz.func25, Tryz.ntmps25
  by_cases hc : checkP p = 0
  · have HC := hide1 hc
    have HR := hide1 (check_right hc)
    clear hc
    go_wp2_with (first
      | (go_at_call 14; refine (Check_is S n p _ _ (HK.out.kept ((Kept.refl w).alloc _ _)) (fun b hb => Nat.lt_of_lt_of_le (HS.out b hb) ((Kept.refl w).alloc _ _).size)).mono ?_; rintro e w6 ⟨rfl, hk6⟩; rw [HC.out]; have HK6 := hide1 (gtrans ((Kept.refl w).alloc _ _) hk6); have d0 := grown_cell hk6 HB.out.1; have d1 := grown_cell hk6 HB.out.2.1; have d2 := grown_cell hk6 HB.out.2.2.1; have d3 := grown_cell hk6 HB.out.2.2.2.1; have d4 := grown_cell hk6 HB.out.2.2.2.2.1; have d5 := grown_cell hk6 HB.out.2.2.2.2.2; clear hk6)
      | (go_at_call 36; refine (empty_is S n p _ _ (HK.out.kept HK6.out) HR.out).mono ?_; rintro e w7 ⟨rfl, hk7⟩; have HK7 := hide1 (gtrans HK6.out hk7); clear hk7))
    go_ret
    exact ⟨by rw [HE.out, HC.out]; rfl, HK7.out⟩
  · have ec : (checkP p == 0) = false := by simpa using hc
    have HC := hide1 ec
    clear hc
    go_wp2_with (go_at_call 14; refine (Check_is S n p _ _ (HK.out.kept ((Kept.refl w).alloc _ _)) (fun b hb => Nat.lt_of_lt_of_le (HS.out b hb) ((Kept.refl w).alloc _ _).size)).mono ?_; rintro e w6 ⟨rfl, hk6⟩; have HK6 := hide1 (gtrans ((Kept.refl w).alloc _ _) hk6); have d0 := grown_cell hk6 HB.out.1; have d1 := grown_cell hk6 HB.out.2.1; have d2 := grown_cell hk6 HB.out.2.2.1; have d3 := grown_cell hk6 HB.out.2.2.2.1; have d4 := grown_cell hk6 HB.out.2.2.2.2.1; have d5 := grown_cell hk6 HB.out.2.2.2.2.2; clear hk6)
    go_ret
    exact ⟨by rw [HE.out, HC.out]; rfl, HK6.out⟩

end Ex
end Go.Proofs.YtfajoknacfjedaaGreatDoor
namespace Go.Proofs.YtfajoknacfjedaaGreatDoor
namespace Ex

/-- How many values a tree has. -/
def sizeP : (n : Nat) → PatN n → Int
  | 0, _ => 0
  | n + 1, p => (kids p).foldl (fun m q => m + sizeP n q) 1
/-- How deep a tree is. -/
def depthP : (n : Nat) → PatN n → Int
  | 0, _ => 0
  | n + 1, p => (kids p).foldl (fun m q => max m (1 + depthP n q)) 1
theorem sum_from {α : Type} (f : α → Int) : ∀ (L : List α) (a b : Int), L.foldl (fun m q => m + f q) (a + b) = a + L.foldl (fun m q => m + f q) b
  | [], _, _ => rfl
  | q :: L, a, b => by
    rw [List.foldl_cons, List.foldl_cons, Int.add_assoc, sum_from f L]
theorem max_from {α : Type} (f : α → Int) (d : Int) : ∀ (L : List α) (a b : Int), L.foldl (fun m q => max m (d + (1 + f q))) (max a (d + b)) = max a (d + L.foldl (fun m q => max m (1 + f q)) b)
  | [], _, _ => rfl
  | q :: L, a, b => by
    rw [List.foldl_cons, List.foldl_cons, ← max_from f d L]
    exact congrArg (fun x => L.foldl (fun m q => max m (d + (1 + f q))) x) (by omega)
theorem sum_ge {α : Type} {f : α → Int} (h : ∀ q, 0 ≤ f q) : ∀ (L : List α) (b : Int), b ≤ L.foldl (fun m q => m + f q) b
  | [], _ => Int.le_refl _
  | q :: L, b => by
    have := sum_ge h L (b + f q)
    have := h q
    rw [List.foldl_cons]
    omega
theorem size_pos : ∀ (n : Nat) (p : PatN n), 0 ≤ sizeP n p
  | 0, _ => Int.le_refl 0
  | n + 1, p => by
    have := sum_ge (size_pos n) (kids p) 1
    show 0 ≤ (kids p).foldl (fun m q => m + sizeP n q) 1
    omega
/-- What look tells of a tree: its size and its depth, or more than 4096. -/
def Tells (t : Int × Int) (x y : Int) : Prop := (x ≤ 4096 → t = (x, y)) ∧ (4096 < x → 4096 < t.1)
theorem fold_tells {n : Nat} {d : Int} (h : ∀ (q : PatN n) (s : Int × Int), s.1 ≤ 4096 → Tells (lookP n q (d + 1) s) (s.1 + sizeP n q) (max s.2 (d + depthP n q))) : ∀ (L : List (PatN n)) (s : Int × Int),
    Tells (L.foldl (stepL n d) s) (L.foldl (fun m q => m + sizeP n q) s.1) (L.foldl (fun m q => max m (d + depthP n q)) s.2)
  | [], s => ⟨fun _ => rfl, fun h => h⟩
  | q :: L, s => by
    have ih := fold_tells h L (stepL n d s q)
    rw [List.foldl_cons, List.foldl_cons, List.foldl_cons]
    by_cases hs : 4096 < s.1
    · have e : stepL n d s q = s := by unfold stepL; rw [if_pos hs]
      rw [e, fold_stop L s hs]
      have h1 := sum_ge (size_pos n) L (s.1 + sizeP n q)
      have h2 := size_pos n q
      exact ⟨fun h => absurd h (by omega), fun _ => hs⟩
    · have e : stepL n d s q = lookP n q (d + 1) s := by unfold stepL; rw [if_neg hs]
      have hq := h q s (by omega)
      rw [← e] at hq
      by_cases hb : s.1 + sizeP n q ≤ 4096
      · rw [hq.1 hb] at ih ⊢
        exact ih
      · have h1 := sum_ge (size_pos n) L (s.1 + sizeP n q)
        have h2 := hq.2 (by omega)
        refine ⟨fun h => absurd h (by omega), fun _ => ?_⟩
        rw [fold_stop L _ h2]
        exact h2
theorem look_tells : ∀ (n : Nat) (q : PatN n) (d : Int) (s : Int × Int), s.1 ≤ 4096 → Tells (lookP n q (d + 1) s) (s.1 + sizeP n q) (max s.2 (d + depthP n q))
  | 0, q, _, _, _ => (show Empty from q).elim
  | n + 1, q, d, s, _ => by
    have h := fold_tells (d := d + 1) (fun q s hs => look_tells n q (d + 1) s hs) (kids q) (s.1 + 1, max s.2 (d + 1))
    rw [look_eq]
    have e1 : (kids q).foldl (fun m q => m + sizeP n q) (s.1 + 1) = s.1 + sizeP (n + 1) q := sum_from (sizeP n) (kids q) s.1 1
    have e2 : (kids q).foldl (fun m q => max m (d + (1 + depthP n q))) (max s.2 (d + 1)) = max s.2 (d + depthP (n + 1) q) := max_from (depthP n) d (kids q) s.2 1
    have e3 : (fun (m : Int) (q : PatN n) => max m (d + 1 + depthP n q)) = fun m q => max m (d + (1 + depthP n q)) := by funext m q; rw [Int.add_assoc]
    dsimp only at h
    rw [e1, e3, e2] at h
    exact h
theorem depth_pos (n : Nat) (p : PatN (n + 1)) : 1 ≤ depthP (n + 1) p := by
  have h := max_from (depthP n) 0 (kids p) 1 1
  have e : (fun (m : Int) (q : PatN n) => max m (0 + (1 + depthP n q))) = fun m q => max m (1 + depthP n q) := by funext m q; rw [Int.zero_add]
  rw [e] at h
  show 1 ≤ (kids p).foldl (fun m q => max m (1 + depthP n q)) 1
  rw [Int.zero_add, Int.zero_add, Int.max_self] at h
  omega
/-- bounds, in words: more than 4096 values, else more than 64 levels. -/
theorem bounds_eq {n : Nat} (p : PatN (n + 1)) : boundsP p = if 4096 < sizeP (n + 1) p then 2 else if 64 < depthP (n + 1) p then 5 else 0 := by
  have h := look_tells (n + 1) p 0 (0, 0) (by decide)
  have hd := depth_pos n p
  unfold Tells at h
  simp only [Int.zero_add] at h
  unfold boundsP
  by_cases hb : 4096 < sizeP (n + 1) p
  · rw [if_pos (h.2 hb), if_pos hb]
  · rw [h.1 (by omega), if_neg hb, if_neg hb]
    dsimp only
    rw [show max 0 (depthP (n + 1) p) = depthP (n + 1) p from by omega]

end Ex
end Go.Proofs.YtfajoknacfjedaaGreatDoor
namespace Go.Proofs.YtfajoknacfjedaaGreatDoor
open Go.RowKit
namespace Ex

/-- All values of a row of trees. -/
def sizesP (n : Nat) : List (PatN n) → Int
  | [] => 0
  | q :: l => sizeP n q + sizesP n l
/-- The deepest of a row of trees. -/
def deepsP (n : Nat) : List (PatN n) → Int
  | [] => 0
  | q :: l => max (depthP n q) (deepsP n l)
/-- The next level. -/
def nextP {n : Nat} (l : List (PatN (n + 1))) : List (PatN n) := l.flatMap kids
theorem foldl_sizes (n : Nat) : ∀ (L : List (PatN n)) (b : Int), L.foldl (fun m q => m + sizeP n q) b = b + sizesP n L
  | [], b => by show b = b + 0; omega
  | q :: L, b => by
    rw [List.foldl_cons, foldl_sizes n L]
    show b + sizeP n q + sizesP n L = b + (sizeP n q + sizesP n L)
    omega
theorem foldl_deeps (n : Nat) : ∀ (L : List (PatN n)) (b : Int), 1 ≤ b → L.foldl (fun m q => max m (1 + depthP n q)) b = max b (1 + deepsP n L)
  | [], b, h => by show b = max b (1 + 0); omega
  | q :: L, b, h => by
    rw [List.foldl_cons, foldl_deeps n L _ (by omega)]
    show max (max b (1 + depthP n q)) (1 + deepsP n L) = max b (1 + max (depthP n q) (deepsP n L))
    omega
theorem size_succ {n : Nat} (p : PatN (n + 1)) : sizeP (n + 1) p = 1 + sizesP n (kids p) := foldl_sizes n (kids p) 1
theorem deeps_pos (n : Nat) : ∀ L : List (PatN n), 0 ≤ deepsP n L
  | [] => Int.le_refl 0
  | q :: L => by have := deeps_pos n L; show 0 ≤ max _ (deepsP n L); omega
theorem depth_succ {n : Nat} (p : PatN (n + 1)) : depthP (n + 1) p = 1 + deepsP n (kids p) := by
  have h := foldl_deeps n (kids p) 1 (by omega)
  have h2 := deeps_pos n (kids p)
  show (kids p).foldl (fun m q => max m (1 + depthP n q)) 1 = _
  rw [h]
  omega
theorem sizes_app (n : Nat) : ∀ a b : List (PatN n), sizesP n (a ++ b) = sizesP n a + sizesP n b
  | [], b => by show sizesP n b = 0 + sizesP n b; omega
  | q :: a, b => by
    have := sizes_app n a b
    show sizeP n q + sizesP n (a ++ b) = sizeP n q + sizesP n a + sizesP n b
    omega
theorem deeps_app (n : Nat) : ∀ a b : List (PatN n), deepsP n (a ++ b) = max (deepsP n a) (deepsP n b)
  | [], b => by have := deeps_pos n b; show deepsP n b = max 0 (deepsP n b); omega
  | q :: a, b => by
    have := deeps_app n a b
    show max (depthP n q) (deepsP n (a ++ b)) = max (max (depthP n q) (deepsP n a)) (deepsP n b)
    omega
theorem sizes_next {n : Nat} : ∀ L : List (PatN (n + 1)), sizesP (n + 1) L = (L.length : Int) + sizesP n (nextP L)
  | [] => rfl
  | q :: L => by
    have h := sizes_next L
    have h1 := size_succ q
    have h2 : sizesP n (nextP (q :: L)) = sizesP n (kids q) + sizesP n (nextP L) := sizes_app n (kids q) (nextP L)
    show sizeP (n + 1) q + sizesP (n + 1) L = _
    rw [List.length_cons, h2]
    omega
theorem deeps_next {n : Nat} : ∀ L : List (PatN (n + 1)), L ≠ [] → deepsP (n + 1) L = 1 + deepsP n (nextP L)
  | [], h => absurd rfl h
  | q :: L, _ => by
    have h1 := depth_succ q
    have h2 : deepsP n (nextP (q :: L)) = max (deepsP n (kids q)) (deepsP n (nextP L)) := deeps_app n (kids q) (nextP L)
    have h3 := deeps_pos n (kids q)
    show max (depthP (n + 1) q) (deepsP (n + 1) L) = _
    rw [h2]
    by_cases hL : L = []
    · subst hL
      show max (depthP (n + 1) q) 0 = 1 + max (deepsP n (kids q)) 0
      omega
    · have h := deeps_next L hL
      omega
theorem sizes_pos (n : Nat) : ∀ L : List (PatN n), 0 ≤ sizesP n L
  | [] => Int.le_refl 0
  | q :: L => by have := sizes_pos n L; have := size_pos n q; show 0 ≤ sizeP n q + sizesP n L; omega
theorem sizes_len {n : Nat} (L : List (PatN n)) : (L.length : Int) ≤ sizesP n L := by
  cases n with
  | zero => rw [none_of L]; exact Int.le_refl 0
  | succ n => have := sizes_next L; have := sizes_pos n (nextP L); omega
/-- Trees of one level as patterns. -/
def ups {n : Nat} (l : List (PatN (n + 1))) : List Pat := l.map fun q => (⟨n, q⟩ : Pat)
theorem ups_app {n : Nat} (a b : List (PatN (n + 1))) : ups (a ++ b) = ups a ++ ups b := List.map_append ..
theorem ups_len {n : Nat} (a : List (PatN (n + 1))) : (ups a).length = a.length := List.length_map ..
theorem fit_self : ∀ (n : Nat) (l : List (PatN n)), fitL n n l = l
  | 0, l => by rw [none_of l]; rfl
  | n + 1, l => by
    show l.map (fun p => (show PatN (n + 1) from (kind p, from_ p, to_ p, min_ p, max_ p, fitL n n (kids p)))) = l
    have : (fun p : PatN (n + 1) => (show PatN (n + 1) from (kind p, from_ p, to_ p, min_ p, max_ p, fitL n n (kids p)))) = id := by
      funext p
      rw [fit_self n (kids p)]
      rfl
    rw [this, List.map_id]
theorem kidsOf_ups {n : Nat} : ∀ l : List (PatN (n + 1)), kidsOf (n + 1) (ups l) = l
  | [] => rfl
  | q :: l => by
    have h := kidsOf_ups l
    have e : kidsOf (n + 1) (ups (q :: l)) = fitL (n + 1) (n + 1) [q] ++ kidsOf (n + 1) (ups l) := rfl
    rw [e, h, fit_self]
    rfl
theorem top_ups {n : Nat} : ∀ l : List (PatN (n + 1)), topL (ups l) ≤ n + 1
  | [] => Nat.zero_le _
  | q :: l => by
    have := top_ups l
    show max (n + 1) (topL (ups l)) ≤ n + 1
    omega
theorem FlatAt.app {S : Nat → Prop} {w : World} : ∀ {l m : List Pat} {xs ys : List Value}, FlatAt S w l xs → FlatAt S w m ys → FlatAt S w (l ++ m) (xs ++ ys)
  | [], m, xs, ys, h, hm => by
    rw [show xs = [] from h]
    exact hm
  | q :: l, m, xs, ys, ⟨u', zs, h1, h2, h3⟩, hm => by
    rw [h1]
    exact ⟨u', zs ++ ys, rfl, h2, FlatAt.app h3 hm⟩
/-- The cells of a list that lies in memory. -/
theorem row_flat {S : Nat → Prop} {w : World} {n c : Nat} : ∀ (l : List (PatN (n + 1))) (o : Nat), (∀ (i : Nat) (q : PatN (n + 1)), l[i]? = some q → ∃ v',
      w.cell? ⟨c, o + i * 6, none⟩ = some (.int .i64 (kind q)) ∧ w.cell? ⟨c, o + i * 6 + 1, none⟩ = some (.int .i64 (from_ q)) ∧ w.cell? ⟨c, o + i * 6 + 2, none⟩ = some (.int .i64 (to_ q)) ∧
      w.cell? ⟨c, o + i * 6 + 3, none⟩ = some (.int .i64 (min_ q)) ∧ w.cell? ⟨c, o + i * 6 + 4, none⟩ = some (.int .i64 (max_ q)) ∧ w.cell? ⟨c, o + i * 6 + 5, none⟩ = some v' ∧ KidsAt S w n (kids q) v') →
    ∃ xs, FlatAt S w (ups l) xs ∧ ∀ j u, xs[j]? = some u → w.cell? ⟨c, o + j, none⟩ = some u
  | [], _, _ => ⟨[], rfl, fun j u h => by simp at h⟩
  | q :: l, o, h => by
    obtain ⟨v', g0, g1, g2, g3, g4, g5, g6⟩ := h 0 q rfl
    obtain ⟨xs, hx1, hx2⟩ := row_flat l (o + 6) (fun i q' hq => by
      obtain ⟨v', k0, k1, k2, k3, k4, k5, k6⟩ := h (i + 1) q' (by rw [List.getElem?_cons_succ]; exact hq)
      rw [show o + (i + 1) * 6 = o + 6 + i * 6 by omega] at k0 k1 k2 k3 k4 k5
      exact ⟨v', k0, k1, k2, k3, k4, k5, k6⟩)
    rw [Nat.zero_mul, Nat.add_zero] at g0 g1 g2 g3 g4 g5
    refine ⟨_, ⟨v', xs, rfl, g6, hx1⟩, fun j u hj => ?_⟩
    match j, hj with
    | 0, hj => rw [← Option.some.inj hj]; exact g0
    | 1, hj => rw [← Option.some.inj hj]; exact g1
    | 2, hj => rw [← Option.some.inj hj]; exact g2
    | 3, hj => rw [← Option.some.inj hj]; exact g3
    | 4, hj => rw [← Option.some.inj hj]; exact g4
    | 5, hj => rw [← Option.some.inj hj]; exact g5
    | j + 6, hj =>
      have := hx2 j u (by simpa using hj)
      rwa [show o + 6 + j = o + (j + 6) by omega] at this
theorem FlatAt.plain {S : Nat → Prop} {w : World} : ∀ {l : List Pat} {xs : List Value}, FlatAt S w l xs → ∀ y ∈ xs, (∃ z, y = .int .i64 z) ∨ ∃ a l c, y = .slice a l c
  | [], xs, h, y, hy => by rw [show xs = [] from h] at hy; cases hy
  | q :: l, xs, ⟨u', zs, h1, h2, h3⟩, y, hy => by
    rw [h1] at hy
    simp only [List.mem_cons] at hy
    rcases hy with rfl | rfl | rfl | rfl | rfl | rfl | hy
    · exact .inl ⟨_, rfl⟩
    · exact .inl ⟨_, rfl⟩
    · exact .inl ⟨_, rfl⟩
    · exact .inl ⟨_, rfl⟩
    · exact .inl ⟨_, rfl⟩
    · obtain ⟨a, c, h⟩ := h2.form; exact .inr ⟨_, _, _, h⟩
    · exact FlatAt.plain h3 y hy

end Ex
end Go.Proofs.YtfajoknacfjedaaGreatDoor
namespace Go.Proofs.YtfajoknacfjedaaGreatDoor
open Go.RowKit
attribute [local go_sem] Oper.semAt_some
namespace Ex

/-- The next level while it is gathered: in memory from base on, what it holds below. -/
def NextAt (w : World) (base : Nat) : (n : Nat) → List (PatN n) → Value → Prop
  | 0, _, v => v = .slice none 0 0
  | _ + 1, l, v => ∃ xs, w.ownsRow base 24 6 v l.length xs ∧ FlatAt (fun d => d < base) w (ups l) xs
theorem NextAt.nil (w : World) (base : Nat) : ∀ n, NextAt w base n [] (.slice none 0 0)
  | 0 => rfl
  | _ + 1 => ⟨[], World.ownsRow_nil _ _ _ _, rfl⟩
theorem NextAt.form {w : World} {base : Nat} : ∀ {n : Nat} {l : List (PatN n)} {v : Value}, NextAt w base n l v → ∃ a c, v = .slice a l.length c
  | 0, l, v, h => by rw [none_of l, show v = _ from h]; exact ⟨_, _, rfl⟩
  | n + 1, l, v, ⟨xs, h, _⟩ => by
    rcases h.2 with ⟨rfl, h0⟩ | ⟨g, cap, cur, rfl, _⟩
    · exact ⟨none, 0, by rw [h0]⟩
    · exact ⟨_, _, rfl⟩
theorem NextAt.kids {w : World} {base : Nat} (hb : base ≤ w.heap.size) : ∀ {n : Nat} {l : List (PatN n)} {v : Value}, NextAt w base n l v → l.length ≤ 17592186044416 → KidsAt (fun d => d < w.heap.size) w n l v
  | 0, l, v, h, _ => ⟨_, _, h⟩
  | n + 1, l, v, ⟨xs, h1, h2⟩, hl => by
    rcases h1.2 with ⟨rfl, h0⟩ | ⟨g, cap, cur, rfl, _, hg, hc, _, _, hx⟩
    · exact kids_nil _ _ _ _ _ _ (List.length_eq_zero_iff.1 h0)
    · have hh := (h2.mono (S' := fun d => d < w.heap.size) (fun _ _ _ _ h => h) (fun d h => Nat.lt_of_lt_of_le h hb)).kids (m := n + 1) (cap := cap) (row_cells hg hx) (Array.getElem?_eq_some_iff.1 hg).1 (top_ups l) (by rw [ups_len]; exact hl) (by rw [ups_len]; exact hc)
      rw [kidsOf_ups, ups_len] at hh
      exact hh
theorem run_append_none (w : World) (base n : Nat) (v : Value) (xs : List Value) (hown : w.ownsRow base 24 6 v n xs) (a : Option Addr) (cap : Nat) (ty : TypeId) :
    (Builtin.append_ #[22, 22] ty #[v, .slice a 0 cap]).run Tryz.prog w = .ok v w := by
  obtain ⟨i0, hi, hz0, hz1, hz2⟩ := info_parts expr_info
  have ht : Tryz.prog.underlying 22 = some (.slice 24) := Tryz.underlying22
  rcases hown.2 with ⟨rfl, h0⟩ | ⟨g, c, cur, rfl, _, _, hnc, _⟩
  · cases a <;> simp [Builtin.append_, run_underlying ht, sizeOf, typeInfo, hi, Builtin.lenOf, Builtin.firstCells, loadCells, loadCellsFrom, Result.andThen]
  · cases a <;> simp [Builtin.append_, run_underlying ht, sizeOf, typeInfo, hi, Builtin.lenOf, Builtin.firstCells, hnc, storeCells, loadCells, loadCellsFrom, Result.andThen]
theorem NextAt.owns {w : World} {base : Nat} : ∀ {n : Nat} {l : List (PatN n)} {v : Value}, NextAt w base n l v → ∃ xs, w.ownsRow base 24 6 v l.length xs
  | 0, l, v, h => by rw [none_of l, show v = _ from h]; exact ⟨[], World.ownsRow_nil _ _ _ _⟩
  | _ + 1, _, _, ⟨xs, h, _⟩ => ⟨xs, h⟩
theorem KidsAt.empty {S : Nat → Prop} {w : World} {n : Nat} {l : List (PatN n)} {v : Value} (h : KidsAt S w n l v) (h0 : l = []) : ∃ a c, v = .slice a 0 c := by
  obtain ⟨a, c, h⟩ := h.form
  rw [h0] at h
  exact ⟨a, c, h⟩
theorem wpl_append_next {ops : Array Oper} {rest : List Oper} {o : Oper} {a : Act} {Q : Exit → Act → World → Prop} (hgd : o.guard = none) (s x : Operand)
    (ho : o.op = .call { callee := .builtin .append, args := #[s, x], argTypes := #[22, 22] }) (W : World) (base n : Nat) (v xv : Value) (l ks : List (PatN n)) (m : Nat) (hm : l.length + ks.length = m) (hs : a.eval s = v) (hx : a.eval x = xv)
    (hown : NextAt W base n l v) (hk : KidsAt (fun d => d < base) W n ks xv) (hl : l.length + ks.length ≤ 100000) (hbase : base ≤ W.heap.size)
    (h : ∀ b' cap' w', NextAt w' base n (l ++ ks) (.slice b' m cap') → W.grownBy w' v.ownBlock → wpList Tryz.prog ops Q rest (a.put o.dst (.slice b' m cap')) w') : wpList Tryz.prog ops Q (o :: rest) a W := by
  subst hm
  by_cases h0 : ks = []
  · subst h0
    obtain ⟨a', c', rfl⟩ := hk.empty rfl
    obtain ⟨xs, h1⟩ := hown.owns
    have hr := run_append_none W base _ v xs h1 a' c' o.type
    obtain ⟨b', c', rfl⟩ := hown.form
    have h' := h b' c' W (by rw [List.append_nil]; exact hown) (World.grownBy.refl _ _)
    exact Lib.wpList_append_run W hgd s x _ _ ho _ _ hs hx _ W hr h'
  · cases n with
    | zero => exact absurd (none_of ks) h0
    | succ n =>
      obtain ⟨i0, hi, hz0, hz1, hz2⟩ := info_parts expr_info
      obtain ⟨xs, h1, h2⟩ := hown
      obtain ⟨a', c', rfl, hc, _, hk4⟩ := hk
      rcases hk4 with hk4 | ⟨c, o', rfl, hcb, hk7⟩
      · exact absurd hk4 h0
      · obtain ⟨ys, hy1, hy2⟩ := row_flat ks o' hk7
        have hpos : 0 < ks.length := List.length_pos_iff.2 h0
        refine wpList_append_lies W hgd s x 22 ho base 24 i0 _ 6 64 Tryz.underlying22 hi hz0 hz1 hz2 rfl (by decide) v l.length xs hs h1 ⟨c, o', none⟩ ks.length c' ys hx ?_ ?_ ?_ hpos (by unfold maxLen; omega) (by omega) hbase W.heap.size rfl ?_
        · rw [hy1.len, ups_len]
        · intro j u hj
          rw [Addr.add_mid]
          exact hy2 j u hj
        · intro u hu
          rcases hy1.plain u hu with ⟨z, rfl⟩ | ⟨a, l, c, rfl⟩ <;> rfl
        · intro g cap w' h3 h4 h5 h6
          refine h _ _ w' ⟨xs ++ ys, by rw [List.length_append]; exact h3, ?_⟩ h4
          rw [ups_app]
          refine (h2.app hy1).mono ?_ (fun _ h => h)
          intro d o'' v' hd hcell
          exact h4.cell hcell (fun e => by have := (h1.lt d e.symm).1; omega)

end Ex
end Go.Proofs.YtfajoknacfjedaaGreatDoor
namespace Go.Proofs.YtfajoknacfjedaaGreatDoor
open Go.RowKit
attribute [local go_sem] Oper.semAt_some
namespace Ex

theorem next_snoc {m : Nat} {L : List (PatN (m + 1))} {j : Nat} {q : PatN (m + 1)} (hq : L[j]? = some q) : nextP (L.take (j + 1)) = nextP (L.take j) ++ kids q := by
  obtain ⟨hj, rfl⟩ := List.getElem?_eq_some_iff.1 hq
  rw [List.take_succ_eq_append_getElem hj]
  unfold nextP
  rw [List.flatMap_append]
  simp
theorem next_le {m : Nat} (L : List (PatN (m + 1))) (j : Nat) : (nextP (L.take j)).length ≤ (nextP L).length := by
  have h : nextP L = nextP (L.take j) ++ nextP (L.drop j) := by
    unfold nextP
    rw [← List.flatMap_append, List.take_append_drop]
  rw [h, List.length_append]
  omega
theorem KidsAt.short {S : Nat → Prop} {w : World} : ∀ {n : Nat} {l : List (PatN n)} {v : Value}, KidsAt S w n l v → l.length ≤ 17592186044416
  | 0, l, _, _ => by rw [none_of l]; exact Nat.zero_le _
  | _ + 1, _, _, ⟨_, _, _, _, h, _⟩ => h
theorem Kept.grownN {w0 w w' : World} {m : Nat} {l : List (PatN m)} {v : Value} (h : Kept w0 w) (ho : NextAt w w0.heap.size m l v) (hg : w.grownBy w' v.ownBlock) : Kept w0 w' := by
  obtain ⟨xs, h1⟩ := ho.owns
  exact ⟨hg.os.trans h.1, hg.tape.trans h.2.1, hg.output.trans h.2.2.1, Nat.le_trans h.size hg.size, fun k hk => (hg.block k (Nat.lt_of_lt_of_le hk h.size) (fun e => by have := (h1.lt k e.symm).1; omega)).trans (h.2.2.2.2 k hk)⟩
/-- Guard between two levels. -/
def GdR (w : World) {n : Nat} (p : PatN (n + 1)) (lv cv dv : Value) (wr : World) : Prop :=
  ∃ (m : Nat) (L : List (PatN (m + 1))) (a1 : Option Addr) (cap1 : Nat) (c d : Int), lv = .slice a1 L.length cap1 ∧ cv = .int .i64 c ∧ dv = .int .i64 d ∧ 1 ≤ c ∧ c ≤ 4096 ∧ 1 ≤ d ∧ d ≤ c ∧ L ≠ [] ∧ KidsAt (fun b => b < wr.heap.size) wr (m + 1) L (.slice a1 L.length cap1) ∧ Kept w wr ∧
    sizeP (n + 1) p = c - (L.length : Int) + sizesP (m + 1) L ∧ depthP (n + 1) p = d - 1 + deepsP (m + 1) L
/-- Guard within a level. -/
def GdI (w0 : World) {m : Nat} (L : List (PatN (m + 1))) (c : Int) (cv nv iv : Value) (wr : World) : Prop :=
  ∃ (j k : Nat) (a2 : Option Addr) (cap2 : Nat) (c1 : Int), cv = .int .i64 c1 ∧ nv = .slice a2 k cap2 ∧ iv = .int .i64 (j : Int) ∧ (nextP (L.take j)).length = k ∧ c1 = c + (k : Int) ∧ c1 ≤ 4096 ∧ j ≤ L.length ∧ NextAt wr w0.heap.size m (nextP (L.take j)) (.slice a2 k cap2) ∧ Kept w0 wr
theorem gd_long {n m : Nat} {p : PatN (n + 1)} {L : List (PatN (m + 1))} {j : Nat} {q : PatN (m + 1)} {c : Int} (hs : sizeP (n + 1) p = c - (L.length : Int) + sizesP (m + 1) L) (hq : L[j]? = some q) (hb : 4096 < c + ((nextP (L.take j)).length : Int) + ((kids q).length : Int)) : boundsP p = 2 := by
  have h1 := sizes_next L
  have h2 := sizes_len (nextP L)
  have h3 := next_le L (j + 1)
  rw [next_snoc hq, List.length_append] at h3
  rw [bounds_eq, if_pos (by omega)]
theorem gd_end {n m : Nat} {p : PatN (n + 1)} {L : List (PatN (m + 1))} {c d : Int} (hL : L ≠ []) (hs : sizeP (n + 1) p = c - (L.length : Int) + sizesP (m + 1) L) (hd : depthP (n + 1) p = d - 1 + deepsP (m + 1) L) (h0 : (nextP L).length = 0) (hc : c ≤ 4096) : boundsP p = if 64 < d then 5 else 0 := by
  have h1 := sizes_next L
  have h2 := deeps_next L hL
  rw [List.length_eq_zero_iff.1 h0] at h1 h2
  have e1 : sizesP m ([] : List (PatN m)) = 0 := rfl
  have e2 : deepsP m ([] : List (PatN m)) = 0 := rfl
  rw [bounds_eq, if_neg (by omega), show depthP (n + 1) p = d by omega]
theorem gd_next {w w0 w1 : World} {n m : Nat} {p : PatN (n + 1)} {L : List (PatN (m + 1))} {a2 : Option Addr} {k cap2 : Nat} {c d : Int} (hk : Kept w w0) (hL : L ≠ []) (hs : sizeP (n + 1) p = c - (L.length : Int) + sizesP (m + 1) L) (hd : depthP (n + 1) p = d - 1 + deepsP (m + 1) L)
    (hN : (nextP L).length = k) (hN2 : NextAt w1 w0.heap.size m (nextP L) (.slice a2 k cap2)) (hk1 : Kept w0 w1) (h0 : k ≠ 0) (hc : c + (k : Int) ≤ 4096) (hc1 : 1 ≤ c) (hd1 : 1 ≤ d) (hdc : d ≤ c) :
    GdR w p (.slice a2 k cap2) (.int .i64 (c + (k : Int))) (.int .i64 (d + 1)) w1 := by
  have h1 := sizes_next L
  have h2 := deeps_next L hL
  cases m with
  | zero => rw [none_of (nextP L)] at hN; exact absurd hN.symm h0
  | succ m =>
    subst hN
    refine ⟨m, nextP L, a2, cap2, c + ((nextP L).length : Int), d + 1, rfl, rfl, rfl, by omega, hc, by omega, by omega, fun e => h0 (by rw [e]; rfl), hN2.kids hk1.size (by omega), gtrans hk hk1, by omega, by omega⟩

set_option linter.unusedSimpArgs false in
set_option maxRecDepth 100000 in
set_option maxHeartbeats 4000000 in
theorem Guard_is (S : Nat → Prop) (n : Nat) (p : PatN (n + 1)) (v : Value) (w : World) (h : KidsAt S w n (kids p) v) :
    Calls Tryz.prog 28 #[valOf p v] w fun e w' => e = .returned (.int .i64 (boundsP p)) ∧ Kept w w' := by
  have HK := hide1 h
  obtain ⟨a, cap, rfl⟩ := h.form
  rw [valOf_eq]
  clear h
  go_enter Tryz.func28, Tryz.ntmps28
  go_wp2_with fail
  go_loopw [3, 4, 5] (fun lv cv dv wr => GdR w p lv cv dv wr) (fun _ cv _ _ => (4097 - intOf cv).toNat)
  case atStart =>
    have h2 := BoxAt.new (w.alloc (.cells #[.int .i64 (kind p), .int .i64 (from_ p), .int .i64 (to_ p), .int .i64 (min_ p), .int .i64 (max_ p), .slice a (kids p).length cap] 24)) (.int .i64 (kind p)) (.int .i64 (from_ p)) (.int .i64 (to_ p)) (.int .i64 (min_ p)) (.int .i64 (max_ p)) (.slice a (kids p).length cap)
    obtain ⟨⟨b0, b1, b2, b3, b4, b5⟩, _⟩ := h2.facts
    have hk2 := ((Kept.refl w).alloc #[.int .i64 (kind p), .int .i64 (from_ p), .int .i64 (to_ p), .int .i64 (min_ p), .int .i64 (max_ p), .slice a (kids p).length cap] 24).alloc #[.int .i64 (kind p), .int .i64 (from_ p), .int .i64 (to_ p), .int .i64 (min_ p), .int .i64 (max_ p), .slice a (kids p).length cap] 24
    have hlt := h2.lt
    have hsz := World.size_alloc w (.cells #[.int .i64 (kind p), .int .i64 (from_ p), .int .i64 (to_ p), .int .i64 (min_ p), .int .i64 (max_ p), .slice a (kids p).length cap] 24)
    rw [hsz] at b0 b1 b2 b3 b4 b5 hlt
    refine ⟨n, [p], some ⟨w.heap.size + 1, 0, none⟩, 1, 1, 1, rfl, rfl, rfl, by omega, by omega, by omega, by omega, by simp, ⟨_, _, rfl, Nat.le_refl _, by simp, Or.inr ⟨w.heap.size + 1, 0, rfl, hlt, ?_⟩⟩, hk2, ?_, ?_⟩
    · intro i q hq
      match i, hq with
      | 0, hq =>
        obtain rfl : p = q := Option.some.inj hq
        exact ⟨_, b0, b1, b2, b3, b4, b5, KidsAt.mono (fun _ _ _ _ h => h) (fun d hd => hd.2) _ _ _ (KidsAt.tight _ _ _ (HK.out.kept hk2))⟩
      | i + 1, hq => simp at hq
    · show _ = 1 - ((1 : Nat) : Int) + (sizeP (n + 1) p + 0)
      omega
    · show _ = 1 - 1 + max (depthP (n + 1) p) 0
      have := depth_pos n p
      omega
  case round =>
    obtain ⟨w0, rfl⟩ : ∃ w0, w0 = wr := ⟨wr, rfl⟩
    obtain ⟨m, L, a1, cap1, c, d, rfl, rfl, rfl, hc1, hc2, hd1, hd2, hL, hk, hkw, hs, hd⟩ := hrel
    have HL := hide1 hL
    have HKL := hide1 hk
    have HKW := hide1 hkw
    have HSZ := hide1 hs
    have HDP := hide1 hd
    obtain ⟨_, _, e1, hl1, hl2, _⟩ := hk
    simp only [Value.slice.injEq] at e1
    obtain ⟨rfl, _, rfl⟩ := e1
    have gl : (L.length : Int) ≤ 17592186044416 := by omega
    have gc : (L.length : Int) ≤ (cap1 : Int) := by omega
    clear hL hkw hs hd hl1 hl2
    go_wp2_with fail
    go_loopw [4, 6, 7] (fun cv nv iv wr' => GdI w0 L c cv nv iv wr') (fun _ _ iv _ => L.length - (intOf iv).toNat)
    case atStart =>
      exact ⟨0, 0, none, 0, c, rfl, rfl, rfl, rfl, by omega, hc2, Nat.zero_le _, NextAt.nil _ _ _, Kept.refl _⟩
    case round =>
      obtain ⟨j, k, a2, cap2, c1, rfl, rfl, rfl, hN, hcc, hc41, hj, hNA, hkr⟩ := hrel
      have HN := hide1 hN
      have HNA := hide1 hNA
      have HKR := hide1 hkr
      clear hN hNA hkr
      by_cases hlt : (j : Int) < (L.length : Int)
      · obtain ⟨q, hq⟩ : ∃ q, L[j]? = some q := ⟨_, List.getElem?_eq_getElem (by omega)⟩
        obtain ⟨a5, cap5, e2, _, _, h4⟩ := HKL.out.kept HKR.out
        simp only [Value.slice.injEq] at e2
        obtain ⟨rfl, _, rfl⟩ := e2
        rcases h4 with h4 | ⟨cb, o, rfl, hSc, h7⟩
        · rw [h4] at hq; simp at hq
        · obtain ⟨v', g0, g1, g2, g3, g4, g5, g6⟩ := h7 j q hq
          obtain ⟨a3, cap3, rfl⟩ := g6.form
          have hq6 : (kids q).length ≤ 17592186044416 := KidsAt.short g6
          have gq : ((kids q).length : Int) ≤ 17592186044416 := by omega
          have HG6 := hide1 g6
          have HQ := hide1 hq
          clear h7 g6 hq g0 g1 g2 g3 g4 hq6
          by_cases hbig : 4096 < c1 + ((kids q).length : Int)
          · go_wp2_with fail
            go_ret
            exact ⟨by rw [gd_long HSZ.out HQ.out (by rw [HN.out]; omega)]; rfl, gtrans HKW.out HKR.out⟩
          · go_wp2_with (at_builtin; go_must (refine wpl_append_next rfl _ _ rfl _ w0.heap.size m _ _ (nextP (L.take j)) (kids q) (k + (kids q).length) (by rw [HN.out]) (by rfl) (by rfl) HNA.out HG6.out (by rw [HN.out]; omega) HKR.out.size ?_; intro b9 cap9 w9 ho9 hg9; have HO9 := hide1 ho9; have HG9 := hide1 hg9; clear ho9 hg9))
            refine ⟨⟨j + 1, k + (kids q).length, b9, cap9, _, rfl, rfl, by simp, ?_, by omega, by omega, by omega, ?_, HKR.out.grownN HNA.out HG9.out⟩, by simp [intOf]; omega⟩
            · rw [next_snoc HQ.out, List.length_append, HN.out]
            · rw [next_snoc HQ.out]; exact HO9.out
      · have hjl : j = L.length := by omega
        rw [hjl, List.take_length] at HN HNA
        by_cases hk0 : k = 0
        · subst hk0
          have hE := gd_end HL.out HSZ.out HDP.out HN.out hc2
          have HE := hide1 hE
          clear hE
          by_cases h64 : 64 < d
          · rw [if_pos h64] at HE
            go_wp2_with fail
            go_ret
            exact ⟨by rw [HE.out]; rfl, gtrans HKW.out HKR.out⟩
          · rw [if_neg h64] at HE
            go_wp2_with fail
            go_ret
            exact ⟨by rw [HE.out]; rfl, gtrans HKW.out HKR.out⟩
        · have hkp : (0 : Int) < (k : Int) := by omega
          have hN := gd_next HKW.out HL.out HSZ.out HDP.out HN.out HNA.out HKR.out hk0 (by omega) hc1 hd1 hd2
          rw [← hcc] at hN
          have HNX := hide1 hN
          clear hN
          go_wp2_with fail
          exact ⟨HNX.out, by simp [intOf]; omega⟩

end Ex
end Go.Proofs.YtfajoknacfjedaaGreatDoor
namespace Go.Proofs.YtfajoknacfjedaaGreatDoor
open Go.RowKit
attribute [local go_sem] Oper.semAt_some
namespace Ex

theorem sizes_mem {n : Nat} {q : PatN n} : ∀ {L : List (PatN n)}, q ∈ L → sizeP n q ≤ sizesP n L
  | x :: L, h => by
    have h1 := sizes_pos n L
    have h2 := size_pos n x
    show sizeP n q ≤ sizeP n x + sizesP n L
    rcases List.mem_cons.1 h with rfl | h
    · omega
    · have := sizes_mem h; omega
  | [], h => by cases h
/-- The cells of a new row. -/
def rowZ (M : Nat) : Array Value := madeCells (Value.agg #[.int .i64 0, .int .i64 0, .int .i64 0, .int .i64 0, .int .i64 0, .slice none 0 0]).cells (M * 6)
theorem run_row (n : Nat) (hn : n ≤ 100000) (w : World) : (Instr.makeSlice 22 (.int .i64 ((n : Int) + 1)) (.int .i64 ((n : Int) + 1))).run Tryz.prog w = .ok (.slice (some ⟨w.heap.size, 0, none⟩) (n + 1) (n + 1)) (w.alloc (.cells (rowZ (n + 1)) 24)) := by
  obtain ⟨i0, hi, hz0, hz1, hz2⟩ := info_parts expr_info
  rw [run_make (P := Tryz.prog) w 22 24 i0 _ Tryz.underlying22 hi hz0 .i64 .i64 ((n : Int) + 1) ((n : Int) + 1) (by omega) (Int.le_refl _) (by rw [hz2]; omega) (by omega), hz1]
  rfl
theorem row_new (w : World) (M : Nat) : RowAt (w.alloc (.cells (rowZ M) 24)) w.heap.size M := ⟨rowZ M, heap_alloc_new w _, size_madeCells _ _⟩
/-- The copies that are made. -/
def Items (w : World) (g : Nat) {n : Nat} (L : List (PatN (n + 1))) (j : Nat) : Prop :=
  ∀ (i : Nat) (q : PatN (n + 1)), i < j → L[i]? = some q → ∃ v',
      w.cell? ⟨g, i * 6, none⟩ = some (.int .i64 (kind q)) ∧ w.cell? ⟨g, i * 6 + 1, none⟩ = some (.int .i64 (from_ q)) ∧ w.cell? ⟨g, i * 6 + 2, none⟩ = some (.int .i64 (to_ q)) ∧
      w.cell? ⟨g, i * 6 + 3, none⟩ = some (.int .i64 (min_ q)) ∧ w.cell? ⟨g, i * 6 + 4, none⟩ = some (.int .i64 (max_ q)) ∧ w.cell? ⟨g, i * 6 + 5, none⟩ = some v' ∧ MarkAt (fun d => g < d) w n (kids q) v'
theorem Items.keep {w w' : World} {g n j : Nat} {L : List (PatN (n + 1))} (h : Items w g L j) (hk : Holds (fun d => g ≤ d) w w') : Items w' g L j := fun i q hi hq => by
  obtain ⟨v', g0, g1, g2, g3, g4, g5, g6⟩ := h i q hi hq
  exact ⟨v', hk _ _ _ (Nat.le_refl _) g0, hk _ _ _ (Nat.le_refl _) g1, hk _ _ _ (Nat.le_refl _) g2, hk _ _ _ (Nat.le_refl _) g3, hk _ _ _ (Nat.le_refl _) g4, hk _ _ _ (Nat.le_refl _) g5, MarkAt.mono (fun b o v hb hc => hk b o v (Nat.le_of_lt hb) hc) (fun _ h => h) _ _ _ g6⟩
theorem Items.put {w : World} {g n j M : Nat} {L : List (PatN (n + 1))} {q : PatN (n + 1)} {u x0 x1 x2 x3 x4 : Value} (h : Items w g L j) (hr : RowAt w g M) (hj : j + 1 ≤ M) (hq : L[j]? = some q) (hm : MarkAt (fun d => g < d) w n (kids q) u)
    (e0 : x0 = .int .i64 (kind q)) (e1 : x1 = .int .i64 (from_ q)) (e2 : x2 = .int .i64 (to_ q)) (e3 : x3 = .int .i64 (min_ q)) (e4 : x4 = .int .i64 (max_ q)) :
    Items ((((((w.setCell ⟨g, j * 6, none⟩ x0).setCell ⟨g, j * 6 + 1, none⟩ x1).setCell ⟨g, j * 6 + 2, none⟩ x2).setCell ⟨g, j * 6 + 3, none⟩ x3).setCell ⟨g, j * 6 + 4, none⟩ x4).setCell ⟨g, j * 6 + 5, none⟩ u) g L (j + 1) := by
  intro i q' hi hq'
  have hmono : ∀ (l : List (PatN n)) (v : Value), MarkAt (fun d => g < d) w n l v → MarkAt (fun d => g < d) ((((((w.setCell ⟨g, j * 6, none⟩ x0).setCell ⟨g, j * 6 + 1, none⟩ x1).setCell ⟨g, j * 6 + 2, none⟩ x2).setCell ⟨g, j * 6 + 3, none⟩ x3).setCell ⟨g, j * 6 + 4, none⟩ x4).setCell ⟨g, j * 6 + 5, none⟩ u) n l v :=
    fun l v hv => MarkAt.mono (fun b o v hb hc => (put_other (.inl (by have : g < b := hb; omega))).trans hc) (fun _ h => h) _ _ _ hv
  by_cases hij : i = j
  · subst hij
    obtain rfl : q = q' := Option.some.inj (hq.symm.trans hq')
    subst e0 e1 e2 e3 e4
    obtain ⟨g0, g1, g2, g3, g4, g5⟩ := put_cells (o := i * 6) (x0 := .int .i64 (kind q)) (x1 := .int .i64 (from_ q)) (x2 := .int .i64 (to_ q)) (x3 := .int .i64 (min_ q)) (x4 := .int .i64 (max_ q)) (x5 := u) hr (by omega)
    exact ⟨u, g0, g1, g2, g3, g4, g5, hmono _ _ hm⟩
  · obtain ⟨v', g0, g1, g2, g3, g4, g5, g6⟩ := h i q' (by omega) hq'
    exact ⟨v', (put_other (.inr (by omega))).trans g0, (put_other (.inr (by omega))).trans g1, (put_other (.inr (by omega))).trans g2, (put_other (.inr (by omega))).trans g3, (put_other (.inr (by omega))).trans g4, (put_other (.inr (by omega))).trans g5, hmono _ _ g6⟩
theorem two_new (w : World) (o : Obj) (x0 x1 x2 x3 x4 x5 : Value) : BoxAt ((w.alloc o).alloc (.cells #[x0, x1, x2, x3, x4, x5] 24)) (w.heap.size + 1) x0 x1 x2 x3 x4 x5 := by
  have h := BoxAt.new (w.alloc o) x0 x1 x2 x3 x4 x5
  rwa [World.size_alloc] at h
theorem three_new (w : World) (o : Obj) (x0 x1 x2 x3 x4 x5 : Value) (c : Array Value) (t : TypeId) : BoxAt (((w.alloc o).alloc (.cells #[x0, x1, x2, x3, x4, x5] 24)).alloc (.cells c t)) (w.heap.size + 1) x0 x1 x2 x3 x4 x5 := (two_new w o x0 x1 x2 x3 x4 x5).keep ((Kept.refl _).alloc _ _)
theorem BoxAt.set5 {w : World} {g : Nat} {x0 x1 x2 x3 x4 x5 : Value} (h : BoxAt w g x0 x1 x2 x3 x4 x5) (y : Value) : BoxAt (w.setCell ⟨g, 5, none⟩ y) g x0 x1 x2 x3 x4 y := by
  have hl : g < w.heap.size := (Array.getElem?_eq_some_iff.1 h).1
  have he : w.heap[g] = Obj.cells #[x0, x1, x2, x3, x4, x5] 24 (0, 0) := by have h' := h; unfold BoxAt at h'; rw [Array.getElem?_eq_getElem hl] at h'; exact Option.some.inj h'
  show (w.setCell ⟨g, 5, none⟩ y).heap[g]? = _
  simp [World.setCell, Array.getElem_modify, hl, he]
/-- twin between two rounds; W: the world ahead of the row. -/
def TwR (W : World) (g : Nat) {n : Nat} (L : List (PatN (n + 1))) (iv : Value) (wr : World) : Prop :=
  ∃ j : Nat, iv = .int .i64 (j : Int) ∧ j ≤ L.length ∧ Kept W wr ∧ RowAt wr g (L.length + 1) ∧ Items wr g L j

set_option linter.unusedSimpArgs false in
set_option maxRecDepth 100000 in
set_option maxHeartbeats 4000000 in
theorem twin_is (S : Nat → Prop) : ∀ (n : Nat) (p : PatN (n + 1)) (v : Value) (w : World), KidsAt S w n (kids p) v → sizeP (n + 1) p ≤ 4096 →
    Calls Tryz.prog 16 #[valOf p v] w fun e w' => Hid (∃ v2, e = .returned (valOf p v2) ∧ MarkAt (fun d => w.heap.size ≤ d) w' n (kids p) v2) ∧ Kept w w' := by
  intro n
  induction n with
  | zero =>
    intro p v w h _
    obtain ⟨a, cap, rfl⟩ := h.form
    rw [valOf_eq]
    rw [none_of (kids p)]
    clear h
    go_enter Tryz.func16, Tryz.ntmps16
    go_wp2_with fail
    refine bodyPost_ret (box_returns rfl _ _ (w.heap.size + 1) (.int .i64 (kind p)) (.int .i64 (from_ p)) (.int .i64 (to_ p)) (.int .i64 (min_ p)) (.int .i64 (max_ p)) (.slice none 0 0) rfl ?_) rfl ?_
    · exact three_new w _ _ _ _ _ _ _ _ _
    · exact ⟨⟨_, rfl, rfl⟩, (((Kept.refl w).alloc _ _).alloc _ _).alloc _ _⟩
  | succ n ih =>
    intro p v w h hsz
    have IH := hide1 ih
    have HK := hide1 h
    obtain ⟨a, cap, rfl⟩ := h.form
    obtain ⟨_, _, e1, hl1, hl2, h4z⟩ := h
    clear h4z
    simp only [Value.slice.injEq] at e1
    obtain ⟨rfl, _, rfl⟩ := e1
    rw [size_succ] at hsz
    have hln := sizes_len (kids p)
    rw [valOf_eq]
    have HV : Hid (∀ u, valOf p u = .agg #[.int .i64 (kind p), .int .i64 (from_ p), .int .i64 (to_ p), .int .i64 (min_ p), .int .i64 (max_ p), u]) := fun u => rfl
    obtain ⟨L, hL⟩ : ∃ L, kids p = L := ⟨_, rfl⟩
    rw [hL] at HK hl1 hl2 hsz hln ⊢
    have HSQ : Hid (∀ q ∈ L, sizeP (n + 1) q ≤ 4096) := fun q hq => by have := sizes_mem hq; omega
    have gl : (L.length : Int) ≤ 4095 := by omega
    have gc : (L.length : Int) ≤ (cap : Int) := by omega
    clear ih hsz hln hL hl1 hl2
    by_cases h0 : L.length = 0
    · have hz : L = [] := List.length_eq_zero_iff.1 h0
      subst hz
      clear h0
      go_enter Tryz.func16, Tryz.ntmps16
      go_wp2_with fail
      refine bodyPost_ret (box_returns rfl _ _ (w.heap.size + 1) (.int .i64 (kind p)) (.int .i64 (from_ p)) (.int .i64 (to_ p)) (.int .i64 (min_ p)) (.int .i64 (max_ p)) (.slice none 0 0) rfl ?_) rfl ?_
      · exact three_new w _ _ _ _ _ _ _ _ _
      · exact ⟨⟨_, rfl, Or.inl ⟨rfl, rfl⟩⟩, (((Kept.refl w).alloc _ _).alloc _ _).alloc _ _⟩
    · have hp0 : (0 : Int) < (L.length : Int) := by omega
      have HP0 := hide1 h0
      clear h0
      go_enter Tryz.func16, Tryz.ntmps16
      have hmk := run_row L.length (by omega)
      go_wp2_with fail
      obtain ⟨W, hW⟩ : ∃ W, ((w.alloc (.cells #[.int .i64 (kind p), .int .i64 (from_ p), .int .i64 (to_ p), .int .i64 (min_ p), .int .i64 (max_ p), .slice a L.length cap] 24)).alloc (.cells #[.int .i64 0, .int .i64 0, .int .i64 0, .int .i64 0, .int .i64 0, .slice none 0 0] 24)).alloc (.cells #[.int .i64 (kind p), .int .i64 (from_ p), .int .i64 (to_ p), .int .i64 (min_ p), .int .i64 (max_ p), .slice none 0 0] 24) = W := ⟨_, rfl⟩
      have hb0 : BoxAt W w.heap.size (.int .i64 (kind p)) (.int .i64 (from_ p)) (.int .i64 (to_ p)) (.int .i64 (min_ p)) (.int .i64 (max_ p)) (.slice a L.length cap) := by rw [← hW]; exact (BoxAt.new w _ _ _ _ _ _).keep (((Kept.refl _).alloc _ _).alloc _ _)
      have hb1 : BoxAt W (w.heap.size + 1) (.int .i64 0) (.int .i64 0) (.int .i64 0) (.int .i64 0) (.int .i64 0) (.slice none 0 0) := by rw [← hW]; exact three_new w _ _ _ _ _ _ _ _ _
      have hb2 : BoxAt W (w.heap.size + 1 + 1) (.int .i64 (kind p)) (.int .i64 (from_ p)) (.int .i64 (to_ p)) (.int .i64 (min_ p)) (.int .i64 (max_ p)) (.slice none 0 0) := by
        have h := two_new (w.alloc (.cells #[.int .i64 (kind p), .int .i64 (from_ p), .int .i64 (to_ p), .int .i64 (min_ p), .int .i64 (max_ p), .slice a L.length cap] 24)) (.cells #[.int .i64 0, .int .i64 0, .int .i64 0, .int .i64 0, .int .i64 0, .slice none 0 0] 24) (.int .i64 (kind p)) (.int .i64 (from_ p)) (.int .i64 (to_ p)) (.int .i64 (min_ p)) (.int .i64 (max_ p)) (.slice none 0 0)
        rw [World.size_alloc, hW] at h
        exact h
      have hwk : Kept w W := by rw [← hW]; exact (((Kept.refl w).alloc _ _).alloc _ _).alloc _ _
      have hws : W.heap.size = w.heap.size + 1 + 1 + 1 := by rw [← hW]; simp
      have hdc : decide (0 < L.length) = true := decide_eq_true (by omega)
      rw [hW, hdc]
      clear hdc
      obtain ⟨g, hg⟩ : ∃ g, w.heap.size + 1 + 1 + 1 = g := ⟨_, rfl⟩
      rw [hg] at hws ⊢
      have HB0 := hide1 hb0
      have HB1 := hide1 hb1
      have HB2 := hide1 hb2
      have HWK := hide1 hwk
      have HWS := hide1 hws
      have HG := hide1 hg
      clear hb0 hb1 hb2 hwk hW hmk hg
      go_loopw [5] (fun iv wr => TwR W g L iv wr) (fun iv _ => L.length - (intOf iv).toNat)
      case atStart =>
        refine ⟨0, rfl, Nat.zero_le _, (Kept.refl W).alloc _ _, ?_, fun i q hi _ => by omega⟩
        have := row_new W (L.length + 1)
        rwa [hws] at this
      case round =>
        clear hws
        obtain ⟨j, rfl, hj, hkr, hrow, hit⟩ := hrel
        have HKR := hide1 hkr
        have HROW := hide1 hrow
        have HIT := hide1 hit
        have c5 := (HB0.out.keep hkr).facts.1.2.2.2.2.2
        clear hkr hrow hit
        by_cases hlt : (j : Int) < (L.length : Int)
        · obtain ⟨q, hq⟩ : ∃ q, L[j]? = some q := ⟨_, List.getElem?_eq_getElem (by omega)⟩
          obtain ⟨a5, cap5, e2, _, _, h4⟩ := HK.out.kept (gtrans HWK.out HKR.out)
          simp only [Value.slice.injEq] at e2
          obtain ⟨rfl, _, rfl⟩ := e2
          rcases h4 with h4 | ⟨cb, o, rfl, hSc, h7⟩
          · rw [h4] at hq; simp at hq
          · obtain ⟨v', g0, g1, g2, g3, g4, g5, g6⟩ := h7 j q hq
            obtain ⟨a3, cap3, rfl⟩ := g6.form
            have HG6 := hide1 g6
            have HQ := hide1 hq
            have HQS := hide1 (HSQ.out q (List.mem_of_getElem? hq))
            clear h7 g6 hq
            go_wp2_with (go_at_call 16; refine (IH.out q _ _ HG6.out HQS.out).mono ?_; rintro e w7 ⟨h7, hk7⟩; obtain ⟨v7, rfl, hm7⟩ := h7.out; rw [valOf_eq]; obtain ⟨a7, c7, e7⟩ := hm7.form; subst e7; have HM7 := hide1 hm7; have HK7 := hide1 hk7; have HR7 := hide1 (HROW.out.keep hk7); obtain ⟨y0, y1, y2, y3, y4, y5, ⟨k0, k1, k2, k3, k4, k5⟩, f0, f1, f2, f3, f4, f5⟩ := HR7.out.at (j := j) (by omega); clear h7 hm7 hk7)
            clear k0 k1 k2 k3 k4 k5 f0 f1 f2 f3 f4 f5 g0 g1 g2 g3 g4 g5 c5
            go_roundw
            case rel =>
              have hgl := HROW.out.lt
              exact ⟨j + 1, by go_num, by omega, put_kept (gtrans HKR.out HK7.out) (by rw [HWS.out]; exact Nat.le_refl _), put_row HR7.out, Items.put (HIT.out.keep (HK7.out.holds _)) HR7.out (by omega) HQ.out (MarkAt.mono (fun _ _ _ _ h => h) (fun d hd => Nat.lt_of_lt_of_le hgl hd) _ _ _ HM7.out) rfl rfl rfl rfl rfl⟩
            case measure => simp [intOf]; omega
        · have hjl : j = L.length := by omega
          rw [hjl] at HIT
          obtain ⟨y0, y1, y2, y3, y4, y5, ⟨k0, k1, k2, k3, k4, k5⟩, f0, f1, f2, f3, f4, f5⟩ := HROW.out.at (j := L.length) (by omega)
          go_upto_region 10 with fail
          obtain ⟨W9, hW9⟩ : ∃ W9, ((((((wr.setCell ⟨g, L.length * 6, none⟩ (.int .i64 93)).setCell ⟨g, L.length * 6 + 1, none⟩ (.int .i64 0)).setCell ⟨g, L.length * 6 + 2, none⟩ (.int .i64 0)).setCell ⟨g, L.length * 6 + 3, none⟩ (.int .i64 0)).setCell ⟨g, L.length * 6 + 4, none⟩ (.int .i64 0)).setCell ⟨g, L.length * 6 + 5, none⟩ (.slice none 0 0)) = W9 := ⟨_, rfl⟩
          have hk9 : Kept W W9 := by rw [← hW9]; exact put_kept HKR.out (by rw [HWS.out]; exact Nat.le_refl _)
          have hm9 : MarkAt (fun d => g ≤ d) W9 (n + 1) L (.slice (some ⟨g, 0, none⟩) L.length (L.length + 1)) := by
            refine Or.inr ⟨fun e => HP0.out (by rw [e]; rfl), g, rfl, by omega, Nat.le_refl _, ?_, fun i q hq => ?_⟩
            · rw [← hW9]; exact (put_cells HROW.out (by omega)).1
            · obtain ⟨v', g0, g1, g2, g3, g4, g5, g6⟩ := HIT.out i q (List.getElem?_eq_some_iff.1 hq).1 hq
              have hi := (List.getElem?_eq_some_iff.1 hq).1
              rw [← hW9]
              exact ⟨v', (put_other (.inr (by omega))).trans g0, (put_other (.inr (by omega))).trans g1, (put_other (.inr (by omega))).trans g2, (put_other (.inr (by omega))).trans g3, (put_other (.inr (by omega))).trans g4, (put_other (.inr (by omega))).trans g5, MarkAt.mono (fun b o v hb hc => (put_other (.inl (by have : g < b := hb; omega))).trans hc) (fun d hd => Nat.le_of_lt hd) _ _ _ g6⟩
          rw [hW9]
          have HK9 := hide1 hk9
          have HM9 := hide1 hm9
          clear hW9 hm9 k0 k1 k2 k3 k4 k5 f0 f1 f2 f3 f4 f5 c5
          have c5 := (HB0.out.keep hk9).facts.1.2.2.2.2.2
          have HX1 := hide1 (HB1.out.keep hk9)
          obtain ⟨⟨b0, b1, b2, b3, b4, b5⟩, z0, z1, z2, z3, z4, z5⟩ := (HB2.out.keep hk9).facts
          clear hk9
          go_upto_region 11 with fail
          obtain ⟨W10, hW10⟩ : ∃ W10, W9.setCell ⟨w.heap.size + 1 + 1, 5, none⟩ (.slice (some ⟨g, 0, none⟩) L.length (L.length + 1)) = W10 := ⟨_, rfl⟩
          have hx2 : BoxAt W10 (w.heap.size + 1 + 1) (.int .i64 (kind p)) (.int .i64 (from_ p)) (.int .i64 (to_ p)) (.int .i64 (min_ p)) (.int .i64 (max_ p)) (.slice (some ⟨g, 0, none⟩) L.length (L.length + 1)) := by rw [← hW10]; exact (HB2.out.keep HK9.out).set5 _
          have hx1 : BoxAt W10 (w.heap.size + 1) (.int .i64 0) (.int .i64 0) (.int .i64 0) (.int .i64 0) (.int .i64 0) (.slice none 0 0) := by rw [← hW10]; exact (Below.heap_setCell W9 _ _ _ (by show w.heap.size + 1 ≠ w.heap.size + 1 + 1; omega)).trans HX1.out
          have hm10 : MarkAt (fun d => g ≤ d) W10 (n + 1) L (.slice (some ⟨g, 0, none⟩) L.length (L.length + 1)) := by
            rw [← hW10]
            exact MarkAt.mono (fun b o v hb hc => (set_other (.inl (by have : g ≤ b := hb; have := HG.out; omega))).trans hc) (fun _ h => h) _ _ _ HM9.out
          have hk10 : Kept w W10 := by rw [← hW10]; exact keep_set (gtrans HWK.out HK9.out) (by omega)
          rw [hW10]
          have HX1 := hide1 hx1
          have HM10 := hide1 hm10
          have HK10 := hide1 hk10
          clear hW10 hm10 hk10 b0 b1 b2 b3 b4 b5 z0 z1 z2 z3 z4 z5 c5
          obtain ⟨⟨b0, b1, b2, b3, b4, b5⟩, _⟩ := hx2.facts
          obtain ⟨⟨d0, d1, d2, d3, d4, d5⟩, s0, s1, s2, s3, s4, s5⟩ := hx1.facts
          clear hx1 hx2
          go_wp2_with fail
          refine bodyPost_ret (box_returns rfl _ _ (w.heap.size + 1) _ _ _ _ _ _ rfl (BoxAt.set HX1.out)) rfl ?_
          refine ⟨⟨_, rfl, MarkAt.mono (set6_holds (S := fun d => g ≤ d) (by show ¬ g ≤ _; have := HG.out; omega)) (fun d hd => by have : g ≤ d := hd; have := HG.out; omega) _ _ _ HM10.out⟩, put_kept (o := 0) HK10.out (by omega)⟩

end Ex
end Go.Proofs.YtfajoknacfjedaaGreatDoor
