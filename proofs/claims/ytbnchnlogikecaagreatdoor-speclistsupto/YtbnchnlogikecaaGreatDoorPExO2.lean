import Derived.Test.YtbnchnlogikecaaGreatDoorPExO1
import Derived.Test.YtbnchnlogikecaaGreatDoorPExCl2
namespace Go.Proofs.YtbnchnlogikecaaGreatDoor
open Go.RowKit
attribute [local go_sem] Oper.semAt_some
namespace Ex
theorem PatsOwn.ranges {w : World} {base : Nat} {S : Nat → Prop} {v : Value} {l : List (Int × Int)} (h : PatsOwn w base S v (rangesP l)) : PatsU w base S v (rangesP l) := by
  obtain ⟨xs, h1, h2⟩ := h
  refine ⟨xs, h1, h2.len, fun _ _ => False, fun _ _ h => h.elim, fun _ _ _ h => h.elim, fun i p hi => ?_⟩
  obtain ⟨v', g0, g1, g2, g3, g4, g5, g6⟩ := h2.at hi
  have hi2 := hi
  unfold rangesP at hi2
  rw [List.getElem?_map] at hi2
  obtain ⟨q, _, rfl⟩ := Option.map_eq_some_iff.1 hi2
  exact ⟨v', g0, g1, g2, g3, g4, g5, g6⟩
theorem rangeU_pat (S : Nat → Prop) (w : World) (f t : Int) : PatU S w (rangeP f t) (rangeV f t) := ⟨.slice none 0 0, rfl, kidsO_nil _ _ _ _ _ _ rfl⟩
theorem endU_list {w wr : World} {l : List Pat} {v : Value} {kd : Int} (ho : PatsU wr (w.heap.size + 1) (fun d => w.heap.size < d) v l) (hl : l.length ≠ 1) (hb : l.length ≤ 100000) :
    PGivU (fun d => w.heap.size ≤ d) (oneOf kd l) (.returned (.agg #[.int .i64 kd, .int .i64 0, .int .i64 0, .int .i64 0, .int .i64 0, v])) ((((((wr.setCell ⟨w.heap.size, 0, none⟩ (.int .i64 kd)).setCell ⟨w.heap.size, 1, none⟩ (.int .i64 0)).setCell ⟨w.heap.size, 2, none⟩ (.int .i64 0)).setCell ⟨w.heap.size, 3, none⟩ (.int .i64 0)).setCell ⟨w.heap.size, 4, none⟩ (.int .i64 0)).setCell ⟨w.heap.size, 5, none⟩ v) := by
  rw [oneOf_more hl]
  exact ⟨_, rfl, v, rfl, KidsO.mono (set6_holdsU (S := fun d => w.heap.size < d) (fun h => absurd h (by omega))) (fun d h => by omega) _ _ _ (ho.kids (fun d h => by omega) (fun _ h => h) (Nat.le_refl _) (by omega))⟩
theorem endU_one {w wr : World} {p : Pat} {u : Value} {kd : Int} {x0 x1 x2 x3 x4 x5 : Value} (hk : KidsO (fun d => w.heap.size < d) wr p.1 (kids p.2) u) :
    PGivU (fun d => w.heap.size ≤ d) (oneOf kd [p]) (.returned (.agg #[.int .i64 (kind p.2), .int .i64 (from_ p.2), .int .i64 (to_ p.2), .int .i64 (min_ p.2), .int .i64 (max_ p.2), u])) ((((((wr.setCell ⟨w.heap.size, 0, none⟩ x0).setCell ⟨w.heap.size, 1, none⟩ x1).setCell ⟨w.heap.size, 2, none⟩ x2).setCell ⟨w.heap.size, 3, none⟩ x3).setCell ⟨w.heap.size, 4, none⟩ x4).setCell ⟨w.heap.size, 5, none⟩ x5) :=
  ⟨_, rfl, u, rfl, KidsO.mono (set6_holdsU (S := fun d => w.heap.size < d) (fun h => absurd h (by omega))) (fun d h => by omega) _ _ _ hk⟩
def ListU (b : Nat) (w : World) (T : ByteArray) (M : Nat → List Pat → Int × Int × Int → List Pat × Int × Int × Int) (l0 : List Pat) (s0 : Int × Int × Int) (B : Nat → Int → Int → Prop) (v : Value) (wr : World) : Prop :=
  ∃ (j : Nat) (l : List Pat) (k2 e2 f2 : Int), 0 ≤ k2 ∧ k2 ≤ (T.size : Int) ∧ l.length = l0.length + j ∧ B j k2 e2 ∧ KeptBut b w wr ∧ RAt wr b T k2 e2 f2 ∧
    BoxAt wr w.heap.size (.int .i64 0) (.int .i64 0) (.int .i64 0) (.int .i64 0) (.int .i64 0) (.slice none 0 0) ∧ PatsU wr (w.heap.size + 1) (fun d => w.heap.size < d) v l ∧ ∀ N, M (j + N) l0 s0 = M N l (k2, e2, f2)
end Ex
end Go.Proofs.YtbnchnlogikecaaGreatDoor
