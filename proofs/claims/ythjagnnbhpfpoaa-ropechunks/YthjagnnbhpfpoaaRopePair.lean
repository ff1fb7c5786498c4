import Derived.Test.YthjagnnbhpfpoaaRopeTell
namespace Go.Proofs.Ythjagnnbhpfpoaa
open Go.RowKit
namespace Rope

set_option maxRecDepth 100000 in
set_option maxHeartbeats 4000000 in
theorem pair_cells (a b : Nat) (ha hb xa ya xb yb : Int) (w : World)
    (a3 : w.cell? ⟨a, 3, none⟩ = some (.int .i64 ha)) (a4 : w.cell? ⟨a, 4, none⟩ = some (.int .i64 xa)) (a5 : w.cell? ⟨a, 5, none⟩ = some (.int .i64 ya))
    (b3 : w.cell? ⟨b, 3, none⟩ = some (.int .i64 hb)) (b4 : w.cell? ⟨b, 4, none⟩ = some (.int .i64 xb)) (b5 : w.cell? ⟨b, 5, none⟩ = some (.int .i64 yb))
    (h0 : 0 ≤ ha) (h1 : ha ≤ 1000000000) (h2 : 0 ≤ hb) (h3 : hb ≤ 1000000000)
    (h4 : 0 ≤ xa) (h5 : xa ≤ 1000000000) (h6 : 0 ≤ ya) (h7 : ya ≤ 1000000000) (h8 : 0 ≤ xb) (h9 : xb ≤ 1000000000) (h10 : 0 ≤ yb) (h11 : yb ≤ 1000000000) :
    Calls Try.prog 72 #[.pointer (some ⟨a, 0, none⟩), .pointer (some ⟨b, 0, none⟩)] w fun e w' => ∃ c, e = .returned (.pointer (some ⟨c, 0, none⟩)) ∧ w.heap.size ≤ c ∧
      w'.cell? ⟨c, 0, none⟩ = some (.pointer (some ⟨a, 0, none⟩)) ∧ w'.cell? ⟨c, 1, none⟩ = some (.pointer (some ⟨b, 0, none⟩)) ∧ w'.cell? ⟨c, 2, none⟩ = some (.slice none 0 0) ∧
      w'.cell? ⟨c, 3, none⟩ = some (.int .i64 (max ha hb + 1)) ∧ w'.cell? ⟨c, 4, none⟩ = some (.int .i64 (xa + xb)) ∧ w'.cell? ⟨c, 5, none⟩ = some (.int .i64 (ya + yb)) ∧ Plain w' c ∧ Kept w w' := by
  have la : a < w.heap.size := World.block_lt_of_cell? w _ a3
  have lb : b < w.heap.size := World.block_lt_of_cell? w _ b3
  have hmeth : ∀ (x y : Int) (w : World), (method 238 76 (.agg #[.int .i64 x, .int .i64 y]) "graft/rope.plus").run Try.prog w = .ok (99, .agg #[.int .i64 x, .int .i64 y]) w := fun _ _ _ => by kernel_rfl
  rcases Int.lt_or_le ha hb with hm | hm
  all_goals
   go_enter Try.func72, Try.ntmps72
   go_wp2
   go_region_held3 (fun w' => w'.cell? ⟨a, 3, none⟩ = some (.int .i64 ha) ∧ w'.cell? ⟨a, 4, none⟩ = some (.int .i64 xa) ∧ w'.cell? ⟨a, 5, none⟩ = some (.int .i64 ya) ∧ w'.cell? ⟨b, 3, none⟩ = some (.int .i64 hb) ∧ w'.cell? ⟨b, 4, none⟩ = some (.int .i64 xb) ∧ w'.cell? ⟨b, 5, none⟩ = some (.int .i64 yb)) (first | go_keep | (go_split_ands; exact ⟨grown_cell hg1 (by assumption), grown_cell hg1 (by assumption), grown_cell hg1 (by assumption), grown_cell hg1 (by assumption), grown_cell hg1 (by assumption), grown_cell hg1 (by assumption)⟩))
    ((go_at_call 99; refine (plus_any _ _ _ _ _ (by omega) (by omega) (by omega) (by omega) (by omega) (by omega) (by omega) (by omega)).mono ?_; rintro e w1 ⟨rfl, hg1⟩))
   all_goals
     go_wp2
     go_ret
     exact ⟨w1.heap.size, rfl, hg1.size, by simp, by simp, by simp, by rw [World.cell?_alloc_new]; exact int_some (by rw [wrap_small _ (by omega) (by omega)]; omega), by simp, by simp, fun o => by simp, Kept.alloc (W := w) hg1 _ _⟩

/-- Two parts side by side. -/
theorem pair_parts (S : Nat → Prop) (a b ha hb : Nat) (xs ys : List Int) (w : World) (pa : IsPart S w a ha xs) (pb : IsPart S w b hb ys) (hn : xs.length + ys.length ≤ 100000000) :
    Calls Try.prog 72 #[at_ a, at_ b] w fun e w' => ∃ c, e = .returned (at_ c) ∧ Kept w w' ∧ IsPart (Up S w.heap.size) w' c (max ha hb + 1) (xs ++ ys) := by
  obtain ⟨_, l1, r1, v1, ca⟩ := pa.cells
  obtain ⟨_, l2, r2, v2, cb⟩ := pb.cells
  have h1 := pa.high
  have h2 := pb.high
  have e1 := ends_le xs
  have e2 := ends_le ys
  refine (pair_cells a b ha hb xs.length (ends xs) ys.length (ends ys) w ca.2.2.2.1 ca.2.2.2.2.1 ca.2.2.2.2.2.1 cb.2.2.2.1 cb.2.2.2.2.1 cb.2.2.2.2.2.1
    (by omega) (by omega) (by omega) (by omega) (by omega) (by omega) (by omega) (by omega) (by omega) (by omega) (by omega) (by omega)).mono ?_
  rintro e w' ⟨c, rfl, hc, c0, c1, c2, c3, c4, c5, c6, hg⟩
  refine ⟨c, rfl, hg, IsPart.node (.inr hc) ⟨c0, c1, c2, ?_, ?_, ?_, c6⟩ ((pa.grown hg).wide Up.in) ((pb.grown hg).wide Up.in)⟩
  · rw [c3]; exact int_some (by omega)
  · rw [c4]; exact int_some (by simp)
  · rw [c5]; exact int_some (by rw [ends_append]; omega)

theorem pair_open (S : Nat → Prop) (a b ha hb : Nat) (xs ys : List Int) (w : World) (hS : Open S w) (pa : IsPart S w a ha xs) (pb : IsPart S w b hb ys) (hn : xs.length + ys.length ≤ 100000000) :
    Calls Try.prog 72 #[at_ a, at_ b] w fun e w' => ∃ c, e = .returned (at_ c) ∧ Kept w w' ∧ IsPart S w' c (max ha hb + 1) (xs ++ ys) := by
  refine (pair_parts S a b ha hb xs ys w pa pb hn).mono ?_
  rintro e w' ⟨c, rfl, hg, hc⟩
  exact ⟨c, rfl, hg, hc.wide (fun x hx => hx.elim id (hS x))⟩

end Rope
end Go.Proofs.Ythjagnnbhpfpoaa
