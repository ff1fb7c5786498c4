import Derived.Test.YthjagnnbhpfpoaaRopeConcat
import Derived.Test.YthjagnnbhpfpoaaRopeEnds
import Derived.Test.YthjagnnbhpfpoaaRopeCount
namespace Go.Proofs.Ythjagnnbhpfpoaa
open Go.RowKit
namespace Rope

set_option maxRecDepth 100000 in
set_option maxHeartbeats 4000000 in
theorem glue_cells (a b cx ox px cy oy py : Nat) (xs ys : List Int) (xa ya xb yb : Int) (w : World)
    (a2 : w.cell? ⟨a, 2, none⟩ = some (.slice (some ⟨cx, ox, none⟩) xs.length px)) (a4 : w.cell? ⟨a, 4, none⟩ = some (.int .i64 xa)) (a5 : w.cell? ⟨a, 5, none⟩ = some (.int .i64 ya))
    (b2 : w.cell? ⟨b, 2, none⟩ = some (.slice (some ⟨cy, oy, none⟩) ys.length py)) (b4 : w.cell? ⟨b, 4, none⟩ = some (.int .i64 xb)) (b5 : w.cell? ⟨b, 5, none⟩ = some (.int .i64 yb))
    (hx : Hid (∀ j x, xs[j]? = some x → w.cell? ⟨cx, ox + j, none⟩ = some (.int .u8 x))) (hy : Hid (∀ j x, ys[j]? = some x → w.cell? ⟨cy, oy + j, none⟩ = some (.int .u8 x)))
    (nx : 0 < xs.length) (ny : 0 < ys.length) (hn : xs.length + ys.length ≤ 100000000)
    (h4 : 0 ≤ xa) (h5 : xa ≤ 1000000000) (h6 : 0 ≤ ya) (h7 : ya ≤ 1000000000) (h8 : 0 ≤ xb) (h9 : xb ≤ 1000000000) (h10 : 0 ≤ yb) (h11 : yb ≤ 1000000000) :
    Calls Try.prog 59 #[.pointer (some ⟨a, 0, none⟩), .pointer (some ⟨b, 0, none⟩)] w fun e w' => ∃ c g cap, e = .returned (.pointer (some ⟨c, 0, none⟩)) ∧ w.heap.size ≤ c ∧ Kept w w' ∧
      LeafCells w' c (.slice (some ⟨g, 0, none⟩) (xs ++ ys).length cap) (xa + xb) (ya + yb) ∧ Own w' w.heap.size (.slice (some ⟨g, 0, none⟩) (xs ++ ys).length cap) (xs ++ ys) := by
  have hmeth : ∀ (x y : Int) (w : World), (method 238 76 (.agg #[.int .i64 x, .int .i64 y]) "graft/rope.plus").run Try.prog w = .ok (99, .agg #[.int .i64 x, .int .i64 y]) w := fun _ _ _ => by kernel_rfl
  go_enter Try.func59, Try.ntmps59
  go_wp2
  have k0 := keeps a2
  have k1 := keeps a4
  have k2 := keeps a5
  have k3 := keeps b2
  have k4 := keeps b4
  have k5 := keeps b5
  go_region_held3 (fun w' => Kept w w') (first | assumption | exact Kept.refl _ | exact gtrans (by assumption) (by assumption) | exact Kept.alloc (by assumption) _ _)
    ((first | (go_at_call 99; refine (plus_any _ _ _ _ _ (by omega) (by omega) (by omega) (by omega) (by omega) (by omega) (by omega) (by omega)).mono ?_; rintro e w1 ⟨rfl, hg1⟩) | (go_at_call 73; refine (concat_any _ cx ox px cy oy py xs ys _ (by first | (simp; done) | exact grown_cell hg1 (by simp)) (by first | (simp; done) | exact grown_cell hg1 (by simp)) (fun j x h => grown_cell (by first | assumption | exact Kept.alloc (by assumption) _ _) (hx j x h)) (fun j x h => grown_cell (by first | assumption | exact Kept.alloc (by assumption) _ _) (hy j x h)) nx ny hn).mono ?_; rintro e w2 ⟨g2, cap2, rfl, hg2, how2, hge2⟩)))
  all_goals
    go_wp2
    go_ret
    refine ⟨w1.heap.size, g2, cap2, rfl, ?_, by assumption, ⟨by simp, by simp, by simp, by simp, by simp, by simp, fun o => by simp⟩, ?_⟩
    · have h1 := hg1.size
      have h2 := hg2.size
      simp at h2
      omega
    · exact ((how2.kept hg1).kept ((Kept.refl w1).alloc _ _)).low (by simp)

theorem glue_leaf (S : Nat → Prop) (a b : Nat) (xs ys : List Int) (w : World) (hS : Open S w) (la : LeafAt S w a xs) (lb : LeafAt S w b ys) (hn : xs.length + ys.length ≤ 100000000) :
    Calls Try.prog 59 #[at_ a, at_ b] w fun e w' => ∃ c, e = .returned (at_ c) ∧ Kept w w' ∧ IsPart S w' c 0 (xs ++ ys) := by
  obtain ⟨_, hx0, v, ca, cx, ox, px, rfl, _, _, hx, hbx⟩ := la
  obtain ⟨_, hy0, u, cb, cy, oy, py, rfl, _, _, hy, hby⟩ := lb
  have e1 := ends_le xs
  have e2 := ends_le ys
  refine (glue_cells a b cx ox px cy oy py xs ys xs.length (ends xs) ys.length (ends ys) w ca.2.2.1 ca.2.2.2.2.1 ca.2.2.2.2.2.1 cb.2.2.1 cb.2.2.2.2.1 cb.2.2.2.2.2.1 hx hy
    (List.length_pos_iff.2 hx0) (List.length_pos_iff.2 hy0) hn (by omega) (by omega) (by omega) (by omega) (by omega) (by omega) (by omega) (by omega)).mono ?_
  rintro e w' ⟨c, g, cap, rfl, hc, hk, ⟨c0, c1, c2, c3, c4, c5, c6⟩, how⟩
  have hne : xs ++ ys ≠ [] := by simp [hx0]
  refine ⟨c, rfl, hk, IsPart.leaf ⟨hS c hc, hne, _, ⟨c0, c1, c2, c3, ?_, ?_, c6⟩, (how.slice hne (hbx.append hby)).mono (Same.refl _ _) hS⟩⟩
  · rw [c4]; exact int_some (by simp)
  · rw [c5]; exact int_some (by rw [ends_append]; omega)

end Rope
end Go.Proofs.Ythjagnnbhpfpoaa
