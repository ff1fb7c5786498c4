import Derived.Test.YtkkilkojmdeopaaMDeHu
import Derived.Test.YtkkilkojmdeopaaMDeGq
import Derived.Test.YtkkilkojmdeopaaMDeRg
import Derived.Test.YtkkilkojmdeopaaMDeGv
namespace Go.Proofs.Ytkkilkojmdeopaa
open Go.RowKit
attribute [local go_sem] Oper.semAt_some
namespace Ex
namespace Tr

end Tr
end Ex
end Go.Proofs.Ytkkilkojmdeopaa
namespace Go.Proofs.Ytkkilkojmdeopaa
open Go.RowKit
attribute [local go_sem] Oper.semAt_some
namespace Ex
namespace Tr

theorem hkG_in (l m : List Int) : ∀ (rest : List Int) (i fr nx : Nat), nx ≤ m.length → ∀ h ∈ hkG l m rest i fr nx, h.into ≤ h.upto ∧ h.upto ≤ m.length
  | [], i, fr, nx, hn, h, hh => by
    unfold hkG at hh
    split at hh
    · simp only [List.mem_singleton] at hh; subst hh; exact ⟨hn, Nat.le_refl _⟩
    · simp at hh
  | x :: rest, i, fr, nx, hn, h, hh => by
    unfold hkG at hh
    split at hh
    · exact hkG_in l m rest _ _ _ hn h hh
    · rename_i hc
      have hT : onceG x m 0 (-1) < (m.length : Int) ∧ 0 ≤ onceG x m 0 (-1) ∧ (nx : Int) ≤ onceG x m 0 (-1) := by
        rw [onceG_new] at hc ⊢
        split
        · rename_i hc1
          rw [if_pos hc1] at hc
          have h9 := List.idxOf_lt_length_of_mem (List.count_pos_iff.1 (by omega : 0 < List.count x m))
          omega
        · rename_i hc1
          rw [if_neg hc1] at hc
          omega
      rcases List.mem_append.1 hh with h1 | h1
      · split at h1
        · simp only [List.mem_singleton] at h1; subst h1; dsimp only; omega
        · simp at h1
      · exact hkG_in l m rest _ _ _ (by omega) h h1
def encSp (s : Nat × Nat) : List Value := [.int .i64 (s.1 : Int), .int .i64 (s.2 : Int)]
theorem encSp_one (s : Nat × Nat) : ∀ u ∈ encSp s, u.oneCell' = true := fun u hu => by
  unfold encSp at hu
  simp only [List.mem_cons, List.not_mem_nil, or_false] at hu
  rcases hu with rfl | rfl <;> rfl
/-- Lists of spans. -/
def spE : ElK (Nat × Nat) := { T := 45, TT := 43, sz := 2, by_ := 16, z := .agg #[.int .i64 0, .int .i64 0], enc := encSp, pos := by decide, info := by kernel_rfl, zs := rfl, und := Try.underlying43, len := fun _ => rfl, one := encSp_one }
/-- Where the document's leaf of that place begins. -/
def bgP (P : Nat → Pn) (l : List Nat) (j : Nat) : Nat := ((l.take j).map fun k => countP (P k).l1 + countP (P k).l2).sum
theorem bgP_step (P : Nat → Pn) (l : List Nat) {j k : Nat} (h : l[j]? = some k) : bgP P l (j + 1) = bgP P l j + (countP (P k).l1 + countP (P k).l2) := by
  unfold bgP
  rw [List.take_add_one, h]
  simp
theorem bgP_le (P : Nat → Pn) (l : List Nat) (j : Nat) : bgP P l j ≤ l.length * 524288 := by
  unfold bgP
  have h1 : ∀ l : List Nat, (l.map fun k => countP (P k).l1 + countP (P k).l2).sum ≤ l.length * 524288 := fun l => by
    induction l with
    | nil => simp
    | cons x l ih =>
      have c1 := count_le (P x).l1
      have c2 := count_le (P x).l2
      simp only [List.map_cons, List.sum_cons, List.length_cons, Nat.add_mul]
      omega
  have h2 := h1 (l.take j)
  have h3 : (l.take j).length ≤ l.length := by rw [List.length_take]; omega
  obtain ⟨x, hx⟩ : ∃ x, ((l.take j).map fun k => countP (P k).l1 + countP (P k).l2).sum = x := ⟨_, rfl⟩
  rw [hx] at h2 ⊢
  exact Nat.le_trans h2 (Nat.mul_le_mul_right _ h3)
def bgL (P : Nat → Pn) (l : List Nat) (j : Nat) : List Int := (List.range (j + 1)).map fun i => (bgP P l i : Int)
theorem bgL_len (P : Nat → Pn) (l : List Nat) (j : Nat) : (bgL P l j).length = j + 1 := by simp [bgL]
theorem bgL_at (P : Nat → Pn) (l : List Nat) {j i : Nat} (h : i ≤ j) : (bgL P l j)[i]? = some (bgP P l i : Int) := by
  unfold bgL
  rw [List.getElem?_map, List.getElem?_range (by omega)]
  rfl
theorem bgL_step (P : Nat → Pn) (l : List Nat) (j : Nat) : bgL P l (j + 1) = bgL P l j ++ [(bgP P l (j + 1) : Int)] := by
  unfold bgL
  rw [List.range_succ (n := j + 1), List.map_append]
  rfl
/-- The document's spans. -/
def spP (P : Nat → Pn) (l : List Nat) (hs : List Hk) : List (Nat × Nat) := (hs.map fun h => (bgP P l h.into, bgP P l h.upto)).filter fun s => decide (s.1 < s.2)
theorem spP_snoc (P : Nat → Pn) (l : List Nat) (hs : List Hk) (h : Hk) : spP P l (hs ++ [h]) = spP P l hs ++ (if bgP P l h.into < bgP P l h.upto then [(bgP P l h.into, bgP P l h.upto)] else []) := by
  unfold spP
  rw [List.map_append, List.filter_append]
  congr 1
  by_cases h : bgP P l h.into < bgP P l h.upto <;> simp [h]
theorem spP_len (P : Nat → Pn) (l : List Nat) (hs : List Hk) : (spP P l hs).length ≤ hs.length := by
  unfold spP
  exact Nat.le_trans (List.length_filter_le _ _) (by rw [List.length_map]; exact Nat.le_refl _)

end Tr
end Ex
end Go.Proofs.Ytkkilkojmdeopaa
namespace Go.Proofs.Ytkkilkojmdeopaa
open Go.RowKit
attribute [local go_sem] Oper.semAt_some
namespace Ex
namespace Tr

theorem hkG_len (l m : List Int) : ∀ (rest : List Int) (i fr nx : Nat), (hkG l m rest i fr nx).length ≤ rest.length + 1
  | [], i, fr, nx => by
    unfold hkG
    split <;> simp
  | x :: rest, i, fr, nx => by
    unfold hkG
    split
    · have h := hkG_len l m rest (i + 1) fr nx
      rw [List.length_cons]
      omega
    · have h := hkG_len l m rest (i + 1) (i + 1) ((onceG x m 0 (-1)).toNat + 1)
      rw [List.length_append, List.length_cons]
      split
      · rw [List.length_singleton]; omega
      · rw [List.length_nil]; omega
theorem lo_i0 (w : World) {base : Nat} (hb : base ≤ w.heap.size) : LO iE (w.alloc (.cells #[.int .i64 0] 3)) base (.slice (some ⟨w.heap.size, 0, none⟩) 1 1) [0] :=
  ⟨rfl, Or.inr ⟨w.heap.size, 1, _, rfl, hb, World.alloc_heap_new w _, Nat.le_refl _, by unfold maxLen; omega, rfl, rfl⟩⟩
end Tr
end Ex
end Go.Proofs.Ytkkilkojmdeopaa
namespace Go.Proofs.Ytkkilkojmdeopaa
open Go.RowKit
set_option linter.unusedVariables false
namespace Ex
namespace Tr

theorem lvP_kind (X : Nat → Pn) : ∀ (f b k : Nat), k ∈ lvP X f b → (X k).kind = 1
  | 0, _, k, hk => by simp [lvP] at hk
  | f + 1, b, k, hk => by
    unfold lvP at hk
    split at hk
    · rename_i h
      simp only [List.mem_singleton] at hk
      subst hk
      exact h
    · obtain ⟨c, _, hc2⟩ := List.mem_flatMap.1 hk
      exact lvP_kind X f c k hc2
section
variable {base gb s m : Nat} {V : Nat → Prop} {P Q : List Nat} {N : Nat → Nd} {X : Nat → Pn} {vN vP : Value} {w : World}
/-- How wide the leaf of that number is. -/
def wdI (P : List Nat) (N : Nat → Nd) (x : Int) : Nat := (N (atL P (x - 1).toNat)).width
theorem wd_P (hT : Tw s P Q N X) {b : Nat} (hb : b ∈ P) : wdI P N ((N b).num : Int) = (N b).width := by
  obtain ⟨i, hi, he, h⟩ := hT.ofP hb
  unfold wdI
  rw [h.num.1, show (((i + 1 : Nat) : Int) - 1).toNat = i by omega, ← he]
theorem wd_Q (hT : Tw s P Q N X) {d : Nat} (hd : d ∈ Q) (hk : (X d).kind = 1) : wdI P N (X d).id = countP (X d).l1 + countP (X d).l2 := by
  obtain ⟨i, hi, he, h⟩ := hT.ofQ hd
  unfold wdI
  rw [h.num.2, show (((i + 1 : Nat) : Int) - 1).toNat = i by omega]
  obtain ⟨_, _, _, hh⟩ := h
  rcases hh with ⟨l0, l1, l2, l3, e, e2⟩ | ⟨kd, n, js, q0, qj, e, e2⟩
  · rw [e, e2]
    rfl
  · rw [e2] at hk
    exact absurd hk (may_kd q0).1
theorem tw_beg (hM : GrM base gb s V P Q N X m vN vP w) (hT : Tw s P Q N X) {i : Nat} (hi : i < P.length) (j : Nat) : bgP X (lvP X (rkX X (atL Q i) + 1) (atL Q i)) j = beg N (atL P i) j := by
  have hF := gr_forest hM hT
  have hPF := gr_pfor hM hT
  have h := congrArg (fun l : List Int => ((l.take j).map (wdI P N)).sum) (tw_leaves hM hT hi)
  unfold numL at h
  rw [← List.map_take, ← List.map_take, List.map_map, List.map_map] at h
  unfold bgP beg wsum
  have e1 : ((lvP X (rkX X (atL Q i) + 1) (atL Q i)).take j).map (fun k => countP (X k).l1 + countP (X k).l2) = ((lvP X (rkX X (atL Q i) + 1) (atL Q i)).take j).map (wdI P N ∘ fun k => (X k).id) := List.map_congr_left (fun k hk => by
    have hk2 := List.mem_of_mem_take hk
    exact (wd_Q hT (lvP_in hPF _ _ (atL_mem (by rw [← hT.1]; exact hi)) k hk2) (lvP_kind X _ _ k hk2)).symm)
  have e2 : ((lvs N (atL P i)).take j).map (fun q => (N q.2).width) = ((lvs N (atL P i)).take j).map (wdI P N ∘ fun q => ((N q.2).num : Int)) := List.map_congr_left (fun q hq => (wd_P hT (lvs_mem hF (atL_mem hi) (List.mem_of_mem_take hq)).1).symm)
  rw [e1, e2]
  exact h
/-- Both tell the same spans. -/
theorem tw_spans (hM : GrM base gb s V P Q N X m vN vP w) (hT : Tw s P Q N X) {i j : Nat} (hi : i < P.length) (hj : j < P.length) : spP X (lvP X (rkX X (atL Q j) + 1) (atL Q j)) (hkG ((lvP X (rkX X (atL Q i) + 1) (atL Q i)).map fun k => (X k).id) ((lvP X (rkX X (atL Q j) + 1) (atL Q j)).map fun k => (X k).id) ((lvP X (rkX X (atL Q i) + 1) (atL Q i)).map fun k => (X k).id) 0 0 0) = spansL N (atL P i) (atL P j) := by
  rw [tw_hunks hM hT hi hj]
  unfold spP spansL spF
  rw [List.map_map]
  congr 1
  refine List.map_congr_left (fun h _ => ?_)
  rw [tw_beg hM hT hj, tw_beg hM hT hj]
  rfl
end

end Tr
end Ex
end Go.Proofs.Ytkkilkojmdeopaa
