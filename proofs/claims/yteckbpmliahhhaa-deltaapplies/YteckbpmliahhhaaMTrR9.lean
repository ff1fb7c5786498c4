import Derived.Test.YteckbpmliahhhaaMTrR7
import Derived.Test.YteckbpmliahhhaaTrLeav
namespace Go.Proofs.Yteckbpmliahhhaa
open Go.RowKit
namespace Ex
namespace Tr

/-- The sums of a node's leaves: how many there are, and where each begins. -/
def LeafSum (N : Nat → Nd) (R : Nat → Prop) : Prop := ∀ b, R b → ((N b).kind = 1 → (N b).leafs = 1) ∧ ((N b).kind ≠ 1 → (N b).leafs = leafS N ((N b).kids.map Prod.fst) ∧ (N b).width = widthS N ((N b).kids.map Prod.fst))
theorem leafsum_of {N : Nat → Nd} {R : Nat → Prop} (h : ∀ b, R b → MadeOk N b) : LeafSum N R := by
  intro b hb
  rcases h b hb with ⟨s, m, l0, l1, l2, l3, e⟩ | ⟨s, m, kd, n, ks, hm, e⟩
  · rw [e]
    exact ⟨fun _ => rfl, fun h => absurd rfl h⟩
  · have e1 : (N b).kids.map Prod.fst = ks := by rw [e]; exact kidG_fst N ks 0
    refine ⟨fun hk => ?_, fun _ => ?_⟩
    · have := may_cases hm
      rw [e] at hk
      have h2 : kd = 1 := hk
      omega
    · rw [e1, e]
      exact ⟨rfl, rfl⟩
theorem leafS_cons (N : Nat → Nd) (b : Nat) (ks : List Nat) : leafS N (b :: ks) = (N b).leafs + leafS N ks := by simp [leafS]
theorem leafS_app (N : Nat → Nd) (ks js : List Nat) : leafS N (ks ++ js) = leafS N ks + leafS N js := by simp [leafS]
theorem widthS_cons (N : Nat → Nd) (b : Nat) (ks : List Nat) : widthS N (b :: ks) = (N b).width + widthS N ks := by simp [widthS]
theorem widthS_app (N : Nat → Nd) (ks js : List Nat) : widthS N (ks ++ js) = widthS N ks + widthS N js := by simp [widthS]
/-- The leaves of a list of trees, with their places. -/
def LvOk (N : Nat → Nd) : List (Nat × Nat) → Nat → Nat → Prop
  | [], a, z => a = z
  | q :: l, a, z => q.1 = a ∧ LvOk N l (a + (N q.2).width) z
theorem leaves_ok {R : Nat → Prop} {N : Nat → Nd} {B : Nat} {w : World} (hF : Forest R N B w) (hL : LeafSum N R) : ∀ (f : Nat) (ps : List Nat) (a : Nat), (∀ p ∈ ps, R p) → sizeS N ps = f → ((wl N f ps a).filter (leafB N)).length = leafS N ps ∧ LvOk N ((wl N f ps a).filter (leafB N)) a (a + widthS N ps)
  | 0, ps, a, hR, h => by
    cases ps with
    | nil => exact ⟨rfl, rfl⟩
    | cons b ps =>
      have hsz := (hF b (hR b List.mem_cons_self)).2.2.2.2
      rw [sizeS_cons] at h
      omega
  | f + 1, [], _, _, h => by simp [sizeS] at h
  | f + 1, b :: ps, a, hR, h => by
    have hb := hR b List.mem_cons_self
    have hsz := (hF b hb).2.2.2.2
    have hk1 := (hF b hb).2.2.1
    obtain ⟨h1, h2⟩ := leaves_ok hF hL f ((N b).kids.map Prod.fst ++ ps) (a + lwid (N b)) (fun p hp => by
      rcases List.mem_append.1 hp with hp | hp
      · obtain ⟨q, hq, rfl⟩ := List.mem_map.1 hp
        exact (hF b hb).2.2.2.1 q hq
      · exact hR p (List.mem_cons_of_mem _ hp)) (by rw [sizeS_cons] at h; rw [sizeS_app]; omega)
    obtain ⟨g1, g2⟩ := hL b hb
    by_cases hk : (N b).kind = 1
    · have e : leafB N (a, b) = true := by simp [leafB, hk]
      have el : lwid (N b) = (N b).width := if_pos hk
      rw [hk1 hk] at h1 h2
      simp only [wl, List.filter_cons_of_pos e, hk1 hk]
      rw [el] at h1 h2 ⊢
      refine ⟨?_, rfl, ?_⟩
      · rw [List.length_cons, leafS_cons, g1 hk]
        simp only [List.map_nil, List.nil_append] at h1 ⊢
        rw [h1]
        omega
      · rw [widthS_cons, ← Nat.add_assoc]
        exact h2
    · have e : ¬ leafB N (a, b) = true := by simp [leafB, hk]
      have el : lwid (N b) = 0 := if_neg hk
      simp only [wl, List.filter_cons_of_neg e]
      rw [el, Nat.add_zero] at h1 h2 ⊢
      rw [leafS_app] at h1
      rw [widthS_app, ← (g2 hk).2] at h2
      rw [leafS_cons, widthS_cons, (g2 hk).1]
      exact ⟨h1, h2⟩

/-- The bytes of leaves. -/
def wsum (N : Nat → Nd) (l : List (Nat × Nat)) : Nat := (l.map fun q => (N q.2).width).sum
theorem wsum_snoc (N : Nat → Nd) (l : List (Nat × Nat)) (q : Nat × Nat) : wsum N (l ++ [q]) = wsum N l + (N q.2).width := by simp [wsum]
theorem LvOk.end {N : Nat → Nd} : ∀ (l : List (Nat × Nat)) (a z : Nat), LvOk N l a z → a + wsum N l = z
  | [], _, _, h => h
  | q :: l, a, z, h => by
    have h1 := LvOk.end l _ z h.2
    simp only [wsum, List.map_cons, List.sum_cons] at h1 ⊢
    omega
theorem LvOk.at {N : Nat → Nd} : ∀ (pre : List (Nat × Nat)) (x : Nat × Nat) (rest : List (Nat × Nat)) (a z : Nat), LvOk N (pre ++ [x] ++ rest) a z → x.1 = a + wsum N pre
  | [], x, rest, a, z, h => by
    have h1 := h.1
    simpa [wsum] using h1
  | q :: pre, x, rest, a, z, h => by
    have h1 := LvOk.at pre x rest _ z h.2
    simp only [wsum, List.map_cons, List.sum_cons] at h1 ⊢
    omega
/-- All but two blocks lie as they lay. -/
def K2 (ab lb : Nat) (u v : World) : Prop := v.os = u.os ∧ v.tape = u.tape ∧ v.output = u.output ∧ u.heap.size ≤ v.heap.size ∧ ∀ k, k < u.heap.size → k ≠ ab → k ≠ lb → v.heap[k]? = u.heap[k]?
/-- While the leaves are gone through. -/
def AtI (N : Nat → Nd) (w7 : World) (ab lb : Nat) (T : Nat → Prop) (pre : List (Nat × Nat)) (W : World) : Prop :=
  (∀ k, T k → w7.heap.size ≤ k) ∧ K2 ab lb w7 W ∧ W.heap[ab]? = some (.cells #[.int .i64 (wsum N pre : Int)] 3 (0, 0)) ∧ W.heap[lb]? = some (.cells #[.int .i64 (pre.length : Int)] 3 (0, 0))
theorem AtI.stable {N : Nat → Nd} {w7 : World} {ab lb : Nat} (ha : ab < w7.heap.size) (hl : lb < w7.heap.size) : StableW (AtI N w7 ab lb) := by
  rintro T T' s A A' ⟨g1, g2, g3, g4⟩ hs
  have hn : ∀ k, k < w7.heap.size → ¬ T k := fun k hk h => by have := g1 k h; omega
  refine ⟨fun k hk => ?_, ⟨hs.1.trans g2.1, hs.2.1.trans g2.2.1, hs.2.2.1.trans g2.2.2.1, Nat.le_trans g2.2.2.2.1 hs.2.2.2.1, fun k h1 h2 h3 => (hs.2.2.2.2.1 k (Nat.lt_of_lt_of_le h1 g2.2.2.2.1) (hn k h1)).trans (g2.2.2.2.2 k h1 h2 h3)⟩, (hs.2.2.2.2.1 ab (Nat.lt_of_lt_of_le ha g2.2.2.2.1) (hn ab ha)).trans g3, (hs.2.2.2.2.1 lb (Nat.lt_of_lt_of_le hl g2.2.2.2.1) (hn lb hl)).trans g4⟩
  rcases hs.2.2.2.2.2 k hk with h | h
  · exact g1 k h
  · exact Nat.le_trans g2.2.2.2.1 h.1
/-- A round's end: the place and the count. -/
theorem at_fin {N : Nat → Nd} {w7 W wy : World} {ab lb B bs pl : Nat} {T : Nat → Prop} {pre : List (Nat × Nat)} {x : Nat × Nat} (hab : ab ≠ lb) (hal : w7.heap.size = lb + 1) (hl : lb = ab + 1) (hB : B ≤ ab) (hbs : bs < ab) (h : AtI N w7 ab lb T pre W) (hT : ∀ k, T k → k < W.heap.size) (hk : Kept W wy) (hpl : pre.length = pl) :
    W.heap.size ≤ ((wy.setCell ⟨ab, 0, none⟩ (.int .i64 ((wsum N pre : Int) + ((N x.2).width : Int)))).setCell ⟨lb, 0, none⟩ (.int .i64 ((pl : Int) + 1))).heap.size ∧ (∀ k, T k → ((wy.setCell ⟨ab, 0, none⟩ (.int .i64 ((wsum N pre : Int) + ((N x.2).width : Int)))).setCell ⟨lb, 0, none⟩ (.int .i64 ((pl : Int) + 1))).heap[k]? = W.heap[k]?) ∧
    KX (fun k => k < B ∨ k = bs) W ((wy.setCell ⟨ab, 0, none⟩ (.int .i64 ((wsum N pre : Int) + ((N x.2).width : Int)))).setCell ⟨lb, 0, none⟩ (.int .i64 ((pl : Int) + 1))) ∧ AtI N w7 ab lb T (pre ++ [x]) ((wy.setCell ⟨ab, 0, none⟩ (.int .i64 ((wsum N pre : Int) + ((N x.2).width : Int)))).setCell ⟨lb, 0, none⟩ (.int .i64 ((pl : Int) + 1))) := by
  obtain ⟨g1, g2, g3, g4⟩ := h
  obtain ⟨wE, hE⟩ : ∃ wE, (wy.setCell ⟨ab, 0, none⟩ (.int .i64 ((wsum N pre : Int) + ((N x.2).width : Int)))).setCell ⟨lb, 0, none⟩ (.int .i64 ((pl : Int) + 1)) = wE := ⟨_, rfl⟩
  have hsz : wE.heap.size = wy.heap.size := by rw [← hE]; simp [World.setCell]
  have hoth : ∀ k, k ≠ ab → k ≠ lb → wE.heap[k]? = wy.heap[k]? := fun k h1 h2 => by rw [← hE]; exact (Below.heap_setCell _ _ _ _ h2).trans (Below.heap_setCell _ _ _ _ h1)
  have hos : wE.os = wy.os ∧ wE.tape = wy.tape ∧ wE.output = wy.output := by rw [← hE]; exact ⟨rfl, rfl, rfl⟩
  have hkz := hk.size
  have hW7 := g2.2.2.2.1
  have ha : wE.heap[ab]? = some (.cells #[.int .i64 (wsum N (pre ++ [x]) : Int)] 3 (0, 0)) := by
    have h1 := (hk.2.2.2.2 ab (Array.getElem?_eq_some_iff.1 g3).1).trans g3
    have hl1 := (Array.getElem?_eq_some_iff.1 h1).1
    have he := Option.some.inj ((Array.getElem?_eq_getElem hl1).symm.trans h1)
    rw [← hE, wsum_snoc]
    refine (Below.heap_setCell _ _ _ _ hab).trans ?_
    simp [World.setCell, Array.getElem_modify, hl1, he, Int.natCast_add]
  have hb : wE.heap[lb]? = some (.cells #[.int .i64 ((pre ++ [x]).length : Int)] 3 (0, 0)) := by
    have h0 := (hk.2.2.2.2 lb (Array.getElem?_eq_some_iff.1 g4).1).trans g4
    have h1 := (Below.heap_setCell (w := wy) ⟨ab, 0, none⟩ (.int .i64 ((wsum N pre : Int) + ((N x.2).width : Int))) lb (Ne.symm hab)).trans h0
    have hl1 := (Array.getElem?_eq_some_iff.1 h1).1
    have he := Option.some.inj ((Array.getElem?_eq_getElem hl1).symm.trans h1)
    rw [← hE, List.length_append, hpl]
    have e5 : ((wy.setCell ⟨ab, 0, none⟩ (.int .i64 ((wsum N pre : Int) + ((N x.2).width : Int)))).setCell ⟨lb, 0, none⟩ (.int .i64 ((pl : Int) + 1))).heap[lb]? = some (.cells #[.int .i64 ((pl : Int) + 1)] 3 (0, 0)) := by
      generalize wy.setCell ⟨ab, 0, none⟩ (.int .i64 ((wsum N pre : Int) + ((N x.2).width : Int))) = wu at *
      simp [World.setCell, Array.getElem_modify, hl1, he]
    rw [e5]
    simp
  rw [hE]
  refine ⟨by omega, fun k hk' => ?_, ⟨by omega, fun k hk' => ?_⟩, g1, ⟨hos.1.trans (hk.1.trans g2.1), hos.2.1.trans (hk.2.1.trans g2.2.1), hos.2.2.trans (hk.2.2.1.trans g2.2.2.1), by omega, fun k h1 h2 h3 => (hoth k h2 h3).trans ((hk.2.2.2.2 k (by omega)).trans (g2.2.2.2.2 k h1 h2 h3))⟩, ha, hb⟩
  · have := g1 k hk'
    exact (hoth k (by omega) (by omega)).trans (hk.2.2.2.2 k (hT k hk'))
  · exact (hoth k (by omega) (by omega)).trans (hk.2.2.2.2 k (by omega))

end Tr
end Ex
end Go.Proofs.Yteckbpmliahhhaa
