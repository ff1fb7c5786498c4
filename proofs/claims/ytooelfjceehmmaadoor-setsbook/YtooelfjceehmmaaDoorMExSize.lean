import Derived.Test.YtooelfjceehmmaaDoorMExWr1
import Derived.Test.YtooelfjceehmmaaDoorMSpSz2
import Derived.Lib.AppendZeros
import Derived.Deep.DeepMust
import Derived.OwnWalk
namespace Go.Proofs.YtooelfjceehmmaaDoor
namespace Ex

/-- How many values a tree has. -/
def sizeP : (n : Nat) → PatN n → Int
  | 0, _ => 0
  | n + 1, p => (kids p).foldl (fun m q => m + sizeP n q) 1
/-- How deep a tree is. -/
def depthP : (n : Nat) → PatN n → Int
  | 0, _ => 0
  | n + 1, p => (kids p).foldl (fun m q => max m (1 + depthP n q)) 1
theorem sum_from {α : Type} (f : α → Int) : ∀ (L : List α) (a b : Int), L.foldl (fun m q => m + f q) (a + b) = a + L.foldl (fun m q => m + f q) b
  | [], _, _ => rfl
  | q :: L, a, b => by
    rw [List.foldl_cons, List.foldl_cons, Int.add_assoc, sum_from f L]
theorem max_from {α : Type} (f : α → Int) (d : Int) : ∀ (L : List α) (a b : Int), L.foldl (fun m q => max m (d + (1 + f q))) (max a (d + b)) = max a (d + L.foldl (fun m q => max m (1 + f q)) b)
  | [], _, _ => rfl
  | q :: L, a, b => by
    rw [List.foldl_cons, List.foldl_cons, ← max_from f d L]
    exact congrArg (fun x => L.foldl (fun m q => max m (d + (1 + f q))) x) (by omega)
theorem sum_ge {α : Type} {f : α → Int} (h : ∀ q, 0 ≤ f q) : ∀ (L : List α) (b : Int), b ≤ L.foldl (fun m q => m + f q) b
  | [], _ => Int.le_refl _
  | q :: L, b => by
    have := sum_ge h L (b + f q)
    have := h q
    rw [List.foldl_cons]
    omega
theorem size_pos : ∀ (n : Nat) (p : PatN n), 0 ≤ sizeP n p
  | 0, _ => Int.le_refl 0
  | n + 1, p => by
    have := sum_ge (size_pos n) (kids p) 1
    show 0 ≤ (kids p).foldl (fun m q => m + sizeP n q) 1
    omega
/-- What look tells of a tree: its size and its depth, or more than 4096. -/
def Tells (t : Int × Int) (x y : Int) : Prop := (x ≤ 4096 → t = (x, y)) ∧ (4096 < x → 4096 < t.1)
theorem fold_tells {n : Nat} {d : Int} (h : ∀ (q : PatN n) (s : Int × Int), s.1 ≤ 4096 → Tells (lookP n q (d + 1) s) (s.1 + sizeP n q) (max s.2 (d + depthP n q))) : ∀ (L : List (PatN n)) (s : Int × Int),
    Tells (L.foldl (stepL n d) s) (L.foldl (fun m q => m + sizeP n q) s.1) (L.foldl (fun m q => max m (d + depthP n q)) s.2)
  | [], s => ⟨fun _ => rfl, fun h => h⟩
  | q :: L, s => by
    have ih := fold_tells h L (stepL n d s q)
    rw [List.foldl_cons, List.foldl_cons, List.foldl_cons]
    by_cases hs : 4096 < s.1
    · have e : stepL n d s q = s := by unfold stepL; rw [if_pos hs]
      rw [e, fold_stop L s hs]
      have h1 := sum_ge (size_pos n) L (s.1 + sizeP n q)
      have h2 := size_pos n q
      exact ⟨fun h => absurd h (by omega), fun _ => hs⟩
    · have e : stepL n d s q = lookP n q (d + 1) s := by unfold stepL; rw [if_neg hs]
      have hq := h q s (by omega)
      rw [← e] at hq
      by_cases hb : s.1 + sizeP n q ≤ 4096
      · rw [hq.1 hb] at ih ⊢
        exact ih
      · have h1 := sum_ge (size_pos n) L (s.1 + sizeP n q)
        have h2 := hq.2 (by omega)
        refine ⟨fun h => absurd h (by omega), fun _ => ?_⟩
        rw [fold_stop L _ h2]
        exact h2
theorem look_tells : ∀ (n : Nat) (q : PatN n) (d : Int) (s : Int × Int), s.1 ≤ 4096 → Tells (lookP n q (d + 1) s) (s.1 + sizeP n q) (max s.2 (d + depthP n q))
  | 0, q, _, _, _ => (show Empty from q).elim
  | n + 1, q, d, s, _ => by
    have h := fold_tells (d := d + 1) (fun q s hs => look_tells n q (d + 1) s hs) (kids q) (s.1 + 1, max s.2 (d + 1))
    rw [look_eq]
    have e1 : (kids q).foldl (fun m q => m + sizeP n q) (s.1 + 1) = s.1 + sizeP (n + 1) q := sum_from (sizeP n) (kids q) s.1 1
    have e2 : (kids q).foldl (fun m q => max m (d + (1 + depthP n q))) (max s.2 (d + 1)) = max s.2 (d + depthP (n + 1) q) := max_from (depthP n) d (kids q) s.2 1
    have e3 : (fun (m : Int) (q : PatN n) => max m (d + 1 + depthP n q)) = fun m q => max m (d + (1 + depthP n q)) := by funext m q; rw [Int.add_assoc]
    dsimp only at h
    rw [e1, e3, e2] at h
    exact h
theorem depth_pos (n : Nat) (p : PatN (n + 1)) : 1 ≤ depthP (n + 1) p := by
  have h := max_from (depthP n) 0 (kids p) 1 1
  have e : (fun (m : Int) (q : PatN n) => max m (0 + (1 + depthP n q))) = fun m q => max m (1 + depthP n q) := by funext m q; rw [Int.zero_add]
  rw [e] at h
  show 1 ≤ (kids p).foldl (fun m q => max m (1 + depthP n q)) 1
  rw [Int.zero_add, Int.zero_add, Int.max_self] at h
  omega
/-- bounds, in words: more than 4096 values, else more than 64 levels. -/
theorem bounds_eq {n : Nat} (p : PatN (n + 1)) : boundsP p = if 4096 < sizeP (n + 1) p then 2 else if 64 < depthP (n + 1) p then 5 else 0 := by
  have h := look_tells (n + 1) p 0 (0, 0) (by decide)
  have hd := depth_pos n p
  unfold Tells at h
  simp only [Int.zero_add] at h
  unfold boundsP
  by_cases hb : 4096 < sizeP (n + 1) p
  · rw [if_pos (h.2 hb), if_pos hb]
  · rw [h.1 (by omega), if_neg hb, if_neg hb]
    dsimp only
    rw [show max 0 (depthP (n + 1) p) = depthP (n + 1) p from by omega]

end Ex
end Go.Proofs.YtooelfjceehmmaaDoor
namespace Go.Proofs.YtooelfjceehmmaaDoor
open Go.RowKit
namespace Ex

/-- All values of a row of trees. -/
def sizesP (n : Nat) : List (PatN n) → Int
  | [] => 0
  | q :: l => sizeP n q + sizesP n l
/-- The deepest of a row of trees. -/
def deepsP (n : Nat) : List (PatN n) → Int
  | [] => 0
  | q :: l => max (depthP n q) (deepsP n l)
/-- The next level. -/
def nextP {n : Nat} (l : List (PatN (n + 1))) : List (PatN n) := l.flatMap kids
theorem foldl_sizes (n : Nat) : ∀ (L : List (PatN n)) (b : Int), L.foldl (fun m q => m + sizeP n q) b = b + sizesP n L
  | [], b => by show b = b + 0; omega
  | q :: L, b => by
    rw [List.foldl_cons, foldl_sizes n L]
    show b + sizeP n q + sizesP n L = b + (sizeP n q + sizesP n L)
    omega
theorem foldl_deeps (n : Nat) : ∀ (L : List (PatN n)) (b : Int), 1 ≤ b → L.foldl (fun m q => max m (1 + depthP n q)) b = max b (1 + deepsP n L)
  | [], b, h => by show b = max b (1 + 0); omega
  | q :: L, b, h => by
    rw [List.foldl_cons, foldl_deeps n L _ (by omega)]
    show max (max b (1 + depthP n q)) (1 + deepsP n L) = max b (1 + max (depthP n q) (deepsP n L))
    omega
theorem size_succ {n : Nat} (p : PatN (n + 1)) : sizeP (n + 1) p = 1 + sizesP n (kids p) := foldl_sizes n (kids p) 1
theorem deeps_pos (n : Nat) : ∀ L : List (PatN n), 0 ≤ deepsP n L
  | [] => Int.le_refl 0
  | q :: L => by have := deeps_pos n L; show 0 ≤ max _ (deepsP n L); omega
theorem depth_succ {n : Nat} (p : PatN (n + 1)) : depthP (n + 1) p = 1 + deepsP n (kids p) := by
  have h := foldl_deeps n (kids p) 1 (by omega)
  have h2 := deeps_pos n (kids p)
  show (kids p).foldl (fun m q => max m (1 + depthP n q)) 1 = _
  rw [h]
  omega
theorem sizes_app (n : Nat) : ∀ a b : List (PatN n), sizesP n (a ++ b) = sizesP n a + sizesP n b
  | [], b => by show sizesP n b = 0 + sizesP n b; omega
  | q :: a, b => by
    have := sizes_app n a b
    show sizeP n q + sizesP n (a ++ b) = sizeP n q + sizesP n a + sizesP n b
    omega
theorem deeps_app (n : Nat) : ∀ a b : List (PatN n), deepsP n (a ++ b) = max (deepsP n a) (deepsP n b)
  | [], b => by have := deeps_pos n b; show deepsP n b = max 0 (deepsP n b); omega
  | q :: a, b => by
    have := deeps_app n a b
    show max (depthP n q) (deepsP n (a ++ b)) = max (max (depthP n q) (deepsP n a)) (deepsP n b)
    omega
theorem sizes_next {n : Nat} : ∀ L : List (PatN (n + 1)), sizesP (n + 1) L = (L.length : Int) + sizesP n (nextP L)
  | [] => rfl
  | q :: L => by
    have h := sizes_next L
    have h1 := size_succ q
    have h2 : sizesP n (nextP (q :: L)) = sizesP n (kids q) + sizesP n (nextP L) := sizes_app n (kids q) (nextP L)
    show sizeP (n + 1) q + sizesP (n + 1) L = _
    rw [List.length_cons, h2]
    omega
theorem deeps_next {n : Nat} : ∀ L : List (PatN (n + 1)), L ≠ [] → deepsP (n + 1) L = 1 + deepsP n (nextP L)
  | [], h => absurd rfl h
  | q :: L, _ => by
    have h1 := depth_succ q
    have h2 : deepsP n (nextP (q :: L)) = max (deepsP n (kids q)) (deepsP n (nextP L)) := deeps_app n (kids q) (nextP L)
    have h3 := deeps_pos n (kids q)
    show max (depthP (n + 1) q) (deepsP (n + 1) L) = _
    rw [h2]
    by_cases hL : L = []
    · subst hL
      show max (depthP (n + 1) q) 0 = 1 + max (deepsP n (kids q)) 0
      omega
    · have h := deeps_next L hL
      omega
theorem sizes_pos (n : Nat) : ∀ L : List (PatN n), 0 ≤ sizesP n L
  | [] => Int.le_refl 0
  | q :: L => by have := sizes_pos n L; have := size_pos n q; show 0 ≤ sizeP n q + sizesP n L; omega
theorem sizes_len {n : Nat} (L : List (PatN n)) : (L.length : Int) ≤ sizesP n L := by
  cases n with
  | zero => rw [none_of L]; exact Int.le_refl 0
  | succ n => have := sizes_next L; have := sizes_pos n (nextP L); omega
/-- Trees of one level as patterns. -/
def ups {n : Nat} (l : List (PatN (n + 1))) : List Pat := l.map fun q => (⟨n, q⟩ : Pat)
theorem ups_app {n : Nat} (a b : List (PatN (n + 1))) : ups (a ++ b) = ups a ++ ups b := List.map_append ..
theorem ups_len {n : Nat} (a : List (PatN (n + 1))) : (ups a).length = a.length := List.length_map ..
theorem fit_self : ∀ (n : Nat) (l : List (PatN n)), fitL n n l = l
  | 0, l => by rw [none_of l]; rfl
  | n + 1, l => by
    show l.map (fun p => (show PatN (n + 1) from (kind p, from_ p, to_ p, min_ p, max_ p, fitL n n (kids p)))) = l
    have : (fun p : PatN (n + 1) => (show PatN (n + 1) from (kind p, from_ p, to_ p, min_ p, max_ p, fitL n n (kids p)))) = id := by
      funext p
      rw [fit_self n (kids p)]
      rfl
    rw [this, List.map_id]
theorem kidsOf_ups {n : Nat} : ∀ l : List (PatN (n + 1)), kidsOf (n + 1) (ups l) = l
  | [] => rfl
  | q :: l => by
    have h := kidsOf_ups l
    have e : kidsOf (n + 1) (ups (q :: l)) = fitL (n + 1) (n + 1) [q] ++ kidsOf (n + 1) (ups l) := rfl
    rw [e, h, fit_self]
    rfl
theorem top_ups {n : Nat} : ∀ l : List (PatN (n + 1)), topL (ups l) ≤ n + 1
  | [] => Nat.zero_le _
  | q :: l => by
    have := top_ups l
    show max (n + 1) (topL (ups l)) ≤ n + 1
    omega
theorem FlatAt.app {S : Nat → Prop} {w : World} : ∀ {l m : List Pat} {xs ys : List Value}, FlatAt S w l xs → FlatAt S w m ys → FlatAt S w (l ++ m) (xs ++ ys)
  | [], m, xs, ys, h, hm => by
    rw [show xs = [] from h]
    exact hm
  | q :: l, m, xs, ys, ⟨u', zs, h1, h2, h3⟩, hm => by
    rw [h1]
    exact ⟨u', zs ++ ys, rfl, h2, FlatAt.app h3 hm⟩
/-- The cells of a list that lies in memory. -/
theorem row_flat {S : Nat → Prop} {w : World} {n c : Nat} : ∀ (l : List (PatN (n + 1))) (o : Nat), (∀ (i : Nat) (q : PatN (n + 1)), l[i]? = some q → ∃ v',
      w.cell? ⟨c, o + i * 6, none⟩ = some (.int .i64 (kind q)) ∧ w.cell? ⟨c, o + i * 6 + 1, none⟩ = some (.int .i64 (from_ q)) ∧ w.cell? ⟨c, o + i * 6 + 2, none⟩ = some (.int .i64 (to_ q)) ∧
      w.cell? ⟨c, o + i * 6 + 3, none⟩ = some (.int .i64 (min_ q)) ∧ w.cell? ⟨c, o + i * 6 + 4, none⟩ = some (.int .i64 (max_ q)) ∧ w.cell? ⟨c, o + i * 6 + 5, none⟩ = some v' ∧ KidsAt S w n (kids q) v') →
    ∃ xs, FlatAt S w (ups l) xs ∧ ∀ j u, xs[j]? = some u → w.cell? ⟨c, o + j, none⟩ = some u
  | [], _, _ => ⟨[], rfl, fun j u h => by simp at h⟩
  | q :: l, o, h => by
    obtain ⟨v', g0, g1, g2, g3, g4, g5, g6⟩ := h 0 q rfl
    obtain ⟨xs, hx1, hx2⟩ := row_flat l (o + 6) (fun i q' hq => by
      obtain ⟨v', k0, k1, k2, k3, k4, k5, k6⟩ := h (i + 1) q' (by rw [List.getElem?_cons_succ]; exact hq)
      rw [show o + (i + 1) * 6 = o + 6 + i * 6 by omega] at k0 k1 k2 k3 k4 k5
      exact ⟨v', k0, k1, k2, k3, k4, k5, k6⟩)
    rw [Nat.zero_mul, Nat.add_zero] at g0 g1 g2 g3 g4 g5
    refine ⟨_, ⟨v', xs, rfl, g6, hx1⟩, fun j u hj => ?_⟩
    match j, hj with
    | 0, hj => rw [← Option.some.inj hj]; exact g0
    | 1, hj => rw [← Option.some.inj hj]; exact g1
    | 2, hj => rw [← Option.some.inj hj]; exact g2
    | 3, hj => rw [← Option.some.inj hj]; exact g3
    | 4, hj => rw [← Option.some.inj hj]; exact g4
    | 5, hj => rw [← Option.some.inj hj]; exact g5
    | j + 6, hj =>
      have := hx2 j u (by simpa using hj)
      rwa [show o + 6 + j = o + (j + 6) by omega] at this
theorem FlatAt.plain {S : Nat → Prop} {w : World} : ∀ {l : List Pat} {xs : List Value}, FlatAt S w l xs → ∀ y ∈ xs, (∃ z, y = .int .i64 z) ∨ ∃ a l c, y = .slice a l c
  | [], xs, h, y, hy => by rw [show xs = [] from h] at hy; cases hy
  | q :: l, xs, ⟨u', zs, h1, h2, h3⟩, y, hy => by
    rw [h1] at hy
    simp only [List.mem_cons] at hy
    rcases hy with rfl | rfl | rfl | rfl | rfl | rfl | hy
    · exact .inl ⟨_, rfl⟩
    · exact .inl ⟨_, rfl⟩
    · exact .inl ⟨_, rfl⟩
    · exact .inl ⟨_, rfl⟩
    · exact .inl ⟨_, rfl⟩
    · obtain ⟨a, c, h⟩ := h2.form; exact .inr ⟨_, _, _, h⟩
    · exact FlatAt.plain h3 y hy

end Ex
end Go.Proofs.YtooelfjceehmmaaDoor
namespace Go.Proofs.YtooelfjceehmmaaDoor
open Go.RowKit
attribute [local go_sem] Oper.semAt_some
namespace Ex

/-- The next level while it is gathered: in memory from base on, what it holds below. -/
def NextAt (w : World) (base : Nat) : (n : Nat) → List (PatN n) → Value → Prop
  | 0, _, v => v = .slice none 0 0
  | _ + 1, l, v => ∃ xs, w.ownsRow base 87 6 v l.length xs ∧ FlatAt (fun d => d < base) w (ups l) xs
theorem NextAt.nil (w : World) (base : Nat) : ∀ n, NextAt w base n [] (.slice none 0 0)
  | 0 => rfl
  | _ + 1 => ⟨[], World.ownsRow_nil _ _ _ _, rfl⟩
theorem NextAt.form {w : World} {base : Nat} : ∀ {n : Nat} {l : List (PatN n)} {v : Value}, NextAt w base n l v → ∃ a c, v = .slice a l.length c
  | 0, l, v, h => by rw [none_of l, show v = _ from h]; exact ⟨_, _, rfl⟩
  | n + 1, l, v, ⟨xs, h, _⟩ => by
    rcases h.2 with ⟨rfl, h0⟩ | ⟨g, cap, cur, rfl, _⟩
    · exact ⟨none, 0, by rw [h0]⟩
    · exact ⟨_, _, rfl⟩
theorem NextAt.kids {w : World} {base : Nat} (hb : base ≤ w.heap.size) : ∀ {n : Nat} {l : List (PatN n)} {v : Value}, NextAt w base n l v → l.length ≤ 17592186044416 → KidsAt (fun d => d < w.heap.size) w n l v
  | 0, l, v, h, _ => ⟨_, _, h⟩
  | n + 1, l, v, ⟨xs, h1, h2⟩, hl => by
    rcases h1.2 with ⟨rfl, h0⟩ | ⟨g, cap, cur, rfl, _, hg, hc, _, _, hx⟩
    · exact kids_nil _ _ _ _ _ _ (List.length_eq_zero_iff.1 h0)
    · have hh := (h2.mono (S' := fun d => d < w.heap.size) (fun _ _ _ _ h => h) (fun d h => Nat.lt_of_lt_of_le h hb)).kids (m := n + 1) (cap := cap) (row_cells hg hx) (Array.getElem?_eq_some_iff.1 hg).1 (top_ups l) (by rw [ups_len]; exact hl) (by rw [ups_len]; exact hc)
      rw [kidsOf_ups, ups_len] at hh
      exact hh
theorem run_append_none (w : World) (base n : Nat) (v : Value) (xs : List Value) (hown : w.ownsRow base 87 6 v n xs) (a : Option Addr) (cap : Nat) (ty : TypeId) :
    (Builtin.append_ #[85, 85] ty #[v, .slice a 0 cap]).run Tryd.prog w = .ok v w := by
  obtain ⟨i0, hi, hz0, hz1, hz2⟩ := info_parts expr_info
  have ht : Tryd.prog.underlying 85 = some (.slice 87) := Tryd.underlying85
  rcases hown.2 with ⟨rfl, h0⟩ | ⟨g, c, cur, rfl, _, _, hnc, _⟩
  · cases a <;> simp [Builtin.append_, run_underlying ht, sizeOf, typeInfo, hi, Builtin.lenOf, Builtin.firstCells, loadCells, loadCellsFrom, Result.andThen]
  · cases a <;> simp [Builtin.append_, run_underlying ht, sizeOf, typeInfo, hi, Builtin.lenOf, Builtin.firstCells, hnc, storeCells, loadCells, loadCellsFrom, Result.andThen]
theorem NextAt.owns {w : World} {base : Nat} : ∀ {n : Nat} {l : List (PatN n)} {v : Value}, NextAt w base n l v → ∃ xs, w.ownsRow base 87 6 v l.length xs
  | 0, l, v, h => by rw [none_of l, show v = _ from h]; exact ⟨[], World.ownsRow_nil _ _ _ _⟩
  | _ + 1, _, _, ⟨xs, h, _⟩ => ⟨xs, h⟩
theorem KidsAt.empty {S : Nat → Prop} {w : World} {n : Nat} {l : List (PatN n)} {v : Value} (h : KidsAt S w n l v) (h0 : l = []) : ∃ a c, v = .slice a 0 c := by
  obtain ⟨a, c, h⟩ := h.form
  rw [h0] at h
  exact ⟨a, c, h⟩
theorem wpl_append_next {ops : Array Oper} {rest : List Oper} {o : Oper} {a : Act} {Q : Exit → Act → World → Prop} (hgd : o.guard = none) (s x : Operand)
    (ho : o.op = .call { callee := .builtin .append, args := #[s, x], argTypes := #[85, 85] }) (W : World) (base n : Nat) (v xv : Value) (l ks : List (PatN n)) (m : Nat) (hm : l.length + ks.length = m) (hs : a.eval s = v) (hx : a.eval x = xv)
    (hown : NextAt W base n l v) (hk : KidsAt (fun d => d < base) W n ks xv) (hl : l.length + ks.length ≤ 100000) (hbase : base ≤ W.heap.size)
    (h : ∀ b' cap' w', NextAt w' base n (l ++ ks) (.slice b' m cap') → W.grownBy w' v.ownBlock → wpList Tryd.prog ops Q rest (a.put o.dst (.slice b' m cap')) w') : wpList Tryd.prog ops Q (o :: rest) a W := by
  subst hm
  by_cases h0 : ks = []
  · subst h0
    obtain ⟨a', c', rfl⟩ := hk.empty rfl
    obtain ⟨xs, h1⟩ := hown.owns
    have hr := run_append_none W base _ v xs h1 a' c' o.type
    obtain ⟨b', c', rfl⟩ := hown.form
    have h' := h b' c' W (by rw [List.append_nil]; exact hown) (World.grownBy.refl _ _)
    exact Lib.wpList_append_run W hgd s x _ _ ho _ _ hs hx _ W hr h'
  · cases n with
    | zero => exact absurd (none_of ks) h0
    | succ n =>
      obtain ⟨i0, hi, hz0, hz1, hz2⟩ := info_parts expr_info
      obtain ⟨xs, h1, h2⟩ := hown
      obtain ⟨a', c', rfl, hc, _, hk4⟩ := hk
      rcases hk4 with hk4 | ⟨c, o', rfl, hcb, hk7⟩
      · exact absurd hk4 h0
      · obtain ⟨ys, hy1, hy2⟩ := row_flat ks o' hk7
        have hpos : 0 < ks.length := List.length_pos_iff.2 h0
        refine wpList_append_lies W hgd s x 85 ho base 87 i0 _ 6 64 Tryd.underlying85 hi hz0 hz1 hz2 rfl (by decide) v l.length xs hs h1 ⟨c, o', none⟩ ks.length c' ys hx ?_ ?_ ?_ hpos (by unfold maxLen; omega) (by omega) hbase W.heap.size rfl ?_
        · rw [hy1.len, ups_len]
        · intro j u hj
          rw [Addr.add_mid]
          exact hy2 j u hj
        · intro u hu
          rcases hy1.plain u hu with ⟨z, rfl⟩ | ⟨a, l, c, rfl⟩ <;> rfl
        · intro g cap w' h3 h4 h5 h6
          refine h _ _ w' ⟨xs ++ ys, by rw [List.length_append]; exact h3, ?_⟩ h4
          rw [ups_app]
          refine (h2.app hy1).mono ?_ (fun _ h => h)
          intro d o'' v' hd hcell
          exact h4.cell hcell (fun e => by have := (h1.lt d e.symm).1; omega)

end Ex
end Go.Proofs.YtooelfjceehmmaaDoor
namespace Go.Proofs.YtooelfjceehmmaaDoor
open Go.RowKit
attribute [local go_sem] Oper.semAt_some
namespace Ex

theorem next_snoc {m : Nat} {L : List (PatN (m + 1))} {j : Nat} {q : PatN (m + 1)} (hq : L[j]? = some q) : nextP (L.take (j + 1)) = nextP (L.take j) ++ kids q := by
  obtain ⟨hj, rfl⟩ := List.getElem?_eq_some_iff.1 hq
  rw [List.take_succ_eq_append_getElem hj]
  unfold nextP
  rw [List.flatMap_append]
  simp
theorem next_le {m : Nat} (L : List (PatN (m + 1))) (j : Nat) : (nextP (L.take j)).length ≤ (nextP L).length := by
  have h : nextP L = nextP (L.take j) ++ nextP (L.drop j) := by
    unfold nextP
    rw [← List.flatMap_append, List.take_append_drop]
  rw [h, List.length_append]
  omega
theorem KidsAt.short {S : Nat → Prop} {w : World} : ∀ {n : Nat} {l : List (PatN n)} {v : Value}, KidsAt S w n l v → l.length ≤ 17592186044416
  | 0, l, _, _ => by rw [none_of l]; exact Nat.zero_le _
  | _ + 1, _, _, ⟨_, _, _, _, h, _⟩ => h
theorem Kept.grownN {w0 w w' : World} {m : Nat} {l : List (PatN m)} {v : Value} (h : Kept w0 w) (ho : NextAt w w0.heap.size m l v) (hg : w.grownBy w' v.ownBlock) : Kept w0 w' := by
  obtain ⟨xs, h1⟩ := ho.owns
  exact ⟨hg.os.trans h.1, hg.tape.trans h.2.1, hg.output.trans h.2.2.1, Nat.le_trans h.size hg.size, fun k hk => (hg.block k (Nat.lt_of_lt_of_le hk h.size) (fun e => by have := (h1.lt k e.symm).1; omega)).trans (h.2.2.2.2 k hk)⟩
/-- Guard between two levels. -/
def GdR (w : World) {n : Nat} (p : PatN (n + 1)) (lv cv dv : Value) (wr : World) : Prop :=
  ∃ (m : Nat) (L : List (PatN (m + 1))) (a1 : Option Addr) (cap1 : Nat) (c d : Int), lv = .slice a1 L.length cap1 ∧ cv = .int .i64 c ∧ dv = .int .i64 d ∧ 1 ≤ c ∧ c ≤ 4096 ∧ 1 ≤ d ∧ d ≤ c ∧ L ≠ [] ∧ KidsAt (fun b => b < wr.heap.size) wr (m + 1) L (.slice a1 L.length cap1) ∧ Kept w wr ∧
    sizeP (n + 1) p = c - (L.length : Int) + sizesP (m + 1) L ∧ depthP (n + 1) p = d - 1 + deepsP (m + 1) L
/-- Guard within a level. -/
def GdI (w0 : World) {m : Nat} (L : List (PatN (m + 1))) (c : Int) (cv nv iv : Value) (wr : World) : Prop :=
  ∃ (j k : Nat) (a2 : Option Addr) (cap2 : Nat) (c1 : Int), cv = .int .i64 c1 ∧ nv = .slice a2 k cap2 ∧ iv = .int .i64 (j : Int) ∧ (nextP (L.take j)).length = k ∧ c1 = c + (k : Int) ∧ c1 ≤ 4096 ∧ j ≤ L.length ∧ NextAt wr w0.heap.size m (nextP (L.take j)) (.slice a2 k cap2) ∧ Kept w0 wr
theorem gd_long {n m : Nat} {p : PatN (n + 1)} {L : List (PatN (m + 1))} {j : Nat} {q : PatN (m + 1)} {c : Int} (hs : sizeP (n + 1) p = c - (L.length : Int) + sizesP (m + 1) L) (hq : L[j]? = some q) (hb : 4096 < c + ((nextP (L.take j)).length : Int) + ((kids q).length : Int)) : boundsP p = 2 := by
  have h1 := sizes_next L
  have h2 := sizes_len (nextP L)
  have h3 := next_le L (j + 1)
  rw [next_snoc hq, List.length_append] at h3
  rw [bounds_eq, if_pos (by omega)]
theorem gd_end {n m : Nat} {p : PatN (n + 1)} {L : List (PatN (m + 1))} {c d : Int} (hL : L ≠ []) (hs : sizeP (n + 1) p = c - (L.length : Int) + sizesP (m + 1) L) (hd : depthP (n + 1) p = d - 1 + deepsP (m + 1) L) (h0 : (nextP L).length = 0) (hc : c ≤ 4096) : boundsP p = if 64 < d then 5 else 0 := by
  have h1 := sizes_next L
  have h2 := deeps_next L hL
  rw [List.length_eq_zero_iff.1 h0] at h1 h2
  have e1 : sizesP m ([] : List (PatN m)) = 0 := rfl
  have e2 : deepsP m ([] : List (PatN m)) = 0 := rfl
  rw [bounds_eq, if_neg (by omega), show depthP (n + 1) p = d by omega]
theorem gd_next {w w0 w1 : World} {n m : Nat} {p : PatN (n + 1)} {L : List (PatN (m + 1))} {a2 : Option Addr} {k cap2 : Nat} {c d : Int} (hk : Kept w w0) (hL : L ≠ []) (hs : sizeP (n + 1) p = c - (L.length : Int) + sizesP (m + 1) L) (hd : depthP (n + 1) p = d - 1 + deepsP (m + 1) L)
    (hN : (nextP L).length = k) (hN2 : NextAt w1 w0.heap.size m (nextP L) (.slice a2 k cap2)) (hk1 : Kept w0 w1) (h0 : k ≠ 0) (hc : c + (k : Int) ≤ 4096) (hc1 : 1 ≤ c) (hd1 : 1 ≤ d) (hdc : d ≤ c) :
    GdR w p (.slice a2 k cap2) (.int .i64 (c + (k : Int))) (.int .i64 (d + 1)) w1 := by
  have h1 := sizes_next L
  have h2 := deeps_next L hL
  cases m with
  | zero => rw [none_of (nextP L)] at hN; exact absurd hN.symm h0
  | succ m =>
    subst hN
    refine ⟨m, nextP L, a2, cap2, c + ((nextP L).length : Int), d + 1, rfl, rfl, rfl, by omega, hc, by omega, by omega, fun e => h0 (by rw [e]; rfl), hN2.kids hk1.size (by omega), gtrans hk hk1, by omega, by omega⟩

set_option linter.unusedSimpArgs false in
set_option maxRecDepth 100000 in
set_option maxHeartbeats 4000000 in
theorem Guard_is (S : Nat → Prop) (n : Nat) (p : PatN (n + 1)) (v : Value) (w : World) (h : KidsAt S w n (kids p) v) :
    Calls Tryd.prog 87 #[valOf p v] w fun e w' => e = .returned (.int .i64 (boundsP p)) ∧ Kept w w' := by
  have HK := hide1 h
  obtain ⟨a, cap, rfl⟩ := h.form
  rw [valOf_eq]
  clear h
  go_enter Tryd.func87, Tryd.ntmps87
  go_wp2_with fail
  go_loopw [3, 4, 5] (fun lv cv dv wr => GdR w p lv cv dv wr) (fun _ cv _ _ => (4097 - intOf cv).toNat)
  case atStart =>
    have h2 := BoxAt.new (w.alloc (.cells #[.int .i64 (kind p), .int .i64 (from_ p), .int .i64 (to_ p), .int .i64 (min_ p), .int .i64 (max_ p), .slice a (kids p).length cap] 87)) (.int .i64 (kind p)) (.int .i64 (from_ p)) (.int .i64 (to_ p)) (.int .i64 (min_ p)) (.int .i64 (max_ p)) (.slice a (kids p).length cap)
    obtain ⟨⟨b0, b1, b2, b3, b4, b5⟩, _⟩ := h2.facts
    have hk2 := ((Kept.refl w).alloc #[.int .i64 (kind p), .int .i64 (from_ p), .int .i64 (to_ p), .int .i64 (min_ p), .int .i64 (max_ p), .slice a (kids p).length cap] 87).alloc #[.int .i64 (kind p), .int .i64 (from_ p), .int .i64 (to_ p), .int .i64 (min_ p), .int .i64 (max_ p), .slice a (kids p).length cap] 87
    have hlt := h2.lt
    have hsz := World.size_alloc w (.cells #[.int .i64 (kind p), .int .i64 (from_ p), .int .i64 (to_ p), .int .i64 (min_ p), .int .i64 (max_ p), .slice a (kids p).length cap] 87)
    rw [hsz] at b0 b1 b2 b3 b4 b5 hlt
    refine ⟨n, [p], some ⟨w.heap.size + 1, 0, none⟩, 1, 1, 1, rfl, rfl, rfl, by omega, by omega, by omega, by omega, by simp, ⟨_, _, rfl, Nat.le_refl _, by simp, Or.inr ⟨w.heap.size + 1, 0, rfl, hlt, ?_⟩⟩, hk2, ?_, ?_⟩
    · intro i q hq
      match i, hq with
      | 0, hq =>
        obtain rfl : p = q := Option.some.inj hq
        exact ⟨_, b0, b1, b2, b3, b4, b5, KidsAt.mono (fun _ _ _ _ h => h) (fun d hd => hd.2) _ _ _ (KidsAt.tight _ _ _ (HK.out.kept hk2))⟩
      | i + 1, hq => simp at hq
    · show _ = 1 - ((1 : Nat) : Int) + (sizeP (n + 1) p + 0)
      omega
    · show _ = 1 - 1 + max (depthP (n + 1) p) 0
      have := depth_pos n p
      omega
  case round =>
    obtain ⟨w0, rfl⟩ : ∃ w0, w0 = wr := ⟨wr, rfl⟩
    obtain ⟨m, L, a1, cap1, c, d, rfl, rfl, rfl, hc1, hc2, hd1, hd2, hL, hk, hkw, hs, hd⟩ := hrel
    have HL := hide1 hL
    have HKL := hide1 hk
    have HKW := hide1 hkw
    have HSZ := hide1 hs
    have HDP := hide1 hd
    obtain ⟨_, _, e1, hl1, hl2, _⟩ := hk
    simp only [Value.slice.injEq] at e1
    obtain ⟨rfl, _, rfl⟩ := e1
    have gl : (L.length : Int) ≤ 17592186044416 := by omega
    have gc : (L.length : Int) ≤ (cap1 : Int) := by omega
    clear hL hkw hs hd hl1 hl2
    go_wp2_with fail
    go_loopw [4, 6, 7] (fun cv nv iv wr' => GdI w0 L c cv nv iv wr') (fun _ _ iv _ => L.length - (intOf iv).toNat)
    case atStart =>
      exact ⟨0, 0, none, 0, c, rfl, rfl, rfl, rfl, by omega, hc2, Nat.zero_le _, NextAt.nil _ _ _, Kept.refl _⟩
    case round =>
      obtain ⟨j, k, a2, cap2, c1, rfl, rfl, rfl, hN, hcc, hc41, hj, hNA, hkr⟩ := hrel
      have HN := hide1 hN
      have HNA := hide1 hNA
      have HKR := hide1 hkr
      clear hN hNA hkr
      by_cases hlt : (j : Int) < (L.length : Int)
      · obtain ⟨q, hq⟩ : ∃ q, L[j]? = some q := ⟨_, List.getElem?_eq_getElem (by omega)⟩
        obtain ⟨a5, cap5, e2, _, _, h4⟩ := HKL.out.kept HKR.out
        simp only [Value.slice.injEq] at e2
        obtain ⟨rfl, _, rfl⟩ := e2
        rcases h4 with h4 | ⟨cb, o, rfl, hSc, h7⟩
        · rw [h4] at hq; simp at hq
        · obtain ⟨v', g0, g1, g2, g3, g4, g5, g6⟩ := h7 j q hq
          obtain ⟨a3, cap3, rfl⟩ := g6.form
          have hq6 : (kids q).length ≤ 17592186044416 := KidsAt.short g6
          have gq : ((kids q).length : Int) ≤ 17592186044416 := by omega
          have HG6 := hide1 g6
          have HQ := hide1 hq
          clear h7 g6 hq g0 g1 g2 g3 g4 hq6
          by_cases hbig : 4096 < c1 + ((kids q).length : Int)
          · go_wp2_with fail
            go_ret
            exact ⟨by rw [gd_long HSZ.out HQ.out (by rw [HN.out]; omega)]; rfl, gtrans HKW.out HKR.out⟩
          · go_wp2_with (at_builtin; go_must (refine wpl_append_next rfl _ _ rfl _ w0.heap.size m _ _ (nextP (L.take j)) (kids q) (k + (kids q).length) (by rw [HN.out]) (by rfl) (by rfl) HNA.out HG6.out (by rw [HN.out]; omega) HKR.out.size ?_; intro b9 cap9 w9 ho9 hg9; have HO9 := hide1 ho9; have HG9 := hide1 hg9; clear ho9 hg9))
            refine ⟨⟨j + 1, k + (kids q).length, b9, cap9, _, rfl, rfl, by simp, ?_, by omega, by omega, by omega, ?_, HKR.out.grownN HNA.out HG9.out⟩, by simp [intOf]; omega⟩
            · rw [next_snoc HQ.out, List.length_append, HN.out]
            · rw [next_snoc HQ.out]; exact HO9.out
      · have hjl : j = L.length := by omega
        rw [hjl, List.take_length] at HN HNA
        by_cases hk0 : k = 0
        · subst hk0
          have hE := gd_end HL.out HSZ.out HDP.out HN.out hc2
          have HE := hide1 hE
          clear hE
          by_cases h64 : 64 < d
          · rw [if_pos h64] at HE
            go_wp2_with fail
            go_ret
            exact ⟨by rw [HE.out]; rfl, gtrans HKW.out HKR.out⟩
          · rw [if_neg h64] at HE
            go_wp2_with fail
            go_ret
            exact ⟨by rw [HE.out]; rfl, gtrans HKW.out HKR.out⟩
        · have hkp : (0 : Int) < (k : Int) := by omega
          have hN := gd_next HKW.out HL.out HSZ.out HDP.out HN.out HNA.out HKR.out hk0 (by omega) hc1 hd1 hd2
          rw [← hcc] at hN
          have HNX := hide1 hN
          clear hN
          go_wp2_with fail
          exact ⟨HNX.out, by simp [intOf]; omega⟩

end Ex
end Go.Proofs.YtooelfjceehmmaaDoor
