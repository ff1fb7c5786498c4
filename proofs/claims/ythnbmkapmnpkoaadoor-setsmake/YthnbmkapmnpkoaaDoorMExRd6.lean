import Derived.Test.YthnbmkapmnpkoaaDoorMExRd5
namespace Go.Proofs.YthnbmkapmnpkoaaDoor
open Go.RowKit
attribute [local go_sem] Oper.semAt_some
namespace Ex

/-- How often: up to m signs. -/
def timesG (T : ByteArray) : Nat → Pat → Int × Int × Int → Pat × Int × Int × Int
  | 0, p, s => (p, s)
  | m + 1, p, s =>
    if peekP T s.1 = 42 then timesG T m (mkP 4 0 0 0 (-1) [p]) (s.1 + 1, s.2)
    else if peekP T s.1 = 43 then timesG T m (mkP 4 0 0 1 (-1) [p]) (s.1 + 1, s.2)
    else if peekP T s.1 = 63 then timesG T m (mkP 4 0 0 0 1 [p]) (s.1 + 1, s.2)
    else if peekP T s.1 = 123 then timesG T m (mkP 4 0 0 (bracesS T s).1 (bracesS T s).2.1 [p]) (bracesS T s).2.2
    else (p, s)
def timesS (T : ByteArray) (p : Pat) (s : Int × Int × Int) : Pat × Int × Int × Int := timesG T 4097 p s

/-- A box of six cells. -/
def BoxAt (w : World) (g : Nat) (x0 x1 x2 x3 x4 x5 : Value) : Prop := w.heap[g]? = some (.cells #[x0, x1, x2, x3, x4, x5] 102 (0, 0))
theorem BoxAt.facts {w : World} {g : Nat} {x0 x1 x2 x3 x4 x5 : Value} (h : BoxAt w g x0 x1 x2 x3 x4 x5) :
    (w.cell? ⟨g, 0, none⟩ = some x0 ∧ w.cell? ⟨g, 1, none⟩ = some x1 ∧ w.cell? ⟨g, 2, none⟩ = some x2 ∧ w.cell? ⟨g, 3, none⟩ = some x3 ∧ w.cell? ⟨g, 4, none⟩ = some x4 ∧ w.cell? ⟨g, 5, none⟩ = some x5) ∧
    w.frozen? ⟨g, 0, none⟩ = false ∧ w.frozen? ⟨g, 1, none⟩ = false ∧ w.frozen? ⟨g, 2, none⟩ = false ∧ w.frozen? ⟨g, 3, none⟩ = false ∧ w.frozen? ⟨g, 4, none⟩ = false ∧ w.frozen? ⟨g, 5, none⟩ = false := by
  unfold BoxAt at h
  refine ⟨⟨?_, ?_, ?_, ?_, ?_, ?_⟩, ?_, ?_, ?_, ?_, ?_, ?_⟩ <;> simp [World.cell?, World.frozen?, h]
theorem BoxAt.lt {w : World} {g : Nat} {x0 x1 x2 x3 x4 x5 : Value} (h : BoxAt w g x0 x1 x2 x3 x4 x5) : g < w.heap.size := (Array.getElem?_eq_some_iff.1 h).1
theorem BoxAt.but {b : Nat} {w w' : World} {g : Nat} {x0 x1 x2 x3 x4 x5 : Value} (h : BoxAt w g x0 x1 x2 x3 x4 x5) (hk : KeptBut b w w') (hg : g ≠ b) : BoxAt w' g x0 x1 x2 x3 x4 x5 := (hk.2.2.2.2 g h.lt hg).trans h
theorem BoxAt.keep {w w' : World} {g : Nat} {x0 x1 x2 x3 x4 x5 : Value} (h : BoxAt w g x0 x1 x2 x3 x4 x5) (hk : Kept w w') : BoxAt w' g x0 x1 x2 x3 x4 x5 := (hk.2.2.2.2 g h.lt).trans h
theorem BoxAt.new (w : World) (x0 x1 x2 x3 x4 x5 : Value) : BoxAt (w.alloc (.cells #[x0, x1, x2, x3, x4, x5] 102)) w.heap.size x0 x1 x2 x3 x4 x5 := heap_alloc_new w _
theorem BoxAt.set {W : World} {g : Nat} {y0 y1 y2 y3 y4 y5 x0 x1 x2 x3 x4 x5 : Value} (h : BoxAt W g y0 y1 y2 y3 y4 y5) : BoxAt ((((((W.setCell ⟨g, 0, none⟩ x0).setCell ⟨g, 1, none⟩ x1).setCell ⟨g, 2, none⟩ x2).setCell ⟨g, 3, none⟩ x3).setCell ⟨g, 4, none⟩ x4).setCell ⟨g, 5, none⟩ x5) g x0 x1 x2 x3 x4 x5 := box_full h
theorem set6_other {W : World} {g d : Nat} {x0 x1 x2 x3 x4 x5 : Value} (hd : d ≠ g) : ((((((W.setCell ⟨g, 0, none⟩ x0).setCell ⟨g, 1, none⟩ x1).setCell ⟨g, 2, none⟩ x2).setCell ⟨g, 3, none⟩ x3).setCell ⟨g, 4, none⟩ x4).setCell ⟨g, 5, none⟩ x5).heap[d]? = W.heap[d]? := by
  rw [Below.heap_setCell _ _ _ _ hd, Below.heap_setCell _ _ _ _ hd, Below.heap_setCell _ _ _ _ hd, Below.heap_setCell _ _ _ _ hd, Below.heap_setCell _ _ _ _ hd, Below.heap_setCell _ _ _ _ hd]
theorem BoxAt.other {W : World} {g d : Nat} {y0 y1 y2 y3 y4 y5 x0 x1 x2 x3 x4 x5 : Value} (h : BoxAt W d y0 y1 y2 y3 y4 y5) (hd : d ≠ g) : BoxAt ((((((W.setCell ⟨g, 0, none⟩ x0).setCell ⟨g, 1, none⟩ x1).setCell ⟨g, 2, none⟩ x2).setCell ⟨g, 3, none⟩ x3).setCell ⟨g, 4, none⟩ x4).setCell ⟨g, 5, none⟩ x5) d y0 y1 y2 y3 y4 y5 := (set6_other hd).trans h
theorem set6_holds {S : Nat → Prop} {W : World} {g : Nat} {x0 x1 x2 x3 x4 x5 : Value} (hS : ¬ S g) : Holds S W ((((((W.setCell ⟨g, 0, none⟩ x0).setCell ⟨g, 1, none⟩ x1).setCell ⟨g, 2, none⟩ x2).setCell ⟨g, 3, none⟩ x3).setCell ⟨g, 4, none⟩ x4).setCell ⟨g, 5, none⟩ x5) := by
  intro d o v hd hc
  rw [← hc]
  exact World.cell?_of_block (a := ⟨d, o, none⟩) (set6_other (fun e => hS (e ▸ hd)))

theorem valOf_mkP (k f t mn mx : Int) (l : List Pat) (u : Value) : valOf (mkP k f t mn mx l).2 u = .agg #[.int .i64 k, .int .i64 f, .int .i64 t, .int .i64 mn, .int .i64 mx, u] := rfl
end Ex
end Go.Proofs.YthnbmkapmnpkoaaDoor
namespace Go.Proofs.YthnbmkapmnpkoaaDoor
open Go.RowKit
attribute [local go_sem] Oper.semAt_some
namespace Ex

theorem expr_info : (Tryd.prog.info? 102).map (fun i => (i.zero, i.size, i.bytes)) = some (some (.agg #[.int .i64 0, .int .i64 0, .int .i64 0, .int .i64 0, .int .i64 0, .slice none 0 0]), 6, 64) := by kernel_rfl
theorem info_parts {P : Program} {e : TypeId} {z : Value} {s b : Nat} (h : (P.info? e).map (fun i => (i.zero, i.size, i.bytes)) = some (some z, s, b)) : ∃ i, P.info? e = some i ∧ i.zero = some z ∧ i.size = s ∧ i.bytes = b := by
  obtain ⟨i, hi, h2⟩ := Option.map_eq_some_iff.1 h
  simp only [Prod.mk.injEq] at h2
  exact ⟨i, hi, h2.1, h2.2.1, h2.2.2⟩
/-- A list of patterns of the call's own, at v; what they hold lies in S, and not in the list's own block. -/
def PatsOwn (w : World) (base : Nat) (S : Nat → Prop) (v : Value) (l : List Pat) : Prop := ∃ xs, w.ownsRow base 102 6 v l.length xs ∧ FlatAt (fun d => S d ∧ v.ownBlock ≠ some d) w l xs
theorem PatsOwn.nil (w : World) (base : Nat) (S : Nat → Prop) : PatsOwn w base S (.slice none 0 0) [] := ⟨[], World.ownsRow_nil _ _ _ _, rfl⟩
theorem owns_same {w w' : World} {base size n : Nat} {e : TypeId} {v : Value} {xs : List Value} (h : w.ownsRow base e size v n xs) (hh : ∀ g, v.ownBlock = some g → w'.heap[g]? = w.heap[g]?) : w'.ownsRow base e size v n xs := by
  refine ⟨h.1, ?_⟩
  rcases h.2 with h0 | ⟨g, cap, cur, rfl, h1, h2, h3⟩
  · exact .inl h0
  · exact .inr ⟨g, cap, cur, rfl, h1, by rw [hh g rfl]; exact h2, h3⟩
theorem PatsOwn.form {w : World} {base : Nat} {S : Nat → Prop} {v : Value} {l : List Pat} (h : PatsOwn w base S v l) : ∃ a c, v = .slice a l.length c := by
  obtain ⟨xs, h, _⟩ := h
  rcases h.2 with ⟨rfl, h0⟩ | ⟨g, cap, cur, rfl, _⟩
  · exact ⟨none, 0, by rw [h0]⟩
  · exact ⟨_, _, rfl⟩
theorem PatsOwn.but {b base : Nat} {w w' : World} {S : Nat → Prop} {v : Value} {l : List Pat} (h : PatsOwn w base S v l) (hk : KeptBut b w w') (hb : b < base) (hS : ¬ S b) : PatsOwn w' base S v l := by
  obtain ⟨xs, h1, h2⟩ := h
  exact ⟨xs, owns_same h1 (fun g hg => hk.2.2.2.2 g (h1.lt g hg).2 (by have := (h1.lt g hg).1; omega)), h2.mono (hk.holds (fun h => hS h.1)) (fun _ h => h)⟩
theorem PatsOwn.keep {base : Nat} {w w' : World} {S : Nat → Prop} {v : Value} {l : List Pat} (h : PatsOwn w base S v l) (hk : Kept w w') : PatsOwn w' base S v l := by
  obtain ⟨xs, h1, h2⟩ := h
  exact ⟨xs, owns_same h1 (fun g hg => hk.2.2.2.2 g (h1.lt g hg).2), h2.mono (hk.holds _) (fun _ h => h)⟩
theorem PatsOwn.lt {base : Nat} {w : World} {S : Nat → Prop} {v : Value} {l : List Pat} (h : PatsOwn w base S v l) : ∀ g, v.ownBlock = some g → base ≤ g ∧ g < w.heap.size := by
  obtain ⟨xs, h1, _⟩ := h
  exact h1.lt
/-- The list of one. -/
theorem PatsOwn.one {w : World} {base g : Nat} {S : Nat → Prop} {p : Pat} {u : Value} (h : BoxAt w g (.int .i64 (kind p.2)) (.int .i64 (from_ p.2)) (.int .i64 (to_ p.2)) (.int .i64 (min_ p.2)) (.int .i64 (max_ p.2)) u) (hg : base ≤ g) (hk : KidsAt (fun d => S d ∧ d ≠ g) w p.1 (kids p.2) u) :
    PatsOwn w base S (.slice (some ⟨g, 0, none⟩) 1 1) [p] := by
  refine ⟨cellsP p u, ⟨rfl, .inr ⟨g, 1, _, rfl, hg, h, Nat.le_refl _, by unfold maxLen; omega, rfl, rfl⟩⟩, ?_⟩
  exact one_flat (KidsAt.mono (fun _ _ _ _ h => h) (fun d hd => ⟨hd.1, fun e => hd.2 (by simp only [Value.ownBlock, Option.some.injEq] at e; exact e.symm)⟩) _ _ _ hk)
theorem row_cells {w : World} {g n : Nat} {cur : Array Value} {xs : List Value} {t : TypeId} (h : w.heap[g]? = some (.cells cur t (0, 0))) (hx : cur.toList.take n = xs) : ∀ j u, xs[j]? = some u → w.cell? ⟨g, 0 + j, none⟩ = some u := by
  intro j u hj
  rw [← hx, List.getElem?_take] at hj
  split at hj
  · unfold World.cell?
    rw [Nat.zero_add]
    simp only [h]
    simpa using hj
  · cases hj
theorem PatsOwn.kids {base m : Nat} {w : World} {S : Nat → Prop} {v : Value} {l : List Pat} (h : PatsOwn w base S v l) (hS : ∀ d, base ≤ d → S d) (hm : topL l ≤ m) (hl : l.length ≤ 17592186044416) : KidsAt S w m (kidsOf m l) v := by
  obtain ⟨xs, h1, h2⟩ := h
  rcases h1.2 with ⟨rfl, h0⟩ | ⟨g, cap, cur, rfl, hb, hg, hc, _, _, hx⟩
  · have : l = [] := List.length_eq_zero_iff.1 h0
    subst this
    exact kids_nil _ _ _ _ _ _ rfl
  · exact (h2.mono (S' := S) (fun _ _ _ _ h => h) (fun d h => h.1)).kids (row_cells hg hx) (hS g hb) hm hl hc
theorem PatsOwn.first {base : Nat} {w : World} {S : Nat → Prop} {v : Value} {p : Pat} {l : List Pat} (h : PatsOwn w base S v (p :: l)) : ∃ g cap u, v = .slice (some ⟨g, 0, none⟩) (l.length + 1) cap ∧ l.length + 1 ≤ cap ∧ (w.cell? ⟨g, 0, none⟩ = some (.int .i64 (kind p.2)) ∧ w.cell? ⟨g, 1, none⟩ = some (.int .i64 (from_ p.2)) ∧ w.cell? ⟨g, 2, none⟩ = some (.int .i64 (to_ p.2)) ∧ w.cell? ⟨g, 3, none⟩ = some (.int .i64 (min_ p.2)) ∧ w.cell? ⟨g, 4, none⟩ = some (.int .i64 (max_ p.2)) ∧ w.cell? ⟨g, 5, none⟩ = some u) ∧ KidsAt S w p.1 (Ex.kids p.2) u := by
  obtain ⟨xs, h1, h2⟩ := h
  rcases h1.2 with ⟨rfl, h0⟩ | ⟨g, cap, cur, rfl, hb, hg, hc, _, _, hx⟩
  · simp at h0
  · obtain ⟨u, a0, a1, a2, a3, a4, a5, hk⟩ := h2.at (i := 0) (p := p) rfl
    have hh := row_cells hg hx
    refine ⟨g, cap, u, rfl, hc, ⟨?_, ?_, ?_, ?_, ?_, ?_⟩, KidsAt.mono (fun _ _ _ _ h => h) (fun d h => h.1) _ _ _ hk⟩
    · exact hh _ _ a0
    · exact hh _ _ a1
    · exact hh _ _ a2
    · exact hh _ _ a3
    · exact hh _ _ a4
    · exact hh _ _ a5
/-- What an append leaves: all but the list's own block. -/
theorem KeptBut.grown {b base : Nat} {w0 w w' : World} {S : Nat → Prop} {v : Value} {l : List Pat} (h : KeptBut b w0 w) (ho : PatsOwn w base S v l) (hb : w0.heap.size ≤ base) (hg : w.grownBy w' v.ownBlock) : KeptBut b w0 w' :=
  ⟨hg.os.trans h.1, hg.tape.trans h.2.1, hg.output.trans h.2.2.1, Nat.le_trans h.2.2.2.1 hg.size, fun k hk hn => (hg.block k (Nat.lt_of_lt_of_le hk h.2.2.2.1) (fun e => by have := (ho.lt k e.symm).1; omega)).trans (h.2.2.2.2 k hk hn)⟩
theorem heap_grown {base k : Nat} {w w' : World} {S : Nat → Prop} {v : Value} {l : List Pat} (ho : PatsOwn w base S v l) (hg : w.grownBy w' v.ownBlock) (hk : k < base) (hl : k < w.heap.size) : w'.heap[k]? = w.heap[k]? :=
  hg.block k hl (fun e => by have := (ho.lt k e.symm).1; omega)
theorem wpl_append_pat {ops : Array Oper} {rest : List Oper} {o : Oper} {a : Act} {Q : Exit → Act → World → Prop} (hgd : o.guard = none) (s x : Operand)
    (ho : o.op = .call { callee := .builtin .append, args := #[s, x], argTypes := #[100, 100] }) (W : World) (base : Nat) (S : Nat → Prop) (v : Value) (l : List Pat) (n : Nat) (hn : l.length = n) (hs : a.eval s = v) (hown : PatsOwn W base S v l)
    (lb : Nat) (p : Pat) (u : Value) (hx : a.eval x = .slice (some ⟨lb, 0, none⟩) 1 1) (hbx : BoxAt W lb (.int .i64 (kind p.2)) (.int .i64 (from_ p.2)) (.int .i64 (to_ p.2)) (.int .i64 (min_ p.2)) (.int .i64 (max_ p.2)) u)
    (hk : KidsAt (fun d => S d ∧ v.ownBlock ≠ some d) W p.1 (kids p.2) u) (hl : l.length ≤ 100000) (hbase : base ≤ W.heap.size)
    (h : ∀ g cap w', PatsOwn w' base S (.slice (some ⟨g, 0, none⟩) (n + 1) cap) (l ++ [p]) → W.grownBy w' v.ownBlock → wpList Tryd.prog ops Q rest (a.put o.dst (.slice (some ⟨g, 0, none⟩) (n + 1) cap)) w') : wpList Tryd.prog ops Q (o :: rest) a W := by
  obtain ⟨i0, hi, hz0, hz1, hz2⟩ := info_parts expr_info
  obtain ⟨xs, h1, h2⟩ := hown
  subst hn
  obtain ⟨⟨c0, c1, c2, c3, c4, c5⟩, _⟩ := hbx.facts
  obtain ⟨au, lu, cu, hu⟩ : ∃ a l c, u = .slice a l c := by obtain ⟨a, c, h⟩ := hk.form; exact ⟨_, _, _, h⟩
  refine wpList_append_lies W hgd s x 100 ho base 102 i0 _ 6 64 Tryd.underlying100 hi hz0 hz1 hz2 rfl (by decide) v l.length xs hs h1 ⟨lb, 0, none⟩ 1 1 (cellsP p u) hx rfl ?_ ?_ (by decide) (by unfold maxLen; omega) (by omega) hbase W.heap.size rfl ?_
  · intro j y hj
    have hj6 : j < 6 := (List.getElem?_eq_some_iff.1 hj).1
    match j, hj6 with
    | 0, _ => exact c0.trans hj
    | 1, _ => exact c1.trans hj
    | 2, _ => exact c2.trans hj
    | 3, _ => exact c3.trans hj
    | 4, _ => exact c4.trans hj
    | 5, _ => exact c5.trans hj
  · intro y hy
    subst hu
    simp only [cellsP, List.mem_cons, List.not_mem_nil, or_false] at hy
    rcases hy with rfl | rfl | rfl | rfl | rfl | rfl <;> rfl
  · intro g cap w' h3 h4 h5 h6
    refine h g cap w' ⟨xs ++ cellsP p u, by rw [List.length_append, List.length_singleton]; exact h3, ?_⟩ h4
    have hflat := (h2.snoc hk).tight
    refine hflat.mono ?_ ?_
    · intro d o' v' hd hc
      exact h4.cell hc (fun e => hd.1.2 e.symm)
    · intro d hd
      refine ⟨hd.1.1, fun e => ?_⟩
      simp only [Value.ownBlock, Option.some.injEq] at e
      rcases h5 with h5 | h5
      · exact hd.1.2 (by rw [h5, e])
      · have := hd.2; omega

end Ex
end Go.Proofs.YthnbmkapmnpkoaaDoor
