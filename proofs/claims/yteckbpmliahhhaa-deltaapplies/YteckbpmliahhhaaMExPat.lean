import Derived.Test.YteckbpmliahhhaaExBase
import Derived.Deep.AppendLies
import Derived.Deep.Slices
import Derived.SizedLaws
import Derived.ChangeSlices
namespace Go.Proofs.Yteckbpmliahhhaa
open Go.RowKit
namespace Ex

/-- Patterns of n levels as patterns of m levels (what lies deeper falls away). -/
def fitL : (m n : Nat) → List (PatN n) → List (PatN m)
  | 0, _, _ => []
  | _ + 1, 0, _ => []
  | m + 1, n + 1, l => l.map fun p => (show PatN (m + 1) from (kind p, from_ p, to_ p, min_ p, max_ p, fitL m n (kids p)))
theorem KidsAt.fit {S : Nat → Prop} {w : World} : ∀ (n m : Nat), n ≤ m → ∀ (l : List (PatN n)) (v : Value), KidsAt S w n l v → KidsAt S w m (fitL m n l) v
  | 0, 0, _, _, _, h => h
  | 0, m + 1, _, _, v, h => by
    obtain ⟨a, cap, h⟩ := h
    exact ⟨a, cap, h, Nat.zero_le _, Nat.zero_le _, Or.inl rfl⟩
  | n + 1, 0, hm, _, _, _ => absurd hm (by omega)
  | n + 1, m + 1, hm, l, v, ⟨a, cap, h1, h2, h3, h4⟩ => by
    have e : (fitL (m + 1) (n + 1) l).length = l.length := List.length_map ..
    refine ⟨a, cap, by rw [e]; exact h1, by rw [e]; exact h2, by rw [e]; exact h3, ?_⟩
    rcases h4 with h4 | ⟨c, o, h5, h6, h7⟩
    · left; rw [h4]; rfl
    · refine Or.inr ⟨c, o, h5, h6, fun i q hq => ?_⟩
      have hq' : (l.map fun p => (show PatN (m + 1) from (kind p, from_ p, to_ p, min_ p, max_ p, fitL m n (kids p))))[i]? = some q := hq
      rw [List.getElem?_map] at hq'
      obtain ⟨p, hp, rfl⟩ := Option.map_eq_some_iff.1 hq'
      obtain ⟨v', g0, g1, g2, g3, g4, g5, g6⟩ := h7 i p hp
      exact ⟨v', g0, g1, g2, g3, g4, g5, KidsAt.fit n m (by omega) (kids p) v' g6⟩
theorem KidsAt.tight {S : Nat → Prop} {w : World} : ∀ (n : Nat) (l : List (PatN n)) (v : Value), KidsAt S w n l v → KidsAt (fun d => S d ∧ d < w.heap.size) w n l v
  | 0, _, _, h => h
  | n + 1, l, v, ⟨a, cap, h1, h2, h3, h4⟩ => by
    refine ⟨a, cap, h1, h2, h3, ?_⟩
    rcases h4 with h4 | ⟨c, o, h5, h6, h7⟩
    · exact Or.inl h4
    · by_cases hl : l = []
      · exact Or.inl hl
      · have hlt : c < w.heap.size := by
          obtain ⟨q, l', rfl⟩ := List.exists_cons_of_ne_nil hl
          obtain ⟨v', g0, _⟩ := h7 0 q rfl
          exact World.block_lt_of_cell? w _ g0
        refine Or.inr ⟨c, o, h5, ⟨h6, hlt⟩, fun i q hq => ?_⟩
        obtain ⟨v', g0, g1, g2, g3, g4, g5, g6⟩ := h7 i q hq
        exact ⟨v', g0, g1, g2, g3, g4, g5, KidsAt.tight n (kids q) v' g6⟩

/-- Patterns of any depth. -/
def Pat : Type := (n : Nat) × PatN (n + 1)
def topL : List Pat → Nat
  | [] => 0
  | p :: l => max (p.1 + 1) (topL l)
def kidsOf (m : Nat) (l : List Pat) : List (PatN m) := l.flatMap fun p => fitL m (p.1 + 1) [p.2]
def mkP (k f t mn mx : Int) (l : List Pat) : Pat := ⟨topL l, (show PatN (topL l + 1) from (k, f, t, mn, mx, kidsOf (topL l) l))⟩
theorem mkP_kids (k f t mn mx : Int) (l : List Pat) : kids (mkP k f t mn mx l).2 = kidsOf (topL l) l := rfl
/-- A list of patterns, six cells each. -/
def FlatAt (S : Nat → Prop) (w : World) : List Pat → List Value → Prop
  | [], xs => xs = []
  | p :: l, xs => ∃ v' ys, xs = .int .i64 (kind p.2) :: .int .i64 (from_ p.2) :: .int .i64 (to_ p.2) :: .int .i64 (min_ p.2) :: .int .i64 (max_ p.2) :: v' :: ys ∧ KidsAt S w p.1 (kids p.2) v' ∧ FlatAt S w l ys
theorem FlatAt.len {S : Nat → Prop} {w : World} : ∀ {l : List Pat} {xs : List Value}, FlatAt S w l xs → xs.length = l.length * 6
  | [], _, h => by rw [h]; rfl
  | _ :: l, _, ⟨v', ys, h1, _, h3⟩ => by rw [h1]; have := FlatAt.len h3; simp only [List.length_cons]; omega
theorem FlatAt.mono {S S' : Nat → Prop} {w w' : World} (hs : Holds S w w') (hS : ∀ b, S b → S' b) : ∀ {l : List Pat} {xs : List Value}, FlatAt S w l xs → FlatAt S' w' l xs
  | [], _, h => h
  | _ :: _, _, ⟨v', ys, h1, h2, h3⟩ => ⟨v', ys, h1, KidsAt.mono hs hS _ _ _ h2, FlatAt.mono hs hS h3⟩
theorem FlatAt.tight {S : Nat → Prop} {w : World} : ∀ {l : List Pat} {xs : List Value}, FlatAt S w l xs → FlatAt (fun d => S d ∧ d < w.heap.size) w l xs
  | [], _, h => h
  | _ :: _, _, ⟨v', ys, h1, h2, h3⟩ => ⟨v', ys, h1, KidsAt.tight _ _ _ h2, FlatAt.tight h3⟩
/-- The six cells of a pattern. -/
def cellsP (p : Pat) (v' : Value) : List Value := [.int .i64 (kind p.2), .int .i64 (from_ p.2), .int .i64 (to_ p.2), .int .i64 (min_ p.2), .int .i64 (max_ p.2), v']
theorem FlatAt.snoc {S : Nat → Prop} {w : World} : ∀ {l : List Pat} {xs : List Value} {p : Pat} {v' : Value}, FlatAt S w l xs → KidsAt S w p.1 (kids p.2) v' → FlatAt S w (l ++ [p]) (xs ++ cellsP p v')
  | [], xs, p, v', h, hk => by
    rw [show xs = [] from h]
    exact ⟨v', [], rfl, hk, rfl⟩
  | q :: l, xs, p, v', ⟨u', ys, h1, h2, h3⟩, hk => by
    rw [h1]
    exact ⟨u', ys ++ cellsP p v', rfl, h2, FlatAt.snoc h3 hk⟩
theorem FlatAt.at {S : Nat → Prop} {w : World} : ∀ {l : List Pat} {xs : List Value} {i : Nat} {p : Pat}, FlatAt S w l xs → l[i]? = some p →
    ∃ v', xs[i * 6]? = some (.int .i64 (kind p.2)) ∧ xs[i * 6 + 1]? = some (.int .i64 (from_ p.2)) ∧ xs[i * 6 + 2]? = some (.int .i64 (to_ p.2)) ∧ xs[i * 6 + 3]? = some (.int .i64 (min_ p.2)) ∧ xs[i * 6 + 4]? = some (.int .i64 (max_ p.2)) ∧ xs[i * 6 + 5]? = some v' ∧ KidsAt S w p.1 (kids p.2) v'
  | [], _, i, p, _, hi => by simp at hi
  | q :: l, _, 0, p, ⟨v', ys, h1, h2, h3⟩, hi => by
    rw [List.getElem?_cons_zero, Option.some.injEq] at hi
    subst hi
    rw [h1]
    exact ⟨v', rfl, rfl, rfl, rfl, rfl, rfl, h2⟩
  | q :: l, _, i + 1, p, ⟨v', ys, h1, h2, h3⟩, hi => by
    rw [List.getElem?_cons_succ] at hi
    obtain ⟨u', g⟩ := FlatAt.at h3 hi
    have e : ∀ j, (i + 1) * 6 + j = i * 6 + j + 6 := fun j => by omega
    have e0 : (i + 1) * 6 = i * 6 + 6 := by omega
    rw [h1]
    refine ⟨u', ?_⟩
    rw [e0, show i * 6 + 6 + 1 = i * 6 + 1 + 6 by omega, show i * 6 + 6 + 2 = i * 6 + 2 + 6 by omega, show i * 6 + 6 + 3 = i * 6 + 3 + 6 by omega, show i * 6 + 6 + 4 = i * 6 + 4 + 6 by omega, show i * 6 + 6 + 5 = i * 6 + 5 + 6 by omega]
    simp only [List.getElem?_cons_succ]
    exact g
theorem kidsOf_succ (m : Nat) : ∀ (l : List Pat), kidsOf (m + 1) l = l.map fun p => (show PatN (m + 1) from (kind p.2, from_ p.2, to_ p.2, min_ p.2, max_ p.2, fitL m p.1 (kids p.2)))
  | [] => rfl
  | p :: l => by
    have := kidsOf_succ m l
    unfold kidsOf at this ⊢
    rw [List.flatMap_cons, this]
    rfl
theorem top_le {l : List Pat} {p : Pat} (h : p ∈ l) : p.1 + 1 ≤ topL l := by
  induction l with
  | nil => cases h
  | cons q l ih =>
    unfold topL
    rcases List.mem_cons.1 h with h | h
    · subst h; omega
    · have := ih h; omega
theorem FlatAt.kids {S : Nat → Prop} {w : World} {l : List Pat} {xs : List Value} {m c o cap : Nat} (h : FlatAt S w l xs) (hx : ∀ j u, xs[j]? = some u → w.cell? ⟨c, o + j, none⟩ = some u) (hS : S c) (hm : topL l ≤ m) (hl : l.length ≤ 17592186044416) (hc : l.length ≤ cap) :
    KidsAt S w m (kidsOf m l) (.slice (some ⟨c, o, none⟩) l.length cap) := by
  cases m with
  | zero =>
    have : l = [] := by
      cases l with
      | nil => rfl
      | cons p l => have := top_le (List.mem_cons_self (a := p) (l := l)); omega
    subst this
    exact ⟨_, _, rfl⟩
  | succ m =>
    rw [kidsOf_succ]
    have e : ∀ F : Pat → PatN (m + 1), (l.map F).length = l.length := fun F => List.length_map ..
    refine ⟨_, cap, by rw [e], by rw [e]; exact hc, by rw [e]; exact hl, Or.inr ⟨c, o, rfl, hS, fun i q hq => ?_⟩⟩
    rw [List.getElem?_map] at hq
    obtain ⟨p, hp, rfl⟩ := Option.map_eq_some_iff.1 hq
    obtain ⟨v', g0, g1, g2, g3, g4, g5, g6⟩ := h.at hp
    have hp1 := top_le (List.mem_of_getElem? hp)
    refine ⟨v', hx _ _ g0, ?_, ?_, ?_, ?_, ?_, KidsAt.fit _ _ (by omega) _ _ g6⟩
    · rw [Nat.add_assoc]; exact hx _ _ g1
    · rw [Nat.add_assoc]; exact hx _ _ g2
    · rw [Nat.add_assoc]; exact hx _ _ g3
    · rw [Nat.add_assoc]; exact hx _ _ g4
    · rw [Nat.add_assoc]; exact hx _ _ g5
/-- No list at all. -/
theorem kids_nil (S : Nat → Prop) (w : World) (m cap : Nat) (a : Option Addr) (l : List (PatN m)) (h : l = []) : KidsAt S w m l (.slice a 0 cap) := by
  subst h
  cases m with
  | zero => exact ⟨_, _, rfl⟩
  | succ m => exact ⟨_, _, rfl, Nat.zero_le _, Nat.zero_le _, Or.inl rfl⟩

/-- A value that is a pattern. -/
def PatV (S : Nat → Prop) (w : World) (p : Pat) (v : Value) : Prop := ∃ v', v = valOf p.2 v' ∧ KidsAt S w p.1 (kids p.2) v'
theorem PatV.mono {S S' : Nat → Prop} {w w' : World} (hs : Holds S w w') (hS : ∀ b, S b → S' b) {p : Pat} {v : Value} (h : PatV S w p v) : PatV S' w' p v := by
  obtain ⟨v', h1, h2⟩ := h
  exact ⟨v', h1, KidsAt.mono hs hS _ _ _ h2⟩

end Ex
end Go.Proofs.Yteckbpmliahhhaa
namespace Go.Proofs.Yteckbpmliahhhaa
open Go.RowKit Go.ChangeShapes Go.WideShapes Go.ChangeAt
namespace Ex

section
variable {H : Type} {enc : TypeId × Value → H}

theorem weights_all {P : Program} {e : TypeId} : ∀ {ds : List (DataW H)} {d : DataW H}, d ∈ ds → ∀ n ∈ d.weights P e, n ∈ DataW.weightsAll P e ds
  | x :: r, d, hd, n, hn => by
    simp only [DataW.weightsAll, List.mem_append]
    rcases List.mem_cons.1 hd with rfl | hd
    · exact .inl hn
    · exact .inr (weights_all hd n hn)
  | [], _, hd, _, _ => by cases hd
theorem six {α : Type} : ∀ {l : List α}, l.length = 6 → ∃ a b c d e f, l = [a, b, c, d, e, f]
  | [a, b, c, d, e, f], _ => ⟨a, b, c, d, e, f, rfl⟩
  | [], h => by simp at h
  | [_], h => by simp at h
  | [_, _], h => by simp at h
  | [_, _, _], h => by simp at h
  | [_, _, _, _], h => by simp at h
  | [_, _, _, _, _], h => by simp at h
  | _ :: _ :: _ :: _ :: _ :: _ :: _ :: _, h => by simp at h
theorem int_size : Try.prog.cellsOf 3 = 1 := by kernel_rfl
theorem weights_field {P : Program} {t : TypeId} {fs : Array Field} (ht : P.underlying t = some (.struct fs)) {y0 y1 y2 y3 y4 y5 : DataW H} {f0 f1 f2 f3 f4 f5 : Field} (hf : fs = #[f0, f1, f2, f3, f4, f5]) : ∀ n ∈ y5.weights P f5.type, n ∈ (DataW.agg [y0, y1, y2, y3, y4, y5]).weights P t := by
  intro n hn
  subst hf
  simp only [DataW.weights, ht]
  simp only [List.map_cons, List.map_nil, DataW.weightsEach, List.mem_append]
  right; right; right; right; right; left
  exact hn

end

end Ex
end Go.Proofs.Yteckbpmliahhhaa
namespace Go.Proofs.Yteckbpmliahhhaa
open Go.RowKit Go.ChangeShapes Go.WideShapes Go.ChangeAt
namespace Ex

/-- A list in memory: sz cells each, of which El tells what they are. -/
def SliceOf {α : Type} (w : World) (sz : Nat) (El : List Value → α → Prop) (v : Value) (xs : List α) : Prop :=
  ∃ a cap, v = .slice a xs.length cap ∧ xs.length ≤ cap ∧ xs.length ≤ 17592186044416 ∧ (xs = [] ∨ ∃ c o, a = some ⟨c, o, none⟩ ∧ c < w.heap.size ∧ ∀ (i : Nat) (x : α), xs[i]? = some x → ∃ cs : List Value, cs.length = sz ∧ (∀ (j : Nat) (u : Value), cs[j]? = some u → w.cell? ⟨c, o + i * sz + j, none⟩ = some u) ∧ El cs x)
theorem SliceOf.mono {α : Type} {w w' : World} {sz : Nat} {El El' : List Value → α → Prop} {v : Value} {xs : List α} (h : SliceOf w sz El v xs) (hk : Kept w w') (hE : ∀ cs x, El cs x → El' cs x) : SliceOf w' sz El' v xs := by
  obtain ⟨a, cap, h1, h2, h3, h4⟩ := h
  refine ⟨a, cap, h1, h2, h3, ?_⟩
  rcases h4 with h4 | ⟨c, o, h5, h6, h7⟩
  · exact .inl h4
  · refine .inr ⟨c, o, h5, Nat.lt_of_lt_of_le h6 hk.size, fun i x hi => ?_⟩
    obtain ⟨cs, g1, g2, g3⟩ := h7 i x hi
    exact ⟨cs, g1, fun j u hj => grown_cell hk (g2 j u hj), hE cs x g3⟩
section
variable {H : Type} {enc : TypeId × Value → H}
set_option maxRecDepth 100000 in
/-- A list that came in, by what its elements are. -/
theorem slice_gen {α : Type} (dflt : α) {t e : TypeId} (ht : Try.prog.underlying t = some (.slice e)) (sz byt : Nat) (hsz : Try.prog.cellsOf e = sz) (hpos : 0 < sz) (hby : Try.prog.bytesOf e = byt) (hb8 : 8 ≤ byt) (El : List Value → α → Prop) {W : World} {fuel : Nat} {v : Value} {x : DataW H × List MemPlace} (h : DataW.trod enc Try.prog W 0 (fun _ => true) true fuel t [v] = some x) (hz : ∀ n ∈ x.1.weights Try.prog t, n ≤ reachBytes)
    (hel : ∀ (m : Nat) (cs : List Value) (y : DataW H × List MemPlace), m < fuel → cs.length = sz → DataW.trod enc Try.prog W 0 (fun _ => true) true m e cs = some y → (∀ n ∈ y.1.weights Try.prog e, n ≤ reachBytes) → ∃ a, El cs a) : ∃ xs, SliceOf W sz El v xs := by
  rcases DataW.trod_slice ht h with ⟨hcs, _⟩ | ⟨a, len, cap, elems, rest, n, hn, hcs, hx, _, hl, hm, hlen, hall, _, _⟩
  · simp only [List.cons.injEq, and_true] at hcs
    subst hcs
    exact ⟨[], none, 0, rfl, by simp, by simp, .inl rfl⟩
  · simp only [List.cons.injEq, and_true] at hcs
    subst hcs hx
    have hb : len * 8 ≤ reachBytes := by
      have := hz _ (by simp only [DataW.weights, ht]; exact List.mem_cons_self)
      rw [hby] at this
      simp only [List.length_map] at this
      rw [hlen] at this
      have h2 : len * 8 ≤ (len + rest.length) * byt := Nat.mul_le_mul (Nat.le_add_right _ _) hb8
      omega
    have hle : len ≤ 17592186044416 := by unfold reachBytes at hb; omega
    by_cases h0 : len = 0
    · subst h0
      exact ⟨[], some a, cap, rfl, by simp, by simp, .inl rfl⟩
    have hone : ∀ i, i < len → ∃ q : α, ∃ cs : List Value, cs.length = sz ∧ (∀ (j : Nat) (u : Value), cs[j]? = some u → W.cell? ((a.add (i * sz)).add j) = some u) ∧ El cs q := by
      intro i hi
      have hei := hall i hi
      obtain ⟨ei, hei2⟩ : ∃ y, elems[i]? = some y := ⟨_, List.getElem?_eq_getElem (by omega)⟩
      rw [hei2, hsz] at hei
      obtain ⟨cs', hc1, hc2⟩ := Option.bind_eq_some_iff.1 hei
      obtain ⟨_, hc3, hc4⟩ := World.cells?_some hc1
      obtain ⟨q, hq⟩ := hel n cs' ei (by omega) hc3 hc2 (fun m hm2 => hz m (by
        simp only [DataW.weights, ht]
        exact List.mem_cons_of_mem _ (List.mem_append.2 (.inl (weights_all (List.mem_map.2 ⟨ei, List.mem_of_getElem? hei2, rfl⟩) m hm2)))))
      refine ⟨q, cs', hc3, fun j u hj => ?_, hq⟩
      have hjl := (List.getElem?_eq_some_iff.1 hj).1
      rw [hc4 j (by omega)]
      exact hj
    have inh : Inhabited α := ⟨dflt⟩
    obtain ⟨Q, hQ⟩ := Go.Deep.choose_lt hone
    obtain ⟨c1, o1, t1⟩ := a
    have hspot : t1 = none := by
      obtain ⟨cs, g1, g2, _⟩ := hQ 0 (by omega)
      obtain ⟨u, hu⟩ : ∃ u, cs[0]? = some u := ⟨_, List.getElem?_eq_getElem (by omega)⟩
      simpa [Addr.add] using World.cell?_spot (g2 0 u hu)
    subst hspot
    have hc : c1 < W.heap.size := by
      obtain ⟨cs, g1, g2, _⟩ := hQ 0 (by omega)
      obtain ⟨u, hu⟩ : ∃ u, cs[0]? = some u := ⟨_, List.getElem?_eq_getElem (by omega)⟩
      have := g2 0 u hu
      simp only [Addr.add_mid] at this
      exact World.block_lt_of_cell? W _ this
    refine ⟨(List.range len).map Q, some ⟨c1, o1, none⟩, cap, ?_, ?_, ?_, .inr ⟨c1, o1, rfl, hc, fun i q hq => ?_⟩⟩
    · rw [List.length_map, List.length_range]
    · rw [List.length_map, List.length_range]; exact hl
    · rw [List.length_map, List.length_range]; exact hle
    · rw [List.getElem?_map] at hq
      obtain ⟨i', hi', rfl⟩ := Option.map_eq_some_iff.1 hq
      obtain ⟨hi, he⟩ := List.getElem?_eq_some_iff.1 hi'
      rw [List.length_range] at hi
      rw [List.getElem_range] at he
      subst he
      obtain ⟨cs, g1, g2, g3⟩ := hQ i hi
      refine ⟨cs, g1, fun j u hj => ?_, g3⟩
      have := g2 j u hj
      simp only [Addr.add_mid] at this
      exact this
end

end Ex
end Go.Proofs.Yteckbpmliahhhaa
