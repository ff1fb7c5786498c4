import Derived.Test.YtpbnjdnlgcfiiaaExBase
import Derived.Deep.AppendLies
namespace Go.Proofs.Ytpbnjdnlgcfiiaa
open Go.RowKit
namespace Ex

/-- Patterns of n levels as patterns of m levels (what lies deeper falls away). -/
def fitL : (m n : Nat) → List (PatN n) → List (PatN m)
  | 0, _, _ => []
  | _ + 1, 0, _ => []
  | m + 1, n + 1, l => l.map fun p => (show PatN (m + 1) from (kind p, from_ p, to_ p, min_ p, max_ p, fitL m n (kids p)))
theorem KidsAt.fit {S : Nat → Prop} {w : World} : ∀ (n m : Nat), n ≤ m → ∀ (l : List (PatN n)) (v : Value), KidsAt S w n l v → KidsAt S w m (fitL m n l) v
  | 0, 0, _, _, _, h => h
  | 0, m + 1, _, _, v, h => by
    obtain ⟨a, cap, h⟩ := h
    exact ⟨a, cap, h, Nat.zero_le _, Nat.zero_le _, Or.inl rfl⟩
  | n + 1, 0, hm, _, _, _ => absurd hm (by omega)
  | n + 1, m + 1, hm, l, v, ⟨a, cap, h1, h2, h3, h4⟩ => by
    have e : (fitL (m + 1) (n + 1) l).length = l.length := List.length_map ..
    refine ⟨a, cap, by rw [e]; exact h1, by rw [e]; exact h2, by rw [e]; exact h3, ?_⟩
    rcases h4 with h4 | ⟨c, o, h5, h6, h7⟩
    · left; rw [h4]; rfl
    · refine Or.inr ⟨c, o, h5, h6, fun i q hq => ?_⟩
      have hq' : (l.map fun p => (show PatN (m + 1) from (kind p, from_ p, to_ p, min_ p, max_ p, fitL m n (kids p))))[i]? = some q := hq
      rw [List.getElem?_map] at hq'
      obtain ⟨p, hp, rfl⟩ := Option.map_eq_some_iff.1 hq'
      obtain ⟨v', g0, g1, g2, g3, g4, g5, g6⟩ := h7 i p hp
      exact ⟨v', g0, g1, g2, g3, g4, g5, KidsAt.fit n m (by omega) (kids p) v' g6⟩
theorem KidsAt.tight {S : Nat → Prop} {w : World} : ∀ (n : Nat) (l : List (PatN n)) (v : Value), KidsAt S w n l v → KidsAt (fun d => S d ∧ d < w.heap.size) w n l v
  | 0, _, _, h => h
  | n + 1, l, v, ⟨a, cap, h1, h2, h3, h4⟩ => by
    refine ⟨a, cap, h1, h2, h3, ?_⟩
    rcases h4 with h4 | ⟨c, o, h5, h6, h7⟩
    · exact Or.inl h4
    · by_cases hl : l = []
      · exact Or.inl hl
      · have hlt : c < w.heap.size := by
          obtain ⟨q, l', rfl⟩ := List.exists_cons_of_ne_nil hl
          obtain ⟨v', g0, _⟩ := h7 0 q rfl
          exact World.block_lt_of_cell? w _ g0
        refine Or.inr ⟨c, o, h5, ⟨h6, hlt⟩, fun i q hq => ?_⟩
        obtain ⟨v', g0, g1, g2, g3, g4, g5, g6⟩ := h7 i q hq
        exact ⟨v', g0, g1, g2, g3, g4, g5, KidsAt.tight n (kids q) v' g6⟩

/-- Patterns of any depth. -/
def Pat : Type := (n : Nat) × PatN (n + 1)
def topL : List Pat → Nat
  | [] => 0
  | p :: l => max (p.1 + 1) (topL l)
def kidsOf (m : Nat) (l : List Pat) : List (PatN m) := l.flatMap fun p => fitL m (p.1 + 1) [p.2]
def mkP (k f t mn mx : Int) (l : List Pat) : Pat := ⟨topL l, (show PatN (topL l + 1) from (k, f, t, mn, mx, kidsOf (topL l) l))⟩
theorem mkP_kids (k f t mn mx : Int) (l : List Pat) : kids (mkP k f t mn mx l).2 = kidsOf (topL l) l := rfl
/-- A list of patterns, six cells each. -/
def FlatAt (S : Nat → Prop) (w : World) : List Pat → List Value → Prop
  | [], xs => xs = []
  | p :: l, xs => ∃ v' ys, xs = .int .i64 (kind p.2) :: .int .i64 (from_ p.2) :: .int .i64 (to_ p.2) :: .int .i64 (min_ p.2) :: .int .i64 (max_ p.2) :: v' :: ys ∧ KidsAt S w p.1 (kids p.2) v' ∧ FlatAt S w l ys
theorem FlatAt.len {S : Nat → Prop} {w : World} : ∀ {l : List Pat} {xs : List Value}, FlatAt S w l xs → xs.length = l.length * 6
  | [], _, h => by rw [h]; rfl
  | _ :: l, _, ⟨v', ys, h1, _, h3⟩ => by rw [h1]; have := FlatAt.len h3; simp only [List.length_cons]; omega
theorem FlatAt.mono {S S' : Nat → Prop} {w w' : World} (hs : Holds S w w') (hS : ∀ b, S b → S' b) : ∀ {l : List Pat} {xs : List Value}, FlatAt S w l xs → FlatAt S' w' l xs
  | [], _, h => h
  | _ :: _, _, ⟨v', ys, h1, h2, h3⟩ => ⟨v', ys, h1, KidsAt.mono hs hS _ _ _ h2, FlatAt.mono hs hS h3⟩
theorem FlatAt.tight {S : Nat → Prop} {w : World} : ∀ {l : List Pat} {xs : List Value}, FlatAt S w l xs → FlatAt (fun d => S d ∧ d < w.heap.size) w l xs
  | [], _, h => h
  | _ :: _, _, ⟨v', ys, h1, h2, h3⟩ => ⟨v', ys, h1, KidsAt.tight _ _ _ h2, FlatAt.tight h3⟩
/-- The six cells of a pattern. -/
def cellsP (p : Pat) (v' : Value) : List Value := [.int .i64 (kind p.2), .int .i64 (from_ p.2), .int .i64 (to_ p.2), .int .i64 (min_ p.2), .int .i64 (max_ p.2), v']
theorem FlatAt.snoc {S : Nat → Prop} {w : World} : ∀ {l : List Pat} {xs : List Value} {p : Pat} {v' : Value}, FlatAt S w l xs → KidsAt S w p.1 (kids p.2) v' → FlatAt S w (l ++ [p]) (xs ++ cellsP p v')
  | [], xs, p, v', h, hk => by
    rw [show xs = [] from h]
    exact ⟨v', [], rfl, hk, rfl⟩
  | q :: l, xs, p, v', ⟨u', ys, h1, h2, h3⟩, hk => by
    rw [h1]
    exact ⟨u', ys ++ cellsP p v', rfl, h2, FlatAt.snoc h3 hk⟩
theorem FlatAt.at {S : Nat → Prop} {w : World} : ∀ {l : List Pat} {xs : List Value} {i : Nat} {p : Pat}, FlatAt S w l xs → l[i]? = some p →
    ∃ v', xs[i * 6]? = some (.int .i64 (kind p.2)) ∧ xs[i * 6 + 1]? = some (.int .i64 (from_ p.2)) ∧ xs[i * 6 + 2]? = some (.int .i64 (to_ p.2)) ∧ xs[i * 6 + 3]? = some (.int .i64 (min_ p.2)) ∧ xs[i * 6 + 4]? = some (.int .i64 (max_ p.2)) ∧ xs[i * 6 + 5]? = some v' ∧ KidsAt S w p.1 (kids p.2) v'
  | [], _, i, p, _, hi => by simp at hi
  | q :: l, _, 0, p, ⟨v', ys, h1, h2, h3⟩, hi => by
    rw [List.getElem?_cons_zero, Option.some.injEq] at hi
    subst hi
    rw [h1]
    exact ⟨v', rfl, rfl, rfl, rfl, rfl, rfl, h2⟩
  | q :: l, _, i + 1, p, ⟨v', ys, h1, h2, h3⟩, hi => by
    rw [List.getElem?_cons_succ] at hi
    obtain ⟨u', g⟩ := FlatAt.at h3 hi
    have e : ∀ j, (i + 1) * 6 + j = i * 6 + j + 6 := fun j => by omega
    have e0 : (i + 1) * 6 = i * 6 + 6 := by omega
    rw [h1]
    refine ⟨u', ?_⟩
    rw [e0, show i * 6 + 6 + 1 = i * 6 + 1 + 6 by omega, show i * 6 + 6 + 2 = i * 6 + 2 + 6 by omega, show i * 6 + 6 + 3 = i * 6 + 3 + 6 by omega, show i * 6 + 6 + 4 = i * 6 + 4 + 6 by omega, show i * 6 + 6 + 5 = i * 6 + 5 + 6 by omega]
    simp only [List.getElem?_cons_succ]
    exact g
theorem kidsOf_succ (m : Nat) : ∀ (l : List Pat), kidsOf (m + 1) l = l.map fun p => (show PatN (m + 1) from (kind p.2, from_ p.2, to_ p.2, min_ p.2, max_ p.2, fitL m p.1 (kids p.2)))
  | [] => rfl
  | p :: l => by
    have := kidsOf_succ m l
    unfold kidsOf at this ⊢
    rw [List.flatMap_cons, this]
    rfl
theorem top_le {l : List Pat} {p : Pat} (h : p ∈ l) : p.1 + 1 ≤ topL l := by
  induction l with
  | nil => cases h
  | cons q l ih =>
    unfold topL
    rcases List.mem_cons.1 h with h | h
    · subst h; omega
    · have := ih h; omega
theorem FlatAt.kids {S : Nat → Prop} {w : World} {l : List Pat} {xs : List Value} {m c o cap : Nat} (h : FlatAt S w l xs) (hx : ∀ j u, xs[j]? = some u → w.cell? ⟨c, o + j, none⟩ = some u) (hS : S c) (hm : topL l ≤ m) (hl : l.length ≤ 17592186044416) (hc : l.length ≤ cap) :
    KidsAt S w m (kidsOf m l) (.slice (some ⟨c, o, none⟩) l.length cap) := by
  cases m with
  | zero =>
    have : l = [] := by
      cases l with
      | nil => rfl
      | cons p l => have := top_le (List.mem_cons_self (a := p) (l := l)); omega
    subst this
    exact ⟨_, _, rfl⟩
  | succ m =>
    rw [kidsOf_succ]
    have e : ∀ F : Pat → PatN (m + 1), (l.map F).length = l.length := fun F => List.length_map ..
    refine ⟨_, cap, by rw [e], by rw [e]; exact hc, by rw [e]; exact hl, Or.inr ⟨c, o, rfl, hS, fun i q hq => ?_⟩⟩
    rw [List.getElem?_map] at hq
    obtain ⟨p, hp, rfl⟩ := Option.map_eq_some_iff.1 hq
    obtain ⟨v', g0, g1, g2, g3, g4, g5, g6⟩ := h.at hp
    have hp1 := top_le (List.mem_of_getElem? hp)
    refine ⟨v', hx _ _ g0, ?_, ?_, ?_, ?_, ?_, KidsAt.fit _ _ (by omega) _ _ g6⟩
    · rw [Nat.add_assoc]; exact hx _ _ g1
    · rw [Nat.add_assoc]; exact hx _ _ g2
    · rw [Nat.add_assoc]; exact hx _ _ g3
    · rw [Nat.add_assoc]; exact hx _ _ g4
    · rw [Nat.add_assoc]; exact hx _ _ g5
/-- No list at all. -/
theorem kids_nil (S : Nat → Prop) (w : World) (m cap : Nat) (a : Option Addr) (l : List (PatN m)) (h : l = []) : KidsAt S w m l (.slice a 0 cap) := by
  subst h
  cases m with
  | zero => exact ⟨_, _, rfl⟩
  | succ m => exact ⟨_, _, rfl, Nat.zero_le _, Nat.zero_le _, Or.inl rfl⟩

/-- A value that is a pattern. -/
def PatV (S : Nat → Prop) (w : World) (p : Pat) (v : Value) : Prop := ∃ v', v = valOf p.2 v' ∧ KidsAt S w p.1 (kids p.2) v'
theorem PatV.mono {S S' : Nat → Prop} {w w' : World} (hs : Holds S w w') (hS : ∀ b, S b → S' b) {p : Pat} {v : Value} (h : PatV S w p v) : PatV S' w' p v := by
  obtain ⟨v', h1, h2⟩ := h
  exact ⟨v', h1, KidsAt.mono hs hS _ _ _ h2⟩

end Ex
end Go.Proofs.Ytpbnjdnlgcfiiaa
