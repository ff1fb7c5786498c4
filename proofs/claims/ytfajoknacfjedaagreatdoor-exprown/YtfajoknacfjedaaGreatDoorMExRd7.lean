import Derived.Test.YtfajoknacfjedaaGreatDoorMExRd5
import Derived.Deep.DeepMust
import Derived.OwnWalk
import Derived.Test.YtfajoknacfjedaaGreatDoorMExArg
import Derived.ArgAppend
namespace Go.Proofs.YtfajoknacfjedaaGreatDoor
open Go.RowKit
attribute [local go_sem] Oper.semAt_some
namespace Ex

/-- One pattern by itself, or a list of that kind. -/
def oneOf (k : Int) : List Pat → Pat
  | [p] => p
  | l => mkP k 0 0 0 0 l
theorem failE_ne {e x : Int} (hx : x ≠ 0) : failE e x ≠ 0 := by unfold failE; split <;> assumption
theorem wrongC_ne (T : ByteArray) (k : Int) : wrongC T k ≠ 0 := by unfold wrongC; split <;> decide
theorem one_go {T : ByteArray} {s : Int × Int × Int} : s.1 < (oneS T s).2.1 ∨ (oneS T s).2.2.1 ≠ 0 := by
  unfold oneS
  split
  · left; show s.1 < s.1 + 1; omega
  · right; exact failE_ne (wrongC_ne _ _)
theorem box_moved {b o : Nat} {w w' : World} {v : Value} (h : KeptBut b ((w.setCell ⟨b, o, none⟩ v).alloc (.cells #[.int .i64 0, .int .i64 0, .int .i64 0, .int .i64 0, .int .i64 0, .slice none 0 0] 24)) w') (hb : b < w.heap.size) : BoxAt w' w.heap.size (.int .i64 0) (.int .i64 0) (.int .i64 0) (.int .i64 0) (.int .i64 0) (.slice none 0 0) := by
  have e : (w.setCell ⟨b, o, none⟩ v).heap.size = w.heap.size := by simp [World.setCell]
  have := box_kept h (by rw [e]; exact hb)
  rw [e] at this
  exact this

theorem PatsOwn.nonnil {base n cap : Nat} {w : World} {S : Nat → Prop} {a : Option Addr} {q : Pat} {l : List Pat} (h : PatsOwn w base S (.slice a n cap) (q :: l)) : ∃ g, a = some ⟨g, 0, none⟩ ∧ 1 ≤ cap := by
  obtain ⟨g, c, u, e, hc, _⟩ := h.first
  simp only [Value.slice.injEq] at e
  exact ⟨g, e.1, by omega⟩
theorem PatsOwn.one_facts {base n cap g : Nat} {w : World} {S : Nat → Prop} {q : Pat} {l : List Pat} (h : PatsOwn w base S (.slice (some ⟨g, 0, none⟩) n cap) (q :: l)) : ∃ u, (w.cell? ⟨g, 0, none⟩ = some (.int .i64 (kind q.2)) ∧ w.cell? ⟨g, 1, none⟩ = some (.int .i64 (from_ q.2)) ∧ w.cell? ⟨g, 2, none⟩ = some (.int .i64 (to_ q.2)) ∧ w.cell? ⟨g, 3, none⟩ = some (.int .i64 (min_ q.2)) ∧ w.cell? ⟨g, 4, none⟩ = some (.int .i64 (max_ q.2)) ∧ w.cell? ⟨g, 5, none⟩ = some u) ∧ KidsAt S w q.1 (Ex.kids q.2) u := by
  obtain ⟨g', c, u, e, _, hc, hk⟩ := h.first
  simp only [Value.slice.injEq, Option.some.injEq, Addr.mk.injEq] at e
  obtain ⟨⟨rfl, _⟩, _⟩ := e
  exact ⟨u, hc, hk⟩
def errOf (b : Nat) (w : World) : Int := intOf ((w.cell? ⟨b, 2, none⟩).getD (.int .i64 0))
theorem RAt.err {w : World} {b : Nat} {T : ByteArray} {k e f : Int} (h : RAt w b T k e f) : errOf b w = e := by
  unfold errOf; rw [h.cells.2.2.1]; rfl
def classB (k1 : Int) (j : Nat) (k2 e2 : Int) : Prop := k1 + (j : Int) ≤ k2 + (if e2 ≠ 0 then 1 else 0)
theorem oneOf_more {k : Int} {l : List Pat} (h : l.length ≠ 1) : oneOf k l = mkP k 0 0 0 0 l := by
  match l, h with
  | [], _ => rfl
  | [_], h => exact absurd rfl h
  | _ :: _ :: _, _ => rfl
theorem list_one {l : List Pat} (h : l.length = 1) : ∃ p, l = [p] := List.length_eq_one_iff.1 h
end Ex
end Go.Proofs.YtfajoknacfjedaaGreatDoor
namespace Go.Proofs.YtfajoknacfjedaaGreatDoor
open Go.RowKit
set_option linter.unusedVariables false
namespace Ex

/-- The blocks S are as they were. -/
def HoldsU (S : Nat → Prop) (w w' : World) : Prop := ∀ b, S b → b < w.heap.size → w'.heap[b]? = w.heap[b]?
theorem HoldsU.cell {S : Nat → Prop} {w w' : World} (h : HoldsU S w w') {b o : Nat} {v : Value} (hS : S b) (hc : w.cell? ⟨b, o, none⟩ = some v) : w'.cell? ⟨b, o, none⟩ = some v :=
  (World.cell?_of_block (a := ⟨b, o, none⟩) (h b hS (World.block_lt_of_cell? w _ hc))).trans hc
theorem Kept.holdsU {w w' : World} (h : Kept w w') (S : Nat → Prop) : HoldsU S w w' := fun b _ hb => h.2.2.2.2 b hb
theorem KeptBut.holdsU {b : Nat} {w w' : World} (h : KeptBut b w w') {S : Nat → Prop} (hS : ¬ S b) : HoldsU S w w' := fun d hd hl => h.2.2.2.2 d hl (fun e => hS (e ▸ hd))
theorem set6_holdsU {S : Nat → Prop} {W : World} {g : Nat} {x0 x1 x2 x3 x4 x5 : Value} (hS : ¬ S g) : HoldsU S W ((((((W.setCell ⟨g, 0, none⟩ x0).setCell ⟨g, 1, none⟩ x1).setCell ⟨g, 2, none⟩ x2).setCell ⟨g, 3, none⟩ x3).setCell ⟨g, 4, none⟩ x4).setCell ⟨g, 5, none⟩ x5) :=
  fun d hd _ => set6_other (fun e => hS (e ▸ hd))
theorem HoldsU.set {S : Nat → Prop} {w W : World} {g o : Nat} {v : Value} (h : HoldsU S w W) (hS : ¬ S g) : HoldsU S w (W.setCell ⟨g, o, none⟩ v) :=
  fun d hd hl => (Below.heap_setCell _ _ _ _ (fun e => hS (by have e2 : d = g := e; rw [← e2]; exact hd))).trans (h d hd hl)
/-- A list of patterns, every list in a row of its own, in the blocks S. -/
def KidsO (S : Nat → Prop) (w : World) : (n : Nat) → List (PatN n) → Value → Prop
  | 0, _, v => ∃ a cap, v = .slice a 0 cap
  | n + 1, l, v => ∃ a cap, v = .slice a l.length cap ∧ l.length ≤ cap ∧ l.length ≤ 17592186044416 ∧ (l = [] ∨ ∃ (c : Nat) (cur : Array Value) (F : Nat → Nat → Prop), a = some ⟨c, 0, none⟩ ∧ S c ∧ w.heap[c]? = some (.cells cur 24 (0, 0)) ∧ cap ≤ maxLen ∧ cur.size = cap * 6 ∧
      (∀ i d, F i d → S d ∧ d ≠ c) ∧ (∀ i j d, F i d → F j d → i = j) ∧ ∀ (i : Nat) (q : PatN (n + 1)), l[i]? = some q → ∃ v',
      w.cell? ⟨c, i * 6, none⟩ = some (.int .i64 (kind q)) ∧ w.cell? ⟨c, i * 6 + 1, none⟩ = some (.int .i64 (from_ q)) ∧ w.cell? ⟨c, i * 6 + 2, none⟩ = some (.int .i64 (to_ q)) ∧
      w.cell? ⟨c, i * 6 + 3, none⟩ = some (.int .i64 (min_ q)) ∧ w.cell? ⟨c, i * 6 + 4, none⟩ = some (.int .i64 (max_ q)) ∧ w.cell? ⟨c, i * 6 + 5, none⟩ = some v' ∧ KidsO (F i) w n (kids q) v')
theorem KidsO.mono0 {w w' : World} : ∀ (n : Nat) {S S' : Nat → Prop} (hs : HoldsU S w w') (hS : ∀ b, S b → S' b) (l : List (PatN n)) (v : Value), KidsO S w n l v → KidsO S' w' n l v
  | 0, _, _, _, _, _, _, h => h
  | n + 1, S, S', hs, hS, l, v, ⟨a, cap, h1, h2, h3, h4⟩ => by
    refine ⟨a, cap, h1, h2, h3, ?_⟩
    rcases h4 with h4 | ⟨c, cur, F, h5, h6, h7, h8, h9, f1, f2, hq⟩
    · exact Or.inl h4
    · refine Or.inr ⟨c, cur, F, h5, hS c h6, (hs c h6 (Array.getElem?_eq_some_iff.1 h7).1).trans h7, h8, h9, fun i d hd => ⟨hS d (f1 i d hd).1, (f1 i d hd).2⟩, f2, fun i q hi => ?_⟩
      obtain ⟨v', g0, g1, g2, g3, g4, g5, g6⟩ := hq i q hi
      exact ⟨v', hs.cell h6 g0, hs.cell h6 g1, hs.cell h6 g2, hs.cell h6 g3, hs.cell h6 g4, hs.cell h6 g5, KidsO.mono0 n (fun b hb => hs b (f1 i b hb).1) (fun _ h => h) (kids q) v' g6⟩
theorem KidsO.mono {S S' : Nat → Prop} {w w' : World} (hs : HoldsU S w w') (hS : ∀ b, S b → S' b) (n : Nat) (l : List (PatN n)) (v : Value) (h : KidsO S w n l v) : KidsO S' w' n l v := KidsO.mono0 n hs hS l v h
theorem KidsO.form {S : Nat → Prop} {w : World} : ∀ {n : Nat} {l : List (PatN n)} {v : Value}, KidsO S w n l v → ∃ a cap, v = .slice a l.length cap
  | 0, l, v, h => by obtain ⟨a, cap, h⟩ := h; rw [none_of l]; exact ⟨a, cap, h⟩
  | _ + 1, _, _, h => by obtain ⟨a, cap, h, _⟩ := h; exact ⟨a, cap, h⟩
theorem KidsO.kept {S : Nat → Prop} {w w' : World} {n : Nat} {l : List (PatN n)} {v : Value} (h : KidsO S w n l v) (hk : Kept w w') : KidsO S w' n l v := KidsO.mono (hk.holdsU S) (fun _ h => h) n l v h
theorem KidsO.drew {S : Nat → Prop} {w : World} {n : Nat} {l : List (PatN n)} {v : Value} (h : KidsO S w n l v) (m : Nat) : KidsO S (w.drewN m) n l v := KidsO.mono (w := w) (w' := w.drewN m) (fun _ _ _ => rfl) (fun _ h => h) n l v h
theorem KidsO.wide {S S' : Nat → Prop} {w : World} {n : Nat} {l : List (PatN n)} {v : Value} (h : KidsO S w n l v) (hS : ∀ d, S d → S' d) : KidsO S' w n l v := KidsO.mono (fun _ _ _ => rfl) hS n l v h
theorem KidsO.tight0 {w : World} : ∀ (n : Nat) {S : Nat → Prop} (l : List (PatN n)) (v : Value), KidsO S w n l v → KidsO (fun d => S d ∧ d < w.heap.size) w n l v
  | 0, _, _, _, h => h
  | n + 1, S, l, v, ⟨a, cap, h1, h2, h3, h4⟩ => by
    refine ⟨a, cap, h1, h2, h3, ?_⟩
    rcases h4 with h4 | ⟨c, cur, F, h5, h6, h7, h8, h9, f1, f2, hq⟩
    · exact Or.inl h4
    · refine Or.inr ⟨c, cur, fun i d => F i d ∧ d < w.heap.size, h5, ⟨h6, (Array.getElem?_eq_some_iff.1 h7).1⟩, h7, h8, h9, fun i d hd => ⟨⟨(f1 i d hd.1).1, hd.2⟩, (f1 i d hd.1).2⟩, fun i j d x y => f2 i j d x.1 y.1, fun i q hi => ?_⟩
      obtain ⟨v', g0, g1, g2, g3, g4, g5, g6⟩ := hq i q hi
      exact ⟨v', g0, g1, g2, g3, g4, g5, KidsO.tight0 n (kids q) v' g6⟩
theorem KidsO.tight {S : Nat → Prop} {w : World} (n : Nat) (l : List (PatN n)) (v : Value) (h : KidsO S w n l v) : KidsO (fun d => S d ∧ d < w.heap.size) w n l v := KidsO.tight0 n l v h
theorem KidsO.fit {w : World} : ∀ (n m : Nat), n ≤ m → ∀ {S : Nat → Prop} (l : List (PatN n)) (v : Value), KidsO S w n l v → KidsO S w m (fitL m n l) v
  | 0, 0, _, _, _, _, h => h
  | 0, m + 1, _, _, _, v, h => by
    obtain ⟨a, cap, h⟩ := h
    exact ⟨a, cap, h, Nat.zero_le _, Nat.zero_le _, Or.inl rfl⟩
  | n + 1, 0, hm, _, _, _, _ => absurd hm (by omega)
  | n + 1, m + 1, hm, S, l, v, ⟨a, cap, h1, h2, h3, h4⟩ => by
    have e : (fitL (m + 1) (n + 1) l).length = l.length := List.length_map ..
    refine ⟨a, cap, by rw [e]; exact h1, by rw [e]; exact h2, by rw [e]; exact h3, ?_⟩
    rcases h4 with h4 | ⟨c, cur, F, h5, h6, h7, h8, h9, f1, f2, hq⟩
    · left; rw [h4]; rfl
    · refine Or.inr ⟨c, cur, F, h5, h6, h7, h8, h9, f1, f2, fun i q hi => ?_⟩
      have hq' : (l.map fun p => (show PatN (m + 1) from (kind p, from_ p, to_ p, min_ p, max_ p, fitL m n (kids p))))[i]? = some q := hi
      rw [List.getElem?_map] at hq'
      obtain ⟨p, hp, rfl⟩ := Option.map_eq_some_iff.1 hq'
      obtain ⟨v', g0, g1, g2, g3, g4, g5, g6⟩ := hq i p hp
      exact ⟨v', g0, g1, g2, g3, g4, g5, KidsO.fit n m (by omega) (kids p) v' g6⟩
/-- They lie there, too. -/
theorem KidsO.at_ {w : World} : ∀ (n : Nat) {S S' : Nat → Prop} (hS : ∀ d, S d → S' d) (l : List (PatN n)) (v : Value), KidsO S w n l v → KidsAt S' w n l v
  | 0, _, _, _, _, _, h => h
  | n + 1, S, S', hS, l, v, ⟨a, cap, h1, h2, h3, h4⟩ => by
    refine ⟨a, cap, h1, h2, h3, ?_⟩
    rcases h4 with h4 | ⟨c, cur, F, h5, h6, h7, h8, h9, f1, f2, hq⟩
    · exact Or.inl h4
    · refine Or.inr ⟨c, 0, h5, hS c h6, fun i q hi => ?_⟩
      obtain ⟨v', g0, g1, g2, g3, g4, g5, g6⟩ := hq i q hi
      rw [Nat.zero_add]
      exact ⟨v', g0, g1, g2, g3, g4, g5, KidsO.at_ n (fun d h => hS d (f1 i d h).1) (kids q) v' g6⟩
/-- No list at all. -/
theorem kidsO_nil (S : Nat → Prop) (w : World) (m cap : Nat) (a : Option Addr) (l : List (PatN m)) (h : l = []) : KidsO S w m l (.slice a 0 cap) := by
  subst h
  cases m with
  | zero => exact ⟨_, _, rfl⟩
  | succ m => exact ⟨_, _, rfl, Nat.zero_le _, Nat.zero_le _, Or.inl rfl⟩
/-- A list of patterns, six cells each; what one holds is not what another holds. -/
def FlatO (S : Nat → Prop) (w : World) (l : List Pat) (xs : List Value) : Prop := xs.length = l.length * 6 ∧ ∃ F : Nat → Nat → Prop, (∀ i d, F i d → S d) ∧ (∀ i j d, F i d → F j d → i = j) ∧ ∀ (i : Nat) (p : Pat), l[i]? = some p → ∃ v',
  xs[i * 6]? = some (.int .i64 (kind p.2)) ∧ xs[i * 6 + 1]? = some (.int .i64 (from_ p.2)) ∧ xs[i * 6 + 2]? = some (.int .i64 (to_ p.2)) ∧ xs[i * 6 + 3]? = some (.int .i64 (min_ p.2)) ∧ xs[i * 6 + 4]? = some (.int .i64 (max_ p.2)) ∧ xs[i * 6 + 5]? = some v' ∧ KidsO (F i) w p.1 (kids p.2) v'
theorem FlatO.nil (S : Nat → Prop) (w : World) : FlatO S w [] [] := ⟨rfl, fun _ _ => False, fun _ _ h => h.elim, fun _ _ _ h => h.elim, fun i p h => by simp at h⟩
theorem FlatO.mono {S S' : Nat → Prop} {w w' : World} (hs : HoldsU S w w') (hS : ∀ b, S b → S' b) {l : List Pat} {xs : List Value} (h : FlatO S w l xs) : FlatO S' w' l xs := by
  obtain ⟨hl, F, f1, f2, hq⟩ := h
  refine ⟨hl, F, fun i d hd => hS d (f1 i d hd), f2, fun i p hi => ?_⟩
  obtain ⟨v', g0, g1, g2, g3, g4, g5, g6⟩ := hq i p hi
  exact ⟨v', g0, g1, g2, g3, g4, g5, KidsO.mono0 _ (fun b hb => hs b (f1 i b hb)) (fun _ h => h) _ _ g6⟩
theorem FlatO.tight {S : Nat → Prop} {w : World} {l : List Pat} {xs : List Value} (h : FlatO S w l xs) : FlatO (fun d => S d ∧ d < w.heap.size) w l xs := by
  obtain ⟨hl, F, f1, f2, hq⟩ := h
  refine ⟨hl, fun i d => F i d ∧ d < w.heap.size, fun i d hd => ⟨f1 i d hd.1, hd.2⟩, fun i j d x y => f2 i j d x.1 y.1, fun i p hi => ?_⟩
  obtain ⟨v', g0, g1, g2, g3, g4, g5, g6⟩ := hq i p hi
  exact ⟨v', g0, g1, g2, g3, g4, g5, KidsO.tight0 _ _ _ g6⟩
theorem FlatO.snoc {S S1 S2 : Nat → Prop} {w : World} {l : List Pat} {xs : List Value} {p : Pat} {v' : Value} (h : FlatO S1 w l xs) (hk : KidsO S2 w p.1 (kids p.2) v') (h12 : ∀ d, S1 d → ¬ S2 d) (hS1 : ∀ d, S1 d → S d) (hS2 : ∀ d, S2 d → S d) : FlatO S w (l ++ [p]) (xs ++ cellsP p v') := by
  obtain ⟨hl, F, f1, f2, hq⟩ := h
  refine ⟨by rw [List.length_append, hl, List.length_append]; show _ + 6 = (_ + 1) * 6; omega, fun i d => (i < l.length ∧ F i d) ∨ (i = l.length ∧ S2 d), ?_, ?_, fun i q hi => ?_⟩
  · rintro i d (⟨_, h⟩ | ⟨_, h⟩)
    · exact hS1 d (f1 i d h)
    · exact hS2 d h
  · rintro i j d (⟨h1, h⟩ | ⟨h1, h⟩) (⟨h2, h'⟩ | ⟨h2, h'⟩)
    · exact f2 i j d h h'
    · exact absurd h' (h12 d (f1 i d h))
    · exact absurd h (h12 d (f1 j d h'))
    · omega
  · by_cases hlt : i < l.length
    · rw [List.getElem?_append_left hlt] at hi
      obtain ⟨u', g0, g1, g2, g3, g4, g5, g6⟩ := hq i q hi
      refine ⟨u', ?_, ?_, ?_, ?_, ?_, ?_, g6.wide (fun d h => Or.inl ⟨hlt, h⟩)⟩
      · rw [List.getElem?_append_left (by omega)]; exact g0
      · rw [List.getElem?_append_left (by omega)]; exact g1
      · rw [List.getElem?_append_left (by omega)]; exact g2
      · rw [List.getElem?_append_left (by omega)]; exact g3
      · rw [List.getElem?_append_left (by omega)]; exact g4
      · rw [List.getElem?_append_left (by omega)]; exact g5
    · have hi2 : i = l.length := by have := (List.getElem?_eq_some_iff.1 hi).1; rw [List.length_append] at this; simp at this; omega
      subst hi2
      rw [List.getElem?_append_right (Nat.le_refl _), Nat.sub_self] at hi
      simp only [List.getElem?_cons_zero, Option.some.injEq] at hi
      subst hi
      have ex : ∀ j, (xs ++ cellsP p v')[l.length * 6 + j]? = (cellsP p v')[j]? := fun j => by
        rw [List.getElem?_append_right (by omega), hl, Nat.add_sub_cancel_left]
      exact ⟨v', ex 0, ex 1, ex 2, ex 3, ex 4, ex 5, hk.wide (fun d h => Or.inr ⟨rfl, h⟩)⟩
/-- A row of the call's own that holds such a list. -/
theorem FlatO.kids {S S' : Nat → Prop} {w : World} {l : List Pat} {xs : List Value} {m c cap : Nat} {cur : Array Value} (h : FlatO S w l xs) (hg : w.heap[c]? = some (.cells cur 24 (0, 0))) (hcm : cap ≤ maxLen) (hcs : cur.size = cap * 6) (hx : ∀ j u, xs[j]? = some u → w.cell? ⟨c, j, none⟩ = some u) (hc' : S' c) (hS : ∀ d, S d → S' d ∧ d ≠ c) (hm : topL l ≤ m) (hl : l.length ≤ 17592186044416) (hc : l.length ≤ cap) :
    KidsO S' w m (kidsOf m l) (.slice (some ⟨c, 0, none⟩) l.length cap) := by
  cases m with
  | zero =>
    have : l = [] := by
      cases l with
      | nil => rfl
      | cons p l => have := top_le (List.mem_cons_self (a := p) (l := l)); omega
    subst this
    exact ⟨_, _, rfl⟩
  | succ m =>
    obtain ⟨_, F, f1, f2, hq⟩ := h
    rw [kidsOf_succ]
    have e : ∀ G : Pat → PatN (m + 1), (l.map G).length = l.length := fun G => List.length_map ..
    refine ⟨_, cap, by rw [e], by rw [e]; exact hc, by rw [e]; exact hl, Or.inr ⟨c, cur, F, rfl, hc', hg, hcm, hcs, fun i d hd => hS d (f1 i d hd), f2, fun i q hi => ?_⟩⟩
    rw [List.getElem?_map] at hi
    obtain ⟨p, hp, rfl⟩ := Option.map_eq_some_iff.1 hi
    obtain ⟨v', g0, g1, g2, g3, g4, g5, g6⟩ := hq i p hp
    have hp1 := top_le (List.mem_of_getElem? hp)
    exact ⟨v', hx _ _ g0, hx _ _ g1, hx _ _ g2, hx _ _ g3, hx _ _ g4, hx _ _ g5, KidsO.fit _ _ (by omega) _ _ g6⟩
/-- A value that is a pattern, every list of it a row of its own. -/
def PatU (S : Nat → Prop) (w : World) (p : Pat) (v : Value) : Prop := ∃ v', v = valOf p.2 v' ∧ KidsO S w p.1 (kids p.2) v'
theorem PatU.mono {S S' : Nat → Prop} {w w' : World} (hs : HoldsU S w w') (hS : ∀ b, S b → S' b) {p : Pat} {v : Value} (h : PatU S w p v) : PatU S' w' p v := by
  obtain ⟨v', h1, h2⟩ := h
  exact ⟨v', h1, KidsO.mono hs hS _ _ _ h2⟩
theorem PatU.at_ {S : Nat → Prop} {w : World} {p : Pat} {v : Value} (h : PatU S w p v) : PatV S w p v := by
  obtain ⟨v', h1, h2⟩ := h
  exact ⟨v', h1, KidsO.at_ _ (fun _ h => h) _ _ h2⟩
def PGivU (S : Nat → Prop) (p : Pat) (e : Ending) (w' : World) : Prop := ∃ v, e = .returned v ∧ PatU S w' p v
/-- A list of patterns of the call's own, at v; what they hold lies in S, each apart, and not in the list's own block. -/
def PatsU (w : World) (base : Nat) (S : Nat → Prop) (v : Value) (l : List Pat) : Prop := ∃ xs, w.ownsRow base 24 6 v l.length xs ∧ FlatO (fun d => S d ∧ v.ownBlock ≠ some d) w l xs
theorem PatsU.nil (w : World) (base : Nat) (S : Nat → Prop) : PatsU w base S (.slice none 0 0) [] := ⟨[], World.ownsRow_nil _ _ _ _, FlatO.nil _ _⟩
theorem PatsU.form {w : World} {base : Nat} {S : Nat → Prop} {v : Value} {l : List Pat} (h : PatsU w base S v l) : ∃ a c, v = .slice a l.length c := by
  obtain ⟨xs, h, _⟩ := h
  rcases h.2 with ⟨rfl, h0⟩ | ⟨g, cap, cur, rfl, _⟩
  · exact ⟨none, 0, by rw [h0]⟩
  · exact ⟨_, _, rfl⟩
theorem PatsU.but {b base : Nat} {w w' : World} {S : Nat → Prop} {v : Value} {l : List Pat} (h : PatsU w base S v l) (hk : KeptBut b w w') (hb : b < base) (hS : ¬ S b) : PatsU w' base S v l := by
  obtain ⟨xs, h1, h2⟩ := h
  exact ⟨xs, owns_same h1 (fun g hg => hk.2.2.2.2 g (h1.lt g hg).2 (by have := (h1.lt g hg).1; omega)), h2.mono (hk.holdsU (fun h => hS h.1)) (fun _ h => h)⟩
theorem PatsU.keep {base : Nat} {w w' : World} {S : Nat → Prop} {v : Value} {l : List Pat} (h : PatsU w base S v l) (hk : Kept w w') : PatsU w' base S v l := by
  obtain ⟨xs, h1, h2⟩ := h
  exact ⟨xs, owns_same h1 (fun g hg => hk.2.2.2.2 g (h1.lt g hg).2), h2.mono (hk.holdsU _) (fun _ h => h)⟩
theorem PatsU.lt {base : Nat} {w : World} {S : Nat → Prop} {v : Value} {l : List Pat} (h : PatsU w base S v l) : ∀ g, v.ownBlock = some g → base ≤ g ∧ g < w.heap.size := by
  obtain ⟨xs, h1, _⟩ := h
  exact h1.lt
theorem PatsU.wide {base base' : Nat} {w : World} {S S' : Nat → Prop} {v : Value} {l : List Pat} (h : PatsU w base S v l) (hb : base' ≤ base) (hS : ∀ d, S d → S' d) : PatsU w base' S' v l := by
  obtain ⟨xs, h1, h2⟩ := h
  refine ⟨xs, ⟨h1.1, ?_⟩, h2.mono (fun _ _ _ => rfl) (fun d hd => ⟨hS d hd.1, hd.2⟩)⟩
  rcases h1.2 with h0 | ⟨g, cap, cur, e, hg, rest⟩
  · exact .inl h0
  · exact .inr ⟨g, cap, cur, e, Nat.le_trans hb hg, rest⟩
theorem PatsU.tight {base : Nat} {w : World} {S : Nat → Prop} {v : Value} {l : List Pat} (h : PatsU w base S v l) : PatsU w base (fun d => S d ∧ d < w.heap.size) v l := by
  obtain ⟨xs, h1, h2⟩ := h
  exact ⟨xs, h1, h2.tight.mono (fun _ _ _ => rfl) (fun d hd => ⟨⟨hd.1.1, hd.2⟩, hd.1.2⟩)⟩
/-- The list of one. -/
theorem PatsU.one {w : World} {base g : Nat} {S : Nat → Prop} {p : Pat} {u : Value} (h : BoxAt w g (.int .i64 (kind p.2)) (.int .i64 (from_ p.2)) (.int .i64 (to_ p.2)) (.int .i64 (min_ p.2)) (.int .i64 (max_ p.2)) u) (hg : base ≤ g) (hk : KidsO (fun d => S d ∧ d ≠ g) w p.1 (kids p.2) u) :
    PatsU w base S (.slice (some ⟨g, 0, none⟩) 1 1) [p] := by
  refine ⟨cellsP p u, ⟨rfl, .inr ⟨g, 1, _, rfl, hg, h, Nat.le_refl _, by unfold maxLen; omega, rfl, rfl⟩⟩, ?_⟩
  exact FlatO.snoc (S1 := fun _ => False) (FlatO.nil _ _) hk (fun _ h => h.elim) (fun _ h => h.elim) (fun d hd => ⟨hd.1, fun e => hd.2 (by simp only [Value.ownBlock, Option.some.injEq] at e; exact e.symm)⟩)
theorem PatsU.kids {base m : Nat} {w : World} {S S' : Nat → Prop} {v : Value} {l : List Pat} (h : PatsU w base S v l) (hS : ∀ d, base ≤ d → S' d) (hS' : ∀ d, S d → S' d) (hm : topL l ≤ m) (hl : l.length ≤ 17592186044416) : KidsO S' w m (kidsOf m l) v := by
  obtain ⟨xs, h1, h2⟩ := h
  rcases h1.2 with ⟨rfl, h0⟩ | ⟨g, cap, cur, rfl, hb, hg, hc, hcm, hcs, hx⟩
  · have : l = [] := List.length_eq_zero_iff.1 h0
    subst this
    exact kidsO_nil _ _ _ _ _ _ rfl
  · exact h2.kids hg hcm hcs (fun j u hj => by have := row_cells hg hx j u hj; rw [Nat.zero_add] at this; exact this) (hS g hb) (fun d hd => ⟨hS' d hd.1, fun e => hd.2 (by simp only [Value.ownBlock, Option.some.injEq]; exact e.symm)⟩) hm hl hc
theorem PatsU.first {base : Nat} {w : World} {S : Nat → Prop} {v : Value} {p : Pat} {l : List Pat} (h : PatsU w base S v (p :: l)) : ∃ g cap u, v = .slice (some ⟨g, 0, none⟩) (l.length + 1) cap ∧ l.length + 1 ≤ cap ∧ (w.cell? ⟨g, 0, none⟩ = some (.int .i64 (kind p.2)) ∧ w.cell? ⟨g, 1, none⟩ = some (.int .i64 (from_ p.2)) ∧ w.cell? ⟨g, 2, none⟩ = some (.int .i64 (to_ p.2)) ∧ w.cell? ⟨g, 3, none⟩ = some (.int .i64 (min_ p.2)) ∧ w.cell? ⟨g, 4, none⟩ = some (.int .i64 (max_ p.2)) ∧ w.cell? ⟨g, 5, none⟩ = some u) ∧ KidsO S w p.1 (Ex.kids p.2) u := by
  obtain ⟨xs, h1, h2⟩ := h
  rcases h1.2 with ⟨rfl, h0⟩ | ⟨g, cap, cur, rfl, hb, hg, hc, _, _, hx⟩
  · simp at h0
  · obtain ⟨_, F, f1, _, hq⟩ := h2
    obtain ⟨u, a0, a1, a2, a3, a4, a5, hk⟩ := hq 0 p rfl
    have hh := row_cells hg hx
    refine ⟨g, cap, u, rfl, hc, ⟨?_, ?_, ?_, ?_, ?_, ?_⟩, hk.wide (fun d h => (f1 0 d h).1)⟩
    · exact hh _ _ a0
    · exact hh _ _ a1
    · exact hh _ _ a2
    · exact hh _ _ a3
    · exact hh _ _ a4
    · exact hh _ _ a5
theorem PatsU.nonnil {base n cap : Nat} {w : World} {S : Nat → Prop} {a : Option Addr} {q : Pat} {l : List Pat} (h : PatsU w base S (.slice a n cap) (q :: l)) : ∃ g, a = some ⟨g, 0, none⟩ ∧ 1 ≤ cap := by
  obtain ⟨g, c, u, e, hc, _⟩ := h.first
  simp only [Value.slice.injEq] at e
  exact ⟨g, e.1, by omega⟩
theorem PatsU.one_facts {base n cap g : Nat} {w : World} {S : Nat → Prop} {q : Pat} {l : List Pat} (h : PatsU w base S (.slice (some ⟨g, 0, none⟩) n cap) (q :: l)) : ∃ u, (w.cell? ⟨g, 0, none⟩ = some (.int .i64 (kind q.2)) ∧ w.cell? ⟨g, 1, none⟩ = some (.int .i64 (from_ q.2)) ∧ w.cell? ⟨g, 2, none⟩ = some (.int .i64 (to_ q.2)) ∧ w.cell? ⟨g, 3, none⟩ = some (.int .i64 (min_ q.2)) ∧ w.cell? ⟨g, 4, none⟩ = some (.int .i64 (max_ q.2)) ∧ w.cell? ⟨g, 5, none⟩ = some u) ∧ KidsO S w q.1 (Ex.kids q.2) u := by
  obtain ⟨g', c, u, e, _, hc, hk⟩ := h.first
  simp only [Value.slice.injEq, Option.some.injEq, Addr.mk.injEq] at e
  obtain ⟨⟨rfl, _⟩, _⟩ := e
  exact ⟨u, hc, hk⟩
/-- What an append leaves: all but the list's own block. -/
theorem KeptBut.grownU {b base : Nat} {w0 w w' : World} {S : Nat → Prop} {v : Value} {l : List Pat} (h : KeptBut b w0 w) (ho : PatsU w base S v l) (hb : w0.heap.size ≤ base) (hg : w.grownBy w' v.ownBlock) : KeptBut b w0 w' :=
  ⟨hg.os.trans h.1, hg.tape.trans h.2.1, hg.output.trans h.2.2.1, Nat.le_trans h.2.2.2.1 hg.size, fun k hk hn => (hg.block k (Nat.lt_of_lt_of_le hk h.2.2.2.1) (fun e => by have := (ho.lt k e.symm).1; omega)).trans (h.2.2.2.2 k hk hn)⟩
theorem heap_grownU {base k : Nat} {w w' : World} {S : Nat → Prop} {v : Value} {l : List Pat} (ho : PatsU w base S v l) (hg : w.grownBy w' v.ownBlock) (hk : k < base) (hl : k < w.heap.size) : w'.heap[k]? = w.heap[k]? :=
  hg.block k hl (fun e => by have := (ho.lt k e.symm).1; omega)
/-- append of a pattern whose lists were laid at block m and on to a list that was laid ahead of it. -/
theorem wpl_append_patU {ops : Array Oper} {rest : List Oper} {o : Oper} {a : Act} {Q : Exit → Act → World → Prop} (hgd : o.guard = none) (s x : Operand)
    (ho : o.op = .call { callee := .builtin .append, args := #[s, x], argTypes := #[22, 22] }) (W : World) (base m : Nat) (S : Nat → Prop) (v : Value) (l : List Pat) (n : Nat) (hn : l.length = n) (hs : a.eval s = v) (hown : PatsU W base (fun d => S d ∧ d < m) v l)
    (lb : Nat) (p : Pat) (u : Value) (hx : a.eval x = .slice (some ⟨lb, 0, none⟩) 1 1) (hbx : BoxAt W lb (.int .i64 (kind p.2)) (.int .i64 (from_ p.2)) (.int .i64 (to_ p.2)) (.int .i64 (min_ p.2)) (.int .i64 (max_ p.2)) u)
    (hk : KidsO (fun d => S d ∧ m ≤ d ∧ v.ownBlock ≠ some d) W p.1 (kids p.2) u) (hl : l.length ≤ 100000) (hbase : base ≤ W.heap.size)
    (h : ∀ g cap w', PatsU w' base S (.slice (some ⟨g, 0, none⟩) (n + 1) cap) (l ++ [p]) → W.grownBy w' v.ownBlock → wpList Tryz.prog ops Q rest (a.put o.dst (.slice (some ⟨g, 0, none⟩) (n + 1) cap)) w') : wpList Tryz.prog ops Q (o :: rest) a W := by
  obtain ⟨i0, hi, hz0, hz1, hz2⟩ := info_parts expr_info
  obtain ⟨xs, h1, h2⟩ := hown
  subst hn
  obtain ⟨⟨c0, c1, c2, c3, c4, c5⟩, _⟩ := hbx.facts
  obtain ⟨au, lu, cu, hu⟩ : ∃ a l c, u = .slice a l c := by obtain ⟨a, c, h⟩ := hk.form; exact ⟨_, _, _, h⟩
  refine wpList_append_lies W hgd s x 22 ho base 24 i0 _ 6 64 Tryz.underlying22 hi hz0 hz1 hz2 rfl (by decide) v l.length xs hs h1 ⟨lb, 0, none⟩ 1 1 (cellsP p u) hx rfl ?_ ?_ (by decide) (by unfold maxLen; omega) (by omega) hbase W.heap.size rfl ?_
  · intro j y hj
    have hj6 : j < 6 := (List.getElem?_eq_some_iff.1 hj).1
    match j, hj6 with
    | 0, _ => exact c0.trans hj
    | 1, _ => exact c1.trans hj
    | 2, _ => exact c2.trans hj
    | 3, _ => exact c3.trans hj
    | 4, _ => exact c4.trans hj
    | 5, _ => exact c5.trans hj
  · intro y hy
    subst hu
    simp only [cellsP, List.mem_cons, List.not_mem_nil, or_false] at hy
    rcases hy with rfl | rfl | rfl | rfl | rfl | rfl <;> rfl
  · intro g cap w' h3 h4 h5 h6
    refine h g cap w' ⟨xs ++ cellsP p u, by rw [List.length_append, List.length_singleton]; exact h3, ?_⟩ h4
    have hflat : FlatO (fun d => S d ∧ v.ownBlock ≠ some d) W (l ++ [p]) (xs ++ cellsP p u) := h2.snoc hk (fun d hd hd2 => by have := hd.1.2; have := hd2.2.1; omega) (fun d hd => ⟨hd.1.1, hd.2⟩) (fun d hd => ⟨hd.1, hd.2.2⟩)
    refine hflat.tight.mono ?_ ?_
    · intro d hd hlt
      exact h4.block d hlt (fun e => hd.1.2 e.symm)
    · intro d hd
      refine ⟨hd.1.1, fun e => ?_⟩
      simp only [Value.ownBlock, Option.some.injEq] at e
      rcases h5 with h5 | h5
      · exact hd.1.2 (by rw [h5, e])
      · have := hd.2; omega

end Ex
end Go.Proofs.YtfajoknacfjedaaGreatDoor
namespace Go.Proofs.YtfajoknacfjedaaGreatDoor
open Go.RowKit
set_option linter.unusedVariables false
namespace Ex
namespace Sh

def KT (S : Nat → Prop) (u v : World) : Prop := v.os = u.os ∧ v.tape = u.tape ∧ v.output = u.output ∧ u.heap.size ≤ v.heap.size ∧ ∀ k, k < u.heap.size → ¬ S k → v.heap[k]? = u.heap[k]?
theorem KT.trans {S : Nat → Prop} {u v w : World} (h : KT S u v) (k : KT S v w) : KT S u w := ⟨k.1.trans h.1, k.2.1.trans h.2.1, k.2.2.1.trans h.2.2.1, Nat.le_trans h.2.2.2.1 k.2.2.2.1, fun d hd h1 => (k.2.2.2.2 d (Nat.lt_of_lt_of_le hd h.2.2.2.1) h1).trans (h.2.2.2.2 d hd h1)⟩
theorem _root_.Go.Proofs.YtfajoknacfjedaaGreatDoor.Ex.Kept.kt (S : Nat → Prop) {u v : World} (h : Kept u v) : KT S u v := ⟨h.1, h.2.1, h.2.2.1, h.2.2.2.1, fun k hk _ => h.2.2.2.2 k hk⟩
theorem KT.mono {S S' : Nat → Prop} {u v : World} (h : KT S u v) (hs : ∀ k, S k → S' k) : KT S' u v := ⟨h.1, h.2.1, h.2.2.1, h.2.2.2.1, fun k hk hn => h.2.2.2.2 k hk (fun e => hn (hs k e))⟩
theorem set_kt (w : World) (g o : Nat) (u : Value) : KT (fun k => k = g) w (w.setCell ⟨g, o, none⟩ u) := ⟨rfl, rfl, rfl, by simp [World.setCell], fun k _ hn => Below.heap_setCell _ _ _ _ hn⟩
/-- Elements of equal width, as one row of cells. -/
theorem flat_get {sz : Nat} (hs : 0 < sz) : ∀ (E : List (List Value)), (∀ x ∈ E, x.length = sz) → ∀ k, E.flatten[k]? = (E[k / sz]?).bind (fun x => x[k % sz]?)
  | [], _, k => by simp
  | x :: E, h, k => by
    have hx := h x List.mem_cons_self
    rw [List.flatten_cons]
    by_cases hk : k < sz
    · rw [List.getElem?_append_left (by omega), Nat.div_eq_of_lt hk, Nat.mod_eq_of_lt hk]
      rfl
    · rw [List.getElem?_append_right (by omega), hx, flat_get hs E (fun y hy => h y (List.mem_cons_of_mem _ hy))]
      have e1 : k / sz = (k - sz) / sz + 1 := by
        rw [Nat.div_eq_sub_div hs (by omega)]
      have e2 : k % sz = (k - sz) % sz := by rw [Nat.mod_eq_sub_mod (by omega)]
      rw [e1, e2, List.getElem?_cons_succ]
theorem flat_len {sz : Nat} : ∀ (E : List (List Value)), (∀ x ∈ E, x.length = sz) → E.flatten.length = E.length * sz
  | [], _ => by simp
  | x :: E, h => by
    rw [List.flatten_cons, List.length_append, h x List.mem_cons_self, flat_len E (fun y hy => h y (List.mem_cons_of_mem _ hy)), List.length_cons, Nat.add_mul]
    omega
theorem flat_inj {sz : Nat} (hs : 0 < sz) : ∀ (E F : List (List Value)), (∀ x ∈ E, x.length = sz) → (∀ x ∈ F, x.length = sz) → E.flatten = F.flatten → E = F
  | [], [], _, _, _ => rfl
  | [], y :: F, _, hF, e => by
    have := congrArg List.length e
    rw [List.flatten_cons, List.length_append, hF y List.mem_cons_self] at this
    simp at this
    omega
  | x :: E, [], hE, _, e => by
    have := congrArg List.length e
    rw [List.flatten_cons, List.length_append, hE x List.mem_cons_self] at this
    simp at this
    omega
  | x :: E, y :: F, hE, hF, e => by
    rw [List.flatten_cons, List.flatten_cons] at e
    have h1 := List.append_inj e (by rw [hE x List.mem_cons_self, hF y List.mem_cons_self])
    rw [h1.1, flat_inj hs E F (fun z hz => hE z (List.mem_cons_of_mem _ hz)) (fun z hz => hF z (List.mem_cons_of_mem _ hz)) h1.2]
theorem flat_take {sz : Nat} : ∀ (E : List (List Value)) (n : Nat), (∀ x ∈ E, x.length = sz) → (E.take n).flatten = E.flatten.take (n * sz)
  | [], n, _ => by simp
  | x :: E, 0, _ => by simp
  | x :: E, n + 1, h => by
    have e : (n + 1) * sz = x.length + n * sz := by rw [h x List.mem_cons_self, Nat.add_mul]; omega
    rw [List.take_succ_cons, List.flatten_cons, List.flatten_cons, flat_take E n (fun y hy => h y (List.mem_cons_of_mem _ hy)), e, List.take_length_add_append]
theorem flat_of {sz : Nat} : ∀ (c : Nat) (l : List Value), l.length = c * sz → ∃ E : List (List Value), E.length = c ∧ (∀ x ∈ E, x.length = sz) ∧ E.flatten = l
  | 0, l, h => ⟨[], rfl, by simp, by have : l = [] := List.length_eq_zero_iff.1 (by omega); rw [this]; rfl⟩
  | c + 1, l, h => by
    rw [Nat.add_mul] at h
    obtain ⟨E, h1, h2, h3⟩ := flat_of (sz := sz) c (l.drop sz) (by rw [List.length_drop]; omega)
    refine ⟨l.take sz :: E, by simp [h1], ?_, by rw [List.flatten_cons, h3, List.take_append_drop]⟩
    intro x hx
    rcases List.mem_cons.1 hx with rfl | hx
    · rw [List.length_take]
      omega
    · exact h2 x hx
/-- A block of elements of the type T, sz cells each. -/
def RowE (T : TypeId) (sz : Nat) (w : World) (b : Nat) (E : List (List Value)) : Prop := ∃ cur, w.heap[b]? = some (.cells cur T (0, 0)) ∧ cur.toList = E.flatten ∧ ∀ x ∈ E, x.length = sz
section
variable {T : TypeId} {sz : Nat} {w w' : World} {b : Nat} {E E' : List (List Value)}
theorem RowE.lt (h : RowE T sz w b E) : b < w.heap.size := by
  obtain ⟨_, h, _⟩ := h
  exact (Array.getElem?_eq_some_iff.1 h).1
theorem RowE.same (h : RowE T sz w b E) (hh : w'.heap[b]? = w.heap[b]?) : RowE T sz w' b E := by
  obtain ⟨cur, h1, h2⟩ := h
  exact ⟨cur, hh.trans h1, h2⟩
theorem RowE.kept (h : RowE T sz w b E) (hk : Kept w w') : RowE T sz w' b E := h.same (hk.2.2.2.2 b h.lt)
theorem RowE.one (hs : 0 < sz) (h : RowE T sz w b E) (h' : RowE T sz w b E') : E = E' := by
  obtain ⟨cur, h1, h2, h3⟩ := h
  obtain ⟨cur', g1, g2, g3⟩ := h'
  rw [h1] at g1
  injection g1 with g1
  injection g1 with g1 _ _
  subst g1
  exact flat_inj hs E E' h3 g3 (h2.symm.trans g2)
theorem RowE.cell (hs : 0 < sz) (h : RowE T sz w b E) {s j : Nat} {x : List Value} {u : Value} (hx : E[s]? = some x) (hu : x[j]? = some u) : w.cell? ⟨b, s * sz + j, none⟩ = some u := by
  obtain ⟨cur, h1, h2, h3⟩ := h
  have hxl := h3 x (List.mem_of_getElem? hx)
  have hj : j < sz := by have := (List.getElem?_eq_some_iff.1 hu).1; omega
  have e : cur.toList[s * sz + j]? = some u := by
    rw [h2, flat_get hs E h3, show (s * sz + j) / sz = s by rw [Nat.mul_comm, Nat.mul_add_div hs, Nat.div_eq_of_lt hj, Nat.add_zero], show (s * sz + j) % sz = j by rw [Nat.mul_comm, Nat.mul_add_mod, Nat.mod_eq_of_lt hj], hx]
    exact hu
  simp only [World.cell?, h1]
  simpa using e
theorem RowE.frozen (h : RowE T sz w b E) (o : Nat) : w.frozen? ⟨b, o, none⟩ = false := by
  obtain ⟨cur, h1, _⟩ := h
  simp [World.frozen?, h1]
theorem RowE.cellAt (hs : 0 < sz) (h : RowE T sz w b E) {s j : Nat} (hl : s < E.length) (hj : j < sz) : ∃ u, w.cell? ⟨b, s * sz + j, none⟩ = some u := by
  obtain ⟨x, hx⟩ : ∃ x, E[s]? = some x := ⟨_, List.getElem?_eq_getElem hl⟩
  obtain ⟨u, hu⟩ : ∃ u, x[j]? = some u := by
    obtain ⟨_, _, _, h3⟩ := h
    exact ⟨_, List.getElem?_eq_getElem (by rw [h3 x (List.mem_of_getElem? hx)]; exact hj)⟩
  exact ⟨u, h.cell hs hx hu⟩
/-- One element is written over. -/
theorem RowE.put (hs : 0 < sz) (h : RowE T sz w b E) {s : Nat} {x : List Value} (hx : x.length = sz) {cur cur' : Array Value} (h1 : w.heap[b]? = some (.cells cur T (0, 0))) (h2 : w'.heap[b]? = some (.cells cur' T (0, 0))) (hl : s < E.length) (hc : ∀ k, cur'[k]? = if s * sz ≤ k ∧ k < s * sz + sz then x[k - s * sz]? else cur[k]?) : RowE T sz w' b (E.set s x) := by
  obtain ⟨cu, g1, g2, g3⟩ := h
  rw [h1] at g1
  injection g1 with g1
  injection g1 with g1 _ _
  subst g1
  have hm : ∀ y ∈ E.set s x, y.length = sz := by
    intro y hy
    rcases List.mem_or_eq_of_mem_set hy with hy | rfl
    · exact g3 y hy
    · exact hx
  refine ⟨cur', h2, ?_, hm⟩
  refine List.ext_getElem? fun k => ?_
  rw [flat_get hs _ hm, Array.getElem?_toList, hc k]
  have hdm := Nat.div_add_mod k sz
  have hml := Nat.mod_lt k hs
  by_cases hks : k / sz = s
  · have e : s * sz + k % sz = k := by rw [← hks, Nat.mul_comm]; exact hdm
    rw [hks, List.getElem?_set_self hl, if_pos ⟨by omega, by omega⟩]
    show _ = x[k % sz]?
    congr 1
    omega
  · rw [List.getElem?_set_ne (fun e => hks e.symm), if_neg (fun hh => hks ?_), ← flat_get hs E g3, ← g2, Array.getElem?_toList]
    have h4 : k = sz * s + (k - s * sz) := by rw [Nat.mul_comm]; omega
    rw [h4, Nat.mul_add_div hs, Nat.div_eq_of_lt (by omega), Nat.add_zero]
theorem owns_rowE {base n cap : Nat} {xs : List Value} (h : w.ownsRow base T sz (.slice (some ⟨b, 0, none⟩) n cap) n xs) : ∃ E, RowE T sz w b E ∧ E.length = cap ∧ (E.take n).flatten = xs ∧ n ≤ cap ∧ base ≤ b ∧ cap ≤ maxLen := by
  rcases h.2 with ⟨h, _⟩ | ⟨g', c', cur, e, h1, h2, h3, h4, h5, h6⟩
  · cases h
  · simp only [Value.slice.injEq, Option.some.injEq, Addr.mk.injEq] at e
    obtain ⟨⟨rfl, _⟩, _, rfl⟩ := e
    obtain ⟨E, e1, e2, e3⟩ := flat_of (sz := sz) cap cur.toList (by simpa using h5)
    refine ⟨E, ⟨cur, h2, e3.symm, e2⟩, e1, ?_, h3, h1, h4⟩
    rw [flat_take E n e2, e3]
    exact h6
theorem rowE_owns {base n : Nat} (h : RowE T sz w b E) (hb : base ≤ b) (hn : n ≤ E.length) (hm : E.length ≤ maxLen) : w.ownsRow base T sz (.slice (some ⟨b, 0, none⟩) n E.length) n (E.take n).flatten := by
  obtain ⟨cur, h1, h2, h3⟩ := h
  have hcs : cur.size = E.length * sz := by
    have := congrArg List.length h2
    rw [flat_len E h3] at this
    simpa using this
  refine ⟨?_, .inr ⟨b, E.length, cur, rfl, hb, h1, hn, hm, hcs, ?_⟩⟩
  · rw [flat_len _ (fun x hx => h3 x (List.mem_of_mem_take hx)), List.length_take, Nat.min_eq_left hn]
  · rw [flat_take E n h3, h2]
end
theorem LO.type {α : Type} {E : ElK α} {w : World} {base : Nat} {v : Value} {l : List α} (h : LO E w base v l) {g : Nat} (hg : v.ownBlock = some g) : ∃ cur, w.heap[g]? = some (.cells cur E.T (0, 0)) := by
  rcases h.2 with ⟨rfl, _⟩ | ⟨g', cap, cur, rfl, _, h3, _⟩
  · cases hg
  · simp only [Value.ownBlock, Option.some.injEq] at hg
    subst hg
    exact ⟨cur, h3⟩
theorem LO.take {α : Type} {E : ElK α} {w : World} {base n c : Nat} {a : Option Addr} {l : List α} (h : LO E w base (.slice a n c) l) {k : Nat} (hk : k ≤ l.length) : LO E w base (.slice a k c) (l.take k) := by
  have hl : (l.take k).length = k := by rw [List.length_take]; omega
  have hfl : flatE E (l.take k) = (flatE E l).take (k * E.sz) := by
    have e : flatE E l = flatE E (l.take k) ++ flatE E (l.drop k) := by
      unfold flatE
      rw [← List.flatMap_append, List.take_append_drop]
    have e2 : (flatE E (l.take k)).length = k * E.sz := by rw [flatE_lenT, hl]
    rw [e, ← e2, List.take_left]
  unfold LO at h ⊢
  rw [hl]
  rcases h.2 with ⟨h0, h1⟩ | ⟨g, cap, cur, he, h2, h3, h4, h5, h6, h7⟩
  · have hk0 : k = 0 := by omega
    injection h0 with e1 e2 e3
    subst e1 e3 hk0
    refine ⟨?_, Or.inl ⟨rfl, rfl⟩⟩
    simp [flatE]
  · injection he with e1 e2 e3
    subst e1 e3
    refine ⟨by rw [hfl, List.length_take, flatE_lenT]; exact Nat.min_eq_left (Nat.mul_le_mul_right _ hk), Or.inr ⟨g, c, cur, rfl, h2, h3, by omega, h5, h6, ?_⟩⟩
    rw [hfl, ← h7, List.take_take, Nat.min_eq_left (Nat.mul_le_mul_right _ hk)]
theorem LO.cap {α : Type} {E : ElK α} {w : World} {base n cap : Nat} {a : Option Addr} {l : List α} (h : LO E w base (.slice a n cap) l) : l.length ≤ cap := by
  rcases h.2 with ⟨_, h0⟩ | ⟨g, cap', cur, he, _, _, h3, _⟩
  · omega
  · injection he with _ _ e3
    subst e3
    exact h3
theorem LO.some {α : Type} {E : ElK α} {w : World} {base n cap : Nat} {a : Option Addr} {l : List α} (h : LO E w base (.slice a n cap) l) (hl : l ≠ []) : ∃ g, a = some ⟨g, 0, none⟩ := by
  rcases h.2 with ⟨_, h0⟩ | ⟨g, cap', cur, he, _⟩
  · exact absurd (List.length_eq_zero_iff.1 h0) hl
  · injection he with e1
    exact ⟨g, e1⟩
theorem kcell {w : World} {a o : Nat} {v : Value} (h : w.cell? ⟨a, o, none⟩ = some v) : ∀ W, Kept w W → W.cell? ⟨a, o, none⟩ = some v := fun _ hk => grown_cell hk h

/-- Cells of a block are written, one behind the other. -/
def putL (w : World) (g : Nat) : Nat → List Value → World
  | _, [] => w
  | o, u :: us => putL (w.setCell ⟨g, o, none⟩ u) g (o + 1) us
theorem putL_kt (g : Nat) : ∀ (us : List Value) (w : World) (o : Nat), KT (fun k => k = g) w (putL w g o us)
  | [], w, _ => (Kept.refl w).kt _
  | u :: us, w, o => (set_kt w g o u).trans (putL_kt g us _ _)
theorem putL_at (g : Nat) (T : TypeId) : ∀ (us : List Value) (w : World) (o : Nat) (cur : Array Value), w.heap[g]? = some (.cells cur T (0, 0)) → o + us.length ≤ cur.size → ∃ cur', (putL w g o us).heap[g]? = some (.cells cur' T (0, 0)) ∧ ∀ k, cur'[k]? = if o ≤ k ∧ k < o + us.length then us[k - o]? else cur[k]?
  | [], w, o, cur, h, _ => ⟨cur, h, fun k => by rw [if_neg (by simp)]⟩
  | u :: us, w, o, cur, h, hs => by
    have hb := (Array.getElem?_eq_some_iff.1 h).1
    have he := Option.some.inj ((Array.getElem?_eq_getElem hb).symm.trans h)
    have h4 : (w.setCell ⟨g, o, none⟩ u).heap[g]? = some (.cells (cur.setIfInBounds o u) T (0, 0)) := by simp [World.setCell, Array.getElem_modify, hb, he]
    simp only [List.length_cons] at hs ⊢
    obtain ⟨cur', g1, g2⟩ := putL_at g T us (w.setCell ⟨g, o, none⟩ u) (o + 1) (cur.setIfInBounds o u) h4 (by simp; omega)
    refine ⟨cur', g1, fun k => ?_⟩
    rw [g2 k]
    by_cases hk : k = o
    · subst hk
      rw [if_neg (by omega), if_pos (by omega), Nat.sub_self]
      simp [show k < cur.size by omega]
    · by_cases hk2 : o ≤ k ∧ k < o + (us.length + 1)
      · rw [if_pos (by omega), if_pos hk2, show k - o = (k - (o + 1)) + 1 by omega, List.getElem?_cons_succ]
      · rw [if_neg (by omega), if_neg hk2, Array.getElem?_setIfInBounds_ne (fun e => hk e.symm)]
section
variable {α : Type} {E : ElK α}
theorem flatE_map (l : List α) : flatE E l = (l.map E.enc).flatten := by
  unfold flatE
  rw [List.flatMap_def]
theorem enc_lens (l : List α) : ∀ y ∈ l.map E.enc, y.length = E.sz := fun y hy => by
  obtain ⟨x, _, rfl⟩ := List.mem_map.1 hy
  exact E.len x
theorem lo_lens {w : World} {base n c : Nat} {a : Option Addr} {l : List α} (h : LO E w base (.slice a n c) l) : l.length = n := by
  obtain ⟨a', c', e⟩ := h.form
  injection e with _ e2 _
  exact e2.symm
/-- A list's block, as elements. -/
theorem lo_toRow {w : World} {base g n c : Nat} {l : List α} (h : LO E w base (.slice (some ⟨g, 0, none⟩) n c) l) : ∃ EE, RowE E.T E.sz w g EE ∧ EE.length = c ∧ EE.take n = l.map E.enc ∧ n ≤ c ∧ base ≤ g ∧ c ≤ maxLen := by
  have hn := lo_lens h
  subst hn
  obtain ⟨EE, r1, r2, r3, r4, r5, r6⟩ := owns_rowE h
  have hE : ∀ x ∈ EE, x.length = E.sz := by obtain ⟨_, _, _, h⟩ := r1; exact h
  refine ⟨EE, r1, r2, ?_, r4, r5, r6⟩
  exact flat_inj E.pos _ _ (fun x hx => hE x (List.mem_of_mem_take hx)) (enc_lens l) (r3.trans (flatE_map l))
theorem lo_rowE {w : World} {base g n : Nat} {l : List α} {EE : List (List Value)} (r1 : RowE E.T E.sz w g EE) (hb : base ≤ g) (hn : n ≤ EE.length) (hm : EE.length ≤ maxLen) (ht : EE.take n = l.map E.enc) : LO E w base (.slice (some ⟨g, 0, none⟩) n EE.length) l := by
  have hl : l.length = n := by
    have := congrArg List.length ht
    rw [List.length_take, List.length_map] at this
    omega
  have h := rowE_owns (base := base) (n := n) r1 hb hn hm
  rw [ht, ← flatE_map] at h
  unfold LO
  rw [hl]
  exact h
/-- An element is written over. -/
theorem lo_put {w : World} {base g n c k : Nat} {l : List α} (h : LO E w base (.slice (some ⟨g, 0, none⟩) n c) l) (hk : k < n) (x : α) : LO E (putL w g (k * E.sz) (E.enc x)) base (.slice (some ⟨g, 0, none⟩) n c) (l.set k x) := by
  obtain ⟨EE, r1, r2, r3, r4, r5, r6⟩ := lo_toRow h
  have r1' := r1
  obtain ⟨cur, c1, c2, c3⟩ := r1
  have hcs : cur.size = EE.length * E.sz := by
    have := congrArg List.length c2
    rw [flat_len EE c3] at this
    simpa using this
  have hkc : k * E.sz + E.sz ≤ cur.size := by
    rw [hcs, r2]
    have h9 := Nat.mul_le_mul_right E.sz (show k + 1 ≤ c by omega)
    rw [Nat.add_mul, Nat.one_mul] at h9
    exact h9
  obtain ⟨cur', d1, d2⟩ := putL_at g E.T (E.enc x) w (k * E.sz) cur c1 (by rw [E.len]; exact hkc)
  rw [E.len] at d2
  have hp := RowE.put E.pos r1' (E.len x) c1 d1 (by omega : k < EE.length) d2
  have hl2 : (EE.set k (E.enc x)).length = c := by rw [List.length_set, r2]
  have := lo_rowE (l := l.set k x) hp r5 (n := n) (by rw [hl2]; exact r4) (by rw [hl2]; exact r6) (by
    rw [List.take_set, r3, List.map_set])
  rw [hl2] at this
  exact this
theorem lo_set0 {w : World} {base g n c k : Nat} {l : List α} (h : LO E w base (.slice (some ⟨g, 0, none⟩) n c) l) (hk : k < n) (j : Nat) (hj : j < E.sz) : (∃ u, w.cell? ⟨g, k * E.sz + j, none⟩ = some u) ∧ w.frozen? ⟨g, k * E.sz + j, none⟩ = false := by
  obtain ⟨EE, r1, r2, r3, r4, r5, r6⟩ := lo_toRow h
  exact ⟨r1.cellAt E.pos (by omega) hj, r1.frozen _⟩
/-- What an append of one element may have done: in place, or anew. -/
def App2 (w w' : World) (v : Value) (m g cap : Nat) : Prop := (v = .slice (some ⟨g, 0, none⟩) m cap ∧ w.grownBy w' (some g)) ∨ (w.heap.size ≤ g ∧ Kept w w')
end
/-- A list, as a value: where it lies, its length, its room. -/
abbrev SlV : Type := Option Addr × Nat × Nat
def val (x : SlV) : Value := .slice x.1 x.2.1 x.2.2
def encSl (x : SlV) : List Value := [.slice x.1 x.2.1 x.2.2]
theorem encSl_one (x : SlV) : ∀ u ∈ encSl x, u.oneCell' = true := fun u hu => by
  unfold encSl at hu
  simp only [List.mem_cons, List.not_mem_nil, or_false] at hu
  subst hu
  rfl
def xlE : ElK SlV := { T := 22, TT := 46, sz := 1, by_ := 24, z := .slice none 0 0, enc := encSl, pos := by decide, info := by kernel_rfl, zs := rfl, und := Tryz.underlying46, len := fun _ => rfl, one := encSl_one }
def bbE : ElK SlV := { T := 31, TT := 37, sz := 1, by_ := 24, z := .slice none 0 0, enc := encSl, pos := by decide, info := by kernel_rfl, zs := rfl, und := Tryz.underlying37, len := fun _ => rfl, one := encSl_one }
section
variable {α : Type} {E : ElK α} {L : ElK SlV}
def BagL (E : ElK α) (w : World) (vs : List SlV) (C : Nat → List α) : Prop := ∀ u x, vs[u]? = some x → LO E w 0 (val x) (C u)
def LoneS (vs : List SlV) : Prop := ∀ (u u' : Nat) (x x' : SlV) (d : Nat), vs[u]? = some x → vs[u']? = some x' → (val x).ownBlock = some d → (val x').ownBlock = some d → u = u'
def InB (vs : List SlV) (k : Nat) : Prop := ∃ (u : Nat) (x : SlV), vs[u]? = some x ∧ (val x).ownBlock = some k
def Mrk (mrk : Nat → Nat → α) (vs : List SlV) (C : Nat → List α) (i k : Nat) : Prop := ∀ (u : Nat) (x : SlV) (s : Nat), vs[u]? = some x → s < x.2.1 → (u < i ∨ u = i ∧ s < k) → (C u)[s]? = some (mrk u s)
def updF (C : Nat → List α) (i : Nat) (l : List α) : Nat → List α := fun u => if u = i then l else C u
theorem updF_same (C : Nat → List α) (i : Nat) (l : List α) : updF C i l i = l := if_pos rfl
theorem updF_other {C : Nat → List α} {i u : Nat} {l : List α} (h : u ≠ i) : updF C i l u = C u := if_neg h
theorem KT.wide {S S' : Nat → Prop} {u v w : World} (h : KT S u v) (k : KT S' v w) (hs : ∀ d, d < u.heap.size → S' d → S d) : KT S u w := ⟨k.1.trans h.1, k.2.1.trans h.2.1, k.2.2.1.trans h.2.2.1, Nat.le_trans h.2.2.2.1 k.2.2.2.1, fun d hd h1 => (k.2.2.2.2 d (Nat.lt_of_lt_of_le hd h.2.2.2.1) (fun e => h1 (hs d hd e))).trans (h.2.2.2.2 d hd h1)⟩
theorem grown_kt {w w' : World} {g : Nat} (h : w.grownBy w' (some g)) : KT (fun k => k = g) w w' := ⟨h.os, h.tape, h.output, h.size, fun k hk hn => h.block k hk (fun e => hn (by injection e))⟩
theorem BagL.kept {w w' : World} {vs : List SlV} {C : Nat → List α} (h : BagL E w vs C) (hk : Kept w w') : BagL E w' vs C := fun u x hx => (h u x hx).keep hk
/-- An element of one of the lists is written over. -/
theorem BagL.put {w : World} {vs : List SlV} {C : Nat → List α} (h : BagL E w vs C) (hl : LoneS vs) {i k g n c : Nat} (hi : vs[i]? = some (some ⟨g, 0, none⟩, n, c)) (hk : k < n) (x : α) : BagL E (putL w g (k * E.sz) (E.enc x)) vs (updF C i ((C i).set k x)) := by
  intro u y hy
  by_cases hu : u = i
  · subst hu
    rw [hi] at hy
    have := Option.some.inj hy
    subst this
    rw [updF_same]
    exact lo_put (h u _ hi) hk x
  · rw [updF_other hu]
    refine (h u y hy).same (fun d hd => (putL_kt g _ _ _).2.2.2.2 d ((h u y hy).lt' d hd).2 (fun e => hu ?_))
    exact hl u i y _ d hy hi hd (by rw [e]; rfl)
theorem Mrk.put {mrk : Nat → Nat → α} {vs : List SlV} {C : Nat → List α} {i k : Nat} (h : Mrk mrk vs C i k) {x : SlV} (hi : vs[i]? = some x) (hk : k < (C i).length) : Mrk mrk vs (updF C i ((C i).set k (mrk i k))) i (k + 1) := by
  intro u y s hy hs hc
  by_cases hu : u = i
  · subst hu
    rw [updF_same]
    by_cases hsk : s = k
    · subst hsk
      rw [List.getElem?_set_self hk]
    · rw [List.getElem?_set_ne (fun e => hsk e.symm)]
      exact h u y s hy hs (by omega)
  · rw [updF_other hu]
    exact h u y s hy hs (by omega)
theorem Mrk.next {mrk : Nat → Nat → α} {vs : List SlV} {C : Nat → List α} {i n : Nat} (h : Mrk mrk vs C i n) (hn : ∀ x, vs[i]? = some x → x.2.1 = n) : Mrk mrk vs C (i + 1) 0 := by
  intro u x s hx hs hc
  by_cases hu : u = i
  · subst hu
    exact h u x s hx hs (Or.inr ⟨rfl, by rw [← hn x hx]; exact hs⟩)
  · exact h u x s hx hs (by omega)
theorem lo_ne {β : Type} {E' : ElK β} {w : World} {b1 b2 : Nat} {v1 v2 : Value} {l1 : List α} {l2 : List β} (h1 : LO E w b1 v1 l1) (h2 : LO E' w b2 v2 l2) (hT : E.T ≠ E'.T) {d : Nat} (hd : v1.ownBlock = some d) : v2.ownBlock ≠ some d := fun e => by
  obtain ⟨c1, g1⟩ := h1.type hd
  obtain ⟨c2, g2⟩ := h2.type e
  rw [g1] at g2
  injection g2 with g2
  injection g2 with _ g2 _
  exact hT g2
theorem val_some {x : SlV} {d : Nat} {w : World} {b : Nat} {l : List α} (h : LO E w b (val x) l) (hd : (val x).ownBlock = some d) : x.1 = some ⟨d, 0, none⟩ := by
  obtain ⟨a, n, c⟩ := x
  rcases h.2 with ⟨h0, _⟩ | ⟨g, cap, cur, he, _⟩
  · unfold val at h0 hd
    rw [h0] at hd
    cases hd
  · unfold val at he hd
    rw [he] at hd
    simp only [Value.ownBlock, Option.some.injEq] at hd
    injection he with e1 _ _
    subst hd
    exact e1
theorem own_eq (a : Option Addr) (n c n' c' : Nat) : (Value.slice a n c).ownBlock = (Value.slice a n' c').ownBlock := by cases a <;> rfl
theorem lo_sl {w : World} {base : Nat} {a : Option Addr} {n c : Nat} {l : List SlV} (h : LO L w base (.slice a n c) l) (hs : L.sz = 1) (he : L.enc = encSl) {k : Nat} {x : SlV} (hx : l[k]? = some x) : ∃ g, a = some ⟨g, 0, none⟩ ∧ w.cell? ⟨g, k, none⟩ = some (.slice x.1 x.2.1 x.2.2) := by
  obtain ⟨g, rfl⟩ := h.some (by intro e; rw [e] at hx; simp at hx)
  have h1 := h.cell (i := k) (j := 0) (x := x) (u := .slice x.1 x.2.1 x.2.2) hx (by rw [he]; rfl)
  rw [hs, Nat.mul_one, Nat.add_zero] at h1
  exact ⟨g, rfl, h1⟩
end

end Sh
end Ex
end Go.Proofs.YtfajoknacfjedaaGreatDoor
