import Derived.Test.YtlgojnodhbmlkaaGreatDoorMExMa8
import Derived.Test.YtlgojnodhbmlkaaGreatDoorMExTw0
import Derived.Deep.MidRow
namespace Go.Proofs.YtlgojnodhbmlkaaGreatDoor
open Go.RowKit
attribute [local go_sem] Oper.semAt_some
namespace Ex

/-- The values of a pattern in the order in which they are met, with their numbers from a number on. -/
def numsB : List (Nat → List NodeT) → Nat → List Nat
  | [], _ => []
  | b :: bs, i => i :: numsB bs (i + (b i).length)
def catB : List (Nat → List NodeT) → Nat → List NodeT
  | [], _ => []
  | b :: bs, i => b i ++ catB bs (i + (b i).length)
def nodeF (k a b mn mx : Int) (bs : List (Nat → List NodeT)) (i : Nat) : List NodeT := ((k, a, b, mn, mx, numsB bs (i + 1)) : NodeT) :: catB bs (i + 1)
def nodesN (n : Nat) (q : PatN (n + 1)) : Nat → List NodeT := foldN nodeF n q
theorem catB_snoc (b : Nat → List NodeT) : ∀ (bs : List (Nat → List NodeT)) (i : Nat), catB (bs ++ [b]) i = catB bs i ++ b (i + (catB bs i).length)
  | [], i => by simp [catB]
  | c :: bs, i => by
    show c i ++ catB (bs ++ [b]) (i + (c i).length) = (c i ++ catB bs (i + (c i).length)) ++ _
    rw [catB_snoc b bs, List.append_assoc]
    show _ = c i ++ (_ ++ b (i + (c i ++ catB bs (i + (c i).length)).length))
    rw [List.length_append, Nat.add_assoc]
theorem numsB_snoc (b : Nat → List NodeT) : ∀ (bs : List (Nat → List NodeT)) (i : Nat), numsB (bs ++ [b]) i = numsB bs i ++ [i + (catB bs i).length]
  | [], i => by simp [numsB, catB]
  | c :: bs, i => by
    show i :: numsB (bs ++ [b]) (i + (c i).length) = (i :: numsB bs (i + (c i).length)) ++ _
    rw [numsB_snoc b bs]
    show _ = i :: (_ ++ [i + (c i ++ catB bs (i + (c i).length)).length])
    rw [List.length_append, Nat.add_assoc]
theorem numsB_len : ∀ (bs : List (Nat → List NodeT)) (i : Nat), (numsB bs i).length = bs.length
  | [], _ => rfl
  | c :: bs, i => by
    show (numsB bs (i + (c i).length)).length + 1 = bs.length + 1
    rw [numsB_len bs]
theorem catB_take : ∀ (bs : List (Nat → List NodeT)) (k i : Nat), (catB (bs.take k) i).length ≤ (catB bs i).length
  | [], k, i => by simp
  | c :: bs, 0, i => by simp [catB]
  | c :: bs, k + 1, i => by
    show (c i ++ catB (bs.take k) (i + (c i).length)).length ≤ (c i ++ catB bs (i + (c i).length)).length
    rw [List.length_append, List.length_append]
    have := catB_take bs k (i + (c i).length)
    omega

def mkN (k f t mn mx : Int) (ks : List Nat) : NodeT := (k, f, t, mn, mx, ks)
/-- The cells of the values. -/
def FlatND : List NodeT → List Value → Prop
  | [], xs => xs = []
  | nd :: l, xs => ∃ a n c ys, xs = .int .i64 nd.1 :: .int .i64 nd.2.1 :: .int .i64 nd.2.2.1 :: .int .i64 nd.2.2.2.1 :: .int .i64 nd.2.2.2.2.1 :: .slice a n c :: ys ∧ FlatND l ys
theorem FlatND.snoc : ∀ {l : List NodeT} {xs : List Value} (k f t mn mx : Int) (ks : List Nat) (a : Option Addr) (n c : Nat), FlatND l xs → FlatND (l ++ [mkN k f t mn mx ks]) (xs ++ [.int .i64 k, .int .i64 f, .int .i64 t, .int .i64 mn, .int .i64 mx, .slice a n c])
  | [], xs, k, f, t, mn, mx, ks, a, n, c, h => by
    rw [show xs = [] from h]
    exact ⟨a, n, c, [], rfl, rfl⟩
  | q :: l, xs, k, f, t, mn, mx, ks, a, n, c, ⟨a', n', c', ys, h1, h2⟩ => by
    rw [h1]
    exact ⟨a', n', c', ys ++ _, rfl, FlatND.snoc k f t mn mx ks a n c h2⟩
theorem FlatND.len : ∀ {l : List NodeT} {xs : List Value}, FlatND l xs → xs.length = l.length * 6
  | [], _, h => by rw [h]; rfl
  | _ :: l, _, ⟨_, _, _, ys, h1, h2⟩ => by rw [h1]; have := FlatND.len h2; simp only [List.length_cons]; omega
theorem FlatND.set : ∀ {l : List NodeT} {xs : List Value} {i : Nat} {nd nd' : NodeT}, FlatND l xs → l[i]? = some nd → (nd'.1 = nd.1 ∧ nd'.2.1 = nd.2.1 ∧ nd'.2.2.1 = nd.2.2.1 ∧ nd'.2.2.2.1 = nd.2.2.2.1 ∧ nd'.2.2.2.2.1 = nd.2.2.2.2.1) → FlatND (l.set i nd') xs
  | [], _, _, _, _, _, hi, _ => by simp at hi
  | q :: l, _, 0, nd, nd', ⟨a, n, c, ys, h1, h2⟩, hi, ⟨e0, e1, e2, e3, e4⟩ => by
    rw [List.getElem?_cons_zero, Option.some.injEq] at hi
    subst hi
    refine ⟨a, n, c, ys, ?_, h2⟩
    rw [e0, e1, e2, e3, e4]
    exact h1
  | q :: l, _, i + 1, nd, nd', ⟨a, n, c, ys, h1, h2⟩, hi, he => by
    rw [List.getElem?_cons_succ] at hi
    exact ⟨a, n, c, ys, h1, FlatND.set h2 hi he⟩
theorem FlatND.at : ∀ {l : List NodeT} {xs : List Value} {i : Nat} {nd : NodeT}, FlatND l xs → l[i]? = some nd →
    ∃ a n c, xs[i * 6]? = some (.int .i64 nd.1) ∧ xs[i * 6 + 1]? = some (.int .i64 nd.2.1) ∧ xs[i * 6 + 2]? = some (.int .i64 nd.2.2.1) ∧ xs[i * 6 + 3]? = some (.int .i64 nd.2.2.2.1) ∧ xs[i * 6 + 4]? = some (.int .i64 nd.2.2.2.2.1) ∧ xs[i * 6 + 5]? = some (.slice a n c)
  | [], _, i, nd, _, hi => by simp at hi
  | q :: l, _, 0, nd, ⟨a, n, c, ys, h1, h2⟩, hi => by
    rw [List.getElem?_cons_zero, Option.some.injEq] at hi
    subst hi
    rw [h1]
    exact ⟨a, n, c, rfl, rfl, rfl, rfl, rfl, rfl⟩
  | q :: l, _, i + 1, nd, ⟨a, n, c, ys, h1, h2⟩, hi => by
    rw [List.getElem?_cons_succ] at hi
    obtain ⟨a', n', c', g⟩ := FlatND.at h2 hi
    have e0 : (i + 1) * 6 = i * 6 + 6 := by omega
    rw [h1]
    refine ⟨a', n', c', ?_⟩
    rw [e0, show i * 6 + 6 + 1 = i * 6 + 1 + 6 by omega, show i * 6 + 6 + 2 = i * 6 + 2 + 6 by omega, show i * 6 + 6 + 3 = i * 6 + 3 + 6 by omega, show i * 6 + 6 + 4 = i * 6 + 4 + 6 by omega, show i * 6 + 6 + 5 = i * 6 + 5 + 6 by omega]
    simp only [List.getElem?_cons_succ]
    exact g
/-- The lists of parts. -/
def KidsOk (R : Nat → Nat) (w : World) (ND : List NodeT) (xs : List Value) : Prop := ∀ (i : Nat) (nd : NodeT), ND[i]? = some nd → ∃ v, xs[i]? = some v ∧ IntR (fun d => R d = 7) w v nd.2.2.2.2.2
theorem KidsOk.same {R R' : Nat → Nat} {w w' : World} {ND : List NodeT} {xs : List Value} (h : KidsOk R w ND xs) (hs : w.heap.size ≤ w'.heap.size) (hh : ∀ d, d < w.heap.size → R d = 7 → w'.heap[d]? = w.heap[d]? ∧ R' d = 7) : KidsOk R' w' ND xs := fun i nd hi => by
  obtain ⟨v, h1, h2⟩ := h i nd hi
  exact ⟨v, h1, h2.same hs hh⟩
theorem KidsOk.snoc {R : Nat → Nat} {w : World} {ND : List NodeT} {xs : List Value} (h : KidsOk R w ND xs) (hl : xs.length = ND.length) (k f t mn mx : Int) : KidsOk R w (ND ++ [mkN k f t mn mx []]) (xs ++ [.slice none 0 0]) := fun i nd hi => by
  by_cases e : i < ND.length
  · rw [List.getElem?_append_left e] at hi
    obtain ⟨v, h1, h2⟩ := h i nd hi
    exact ⟨v, by rw [List.getElem?_append_left (by omega)]; exact h1, h2⟩
  · rw [List.getElem?_append_right (by omega)] at hi
    have hj := (List.getElem?_eq_some_iff.1 hi).1
    simp only [List.length_cons, List.length_nil] at hj
    have e2 : i = ND.length := by omega
    subst e2
    simp only [Nat.sub_self, List.getElem?_cons_zero, Option.some.injEq] at hi
    subst hi
    exact ⟨.slice none 0 0, by rw [List.getElem?_append_right (by omega), hl, Nat.sub_self]; rfl, ⟨none, 0, rfl, Nat.le_refl _, Nat.zero_le _, .inl rfl⟩⟩
theorem KidsOk.set {R : Nat → Nat} {w : World} {ND : List NodeT} {xs : List Value} (h : KidsOk R w ND xs) (hl : xs.length = ND.length) {i : Nat} {nd : NodeT} {v : Value} (hv : IntR (fun d => R d = 7) w v nd.2.2.2.2.2) : KidsOk R w (ND.set i nd) (xs.set i v) := fun j nd' hj => by
  by_cases e : i = j
  · subst e
    have hlt := (List.getElem?_eq_some_iff.1 hj).1
    rw [List.length_set] at hlt
    rw [List.getElem?_set_self hlt, Option.some.injEq] at hj
    subst hj
    exact ⟨v, List.getElem?_set_self (by omega), hv⟩
  · rw [List.getElem?_set_ne e] at hj ⊢
    exact h j nd' hj

/-- The net while it is made: its block, and its five rows (role j: row j; 6: the block; 7: a list of parts). -/
def teF : Nat → TypeId
  | 1 => 24
  | 2 => 46
  | 3 => 62
  | 4 => 67
  | _ => 46
def szF : Nat → Nat
  | 1 => 6
  | _ => 1
def upd {α : Type} (f : Nat → α) (j : Nat) (v : α) : Nat → α := fun k => if k = j then v else f k
theorem upd_self {α : Type} (f : Nat → α) (j : Nat) (v : α) : upd f j v j = v := if_pos rfl
theorem upd_ne {α : Type} (f : Nat → α) {j k : Nat} (v : α) (h : k ≠ j) : upd f j v k = f k := if_neg h
def NetP (R : Nat → Nat) (w : World) (nb : Nat) (f : Nat → Value) (n : Nat → Nat) (xs : Nat → List Value) : Prop :=
  w.heap[nb]? = some (.cells #[f 0, f 1, f 2, f 3, f 4, f 5] 66 (0, 0)) ∧ R nb = 6 ∧ (∀ d, w.heap.size ≤ d → R d = 0) ∧ ∀ j, 1 ≤ j → j ≤ 5 → w.ownsRow 0 (teF j) (szF j) (f j) (n j) (xs j) ∧ ∀ g, (f j).ownBlock = some g → R g = j
theorem NetP.lt {R : Nat → Nat} {w : World} {nb : Nat} {f : Nat → Value} {n : Nat → Nat} {xs : Nat → List Value} (h : NetP R w nb f n xs) : nb < w.heap.size := (Array.getElem?_eq_some_iff.1 h.1).1
theorem NetP.cells {R : Nat → Nat} {w : World} {nb : Nat} {f : Nat → Value} {n : Nat → Nat} {xs : Nat → List Value} (h : NetP R w nb f n xs) : ∀ j, j ≤ 5 → w.cell? ⟨nb, j, none⟩ = some (f j) ∧ w.frozen? ⟨nb, j, none⟩ = false := by
  intro j hj
  have h1 := h.1
  match j, hj with
  | 0, _ => simp [World.cell?, World.frozen?, h1]
  | 1, _ => simp [World.cell?, World.frozen?, h1]
  | 2, _ => simp [World.cell?, World.frozen?, h1]
  | 3, _ => simp [World.cell?, World.frozen?, h1]
  | 4, _ => simp [World.cell?, World.frozen?, h1]
  | 5, _ => simp [World.cell?, World.frozen?, h1]
theorem netb_put {w : World} {nb : Nat} {f : Nat → Value} (h : w.heap[nb]? = some (.cells #[f 0, f 1, f 2, f 3, f 4, f 5] 66 (0, 0))) (j : Nat) (h1 : 1 ≤ j) (h5 : j ≤ 5) (v : Value) : (w.setCell ⟨nb, j, none⟩ v).heap[nb]? = some (.cells #[upd f j v 0, upd f j v 1, upd f j v 2, upd f j v 3, upd f j v 4, upd f j v 5] 66 (0, 0)) := by
  have hl : nb < w.heap.size := (Array.getElem?_eq_some_iff.1 h).1
  have he : w.heap[nb] = Obj.cells #[f 0, f 1, f 2, f 3, f 4, f 5] 66 (0, 0) := by rw [Array.getElem?_eq_getElem hl] at h; exact Option.some.inj h
  match j, h1, h5 with
  | 1, _, _ => simp [World.setCell, Array.getElem_modify, hl, he, upd]
  | 2, _, _ => simp [World.setCell, Array.getElem_modify, hl, he, upd]
  | 3, _, _ => simp [World.setCell, Array.getElem_modify, hl, he, upd]
  | 4, _, _ => simp [World.setCell, Array.getElem_modify, hl, he, upd]
  | 5, _, _ => simp [World.setCell, Array.getElem_modify, hl, he, upd]
theorem NetP.same {R : Nat → Nat} {w w' : World} {nb : Nat} {f : Nat → Value} {n : Nat → Nat} {xs : Nat → List Value} (h : NetP R w nb f n xs) (hs : w.heap.size ≤ w'.heap.size) (hh : ∀ d, d < w.heap.size → R d ≠ 0 → w'.heap[d]? = w.heap[d]?) : NetP R w' nb f n xs := by
  obtain ⟨h1, h2, h3, h4⟩ := h
  refine ⟨(hh nb (Array.getElem?_eq_some_iff.1 h1).1 (by omega)).trans h1, h2, fun d hd => h3 d (by omega), fun j j1 j5 => ?_⟩
  obtain ⟨g1, g2⟩ := h4 j j1 j5
  exact ⟨owns_same g1 (fun g hg => hh g (g1.lt g hg).2 (by rw [g2 g hg]; omega)), g2⟩
/-- One of the rows has grown. -/
theorem NetP.grow {R : Nat → Nat} {w W w9 : World} {nb : Nat} {f : Nat → Value} {n : Nat → Nat} {xs : Nat → List Value} (h : NetP R w nb f n xs) (j : Nat) (j1 : 1 ≤ j) (j5 : j ≤ 5) (hW : Kept w W) (hg : W.grownBy w9 (f j).ownBlock) {g9 m c9 : Nat} {ys : List Value} (ho : w9.ownsRow 0 (teF j) (szF j) (.slice (some ⟨g9, 0, none⟩) m c9) m ys) (hl : (f j).ownBlock = some g9 ∨ w.heap.size ≤ g9) :
    ∃ R', NetP R' (w9.setCell ⟨nb, j, none⟩ (.slice (some ⟨g9, 0, none⟩) m c9)) nb (upd f j (.slice (some ⟨g9, 0, none⟩) m c9)) (upd n j m) (upd xs j ys) ∧ RK R w (w9.setCell ⟨nb, j, none⟩ (.slice (some ⟨g9, 0, none⟩) m c9)) ∧ RX R R' w ∧ ∀ d, d ≠ g9 → R' d = R d := by
  obtain ⟨h1, h2, h3, h4⟩ := h
  have hnb : nb < w.heap.size := (Array.getElem?_eq_some_iff.1 h1).1
  have hsz := hW.size
  obtain ⟨hj1, hj2⟩ := h4 j j1 j5
  have same : ∀ k, k < w.heap.size → R k ≠ j → w9.heap[k]? = w.heap[k]? := fun k hk hne => (hg.block k (by omega) (fun e => hne (hj2 k e.symm))).trans (hW.2.2.2.2 k hk)
  have h9 : w9.heap[nb]? = some (.cells #[f 0, f 1, f 2, f 3, f 4, f 5] 66 (0, 0)) := (same nb hnb (by omega)).trans h1
  have hset : ∀ k v, k ≠ nb → (w9.setCell ⟨nb, j, none⟩ v).heap[k]? = w9.heap[k]? := fun k v hk => Below.heap_setCell _ _ _ _ hk
  have hss : ∀ v, (w9.setCell ⟨nb, j, none⟩ v).heap.size = w9.heap.size := fun v => by simp [World.setCell]
  have hg9 : g9 < w9.heap.size := (ho.lt g9 rfl).2
  have hold : ∀ d, d < w.heap.size → d = g9 → R d = j := fun d hd e => by
    rcases hl with e2 | e2
    · exact hj2 d (by rw [e]; exact e2)
    · omega
  have hnb9 : nb ≠ g9 := fun e => by have := hold nb hnb e; omega
  refine ⟨fun d => if d = g9 then j else R d, ⟨netb_put h9 j j1 j5 _, ?_, fun d hd => ?_, fun k k1 k5 => ?_⟩, ⟨hg.os.trans hW.1, hg.tape.trans hW.2.1, hg.output.trans hW.2.2.1, ?_, fun d hd => ?_⟩, fun d hd => ?_, fun d hd => if_neg hd⟩
  · simp only [hnb9, if_false]; exact h2
  · rw [hss] at hd
    have : d ≠ g9 := by omega
    simp only [this, if_false]
    exact h3 d (by have := hg.size; omega)
  · by_cases e : k = j
    · subst e
      rw [upd_self, upd_self, upd_self]
      refine ⟨owns_same ho (fun g hgf => hset g _ ?_), fun g hgf => ?_⟩
      · simp only [Value.ownBlock, Option.some.injEq] at hgf
        rw [← hgf]
        exact Ne.symm hnb9
      · simp only [Value.ownBlock, Option.some.injEq] at hgf
        simp [hgf]
    · rw [upd_ne _ _ e, upd_ne _ _ e, upd_ne _ _ e]
      obtain ⟨q1, q2⟩ := h4 k k1 k5
      refine ⟨owns_same q1 (fun g hgf => ?_), fun g hgf => ?_⟩
      · have hr := q2 g hgf
        exact (hset g _ (fun e2 => by rw [e2] at hr; omega)).trans (same g (q1.lt g hgf).2 (by omega))
      · have hr := q2 g hgf
        have hn : g ≠ g9 := fun e2 => by have := hold g (q1.lt g hgf).2 e2; omega
        simp only [hn, if_false]
        exact hr
  · rw [hss]; exact Nat.le_trans hsz hg.size
  · exact (hset d _ (fun e => by have := hd.2; rw [e] at this; omega)).trans (same d hd.1 (by have := hd.2; omega))
  · show (if d = g9 then j else R d) = R d
    by_cases e : d = g9
    · rw [if_pos e, hold d hd e]
    · rw [if_neg e]
/-- A cell of a row is written. -/
theorem own_set {w : World} {base size n g cap i : Nat} {e : TypeId} {xs : List Value} {u : Value} (h : w.ownsRow base e size (.slice (some ⟨g, 0, none⟩) n cap) n xs) : (w.setCell ⟨g, i, none⟩ u).ownsRow base e size (.slice (some ⟨g, 0, none⟩) n cap) n (xs.set i u) := by
  obtain ⟨h0, h⟩ := h
  refine ⟨by rw [List.length_set]; exact h0, ?_⟩
  rcases h with ⟨h1, _⟩ | ⟨g', cap', cur, h1, h2, h3, h4, h5, h6, h7⟩
  · cases h1
  · simp only [Value.slice.injEq, Option.some.injEq, Addr.mk.injEq] at h1
    obtain ⟨⟨rfl, _⟩, _, rfl⟩ := h1
    have hl : g < w.heap.size := (Array.getElem?_eq_some_iff.1 h3).1
    have he : w.heap[g] = Obj.cells cur e (0, 0) := by rw [Array.getElem?_eq_getElem hl] at h3; exact Option.some.inj h3
    refine .inr ⟨g, cap, cur.setIfInBounds i u, rfl, h2, by simp [World.setCell, Array.getElem_modify, hl, he], h4, h5, by simpa using h6, ?_⟩
    rw [Array.toList_setIfInBounds, ← h7]
    apply List.ext_getElem?
    intro k
    rw [List.getElem?_take]
    by_cases ek : i = k
    · subst ek
      by_cases h8 : i < n * size
      · rw [if_pos h8]
        by_cases h9 : i < cur.toList.length
        · rw [List.getElem?_set_self h9, List.getElem?_set_self (by rw [List.length_take]; omega)]
        · rw [List.getElem?_eq_none (by rw [List.length_set]; omega), List.getElem?_eq_none (by rw [List.length_set, List.length_take]; omega)]
      · rw [if_neg h8, List.getElem?_eq_none (by rw [List.length_set, List.length_take]; omega)]
    · rw [List.getElem?_set_ne ek, List.getElem?_set_ne ek, List.getElem?_take]
theorem set6_list {xs : List Value} {m : Nat} (h : xs.length = m) (z0 z1 z2 z3 z4 z5 x0 x1 x2 x3 x4 x5 : Value) : ((((((xs ++ [z0, z1, z2, z3, z4, z5]).set m x0).set (m + 1) x1).set (m + 2) x2).set (m + 3) x3).set (m + 4) x4).set (m + 5) x5 = xs ++ [x0, x1, x2, x3, x4, x5] := by
  subst h
  rw [List.set_append_right _ _ (Nat.le_refl _), List.set_append_right _ _ (by omega), List.set_append_right _ _ (by omega), List.set_append_right _ _ (by omega), List.set_append_right _ _ (by omega), List.set_append_right _ _ (by omega)]
  rw [show xs.length - xs.length = 0 by omega, show xs.length + 1 - xs.length = 1 by omega, show xs.length + 2 - xs.length = 2 by omega, show xs.length + 3 - xs.length = 3 by omega, show xs.length + 4 - xs.length = 4 by omega, show xs.length + 5 - xs.length = 5 by omega]
  rfl
/-- A row of values, the last of which is written over. -/
theorem own_put6 {w : World} {g cap N : Nat} {xs : List Value} {z0 z1 z2 z3 z4 z5 x0 x1 x2 x3 x4 x5 : Value} (h : w.ownsRow 0 24 6 (.slice (some ⟨g, 0, none⟩) (N + 1) cap) (N + 1) (xs ++ [z0, z1, z2, z3, z4, z5])) :
    ((((((w.setCell ⟨g, N * 6, none⟩ x0).setCell ⟨g, N * 6 + 1, none⟩ x1).setCell ⟨g, N * 6 + 2, none⟩ x2).setCell ⟨g, N * 6 + 3, none⟩ x3).setCell ⟨g, N * 6 + 4, none⟩ x4).setCell ⟨g, N * 6 + 5, none⟩ x5).ownsRow 0 24 6 (.slice (some ⟨g, 0, none⟩) (N + 1) cap) (N + 1) (xs ++ [x0, x1, x2, x3, x4, x5]) := by
  have hl := h.1
  simp only [List.length_append, List.length_cons, List.length_nil] at hl
  have := own_set (i := N * 6 + 5) (u := x5) (own_set (i := N * 6 + 4) (u := x4) (own_set (i := N * 6 + 3) (u := x3) (own_set (i := N * 6 + 2) (u := x2) (own_set (i := N * 6 + 1) (u := x1) (own_set (i := N * 6) (u := x0) h)))))
  rw [set6_list (by omega)] at this
  exact this
theorem grown_put6 {W w : World} {own : Option Nat} {g o : Nat} {x0 x1 x2 x3 x4 x5 : Value} (h : W.grownBy w own) (hl : own = some g ∨ W.heap.size ≤ g) :
    W.grownBy ((((((w.setCell ⟨g, o, none⟩ x0).setCell ⟨g, o + 1, none⟩ x1).setCell ⟨g, o + 2, none⟩ x2).setCell ⟨g, o + 3, none⟩ x3).setCell ⟨g, o + 4, none⟩ x4).setCell ⟨g, o + 5, none⟩ x5) own := by
  have key : ∀ (w : World) (o : Nat) (x : Value), W.grownBy w own → W.grownBy (w.setCell ⟨g, o, none⟩ x) own := fun w o x h =>
    ⟨h.os, h.tape, h.output, by simpa [World.setCell] using h.size, fun k hk hne => (heap_put (fun e => by subst e; rcases hl with e2 | e2; exact hne e2.symm; omega)).trans (h.block k hk hne)⟩
  exact key _ _ _ (key _ _ _ (key _ _ _ (key _ _ _ (key _ _ _ (key _ _ _ h)))))
theorem set_swap (w : World) {g nb o j : Nat} (x v : Value) (h : g ≠ nb) : (w.setCell ⟨nb, j, none⟩ v).setCell ⟨g, o, none⟩ x = (w.setCell ⟨g, o, none⟩ x).setCell ⟨nb, j, none⟩ v := by
  unfold World.setCell
  simp only
  congr 1
  apply Array.ext_getElem?
  intro k
  simp only [Array.getElem?_modify]
  by_cases e1 : g = k
  · subst e1
    have e2 : nb ≠ g := Ne.symm h
    simp [e2]
  · by_cases e2 : nb = k
    · subst e2; simp [e1]
    · simp [e1, e2]
theorem put6_swap (w : World) {g nb o j : Nat} (x0 x1 x2 x3 x4 x5 v : Value) (h : g ≠ nb) : ((((((w.setCell ⟨nb, j, none⟩ v).setCell ⟨g, o, none⟩ x0).setCell ⟨g, o + 1, none⟩ x1).setCell ⟨g, o + 2, none⟩ x2).setCell ⟨g, o + 3, none⟩ x3).setCell ⟨g, o + 4, none⟩ x4).setCell ⟨g, o + 5, none⟩ x5 = ((((((w.setCell ⟨g, o, none⟩ x0).setCell ⟨g, o + 1, none⟩ x1).setCell ⟨g, o + 2, none⟩ x2).setCell ⟨g, o + 3, none⟩ x3).setCell ⟨g, o + 4, none⟩ x4).setCell ⟨g, o + 5, none⟩ x5).setCell ⟨nb, j, none⟩ v := by
  rw [set_swap _ _ _ h, set_swap _ _ _ h, set_swap _ _ _ h, set_swap _ _ _ h, set_swap _ _ _ h, set_swap _ _ _ h]
/-- The net with so many values. -/
def NetA (R : Nat → Nat) (w : World) (nb : Nat) (vB : Value) (ND : List NodeT) : Prop :=
  ∃ f xs, f 0 = vB ∧ NetP R w nb f (fun _ => ND.length) xs ∧ FlatND ND (xs 1) ∧ KidsOk R w ND (xs 2) ∧ xs 3 = nilV ND.length ∧ xs 4 = nilV ND.length ∧ xs 5 = nilV ND.length
theorem NetA.same {R : Nat → Nat} {w w' : World} {nb : Nat} {vB : Value} {ND : List NodeT} (h : NetA R w nb vB ND) (hs : w.heap.size ≤ w'.heap.size) (hh : ∀ d, d < w.heap.size → R d ≠ 0 → w'.heap[d]? = w.heap[d]?) : NetA R w' nb vB ND := by
  obtain ⟨f, xs, h0, h1, h2, h3, h4⟩ := h
  exact ⟨f, xs, h0, h1.same hs hh, h2, h3.same hs (fun d hd hr => ⟨hh d hd (by omega), hr⟩), h4⟩
theorem nil_info : (Tryz.prog.info? 46).map (fun i => (i.zero, i.size, i.bytes)) = some (some (.slice none 0 0), 1, 24) := by kernel_rfl
theorem nil2_info : (Tryz.prog.info? 62).map (fun i => (i.zero, i.size, i.bytes)) = some (some (.slice none 0 0), 1, 24) := by kernel_rfl
theorem nilb_info : (Tryz.prog.info? 67).map (fun i => (i.zero, i.size, i.bytes)) = some (some (.slice none 0 0), 1, 24) := by kernel_rfl
/-- One nil more. -/
theorem wpl_nil {ops : Array Oper} {rest : List Oper} {o : Oper} {a : Act} {Q : Exit → Act → World → Prop} (hgd : o.guard = none) (s x : Operand) (ts te : TypeId) (hu : Tryz.prog.underlying ts = some (.slice te)) (hin : (Tryz.prog.info? te).map (fun i => (i.zero, i.size, i.bytes)) = some (some (.slice none 0 0), 1, 24))
    (ho : o.op = .call { callee := .builtin .append, args := #[s, x], argTypes := #[ts, ts] }) (W : World) (v : Value) (n : Nat) (xs : List Value) (t : TypeId) (hs : a.eval s = v) (hown : W.ownsRow 0 te 1 v n xs)
    (hx : a.eval x = .slice (some ⟨W.heap.size, 0, none⟩) 1 1) (hl : n ≤ 100000)
    (h : ∀ g cap w', w'.ownsRow 0 te 1 (.slice (some ⟨g, 0, none⟩) (n + 1) cap) (n + 1) (xs ++ [.slice none 0 0]) → (W.alloc (.cells #[.slice none 0 0] t)).grownBy w' v.ownBlock → (v.ownBlock = some g ∨ W.heap.size ≤ g) → wpList Tryz.prog ops Q rest (a.put o.dst (.slice (some ⟨g, 0, none⟩) (n + 1) cap)) w') : wpList Tryz.prog ops Q (o :: rest) a (W.alloc (.cells #[.slice none 0 0] t)) := by
  obtain ⟨i0, hi, hz0, hz1, hz2⟩ := info_parts hin
  have hk : Kept W (W.alloc (.cells #[.slice none 0 0] t)) := (Kept.refl W).alloc _ _
  refine wpList_append_lies _ hgd s x ts ho 0 te i0 _ 1 24 hu hi hz0 hz1 hz2 rfl (by decide) v n xs hs (owns_same hown (fun g hg => hk.2.2.2.2 g (hown.lt g hg).2)) ⟨W.heap.size, 0, none⟩ 1 1 [.slice none 0 0] hx rfl ?_ ?_ (by decide) (by unfold maxLen; omega) (by omega) (Nat.zero_le _) (W.alloc (.cells #[.slice none 0 0] t)).heap.size rfl ?_
  · intro j u hj
    have hj6 : j < 1 := (List.getElem?_eq_some_iff.1 hj).1
    match j, hj6 with
    | 0, _ => exact (cell_of_row _ _ 0 _ _ _ (heap_alloc_new W _)).trans hj
  · intro u hu
    simp only [List.mem_cons, List.not_mem_nil, or_false] at hu
    subst hu
    rfl
  · intro g cap w' h1 h2 h3 _
    refine h g cap w' h1 h2 ?_
    rcases h3 with h3 | h3
    · exact .inl h3
    · exact .inr (by rw [h3]; simp)
/-- One value more (zeros first), at a step of a region that draws its order. -/
theorem step_zero {ops : Array Oper} {o : Oper} {a : Act} {K : Act → World → Prop} {Q : Exit → Act → World → Prop} {E : Prop} (hgd : o.guard = none) (s x : Operand)
    (ho : o.op = .call { callee := .builtin .append, args := #[s, x], argTypes := #[22, 22] }) (W : World) (v : Value) (n : Nat) (xs : List Value) (hs : a.eval s = v) (hown : W.ownsRow 0 24 6 v n xs)
    (lb : Nat) (hx : a.eval x = .slice (some ⟨lb, 0, none⟩) 1 1) (hbx : BoxAt W lb (.int .i64 0) (.int .i64 0) (.int .i64 0) (.int .i64 0) (.int .i64 0) (.slice none 0 0)) (hl : n ≤ 100000)
    (h : ∀ g cap w', w'.ownsRow 0 24 6 (.slice (some ⟨g, 0, none⟩) (n + 1) cap) (n + 1) (xs ++ [.int .i64 0, .int .i64 0, .int .i64 0, .int .i64 0, .int .i64 0, .slice none 0 0]) → W.grownBy w' v.ownBlock → (v.ownBlock = some g ∨ g = W.heap.size) → K (a.put o.dst (.slice (some ⟨g, 0, none⟩) (n + 1) cap)) w') :
    if Region.wanted o (yielded ops a.tmps) = true then Oper.wp Tryz.prog o a W K Q else E := by
  obtain ⟨i0, hi, hz0, hz1, hz2⟩ := info_parts expr_info
  obtain ⟨⟨c0, c1, c2, c3, c4, c5⟩, _⟩ := hbx.facts
  refine step_append_lies W hgd s x 22 ho 0 24 i0 _ 6 64 Tryz.underlying22 hi hz0 hz1 hz2 rfl (by decide) v n xs hs hown ⟨lb, 0, none⟩ 1 1 [.int .i64 0, .int .i64 0, .int .i64 0, .int .i64 0, .int .i64 0, .slice none 0 0] hx rfl ?_ ?_ (by decide) (by unfold maxLen; omega) (by omega) (Nat.zero_le _) W.heap.size rfl ?_
  · intro j y hj
    have hj6 : j < 6 := (List.getElem?_eq_some_iff.1 hj).1
    match j, hj6 with
    | 0, _ => exact c0.trans hj
    | 1, _ => exact c1.trans hj
    | 2, _ => exact c2.trans hj
    | 3, _ => exact c3.trans hj
    | 4, _ => exact c4.trans hj
    | 5, _ => exact c5.trans hj
  · intro y hy
    simp only [List.mem_cons, List.not_mem_nil, or_false] at hy
    rcases hy with rfl | rfl | rfl | rfl | rfl | rfl <;> rfl
  · intro g cap w' h3 h4 h5 h6
    exact h g cap w' h3 h4 h5

end Ex
end Go.Proofs.YtlgojnodhbmlkaaGreatDoor
namespace Go.Proofs.YtlgojnodhbmlkaaGreatDoor
open Go.RowKit
attribute [local go_sem] Oper.semAt_some
namespace Ex

theorem NetP.congr {R : Nat → Nat} {w : World} {nb : Nat} {f : Nat → Value} {n n' : Nat → Nat} {xs : Nat → List Value} (h : NetP R w nb f n xs) (hn : ∀ j, 1 ≤ j → j ≤ 5 → n' j = n j) : NetP R w nb f n' xs := by
  obtain ⟨h1, h2, h3, h4⟩ := h
  exact ⟨h1, h2, h3, fun j j1 j5 => by rw [hn j j1 j5]; exact h4 j j1 j5⟩
theorem NetP.still {R : Nat → Nat} {w w9 : World} {nb : Nat} {f : Nat → Value} {n : Nat → Nat} {xs : Nat → List Value} {o : Obj} (h : NetP R w nb f n xs) (j : Nat) (j1 : 1 ≤ j) (j5 : j ≤ 5) (hg : (w.alloc o).grownBy w9 (f j).ownBlock) : w9.heap[nb]? = w.heap[nb]? :=
  (hg.block nb (by simp; have := h.lt; omega) (fun e => by have := (h.2.2.2 j j1 j5).2 nb e.symm; have := h.2.1; omega)).trans (by first | exact heap_alloc_old w o _ h.lt | exact heap_alloc_old w o h.lt)
/-- Behind the first append. -/
def E2G (nb : Nat) (f : Nat → Value) (n : Nat → Nat) (xs : Nat → List Value) (R : Nat → Nat) (w : World) (gx N : Nat) (x0 x1 x2 x3 x4 x5 : Value) (wx : World) : Prop :=
  ∃ (R2 : Nat → Nat) (g9 c9 : Nat), Hid (NetP R2 wx nb (upd f 1 (.slice (some ⟨g9, 0, none⟩) (N + 1) c9)) (upd n 1 (N + 1)) (upd xs 1 (xs 1 ++ [x0, x1, x2, x3, x4, x5]))) ∧ Hid (RK R w wx) ∧ Hid (RX R R2 w) ∧ Hid (BoxAt wx gx x0 x1 x2 x3 x4 x5) ∧ Hid (R2 gx = 0)
theorem e2_end {R : Nat → Nat} {w V w9 : World} {nb gx N g9 c9 : Nat} {f : Nat → Value} {n : Nat → Nat} {xs : Nat → List Value} {z0 z1 z2 z3 z4 z5 x0 x1 x2 x3 x4 x5 : Value} (hP : NetP R w nb f n xs) (hV : Kept w V) (hx : w.heap.size ≤ gx) (hB : BoxAt V gx x0 x1 x2 x3 x4 x5) (hg : V.grownBy w9 (f 1).ownBlock)
    (ho : w9.ownsRow 0 24 6 (.slice (some ⟨g9, 0, none⟩) (N + 1) c9) (N + 1) (xs 1 ++ [z0, z1, z2, z3, z4, z5])) (hl : (f 1).ownBlock = some g9 ∨ g9 = V.heap.size) :
    E2G nb f n xs R w gx N x0 x1 x2 x3 x4 x5 (((((((w9.setCell ⟨g9, N * 6, none⟩ x0).setCell ⟨g9, N * 6 + 1, none⟩ x1).setCell ⟨g9, N * 6 + 2, none⟩ x2).setCell ⟨g9, N * 6 + 3, none⟩ x3).setCell ⟨g9, N * 6 + 4, none⟩ x4).setCell ⟨g9, N * 6 + 5, none⟩ x5).setCell ⟨nb, 1, none⟩ (.slice (some ⟨g9, 0, none⟩) (N + 1) c9)) ∧ g9 ≠ nb ∧ g9 ≠ gx := by
  have hl2 : (f 1).ownBlock = some g9 ∨ V.heap.size ≤ g9 := by
    rcases hl with h | h
    · exact .inl h
    · exact .inr (by omega)
  have hl3 : (f 1).ownBlock = some g9 ∨ w.heap.size ≤ g9 := by
    rcases hl2 with h | h
    · exact .inl h
    · exact .inr (by have := hV.size; omega)
  have hown := (hP.2.2.2 1 (by omega) (by omega)).2
  have hRx : R gx = 0 := hP.2.2.1 gx hx
  have hnb := hP.lt
  have hgx := hB.lt
  have h1 : g9 ≠ nb := by
    rcases hl2 with h | h
    · intro e
      have h2 := hown g9 h
      have h3 := hP.2.1
      rw [e] at h2
      omega
    · have := hV.size; omega
  have h2 : g9 ≠ gx := by
    rcases hl2 with h | h
    · intro e
      have h2 := hown g9 h
      rw [e] at h2
      omega
    · omega
  obtain ⟨R2, g1, g2, g3, g4⟩ := hP.grow 1 (by omega) (by omega) hV (grown_put6 (o := N * 6) (x0 := x0) (x1 := x1) (x2 := x2) (x3 := x3) (x4 := x4) (x5 := x5) hg hl2) (own_put6 ho) hl3
  refine ⟨⟨R2, g9, c9, g1, g2, g3, ?_, (g4 gx (Ne.symm h2)).trans hRx⟩, h1, h2⟩
  have hp := (grown_put6 (o := N * 6) (x0 := x0) (x1 := x1) (x2 := x2) (x3 := x3) (x4 := x4) (x5 := x5) hg hl2).block gx hgx (fun e => by have := hown gx e.symm; omega)
  exact (heap_put (by omega)).trans (hp.trans hB)
theorem NetA.zero {R : Nat → Nat} {w : World} {nb : Nat} {vB : Value} {ND : List NodeT} (h : NetA R w nb vB ND) {d : Nat} (hd : w.heap.size ≤ d) : R d = 0 := by
  obtain ⟨f, xs, _, h1, _⟩ := h
  exact h1.2.2.1 d hd
/-- One value more, its parts not told yet. -/
theorem netA_more {R R' : Nat → Nat} {w w' : World} {nb : Nat} {vB : Value} {ND : List NodeT} {f f' : Nat → Value} {n n' : Nat → Nat} {xs xs' : Nat → List Value} (hP : NetP R w nb f n xs) (hf : f' 0 = vB) (hP' : NetP R' w' nb f' n' xs') (hF : FlatND ND (xs 1)) (hK : KidsOk R w ND (xs 2)) (h3 : xs 3 = nilV ND.length) (h4 : xs 4 = nilV ND.length) (h5 : xs 5 = nilV ND.length) (hn : n 2 = ND.length)
    (hn' : ∀ j, 1 ≤ j → j ≤ 5 → n' j = ND.length + 1) (k a b mn mx : Int) (x : Option Addr) (y z : Nat) (e1 : xs' 1 = xs 1 ++ [.int .i64 k, .int .i64 a, .int .i64 b, .int .i64 mn, .int .i64 mx, .slice x y z]) (e2 : xs' 2 = xs 2 ++ [.slice none 0 0]) (e3 : xs' 3 = xs 3 ++ [.slice none 0 0]) (e4 : xs' 4 = xs 4 ++ [.slice none 0 0]) (e5 : xs' 5 = xs 5 ++ [.slice none 0 0]) (hk : RK R w w') (hx : RX R R' w) : NetA R' w' nb vB (ND ++ [mkN k a b mn mx []]) := by
  have hl : (ND ++ [mkN k a b mn mx []]).length = ND.length + 1 := by simp
  have hnil : nilV ND.length ++ [.slice none 0 0] = nilV (ND.length + 1) := by unfold nilV; rw [List.replicate_succ']
  refine ⟨f', xs', hf, hP'.congr (fun j j1 j5 => by rw [hl, hn' j j1 j5]), ?_, ?_, ?_, ?_, ?_⟩
  · rw [e1]; exact hF.snoc k a b mn mx [] x y z
  · rw [e2]
    have h2 := (hP.2.2.2 2 (by omega) (by omega)).1.1
    have h2 : (xs 2).length = n 2 * 1 := h2
    exact (hK.same hk.size (fun d hd hr => ⟨hk.same hd (.inr hr), (hx d hd).trans hr⟩)).snoc (by omega) k a b mn mx
  · rw [e3, h3, hl, hnil]
  · rw [e4, h4, hl, hnil]
  · rw [e5, h5, hl, hnil]
/-- A value's parts are told. -/
theorem NetA.tell {R : Nat → Nat} {w : World} {nb base : Nat} {vB : Value} {ND : List NodeT} (h : NetA R w nb vB ND) {i : Nat} {nd nd' : NodeT} {v : Value} {l : List Nat} (hi : ND[i]? = some nd) (he : nd'.1 = nd.1 ∧ nd'.2.1 = nd.2.1 ∧ nd'.2.2.1 = nd.2.2.1 ∧ nd'.2.2.2.1 = nd.2.2.2.1 ∧ nd'.2.2.2.2.1 = nd.2.2.2.2.1) (hl : nd'.2.2.2.2.2 = l) (hv : PlO w base v l) (hll : l.length ≤ 900000) (hr : ∀ g, v.ownBlock = some g → R g = 0) :
    ∃ bk ck, (w.cell? ⟨nb, 2, none⟩ = some (.slice (some ⟨bk, 0, none⟩) ND.length ck) ∧ ND.length ≤ ck ∧ (∃ y, w.cell? ⟨bk, i, none⟩ = some y) ∧ w.frozen? ⟨bk, i, none⟩ = false) ∧ ∃ R', NetA R' (w.setCell ⟨bk, i, none⟩ v) nb vB (ND.set i nd') ∧ RK R w (w.setCell ⟨bk, i, none⟩ v) ∧ ∀ d, v.ownBlock ≠ some d → R' d = R d := by
  obtain ⟨f, xs, h0, hP, hF, hK, h3, h4, h5⟩ := h
  have hil : i < ND.length := (List.getElem?_eq_some_iff.1 hi).1
  obtain ⟨ho, hro⟩ := hP.2.2.2 2 (by omega) (by omega)
  have ho2 := ho
  obtain ⟨hlen, hc⟩ := ho
  rcases hc with ⟨_, hz⟩ | ⟨bk, ck, cur, e, _, hb, hcap, _, hsz, _⟩
  · have hz : ND.length = 0 := hz
    omega
  have hsz : cur.size = ck * 1 := hsz
  have hcap : ND.length ≤ ck := hcap
  have e : f 2 = .slice (some ⟨bk, 0, none⟩) ND.length ck := e
  have hrk : R bk = 2 := hro bk (by rw [e]; rfl)
  have hnbk : nb ≠ bk := fun e => by have := hP.2.1; rw [e] at this; omega
  have hss : (w.setCell ⟨bk, i, none⟩ v).heap.size = w.heap.size := by simp [World.setCell]
  refine ⟨bk, ck, ⟨(hP.cells 2 (by omega)).1.trans (congrArg some e), hcap, ?_, ?_⟩, fun d => if v.ownBlock = some d then 7 else R d, ?_, ?_, fun d hd => if_neg hd⟩
  · have hb2 : i < cur.size := by omega
    exact ⟨cur[i], by simp [World.cell?, hb, hb2]⟩
  · simp [World.frozen?, hb]
  · have hRnb : v.ownBlock ≠ some nb := fun e => by have := hr nb e; have := hP.2.1; omega
    have hl2 : (ND.set i nd').length = ND.length := List.length_set ..
    refine ⟨f, upd xs 2 ((xs 2).set i v), h0, ⟨(heap_put hnbk).trans hP.1, ?_, fun d hd => ?_, fun j j1 j5 => ?_⟩, ?_, ?_, ?_, ?_, ?_⟩
    · simp only [hRnb, if_false]; exact hP.2.1
    · rw [hss] at hd
      have : v.ownBlock ≠ some d := fun e => by have := (hv.lt d e).2; omega
      simp only [this, if_false]
      exact hP.2.2.1 d hd
    · obtain ⟨q1, q2⟩ := hP.2.2.2 j j1 j5
      refine ⟨?_, fun g hg => ?_⟩
      · rw [hl2]
        by_cases e2 : j = 2
        · subst e2
          rw [upd_self, e]
          have q1 : w.ownsRow 0 (teF 2) (szF 2) (f 2) ND.length (xs 2) := q1
          rw [e] at q1
          exact own_set q1
        · rw [upd_ne _ _ e2]
          exact owns_same q1 (fun g hg => heap_put (fun e3 => by have := q2 g hg; rw [e3] at this; omega))
      · have : v.ownBlock ≠ some g := fun e => by have := hr g e; have := q2 g hg; omega
        simp only [this, if_false]
        exact q2 g hg
    · rw [upd_ne _ _ (by omega)]
      exact hF.set hi he
    · rw [upd_self]
      have hlen : (xs 2).length = ND.length * 1 := hlen
      refine KidsOk.set (KidsOk.same hK (by rw [hss]; exact Nat.le_refl _) (fun d hd h7 => ⟨heap_put (fun e => by rw [e] at h7; omega), ?_⟩)) (by omega) ?_
      · by_cases e : v.ownBlock = some d
        · rw [if_pos e]
        · rw [if_neg e]; exact h7
      · rw [hl]
        exact (hv.ints hll).same (by rw [hss]; exact Nat.le_refl _) (fun d hd hp => ⟨heap_put (fun e => by have := hr d hp; rw [e] at this; omega), if_pos hp⟩)
    · rw [upd_ne _ _ (by omega), h3, hl2]
    · rw [upd_ne _ _ (by omega), h4, hl2]
    · rw [upd_ne _ _ (by omega), h5, hl2]
  · exact ⟨rfl, rfl, rfl, by rw [hss]; exact Nat.le_refl _, fun d hd => heap_put (fun e => by have := hd.2; rw [e] at this; omega)⟩
/-- What add answers. -/
def AG (nb : Nat) (vB : Value) (ND l : List NodeT) (R : Nat → Nat) (w : World) (e : Ending) (w' : World) : Prop :=
  ∃ (R' : Nat → Nat) (m : Nat), e = .returned (.int .i64 (m : Int)) ∧ Hid (m = ND.length) ∧ Hid (NetA R' w' nb vB (ND ++ l)) ∧ Hid (RK R w w') ∧ Hid (RX R R' w)
def AddC (n : Nat) (q : PatN (n + 1)) : Prop :=
  ∀ (R : Nat → Nat) (nb : Nat) (vB : Value) (ND : List NodeT) (vk : Value) (w : World), NetA R w nb vB ND → KidsAt (fun d => d < w.heap.size ∧ R d = 0) w n (kids q) vk → ND.length + (nodesN n q ND.length).length ≤ 5000 →
    Calls Tryz.prog 30 #[.pointer (some ⟨nb, 0, none⟩), valOf q vk] w fun e w' => AG nb vB ND (nodesN n q ND.length) R w e w'
/-- The loop of add. -/
def AdR (nb : Nat) (vB : Value) (ND : List NodeT) (nd0 : NodeT) (bs : List (Nat → List NodeT)) (R : Nat → Nat) (w : World) (gx base : Nat) (X : World → Prop) (v6 v7 : Value) (wr : World) : Prop :=
  ∃ (k : Nat) (R1 : Nat → Nat) (l : List Nat), v7 = .int .i64 (k : Int) ∧ k ≤ bs.length ∧ Hid (l = numsB (bs.take k) (ND.length + 1)) ∧ Hid (NetA R1 wr nb vB (ND ++ nd0 :: catB (bs.take k) (ND.length + 1))) ∧ Hid (PlO wr base v6 l) ∧ Hid (∀ g, v6.ownBlock = some g → R1 g = 0) ∧ Hid (RK R w wr) ∧ Hid (RX R R1 w) ∧ Hid (X wr) ∧ Hid (R1 gx = 0 ∧ gx < wr.heap.size) ∧ Hid (base ≤ wr.heap.size)

end Ex
end Go.Proofs.YtlgojnodhbmlkaaGreatDoor
namespace Go.Proofs.YtlgojnodhbmlkaaGreatDoor
open Go.RowKit
attribute [local go_sem] Oper.semAt_some
namespace Ex

/-- A value goes into its place in a row, at a step of a region that draws its order. -/
theorem step_put6 {ops : Array Oper} {o : Oper} {a : Act} {K : Act → World → Prop} {Q : Exit → Act → World → Prop} {E : Prop} (hgd : o.guard = none) (x y : Operand) (ho : o.op = .store 24 x y) (W : World) (g N c : Nat) (x0 x1 x2 x3 x4 x5 : Value) (hx : a.eval x = .pointer (some ⟨g, N * 6, none⟩)) (hy : a.eval y = .agg #[x0, x1, x2, x3, x4, x5])
    (hr : RowAt W g c) (hN : N + 1 ≤ c) (h1 : #[x0, x1, x2, x3, x4, x5].all (·.oneCell') = true)
    (h : K (a.put o.dst undef) ((((((W.setCell ⟨g, N * 6, none⟩ x0).setCell ⟨g, N * 6 + 1, none⟩ x1).setCell ⟨g, N * 6 + 2, none⟩ x2).setCell ⟨g, N * 6 + 3, none⟩ x3).setCell ⟨g, N * 6 + 4, none⟩ x4).setCell ⟨g, N * 6 + 5, none⟩ x5)) :
    if Region.wanted o (yielded ops a.tmps) = true then Oper.wp Tryz.prog o a W K Q else E := by
  have hw : Region.wanted o (yielded ops a.tmps) = true := by simp [Region.wanted, hgd]
  rw [if_pos hw]
  obtain ⟨i0, hi, hz0, hz1, hz2⟩ := info_parts expr_info
  refine wp_store_mid 24 x y ho g (N * 6) #[x0, x1, x2, x3, x4, x5] hx hy (fun j hj => ?_) (by rw [hi, Option.map_some, hz1]; rfl) h1 h
  have hj : j < 6 := hj
  have h2 := hr.cell (k := N * 6 + j) (by omega)
  obtain ⟨⟨u, h3⟩, h4⟩ := h2
  exact ⟨by rw [h3]; rfl, h4⟩
/-- A slice goes into a cell. -/
theorem step_set1 {ops : Array Oper} {o : Oper} {a : Act} {K : Act → World → Prop} {Q : Exit → Act → World → Prop} {E : Prop} (hgd : o.guard = none) (x y : Operand) (ho : o.op = .store 22 x y) (W : World) (b j : Nat) (s : Option Addr) (n c : Nat) (u : Value) (hx : a.eval x = .pointer (some ⟨b, j, none⟩)) (hy : a.eval y = .slice s n c)
    (hc : W.cell? ⟨b, j, none⟩ = some u) (hf : W.frozen? ⟨b, j, none⟩ = false)
    (h : K (a.put o.dst undef) (W.setCell ⟨b, j, none⟩ (.slice s n c))) :
    if Region.wanted o (yielded ops a.tmps) = true then Oper.wp Tryz.prog o a W K Q else E := by
  have hw : Region.wanted o (yielded ops a.tmps) = true := by simp [Region.wanted, hgd]
  rw [if_pos hw]
  unfold Oper.wp execOp
  simp only [ho, hx, hy]
  go_simp
  exact h

theorem one6 (a b c d e : Int) (x : Option Addr) (y z : Nat) : #[Value.int .i64 a, .int .i64 b, .int .i64 c, .int .i64 d, .int .i64 e, .slice x y z].all (·.oneCell') = true :=
  all_oneCell_toArray (cs := [Value.int .i64 a, .int .i64 b, .int .i64 c, .int .i64 d, .int .i64 e, .slice x y z]) (fun v hv => by
    simp only [List.mem_cons, List.not_mem_nil, or_false] at hv
    rcases hv with rfl | rfl | rfl | rfl | rfl | rfl <;> rfl)
theorem put_none (a : Act) (v : Value) : a.put none v = a := rfl
/-- The last two of a region that draws its order: a value goes into a row, and the row's slice into a cell. -/
theorem two_stores {ops : Array Oper} {listed : Array Bool} {a : Act} {Q : Exit → Act → World → Prop} {S : World → Prop} {fuel : Nat} (w9 : World) (i j : Nat) {oi oj : Oper} (hi : ops[i]? = some oi) (hj : ops[j]? = some oj) (r0 : Region.ready .any ops listed = [i, j]) (r1 : Region.ready .any ops (listed.setIfInBounds i true) = [j]) (r2 : Region.ready .any ops (listed.setIfInBounds j true) = [i]) (r3 : Region.ready .any ops ((listed.setIfInBounds i true).setIfInBounds j true) = []) (r4 : Region.ready .any ops ((listed.setIfInBounds j true).setIfInBounds i true) = [])
    (gi : oi.guard = none) (gj : oj.guard = none) (di : oi.dst = none) (dj : oj.dst = none) (x y u v : Operand) (pi : oi.op = .store 24 x y) (pj : oj.op = .store 22 u v)
    (g N c : Nat) (x0 x1 x2 x3 x4 x5 : Value) (nb : Nat) (s : Option Addr) (n' c' : Nat) (z : Value) (hx : a.eval x = .pointer (some ⟨g, N * 6, none⟩)) (hy : a.eval y = .agg #[x0, x1, x2, x3, x4, x5]) (hu : a.eval u = .pointer (some ⟨nb, 1, none⟩)) (hv : a.eval v = .slice s n' c')
    (hr : RowAt w9 g c) (hN : N + 1 ≤ c) (h1 : #[x0, x1, x2, x3, x4, x5].all (·.oneCell') = true) (hc : w9.cell? ⟨nb, 1, none⟩ = some z) (hf : w9.frozen? ⟨nb, 1, none⟩ = false) (hne : g ≠ nb)
    (hS1 : S ((((((w9.setCell ⟨g, N * 6, none⟩ x0).setCell ⟨g, N * 6 + 1, none⟩ x1).setCell ⟨g, N * 6 + 2, none⟩ x2).setCell ⟨g, N * 6 + 3, none⟩ x3).setCell ⟨g, N * 6 + 4, none⟩ x4).setCell ⟨g, N * 6 + 5, none⟩ x5)) (hS2 : S (w9.setCell ⟨nb, 1, none⟩ (.slice s n' c'))) (hS3 : S (((((((w9.setCell ⟨g, N * 6, none⟩ x0).setCell ⟨g, N * 6 + 1, none⟩ x1).setCell ⟨g, N * 6 + 2, none⟩ x2).setCell ⟨g, N * 6 + 3, none⟩ x3).setCell ⟨g, N * 6 + 4, none⟩ x4).setCell ⟨g, N * 6 + 5, none⟩ x5).setCell ⟨nb, 1, none⟩ (.slice s n' c')))
    (hfin : Q .normal a (((((((w9.setCell ⟨g, N * 6, none⟩ x0).setCell ⟨g, N * 6 + 1, none⟩ x1).setCell ⟨g, N * 6 + 2, none⟩ x2).setCell ⟨g, N * 6 + 3, none⟩ x3).setCell ⟨g, N * 6 + 4, none⟩ x4).setCell ⟨g, N * 6 + 5, none⟩ x5).setCell ⟨nb, 1, none⟩ (.slice s n' c'))) : wpAnyH Tryz.prog .any ops Q S (fuel + 2) listed a w9 := by
  refine wpAnyH_ready r0 (by simp) ?_
  refine AllReadyH.cons hi ?_ (AllReadyH.cons hj ?_ AllReadyH.nil)
  · intro K hK
    refine step_put6 gi x y pi w9 g N c x0 x1 x2 x3 x4 x5 hx hy hr hN h1 ?_
    rw [di, put_none]
    refine hK.out _ _ hS1 (fun _ => ?_)
    refine wpAnyH_ready r1 (by simp) ?_
    refine AllReadyH.cons hj ?_ AllReadyH.nil
    intro K2 hK2
    have hb : ((((((w9.setCell ⟨g, N * 6, none⟩ x0).setCell ⟨g, N * 6 + 1, none⟩ x1).setCell ⟨g, N * 6 + 2, none⟩ x2).setCell ⟨g, N * 6 + 3, none⟩ x3).setCell ⟨g, N * 6 + 4, none⟩ x4).setCell ⟨g, N * 6 + 5, none⟩ x5).heap[nb]? = w9.heap[nb]? := (heap_put (Ne.symm hne)).trans ((heap_put (Ne.symm hne)).trans ((heap_put (Ne.symm hne)).trans ((heap_put (Ne.symm hne)).trans ((heap_put (Ne.symm hne)).trans (heap_put (Ne.symm hne))))))
    refine step_set1 gj u v pj _ nb 1 s n' c' z hu hv ((World.cell?_of_block (a := ⟨nb, 1, none⟩) hb).trans hc) ((World.frozen?_of_block (a := ⟨nb, 1, none⟩) hb).trans hf) ?_
    rw [dj, put_none]
    exact hK2.out _ _ hS3 (fun _ => wpAnyH_done r3 hfin _)
  · intro K hK
    refine step_set1 gj u v pj w9 nb 1 s n' c' z hu hv hc hf ?_
    rw [dj, put_none]
    refine hK.out _ _ hS2 (fun _ => ?_)
    refine wpAnyH_ready r2 (by simp) ?_
    refine AllReadyH.cons hi ?_ AllReadyH.nil
    intro K2 hK2
    have hr2 : RowAt (w9.setCell ⟨nb, 1, none⟩ (.slice s n' c')) g c := by
      obtain ⟨cur, h1, h2⟩ := hr
      exact ⟨cur, (heap_put hne).trans h1, h2⟩
    refine step_put6 gi x y pi _ g N c x0 x1 x2 x3 x4 x5 hx hy hr2 hN h1 ?_
    rw [di, put_none, put6_swap _ _ _ _ _ _ _ _ hne]
    exact hK2.out _ _ hS3 (fun _ => wpAnyH_done r4 hfin _)

end Ex
end Go.Proofs.YtlgojnodhbmlkaaGreatDoor
