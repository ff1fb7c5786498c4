import Derived.Test.YtlgojnodhbmlkaaGreatDoorMExMa1
import Derived.Test.YtlgojnodhbmlkaaGreatDoorMExSw1
import Derived.Test.YtlgojnodhbmlkaaGreatDoorMExFt1
import Derived.Test.YtlgojnodhbmlkaaGreatDoorMExLy1
import Derived.Deep.Cut
import Derived.Deep.CutRange
import Derived.BigQuiet
namespace Go.Proofs.YtlgojnodhbmlkaaGreatDoor
open Go.RowKit
attribute [local go_sem] Oper.semAt_some
namespace Ex

def natV (l : List Nat) : List Value := l.map (fun (x : Nat) => Value.int .i64 (x : Int))
theorem natV_len (l : List Nat) : (natV l).length = l.length := List.length_map ..
/-- A row of places of the call's own. -/
def PlO (w : World) (base : Nat) (v : Value) (l : List Nat) : Prop := w.ownsRow base 3 1 v l.length (natV l)
theorem PlO.lt {w : World} {base : Nat} {v : Value} {l : List Nat} (h : PlO w base v l) (g : Nat) (hg : v.ownBlock = some g) : base ≤ g ∧ g < w.heap.size := by
  rcases h.2 with ⟨rfl, _⟩ | ⟨g', cap, cur, rfl, h1, h2, _⟩
  · cases hg
  · simp only [Value.ownBlock, Option.some.injEq] at hg
    subst hg
    exact ⟨h1, (Array.getElem?_eq_some_iff.1 h2).1⟩
theorem PlO.keep {w w' : World} {base : Nat} {v : Value} {l : List Nat} (h : PlO w base v l) (hk : Kept w w') : PlO w' base v l := owns_same h (fun g hg => hk.2.2.2.2 g (h.lt g hg).2)
theorem PlO.same {w w' : World} {base : Nat} {v : Value} {l : List Nat} (h : PlO w base v l) (hk : ∀ g, v.ownBlock = some g → w'.heap[g]? = w.heap[g]?) : PlO w' base v l := owns_same h hk
theorem PlO.form {w : World} {base : Nat} {v : Value} {l : List Nat} (h : PlO w base v l) : ∃ a c, v = .slice a l.length c := by
  rcases h.2 with ⟨rfl, h0⟩ | ⟨g, cap, cur, rfl, _⟩
  · exact ⟨none, 0, by rw [h0]⟩
  · exact ⟨_, _, rfl⟩
theorem PlO.nil (w : World) (base : Nat) : PlO w base (.slice none 0 0) [] := ⟨rfl, .inl ⟨rfl, rfl⟩⟩
theorem PlO.at {w : World} {base k : Nat} {v : Value} {l : List Nat} {x : Nat} (h : PlO w base v l) (hx : l[k]? = some x) : ∃ g c, v = .slice (some ⟨g, 0, none⟩) l.length c ∧ base ≤ g ∧ l.length ≤ c ∧ w.cell? ⟨g, k, none⟩ = some (.int .i64 (x : Int)) := by
  rcases h.2 with ⟨rfl, h0⟩ | ⟨g, cap, cur, rfl, h1, h2, h3, _, h5, h6⟩
  · have := List.length_eq_zero_iff.1 h0
    subst this
    simp at hx
  · refine ⟨g, cap, rfl, h1, h3, ?_⟩
    have hk : (natV l)[k]? = some (.int .i64 (x : Int)) := by simp [natV, hx]
    rw [← h6, List.getElem?_take] at hk
    split at hk
    · rw [Array.getElem?_toList] at hk
      simp [World.cell?, h2, hk]
    · cases hk
/-- One place more. -/
theorem wpl_place {ops : Array Oper} {rest : List Oper} {o : Oper} {a : Act} {Q : Exit → Act → World → Prop} (hgd : o.guard = none) (s x : Operand)
    (ho : o.op = .call { callee := .builtin .append, args := #[s, x], argTypes := #[46, 46] }) (W : World) (base : Nat) (v : Value) (l : List Nat) (n : Nat) (hn : l.length = n) (y : Nat) (t : TypeId) (hs : a.eval s = v) (hown : PlO W base v l)
    (hx : a.eval x = .slice (some ⟨W.heap.size, 0, none⟩) 1 1) (hl : n ≤ 900000) (hbase : base ≤ W.heap.size)
    (h : ∀ g cap w', PlO w' base (.slice (some ⟨g, 0, none⟩) (n + 1) cap) (l ++ [y]) → (W.alloc (.cells #[.int .i64 (y : Int)] t)).grownBy w' v.ownBlock → (v.ownBlock = some g ∨ W.heap.size < g) → wpList Tryz.prog ops Q rest (a.put o.dst (.slice (some ⟨g, 0, none⟩) (n + 1) cap)) w') : wpList Tryz.prog ops Q (o :: rest) a (W.alloc (.cells #[.int .i64 (y : Int)] t)) := by
  obtain ⟨i0, hi, hz0, hz1, hz2⟩ := info_parts int_info
  subst hn
  have hk : Kept W (W.alloc (.cells #[.int .i64 (y : Int)] t)) := (Kept.refl W).alloc _ _
  refine wpList_append_lies _ hgd s x 46 ho base 3 i0 _ 1 8 Tryz.underlying46 hi hz0 hz1 hz2 rfl (by decide) v l.length (natV l) hs (hown.keep hk) ⟨W.heap.size, 0, none⟩ 1 1 [.int .i64 (y : Int)] hx rfl ?_ ?_ (by decide) (by unfold maxLen; omega) (by omega) (by have := hk.size; omega) (W.alloc (.cells #[.int .i64 (y : Int)] t)).heap.size rfl ?_
  · intro j u hj
    have hj6 : j < 1 := (List.getElem?_eq_some_iff.1 hj).1
    match j, hj6 with
    | 0, _ =>
      exact (cell_of_row _ _ 0 _ _ _ (heap_alloc_new W _)).trans hj
  · intro u hu
    simp only [List.mem_cons, List.not_mem_nil, or_false] at hu
    subst hu
    rfl
  · intro g cap w' h1 h2 h3 _
    refine h g cap w' ?_ h2 ?_
    · unfold PlO
      rw [List.length_append, show natV (l ++ [y]) = natV l ++ [.int .i64 (y : Int)] by simp [natV]]
      exact h1
    · rcases h3 with h3 | h3
      · exact .inl h3
      · exact .inr (by rw [h3]; simp)

/-- A row of bools. -/
def boolV (bs : List Bool) : List Value := bs.map Value.bool
def BoolsAt (w : World) (g : Nat) (ms : List Bool) : Prop := w.heap[g]? = some (.cells (boolV ms).toArray 4 (0, 0))
theorem BoolsAt.cell {w : World} {g i : Nat} {x : Bool} {ms : List Bool} (h : BoolsAt w g ms) (hi : ms[i]? = some x) : w.cell? ⟨g, i, none⟩ = some (.bool x) := by
  unfold BoolsAt at h
  simp [World.cell?, h, boolV, hi]
theorem BoolsAt.free {w : World} {g : Nat} {ms : List Bool} (i : Nat) (h : BoolsAt w g ms) : w.frozen? ⟨g, i, none⟩ = false := by
  unfold BoolsAt at h
  simp [World.frozen?, h]
theorem BoolsAt.lt {w : World} {g : Nat} {ms : List Bool} (h : BoolsAt w g ms) : g < w.heap.size := (Array.getElem?_eq_some_iff.1 h).1
theorem BoolsAt.keep {w w' : World} {g : Nat} {ms : List Bool} (h : BoolsAt w g ms) (hk : Kept w w') : BoolsAt w' g ms := (hk.2.2.2.2 g h.lt).trans h
theorem BoolsAt.put {w : World} {g k : Nat} {x : Bool} {ms : List Bool} (h : BoolsAt w g ms) : BoolsAt (w.setCell ⟨g, k, none⟩ (.bool x)) g (ms.set k x) := by
  unfold BoolsAt at h ⊢
  have hl : g < w.heap.size := (Array.getElem?_eq_some_iff.1 h).1
  have he : w.heap[g] = Obj.cells (boolV ms).toArray 4 (0, 0) := by rw [Array.getElem?_eq_getElem hl] at h; exact Option.some.inj h
  have e : (boolV (ms.set k x)).toArray = (boolV ms).toArray.setIfInBounds k (.bool x) := by
    simp [boolV, List.map_set]
  rw [e]
  simp [World.setCell, Array.getElem_modify, hl, he]
/-- The places that are marked, from i on. -/
def markF : Nat → List Bool → List Nat
  | _, [] => []
  | i, b :: l => (if b = true then [i] else []) ++ markF (i + 1) l
theorem markF_snoc (b : Bool) : ∀ (l : List Bool) (i : Nat), markF i (l ++ [b]) = markF i l ++ (if b = true then [i + l.length] else [])
  | [], i => by simp [markF]
  | c :: l, i => by
    show (if c = true then [i] else []) ++ markF (i + 1) (l ++ [b]) = _
    rw [markF_snoc b l (i + 1)]
    show _ = ((if c = true then [i] else []) ++ markF (i + 1) l) ++ _
    rw [List.append_assoc, List.length_cons, show i + 1 + l.length = i + (l.length + 1) by omega]
theorem markF_len : ∀ (l : List Bool) (i : Nat), (markF i l).length ≤ l.length
  | [], _ => Nat.le_refl _
  | c :: l, i => by
    have := markF_len l (i + 1)
    show ((if c = true then [i] else []) ++ markF (i + 1) l).length ≤ l.length + 1
    rw [List.length_append]
    cases c <;> simp <;> omega
theorem markF_mem : ∀ (l : List Bool) (i k : Nat), k ∈ markF i l ↔ i ≤ k ∧ l[k - i]? = some true
  | [], i, k => by simp [markF]
  | c :: l, i, k => by
    show k ∈ (if c = true then [i] else []) ++ markF (i + 1) l ↔ _
    rw [List.mem_append, markF_mem l (i + 1) k]
    by_cases e : k = i
    · subst e
      cases c <;> simp
      omega
    · have h1 : k ∉ (if c = true then [i] else []) := by cases c <;> simp [e]
      constructor
      · rintro (h | ⟨h2, h3⟩)
        · exact absurd h h1
        · refine ⟨by omega, ?_⟩
          rw [show k - i = (k - (i + 1)) + 1 by omega, List.getElem?_cons_succ]
          exact h3
      · rintro ⟨h2, h3⟩
        rw [show k - i = (k - (i + 1)) + 1 by omega, List.getElem?_cons_succ] at h3
        exact .inr ⟨by omega, h3⟩
theorem markF_rise : ∀ (l : List Bool) (i : Nat), (markF i l).Pairwise (· < ·)
  | [], _ => List.Pairwise.nil
  | c :: l, i => by
    show ((if c = true then [i] else []) ++ markF (i + 1) l).Pairwise (· < ·)
    have ih := markF_rise l (i + 1)
    cases c
    · simpa using ih
    · simp only [if_true, List.cons_append, List.nil_append, List.pairwise_cons]
      exact ⟨fun k hk => by have := (markF_mem l (i + 1) k).1 hk; omega, ih⟩
theorem markF_pl (ms : List Bool) : Pl (fun k => ms[k]? = some true) (markF 0 ms) := ⟨markF_rise ms 0, fun k => by rw [markF_mem]; simp⟩

end Ex
end Go.Proofs.YtlgojnodhbmlkaaGreatDoor
namespace Go.Proofs.YtlgojnodhbmlkaaGreatDoor
open Go.RowKit
namespace Ex

/-- A row of one cell each, in a block of its own: what each of the first N says. -/
def Tb (w : World) (b : Nat) (t : TypeId) (N : Nat) (f : Nat → Value → Prop) : Prop := ∃ cs : Array Value, w.heap[b]? = some (.cells cs t (0, 0)) ∧ N ≤ cs.size ∧ ∀ i, i < N → ∃ v, cs[i]? = some v ∧ f i v
theorem Tb.lt {w : World} {b : Nat} {t : TypeId} {N : Nat} {f : Nat → Value → Prop} (h : Tb w b t N f) : b < w.heap.size := by
  obtain ⟨_, h, _⟩ := h; exact (Array.getElem?_eq_some_iff.1 h).1
theorem Tb.cell {w : World} {b : Nat} {t : TypeId} {N : Nat} {f : Nat → Value → Prop} (h : Tb w b t N f) {i : Nat} (hi : i < N) : ∃ v, w.cell? ⟨b, i, none⟩ = some v ∧ f i v := by
  obtain ⟨cs, h1, _, h3⟩ := h
  obtain ⟨v, h4, h5⟩ := h3 i hi
  exact ⟨v, by simp [World.cell?, h1, h4], h5⟩
theorem Tb.free {w : World} {b : Nat} {t : TypeId} {N : Nat} {f : Nat → Value → Prop} (h : Tb w b t N f) (i : Nat) : w.frozen? ⟨b, i, none⟩ = false := by
  obtain ⟨cs, h1, _⟩ := h
  simp [World.frozen?, h1]
theorem Tb.same {w w' : World} {b : Nat} {t : TypeId} {N : Nat} {f f' : Nat → Value → Prop} (h : Tb w b t N f) (hh : w'.heap[b]? = w.heap[b]?) (hf : ∀ i v, i < N → f i v → f' i v) : Tb w' b t N f' := by
  obtain ⟨cs, h1, h2, h3⟩ := h
  refine ⟨cs, hh.trans h1, h2, fun i hi => ?_⟩
  obtain ⟨v, h4, h5⟩ := h3 i hi
  exact ⟨v, h4, hf i v hi h5⟩
theorem Tb.put {w : World} {b : Nat} {t : TypeId} {N : Nat} {f f' : Nat → Value → Prop} (h : Tb w b t N f) {k : Nat} {u : Value} (hu : f' k u) (hf : ∀ i v, i < N → i ≠ k → f i v → f' i v) : Tb (w.setCell ⟨b, k, none⟩ u) b t N f' := by
  obtain ⟨cs, h1, h2, h3⟩ := h
  have hl : b < w.heap.size := (Array.getElem?_eq_some_iff.1 h1).1
  have he : w.heap[b] = Obj.cells cs t (0, 0) := by rw [Array.getElem?_eq_getElem hl] at h1; exact Option.some.inj h1
  refine ⟨cs.setIfInBounds k u, by simp [World.setCell, Array.getElem_modify, hl, he], by simpa using h2, fun i hi => ?_⟩
  obtain ⟨v, h4, h5⟩ := h3 i hi
  by_cases e : i = k
  · subst e
    exact ⟨u, by rw [Array.getElem?_setIfInBounds_self_of_lt (by omega)], hu⟩
  · exact ⟨v, by rw [Array.getElem?_setIfInBounds_ne (by omega)]; exact h4, hf i v hi e h5⟩
theorem heap_put {w : World} {b k d : Nat} {u : Value} (hd : d ≠ b) : (w.setCell ⟨b, k, none⟩ u).heap[d]? = w.heap[d]? := Below.heap_setCell _ _ _ _ hd

/-- What a call leaves: all but the tables (role 0: free; 7: a list that stays; else a table). -/
def RK (R : Nat → Nat) (w w' : World) : Prop := XKept (fun d => d < w.heap.size ∧ (R d = 0 ∨ R d = 7)) w w'
def RX (R R' : Nat → Nat) (w : World) : Prop := ∀ d, d < w.heap.size → R' d = R d
theorem RK.size {R : Nat → Nat} {w w' : World} (h : RK R w w') : w.heap.size ≤ w'.heap.size := h.2.2.2.1
theorem RK.same {R : Nat → Nat} {w w' : World} (h : RK R w w') {d : Nat} (hd : d < w.heap.size) (hr : R d = 0 ∨ R d = 7) : w'.heap[d]? = w.heap[d]? := h.2.2.2.2 d ⟨hd, hr⟩
theorem RK.of {R : Nat → Nat} {w w' : World} (h : Kept w w') : RK R w w' := ⟨h.1, h.2.1, h.2.2.1, h.2.2.2.1, fun d hd => h.2.2.2.2 d hd.1⟩
theorem RK.trans {R R' : Nat → Nat} {w w1 w2 : World} (h : RK R w w1) (hx : RX R R' w) (h' : RK R' w1 w2) : RK R w w2 :=
  ⟨h'.1.trans h.1, h'.2.1.trans h.2.1, h'.2.2.1.trans h.2.2.1, Nat.le_trans h.size h'.size, fun d hd => (h'.same (Nat.lt_of_lt_of_le hd.1 h.size) (by rw [hx d hd.1]; exact hd.2)).trans (h.same hd.1 hd.2)⟩
theorem RX.refl (R : Nat → Nat) (w : World) : RX R R w := fun _ _ => rfl
theorem RX.trans {R R' R2 : Nat → Nat} {w w1 : World} (h : RX R R' w) (hs : w.heap.size ≤ w1.heap.size) (h' : RX R' R2 w1) : RX R R2 w := fun d hd => (h' d (Nat.lt_of_lt_of_le hd hs)).trans (h d hd)
/-- A list of places that can be read (and is no table). -/
def IntR (P : Nat → Prop) (w : World) (v : Value) (l : List Nat) : Prop := ∃ a cap, v = .slice a l.length cap ∧ l.length ≤ cap ∧ l.length ≤ 900000 ∧ (l = [] ∨ ∃ c o, a = some ⟨c, o, none⟩ ∧ c < w.heap.size ∧ P c ∧ ∀ (i x : Nat), l[i]? = some x → w.cell? ⟨c, o + i, none⟩ = some (.int .i64 (x : Int)))
theorem IntR.form {P : Nat → Prop} {w : World} {v : Value} {l : List Nat} (h : IntR P w v l) : ∃ a cap, v = .slice a l.length cap ∧ l.length ≤ cap ∧ l.length ≤ 900000 := by
  obtain ⟨a, cap, h1, h2, h3, _⟩ := h; exact ⟨a, cap, h1, h2, h3⟩
theorem IntR.cell {P : Nat → Prop} {w : World} {a : Option Addr} {n cap : Nat} {l : List Nat} (h : IntR P w (.slice a n cap) l) {i x : Nat} (hi : l[i]? = some x) : ∃ c o, a = some ⟨c, o, none⟩ ∧ w.cell? ⟨c, o + i, none⟩ = some (.int .i64 (x : Int)) := by
  obtain ⟨a', cap', h1, _, _, h4⟩ := h
  simp only [Value.slice.injEq] at h1
  obtain ⟨rfl, _, rfl⟩ := h1
  rcases h4 with rfl | ⟨c, o, rfl, _, _, h7⟩
  · simp at hi
  · exact ⟨c, o, rfl, h7 i x hi⟩
theorem IntR.same {P P' : Nat → Prop} {w w' : World} {v : Value} {l : List Nat} (h : IntR P w v l) (hs : w.heap.size ≤ w'.heap.size) (hh : ∀ d, d < w.heap.size → P d → w'.heap[d]? = w.heap[d]? ∧ P' d) : IntR P' w' v l := by
  obtain ⟨a, cap, h1, h2, h3, h4⟩ := h
  refine ⟨a, cap, h1, h2, h3, ?_⟩
  rcases h4 with h4 | ⟨c, o, h5, h6, h7, h8⟩
  · exact .inl h4
  · refine .inr ⟨c, o, h5, by omega, (hh c h6 h7).2, fun i x hi => ?_⟩
    rw [World.cell?_of_block (a := ⟨c, o + i, none⟩) (hh c h6 h7).1]
    exact h8 i x hi
theorem PlO.ints {w : World} {base : Nat} {v : Value} {l : List Nat} (h : PlO w base v l) (hl : l.length ≤ 900000) : IntR (fun d => v.ownBlock = some d) w v l := by
  rcases h.2 with ⟨rfl, h0⟩ | ⟨g, cap, cur, rfl, h1, h2, h3, _⟩
  · exact ⟨none, 0, by rw [h0], by omega, hl, .inl (List.length_eq_zero_iff.1 h0)⟩
  · refine ⟨_, cap, rfl, h3, hl, .inr ⟨g, 0, rfl, (Array.getElem?_eq_some_iff.1 h2).1, rfl, fun i x hi => ?_⟩⟩
    obtain ⟨g', c', e, _, _, hc⟩ := h.at hi
    simp only [Value.slice.injEq, Option.some.injEq, Addr.mk.injEq] at e
    rw [e.1.1, Nat.zero_add]
    exact hc

/-- A value of a pattern in the document's net: its numbers, and the numbers of its parts. -/
def NodeT : Type := Int × Int × Int × Int × Int × List Nat
/-- What the values match, by their parts. -/
def NodeOk (N : Nat) (Ls : Nat → List Int → Prop) (i : Nat) : NodeT → Prop := fun (kd, fr, t0, mn, mx, ks) =>
  (∀ k ∈ ks, i < k ∧ k < N) ∧ ks.length ≤ 4096 ∧ (∃ u, Ls i u) ∧
  ((kd = 1 ∧ 0 ≤ fr ∧ t0 ≤ 255 ∧ ∀ u, Ls i u ↔ ∃ c, u = [c] ∧ fr ≤ c ∧ c ≤ t0) ∨
   (kd = 2 ∧ ∀ u, Ls i u ↔ CatS (ks.map Ls) u) ∨
   (kd = 3 ∧ ∀ u, Ls i u ↔ ∃ k ∈ ks, Ls k u) ∨
   (kd = 4 ∧ 0 ≤ mn ∧ mn ≤ 1000 ∧ (mx = -1 ∨ (mn ≤ mx ∧ mx ≤ 1000)) ∧ ∃ k, ks = [k] ∧ ∀ u, Ls i u ↔ TimesS (Ls k) mn mx u))
def Sys (ND : List NodeT) (Ls : Nat → List Int → Prop) : Prop := ND.length ≤ 4096 ∧ ∀ i nd, ND[i]? = some nd → NodeOk ND.length Ls i nd

/-- A noted life: an open one is just that number; else 0 (not known), or right. -/
def LvOk (o : Option Int) (P : Prop) (x : Int) : Prop := match o with | some y => x = y | none => x = 0 ∨ (x = 1 ∧ ¬ P) ∨ (x = 2 ∧ P)
/-- The document's net while it is asked: R: the roles of blocks; below B0 lies what never changes; K: what is known; lo: the lives that are open (their number is as it is), all others are right. -/
def NetQ (B0 : Nat) (R : Nat → Nat) (lo : Nat → Nat → Option Int) (w : World) (nb : Nat) (bs : List Int) (ND : List NodeT) (Ls : Nat → List Int → Prop) : Prop :=
  ∃ (a : Option Addr) (capB be ce bk ck bn cn bw cw bl cl : Nat) (K : Nat → Nat → Bool),
    (nb < B0 ∧ be < B0 ∧ bk < B0 ∧ B0 ≤ w.heap.size ∧ bs.length ≤ 262144 ∧ bs.length ≤ capB) ∧
    (R nb = 0 ∧ R be = 0 ∧ R bk = 0 ∧ R bn = 1 ∧ R bw = 2 ∧ R bl = 3 ∧ ∀ d, w.heap.size ≤ d → R d = 0) ∧
    (ND.length ≤ ce ∧ ND.length ≤ ck ∧ ND.length ≤ cn ∧ ND.length ≤ cw ∧ ND.length ≤ cl) ∧
    w.heap[nb]? = some (.cells #[.slice a bs.length capB, .slice (some ⟨be, 0, none⟩) ND.length ce, .slice (some ⟨bk, 0, none⟩) ND.length ck, .slice (some ⟨bn, 0, none⟩) ND.length cn, .slice (some ⟨bw, 0, none⟩) ND.length cw, .slice (some ⟨bl, 0, none⟩) ND.length cl] 66 (0, 0)) ∧
    BytesIn (fun d => d < B0 ∧ R d = 0) w (.slice a bs.length capB) bs ∧
    (∀ i nd, ND[i]? = some nd → w.cell? ⟨be, i * 6, none⟩ = some (.int .i64 nd.1) ∧ w.cell? ⟨be, i * 6 + 1, none⟩ = some (.int .i64 nd.2.1) ∧ w.cell? ⟨be, i * 6 + 2, none⟩ = some (.int .i64 nd.2.2.1) ∧ w.cell? ⟨be, i * 6 + 3, none⟩ = some (.int .i64 nd.2.2.2.1) ∧ w.cell? ⟨be, i * 6 + 4, none⟩ = some (.int .i64 nd.2.2.2.2.1) ∧ ∃ a n c, w.cell? ⟨be, i * 6 + 5, none⟩ = some (.slice a n c)) ∧
    (∀ i nd, ND[i]? = some nd → ∃ v, w.cell? ⟨bk, i, none⟩ = some v ∧ IntR (fun d => d < B0 ∧ R d = 0) w v nd.2.2.2.2.2) ∧
    Tb w bw 67 ND.length (fun i v => (v = .slice none 0 0 ∧ ∀ d, R d ≠ 9 + 3 * i) ∨ ∃ g, v = .slice (some ⟨g, 0, none⟩) (bs.length + 1) (bs.length + 1) ∧ R g = 9 + 3 * i ∧ Tb w g 4 (bs.length + 1) (fun at' u => u = .bool (K i at'))) ∧
    Tb w bn 62 ND.length (fun i v => (∃ a n c, v = .slice a n c) ∧ ((∃ d, R d = 9 + 3 * i) → ∃ g, v = .slice (some ⟨g, 0, none⟩) (bs.length + 1) (bs.length + 1) ∧ R g = 10 + 3 * i ∧ Tb w g 46 (bs.length + 1) (fun at' u => (∃ a n c, u = .slice a n c) ∧ (K i at' = true → ∃ l, IntR (fun d => R d = 7) w u l ∧ Pl (EndS (Ls i) bs at') l)))) ∧
    Tb w bl 46 ND.length (fun i v => (v = .slice none 0 0 ∧ ∀ d, R d ≠ 11 + 3 * i) ∨ ∃ g, v = .slice (some ⟨g, 0, none⟩) (bs.length + 1) (bs.length + 1) ∧ R g = 11 + 3 * i ∧ Tb w g 3 (bs.length + 1) (fun at' u => ∃ x : Int, u = .int .i64 x ∧ LvOk (lo i at') (LiveS (Ls i) bs at') x))
/-- It lies as it lay, where only free blocks were written. -/
theorem NetQ.same {B0 : Nat} {R : Nat → Nat} {lo : Nat → Nat → Option Int} {w w' : World} {nb : Nat} {bs : List Int} {ND : List NodeT} {Ls : Nat → List Int → Prop} (h : NetQ B0 R lo w nb bs ND Ls) (hs : w.heap.size ≤ w'.heap.size) (hh : ∀ d, d < w.heap.size → (R d ≠ 0 ∨ d < B0) → w'.heap[d]? = w.heap[d]?) : NetQ B0 R lo w' nb bs ND Ls := by
  obtain ⟨a, capB, be, ce, bk, ck, bn, cn, bw, cw, bl, cl, K, ⟨n1, n2, n3, n4, n5, n6⟩, ⟨r1, r2, r3, r4, r5, r6, r7⟩, h3, h4, h5, h6, h7, h8, h9, h10⟩ := h
  have lw := h8.lt
  have ln := h9.lt
  have ll := h10.lt
  have cellB : ∀ {d o : Nat} {v : Value}, d < B0 → w.cell? ⟨d, o, none⟩ = some v → w'.cell? ⟨d, o, none⟩ = some v := fun {d o v} hd hc => by
    rw [World.cell?_of_block (a := ⟨d, o, none⟩) (hh d (World.block_lt_of_cell? w _ hc) (.inr hd))]; exact hc
  refine ⟨a, capB, be, ce, bk, ck, bn, cn, bw, cw, bl, cl, K, ⟨n1, n2, n3, by omega, n5, n6⟩, ⟨r1, r2, r3, r4, r5, r6, fun d hd => r7 d (by omega)⟩, h3, (hh nb (by omega) (.inr n1)).trans h4, ?_, fun i nd hi => ?_, fun i nd hi => ?_, ?_, ?_, ?_⟩
  · obtain ⟨a', cap', e, g1, g2, g3⟩ := h5
    refine ⟨a', cap', e, g1, g2, ?_⟩
    rcases g3 with g3 | ⟨c, o, g4, g5, g6⟩
    · exact .inl g3
    · exact .inr ⟨c, o, g4, g5, fun i x hi => cellB g5.1 (g6 i x hi)⟩
  · obtain ⟨c0, c1, c2, c3, c4, x, y, z, c5⟩ := h6 i nd hi
    exact ⟨cellB n2 c0, cellB n2 c1, cellB n2 c2, cellB n2 c3, cellB n2 c4, x, y, z, cellB n2 c5⟩
  · obtain ⟨v, c0, c1⟩ := h7 i nd hi
    exact ⟨v, cellB n3 c0, c1.same hs (fun d hd hp => ⟨hh d hd (.inr hp.1), hp⟩)⟩
  · refine h8.same (hh bw lw (.inl (by omega))) (fun i v _ hv => ?_)
    rcases hv with hv | ⟨g, g1, g2, g3⟩
    · exact .inl hv
    · exact .inr ⟨g, g1, g2, g3.same (hh g g3.lt (.inl (by omega))) (fun _ _ _ h => h)⟩
  · refine h9.same (hh bn ln (.inl (by omega))) (fun i v _ hv => ⟨hv.1, fun e => ?_⟩)
    obtain ⟨g, g1, g2, g3⟩ := hv.2 e
    refine ⟨g, g1, g2, g3.same (hh g g3.lt (.inl (by omega))) (fun at' u _ hu => ⟨hu.1, fun ek => ?_⟩)⟩
    obtain ⟨l, hl, hp⟩ := hu.2 ek
    exact ⟨l, hl.same hs (fun d hd hp => ⟨hh d hd (.inl (by rw [hp]; omega)), hp⟩), hp⟩
  · refine h10.same (hh bl ll (.inl (by omega))) (fun i v _ hv => ?_)
    rcases hv with hv | ⟨g, g1, g2, g3⟩
    · exact .inl hv
    · exact .inr ⟨g, g1, g2, g3.same (hh g g3.lt (.inl (by omega))) (fun _ _ _ h => h)⟩

end Ex
end Go.Proofs.YtlgojnodhbmlkaaGreatDoor
namespace Go.Proofs.YtlgojnodhbmlkaaGreatDoor
open Go.RowKit
attribute [local go_sem] Oper.semAt_some
namespace Ex

theorem Kept.place {w0 W w' : World} {c : Array Value} {t : TypeId} {l : List Nat} {v : Value} (h : Kept w0 W) (ho : PlO W w0.heap.size v l) (hg : (W.alloc (.cells c t)).grownBy w' v.ownBlock) : Kept w0 w' := by
  have h2 := h.alloc c t
  exact ⟨hg.os.trans h2.1, hg.tape.trans h2.2.1, hg.output.trans h2.2.2.1, Nat.le_trans h2.size hg.size, fun k hk => (hg.block k (Nat.lt_of_lt_of_le hk h2.size) (fun e => by have := (ho.lt k e.symm).1; omega)).trans (h2.2.2.2.2 k hk)⟩
/-- The loop of marked. -/
def MkR (ms : List Bool) (N : Nat) (w : World) (vo vi : Value) (wr : World) : Prop := ∃ j : Nat, vi = .int .i64 (j : Int) ∧ j ≤ N ∧ Hid (PlO wr w.heap.size vo (markF 0 (ms.take j))) ∧ Hid (Kept w wr)
/-- What marked answers. -/
def MkG (ms : List Bool) (w : World) (e : Ending) (w' : World) : Prop := ∃ v, e = .returned v ∧ PlO w' w.heap.size v (markF 0 ms)
set_option linter.unusedSimpArgs false in
set_option maxRecDepth 100000 in
set_option maxHeartbeats 1000000 in
theorem marked_is (g N : Nat) (ms : List Bool) (w : World) (hm : BoolsAt w g ms) (hN : ms.length = N) (hl : N ≤ 300000) :
    Calls Tryz.prog 32 #[.slice (some ⟨g, 0, none⟩) N N] w fun e w' => MkG ms w e w' ∧ Kept w w' := by
  have HM := hide1 hm
  have HN := hide1 hN
  clear hm hN
  go_enter Tryz.func32, Tryz.ntmps32
  go_wp2_with fail
  go_loopw [3, 4] (MkR ms N w) (fun _ i _ => N - (intOf i).toNat)
  case atStart => exact ⟨0, rfl, Nat.zero_le _, PlO.nil _ _, Kept.refl _⟩
  case round =>
    obtain ⟨j, rfl, hj, HO, HK⟩ := hrel
    obtain ⟨l, hl'⟩ : ∃ l, markF 0 (ms.take j) = l := ⟨_, rfl⟩
    have HL := hide1 hl'
    rw [hl'] at HO
    obtain ⟨a0, c0, rfl⟩ := HO.out.form
    obtain ⟨n, hn⟩ : ∃ n, l.length = n := ⟨_, rfl⟩
    have HNL := hide1 hn
    have gn : n ≤ 300000 := by
      have h1 := markF_len (ms.take j) 0
      rw [hl', hn, List.length_take] at h1
      omega
    rw [hn]
    rw [hn] at HO
    clear hl' hn
    by_cases hlt : (j : Int) < (N : Int)
    · obtain ⟨b, hb⟩ : ∃ b, ms[j]? = some b := ⟨ms[j]'(by have := HN.out; omega), List.getElem?_eq_getElem _⟩
      have hc := (HM.out.keep HK.out).cell hb
      have HT : Hid (markF 0 (ms.take (j + 1)) = l ++ (if b = true then [j] else [])) := by
        show _ = _
        have h1 : ms.take (j + 1) = ms.take j ++ [b] := by rw [List.take_add_one, hb]; rfl
        have h2 : (ms.take j).length = j := by rw [List.length_take]; have := HN.out; omega
        rw [h1, markF_snoc, HL.out, h2, Nat.zero_add]
      clear hb
      cases b
      · go_wp2_with fail
        go_roundw
        case rel => exact ⟨j + 1, by go_num, by omega, by rw [HT.out, if_neg (by simp), List.append_nil]; exact HO.out, HK.out⟩
        case measure => simp [intOf]; omega
      · go_wp2_with (at_builtin; refine wpl_place rfl _ _ rfl wr w.heap.size _ l n HNL.out j _ (by rfl) HO.out (by rfl) (by omega) HK.out.size ?_; intro g9 c9 w9 h1 h2 h3; have HO9 := hide1 h1; have HK9 := hide1 (HK.out.place HO.out h2); clear h1 h2 h3)
        go_roundw
        case rel => exact ⟨j + 1, by go_num, by omega, by rw [HT.out, if_pos rfl]; exact HO9.out, HK9.out⟩
        case measure => simp [intOf]; omega
    · have e : ms.take j = ms := List.take_of_length_le (by have := HN.out; omega)
      have HE : Hid (markF 0 ms = l) := by show _ = _; rw [← HL.out, e]
      clear e
      go_wp2_with fail
      go_ret
      exact ⟨⟨_, rfl, by rw [HE.out]; exact HO.out⟩, HK.out⟩

/-- What same answers. -/
def SaG (l m : List Nat) (e : Ending) : Prop := ∃ b, e = .returned (.bool b) ∧ Hid (b = true → l = m)
/-- The loop of same. -/
def SaR (l m : List Nat) (w : World) (vi : Value) (wr : World) : Prop := ∃ j : Nat, vi = .int .i64 (j : Int) ∧ j ≤ l.length ∧ Hid (l.take j = m.take j) ∧ Hid (Kept w wr)
theorem same_next {l m : List Nat} {j x y : Nat} (h : l.take j = m.take j) (hx : l[j]? = some x) (hy : m[j]? = some y) (e : x = y) : l.take (j + 1) = m.take (j + 1) := by
  rw [List.take_add_one, List.take_add_one, hx, hy, h, e]
set_option linter.unusedSimpArgs false in
set_option maxRecDepth 100000 in
set_option maxHeartbeats 1000000 in
theorem sameI_is (P Q : Nat → Prop) (v u : Value) (l m : List Nat) (w : World) (hv : IntR P w v l) (hu : IntR Q w u m) :
    Calls Tryz.prog 46 #[v, u] w fun e w' => SaG l m e ∧ Kept w w' := by
  have HV := hide1 hv
  have HU := hide1 hu
  obtain ⟨a, ca, rfl, la, lb⟩ := hv.form
  obtain ⟨b, cb, rfl, ma, mb⟩ := hu.form
  clear hv hu
  obtain ⟨n, hn⟩ : ∃ n, l.length = n := ⟨_, rfl⟩
  obtain ⟨k, hk⟩ : ∃ k, m.length = k := ⟨_, rfl⟩
  have HN := hide1 hn
  have HKL := hide1 hk
  rw [hn] at la lb HV ⊢
  rw [hk] at ma mb HU ⊢
  clear hn hk
  go_enter Tryz.func46, Tryz.ntmps46
  by_cases hnk : n = k
  · subst hnk
    go_wp2_with fail
    go_loopw [5] (SaR l m w) (fun i _ => n - (intOf i).toNat)
    case atStart => exact ⟨0, rfl, Nat.zero_le _, rfl, Kept.refl _⟩
    case round =>
      obtain ⟨j, rfl, hj, HS, HK⟩ := hrel
      rw [HN.out] at hj
      by_cases hlt : (j : Int) < (n : Int)
      · obtain ⟨x, hx⟩ : ∃ x, l[j]? = some x := ⟨l[j]'(by have := HN.out; omega), List.getElem?_eq_getElem _⟩
        obtain ⟨y, hy⟩ : ∃ y, m[j]? = some y := ⟨m[j]'(by have := HKL.out; omega), List.getElem?_eq_getElem _⟩
        have HX := hide1 hx
        have HY := hide1 hy
        obtain ⟨c1, o1, e1, hc1⟩ := HV.out.cell hx
        obtain ⟨c2, o2, e2, hc2⟩ := HU.out.cell hy
        have hd1 := grown_cell HK.out hc1
        have hd2 := grown_cell HK.out hc2
        have gj1 : (j : Int) < (ca : Int) := by omega
        have gj2 : (j : Int) < (cb : Int) := by omega
        clear hx hy hc1 hc2
        subst e1
        subst e2
        by_cases hxy : x = y
        · have HNX : Hid (l.take (j + 1) = m.take (j + 1)) := same_next HS.out HX.out HY.out hxy
          have b1 : ((x : Int) != (y : Int)) = false := by simp [hxy]
          clear hxy
          go_upto_region 6 with fail
          go_quiet (fail)
          go_wp2_with fail
          go_roundw
          case rel => exact ⟨j + 1, by go_num, by rw [HN.out]; omega, HNX.out, gtrans HK.out (drewN_kept _ _)⟩
          case measure => simp [intOf]; omega
        · have b1 : ((x : Int) != (y : Int)) = true := by simp; omega
          clear hxy
          go_upto_region 6 with fail
          go_quiet (fail)
          go_wp2_with fail
          go_ret
          exact ⟨⟨false, rfl, fun e => by cases e⟩, gtrans HK.out (drewN_kept _ _)⟩
      · have HE : Hid (l = m) := by
          have h1 := HS.out
          rw [List.take_of_length_le (by have := HN.out; omega), List.take_of_length_le (by have := HKL.out; omega)] at h1
          exact h1
        go_wp2_with fail
        go_ret
        exact ⟨⟨true, rfl, fun _ => HE.out⟩, HK.out⟩
  · go_wp2_with fail
    go_ret
    exact ⟨⟨false, rfl, fun e => by cases e⟩, Kept.refl _⟩

end Ex
end Go.Proofs.YtlgojnodhbmlkaaGreatDoor
namespace Go.Proofs.YtlgojnodhbmlkaaGreatDoor
open Go.RowKit
attribute [local go_sem] Oper.semAt_some
namespace Ex

theorem boolM_info : (Tryz.prog.info? 4).map (fun i => (i.zero, i.size, i.bytes)) = some (some (.bool false), 1, 1) := by kernel_rfl
theorem run_makeB (n : Nat) (hn : n ≤ 300000) (w : World) : (Instr.makeSlice 67 (.int .i64 (n : Int)) (.int .i64 (n : Int))).run Tryz.prog w = .ok (.slice (some ⟨w.heap.size, 0, none⟩) n n) (w.alloc (.cells (boolV (List.replicate n false)).toArray 4)) := by
  obtain ⟨i0, hi, hz0, hz1, hz2⟩ := info_parts boolM_info
  rw [run_make (P := Tryz.prog) w 67 4 i0 _ Tryz.underlying67 hi hz0 .i64 .i64 n n (by omega) (Int.le_refl _) (by rw [hz2]; omega) (by omega)]
  rw [hz1]
  have e : madeCells (Value.bool false).cells ((n : Int).toNat * 1) = (boolV (List.replicate n false)).toArray := by
    unfold madeCells boolV
    apply Array.ext_getElem?
    intro i
    simp only [Int.toNat_natCast, Nat.mul_one, Array.getElem?_map, List.getElem?_toArray, List.getElem?_map, List.getElem?_replicate]
    by_cases h : i < n
    · simp [h, Value.cells, Nat.mod_one]
    · simp [h]
  rw [e]
  simp
theorem bools_new (w : World) (ms : List Bool) : BoolsAt (w.alloc (.cells (boolV ms).toArray 4)) w.heap.size ms := heap_alloc_new w _
/-- All of a list are marked. -/
def markL2 (ms : List Bool) (l : List Nat) : List Bool := l.foldl (fun m k => m.set k true) ms
theorem markL2_snoc (ms : List Bool) (l : List Nat) (x : Nat) : markL2 ms (l ++ [x]) = (markL2 ms l).set x true := by unfold markL2; rw [List.foldl_append]; rfl
theorem markL2_len (l : List Nat) : ∀ (ms : List Bool), (markL2 ms l).length = ms.length := by
  induction l with
  | nil => intro ms; rfl
  | cons x l ih => intro ms; show (markL2 (ms.set x true) l).length = _; rw [ih, List.length_set]
theorem markL2_get (l : List Nat) : ∀ (ms : List Bool), (∀ x ∈ l, x < ms.length) → ∀ k, (markL2 ms l)[k]? = some true ↔ ms[k]? = some true ∨ k ∈ l := by
  induction l with
  | nil => intro ms _ k; simp [markL2]
  | cons x l ih =>
    intro ms h k
    show (markL2 (ms.set x true) l)[k]? = some true ↔ _
    have hx := h x (List.mem_cons_self ..)
    rw [ih _ (fun y hy => by rw [List.length_set]; exact h y (List.mem_cons_of_mem _ hy))]
    by_cases e : x = k
    · subst e
      rw [List.getElem?_set_self hx]
      simp
    · rw [List.getElem?_set_ne e]
      simp only [List.mem_cons]
      constructor
      · rintro (h1 | h1)
        · exact .inl h1
        · exact .inr (.inr h1)
      · rintro (h1 | h1 | h1)
        · exact .inl h1
        · exact absurd h1.symm e
        · exact .inr h1
theorem pl_len {l : List Nat} : ∀ {a n : Nat}, l.Pairwise (· < ·) → (∀ x ∈ l, a ≤ x ∧ x ≤ n) → l.length + a ≤ n + 1 ∨ l = [] := by
  induction l with
  | nil => intro a n _ _; exact .inr rfl
  | cons x l ih =>
    intro a n h hb
    left
    rw [List.pairwise_cons] at h
    have hx := hb x (List.mem_cons_self ..)
    rcases ih (a := x + 1) (n := n) h.2 (fun y hy => ⟨h.1 y hy, (hb y (List.mem_cons_of_mem _ hy)).2⟩) with h1 | h1
    · rw [List.length_cons]; omega
    · subst h1; simp; omega
theorem Pl.len {S : Nat → Prop} {l : List Nat} {n : Nat} (h : Pl S l) (hS : ∀ k, S k → k ≤ n) : l.length ≤ n + 1 := by
  rcases pl_len (a := 0) (n := n) h.1 (fun x hx => ⟨Nat.zero_le _, hS x ((h.2 x).1 hx)⟩) with h1 | h1
  · omega
  · rw [h1]; simp

/-- What a question of places answers. -/
def EG (B0 : Nat) (lo : Nat → Nat → Option Int) (nb : Nat) (bs : List Int) (ND : List NodeT) (Ls : Nat → List Int → Prop) (R : Nat → Nat) (w : World) (S : Nat → Prop) (e : Ending) (w' : World) : Prop :=
  ∃ (R' : Nat → Nat) (v : Value) (l : List Nat), e = .returned v ∧ Hid (NetQ B0 R' lo w' nb bs ND Ls) ∧ Hid (IntR (fun d => R' d = 7) w' v l) ∧ Hid (Pl S l) ∧ Hid (RK R w w') ∧ Hid (RX R R' w)
theorem EG.iff {B0 : Nat} {lo : Nat → Nat → Option Int} {nb : Nat} {bs : List Int} {ND : List NodeT} {Ls : Nat → List Int → Prop} {R : Nat → Nat} {w : World} {S S' : Nat → Prop} {e : Ending} {w' : World} (h : EG B0 lo nb bs ND Ls R w S e w') (hs : ∀ k, S k ↔ S' k) : EG B0 lo nb bs ND Ls R w S' e w' := by
  obtain ⟨R', v, l, h1, h2, h3, h4, h5, h6⟩ := h
  exact ⟨R', v, l, h1, h2, h3, h4.out.iff hs, h5, h6⟩
def EndsC (B0 : Nat) (lo : Nat → Nat → Option Int) (nb : Nat) (bs : List Int) (ND : List NodeT) (Ls : Nat → List Int → Prop) (i : Nat) : Prop :=
  ∀ (R : Nat → Nat) (w : World) (at' : Nat), at' ≤ bs.length → NetQ B0 R lo w nb bs ND Ls → Calls Tryz.prog 20 #[.pointer (some ⟨nb, 0, none⟩), .int .i64 (i : Int), .int .i64 (at' : Int)] w fun e w' => EG B0 lo nb bs ND Ls R w (EndS (Ls i) bs at') e w'
/-- Free blocks become lists that stay. -/
theorem NetQ.role {B0 : Nat} {R R2 : Nat → Nat} {lo : Nat → Nat → Option Int} {w : World} {nb : Nat} {bs : List Int} {ND : List NodeT} {Ls : Nat → List Int → Prop} (h : NetQ B0 R lo w nb bs ND Ls) (hR : ∀ d, R2 d = R d ∨ (R d = 0 ∧ R2 d = 7 ∧ B0 ≤ d ∧ d < w.heap.size)) : NetQ B0 R2 lo w nb bs ND Ls := by
  obtain ⟨a, capB, be, ce, bk, ck, bn, cn, bw, cw, bl, cl, K, ⟨n1, n2, n3, n4, n5, n6⟩, ⟨r1, r2, r3, r4, r5, r6, r7⟩, h3, h4, h5, h6, h7, h8, h9, h10⟩ := h
  have low : ∀ d, d < B0 → R2 d = R d := fun d hd => by rcases hR d with e | e; exact e; omega
  have on : ∀ d, R d ≠ 0 → R2 d = R d := fun d hd => by rcases hR d with e | e; exact e; exact absurd e.1 hd
  refine ⟨a, capB, be, ce, bk, ck, bn, cn, bw, cw, bl, cl, K, ⟨n1, n2, n3, n4, n5, n6⟩, ⟨by rw [low nb n1]; exact r1, by rw [low be n2]; exact r2, by rw [low bk n3]; exact r3, by rw [on bn (by omega)]; exact r4, by rw [on bw (by omega)]; exact r5, by rw [on bl (by omega)]; exact r6, fun d hd => ?_⟩, h3, h4, ?_, h6, fun i nd hi => ?_, ?_, ?_, ?_⟩
  · rcases hR d with e | e
    · rw [e]; exact r7 d hd
    · omega
  · obtain ⟨a', cap', e, g1, g2, g3⟩ := h5
    refine ⟨a', cap', e, g1, g2, ?_⟩
    rcases g3 with g3 | ⟨c, o, g4, g5, g6⟩
    · exact .inl g3
    · exact .inr ⟨c, o, g4, ⟨g5.1, by rw [low c g5.1]; exact g5.2⟩, g6⟩
  · obtain ⟨v, c0, c1⟩ := h7 i nd hi
    exact ⟨v, c0, c1.same (Nat.le_refl _) (fun d _ hp => ⟨rfl, hp.1, by rw [low d hp.1]; exact hp.2⟩)⟩
  · refine h8.same rfl (fun i v _ hv => ?_)
    rcases hv with ⟨hv, hn⟩ | ⟨g, g1, g2, g3⟩
    · refine .inl ⟨hv, fun d hd => ?_⟩
      rcases hR d with e | e
      · rw [e] at hd; exact hn d hd
      · omega
    · exact .inr ⟨g, g1, by rw [on g (by omega)]; exact g2, g3⟩
  · refine h9.same rfl (fun i v _ hv => ⟨hv.1, fun e => ?_⟩)
    obtain ⟨d, hd⟩ := e
    have hd' : R d = 9 + 3 * i := by
      rcases hR d with e | e
      · rw [← e]; exact hd
      · omega
    obtain ⟨g, g1, g2, g3⟩ := hv.2 ⟨d, hd'⟩
    refine ⟨g, g1, by rw [on g (by omega)]; exact g2, g3.same rfl (fun at' u _ hu => ⟨hu.1, fun ek => ?_⟩)⟩
    obtain ⟨l, hl, hp⟩ := hu.2 ek
    exact ⟨l, hl.same (Nat.le_refl _) (fun d _ hp => ⟨rfl, by show R2 d = 7; rw [on d (by rw [hp]; omega)]; exact hp⟩), hp⟩
  · refine h10.same rfl (fun i v _ hv => ?_)
    rcases hv with ⟨hv, hn⟩ | ⟨g, g1, g2, g3⟩
    · refine .inl ⟨hv, fun d hd => ?_⟩
      rcases hR d with e | e
      · rw [e] at hd; exact hn d hd
      · omega
    · exact .inr ⟨g, g1, by rw [on g (by omega)]; exact g2, g3⟩
theorem NetQ.low {B0 : Nat} {R : Nat → Nat} {lo : Nat → Nat → Option Int} {w : World} {nb : Nat} {bs : List Int} {ND : List NodeT} {Ls : Nat → List Int → Prop} (h : NetQ B0 R lo w nb bs ND Ls) : B0 ≤ w.heap.size := by
  obtain ⟨_, _, _, _, _, _, _, _, _, _, _, _, _, ⟨_, _, _, n4, _⟩, _⟩ := h
  exact n4
theorem NetQ.zero {B0 : Nat} {R : Nat → Nat} {lo : Nat → Nat → Option Int} {w : World} {nb : Nat} {bs : List Int} {ND : List NodeT} {Ls : Nat → List Int → Prop} (h : NetQ B0 R lo w nb bs ND Ls) {d : Nat} (hd : w.heap.size ≤ d) : R d = 0 := by
  obtain ⟨_, _, _, _, _, _, _, _, _, _, _, _, _, _, ⟨_, _, _, _, _, _, r7⟩, _⟩ := h
  exact r7 d hd
theorem NetQ.kept {B0 : Nat} {R : Nat → Nat} {lo : Nat → Nat → Option Int} {w w' : World} {nb : Nat} {bs : List Int} {ND : List NodeT} {Ls : Nat → List Int → Prop} (h : NetQ B0 R lo w nb bs ND Ls) (hk : Kept w w') : NetQ B0 R lo w' nb bs ND Ls := h.same hk.size (fun d hd _ => hk.2.2.2.2 d hd)
theorem NetQ.put {B0 : Nat} {R : Nat → Nat} {lo : Nat → Nat → Option Int} {w : World} {nb : Nat} {bs : List Int} {ND : List NodeT} {Ls : Nat → List Int → Prop} (h : NetQ B0 R lo w nb bs ND Ls) {g k : Nat} {u : Value} (hg : B0 ≤ g) (hr : R g = 0) : NetQ B0 R lo (w.setCell ⟨g, k, none⟩ u) nb bs ND Ls :=
  h.same (by simp [World.setCell]) (fun d _ hd => heap_put (fun e => by subst e; rcases hd with hd | hd; exact hd hr; omega))
/-- The net's first field: the bytes. -/
theorem NetQ.bytes {B0 : Nat} {R : Nat → Nat} {lo : Nat → Nat → Option Int} {w : World} {nb : Nat} {bs : List Int} {ND : List NodeT} {Ls : Nat → List Int → Prop} (h : NetQ B0 R lo w nb bs ND Ls) : ∃ (a : Option Addr) (cap : Nat), w.cell? ⟨nb, 0, none⟩ = some (.slice a bs.length cap) ∧ bs.length ≤ cap ∧ bs.length ≤ 262144 ∧ BytesIn (fun d => d < B0 ∧ R d = 0) w (.slice a bs.length cap) bs := by
  obtain ⟨a, capB, be, ce, bk, ck, bn, cn, bw, cw, bl, cl, K, ⟨n1, n2, n3, n4, n5, n6⟩, _, _, h4, h5, _⟩ := h
  exact ⟨a, capB, by simp [World.cell?, h4], n6, n5, h5⟩
/-- A list that was made now stays. -/
theorem EG.made {B0 : Nat} {lo : Nat → Nat → Option Int} {nb : Nat} {bs : List Int} {ND : List NodeT} {Ls : Nat → List Int → Prop} {R R1 : Nat → Nat} {w w1 w' : World} {S : Nat → Prop} {v : Value} {l : List Nat} (hq : NetQ B0 R1 lo w1 nb bs ND Ls) (hk : Kept w1 w') (hr : RK R w w1) (hx : RX R R1 w) (ho : PlO w' w1.heap.size v l) (hp : Pl S l) (hS : ∀ k, S k → k ≤ bs.length) : EG B0 lo nb bs ND Ls R w S (.returned v) w' := by
  obtain ⟨a, cap, _, _, n5, _⟩ := hq.bytes
  have hq' := hq.kept hk
  refine ⟨fun d => if v.ownBlock = some d then 7 else R1 d, v, l, rfl, hq'.role (fun d => ?_), ?_, hp, hr.trans hx (RK.of hk), fun d hd => ?_⟩
  · by_cases e : v.ownBlock = some d
    · have := ho.lt d e
      have := hq.low
      exact .inr ⟨hq.zero (by omega), by simp [e], by omega, by omega⟩
    · left; simp [e]
  · exact (ho.ints (by have := hp.len hS; omega)).same (Nat.le_refl _) (fun d _ hd => ⟨rfl, by simp [hd]⟩)
  · have hn : v.ownBlock ≠ some d := fun e => by have := (ho.lt d e).1; have := hr.size; omega
    simp only [hn, if_false]
    exact hx d hd

end Ex
end Go.Proofs.YtlgojnodhbmlkaaGreatDoor
namespace Go.Proofs.YtlgojnodhbmlkaaGreatDoor
open Go.RowKit
attribute [local go_sem] Oper.semAt_some
namespace Ex

/-- All but the block g is as it was. -/
def ButB (g : Nat) (w w' : World) : Prop := w'.os = w.os ∧ w'.tape = w.tape ∧ w'.output = w.output ∧ w'.heap.size = w.heap.size ∧ ∀ k, k ≠ g → w'.heap[k]? = w.heap[k]?
theorem ButB.refl (g : Nat) (w : World) : ButB g w w := ⟨rfl, rfl, rfl, rfl, fun _ _ => rfl⟩
theorem ButB.set {g k : Nat} {w w' : World} {u : Value} (h : ButB g w w') : ButB g w (w'.setCell ⟨g, k, none⟩ u) := ⟨h.1, h.2.1, h.2.2.1, by simpa [World.setCell] using h.2.2.2.1, fun d hd => (heap_put hd).trans (h.2.2.2.2 d hd)⟩
theorem ButB.net {g : Nat} {B0 : Nat} {R : Nat → Nat} {lo : Nat → Nat → Option Int} {w w' : World} {nb : Nat} {bs : List Int} {ND : List NodeT} {Ls : Nat → List Int → Prop} (h : ButB g w w') (hq : NetQ B0 R lo w nb bs ND Ls) (hg : B0 ≤ g) (hr : R g = 0) : NetQ B0 R lo w' nb bs ND Ls :=
  hq.same (by rw [h.2.2.2.1]; exact Nat.le_refl _) (fun d _ hd => h.2.2.2.2 d (fun e => by subst e; rcases hd with hd | hd; exact hd hr; omega))
theorem ButB.ints {g : Nat} {P : Nat → Prop} {w w' : World} {v : Value} {l : List Nat} (h : ButB g w w') (hl : IntR P w v l) (hg : ¬ P g) : IntR P w' v l :=
  hl.same (by rw [h.2.2.2.1]; exact Nat.le_refl _) (fun d _ hp => ⟨h.2.2.2.2 d (fun e => hg (e ▸ hp)), hp⟩)
theorem ButB.rk {g : Nat} {R : Nat → Nat} {w0 w w' : World} (h : ButB g w w') (hk : RK R w0 w) (hg : w0.heap.size ≤ g) : RK R w0 w' :=
  ⟨h.1.trans hk.1, h.2.1.trans hk.2.1, h.2.2.1.trans hk.2.2.1, by rw [h.2.2.2.1]; exact hk.size, fun d hd => (h.2.2.2.2 d (by have := hd.1; omega)).trans (hk.same hd.1 hd.2)⟩
/-- The loop that marks a list. -/
def InR (gm : Nat) (ms : List Bool) (l : List Nat) (w : World) (vi : Value) (wr : World) : Prop := ∃ j : Nat, vi = .int .i64 (j : Int) ∧ j ≤ l.length ∧ Hid (BoolsAt wr gm (markL2 ms (l.take j))) ∧ Hid (ButB gm w wr)
/-- The loop of step. -/
def StR (B0 : Nat) (lo : Nat → Nat → Option Int) (nb : Nat) (bs : List Int) (ND : List NodeT) (Ls : Nat → List Int → Prop) (R : Nat → Nat) (w : World) (i gm : Nat) (l : List Nat) (vi : Value) (wr : World) : Prop :=
  ∃ (k : Nat) (R1 : Nat → Nat) (ms : List Bool), vi = .int .i64 (k : Int) ∧ k ≤ l.length ∧ Hid (NetQ B0 R1 lo wr nb bs ND Ls) ∧ Hid (BoolsAt wr gm ms) ∧ Hid (ms.length = bs.length + 1) ∧ Hid (∀ x, ms[x]? = some true ↔ StepS (Ls i) bs (fun a => a ∈ l.take k) x) ∧ Hid (RK R w wr) ∧ Hid (RX R R1 w) ∧ Hid (R1 gm = 0)
theorem step_more {L : List Int → Prop} {bs : List Int} {l : List Nat} {k a : Nat} (ha : l[k]? = some a) (x : Nat) : StepS L bs (fun b => b ∈ l.take (k + 1)) x ↔ StepS L bs (fun b => b ∈ l.take k) x ∨ EndS L bs a x := by
  have e : l.take (k + 1) = l.take k ++ [a] := by rw [List.take_add_one, ha]; rfl
  constructor
  · rintro ⟨b, hb, hx⟩
    rw [e, List.mem_append] at hb
    rcases hb with hb | hb
    · exact .inl ⟨b, hb, hx⟩
    · simp only [List.mem_cons, List.not_mem_nil, or_false] at hb
      subst hb
      exact .inr hx
  · rintro (⟨b, hb, hx⟩ | hx)
    · exact ⟨b, by rw [e]; exact List.mem_append_left _ hb, hx⟩
    · exact ⟨a, by rw [e]; simp, hx⟩

set_option linter.unusedSimpArgs false in
set_option maxRecDepth 100000 in
set_option maxHeartbeats 4000000 in
theorem stepD_is (B0 : Nat) (lo : Nat → Nat → Option Int) (nb : Nat) (bs : List Int) (ND : List NodeT) (Ls : Nat → List Int → Prop) (i : Nat) (hE : EndsC B0 lo nb bs ND Ls i) (R : Nat → Nat) (w : World) (hq : NetQ B0 R lo w nb bs ND Ls) (v : Value) (l : List Nat) (S : Nat → Prop) (hv : IntR (fun d => R d = 0 ∨ R d = 7) w v l) (hp : Pl S l) (hS : ∀ k, S k → k ≤ bs.length) :
    Calls Tryz.prog 31 #[.pointer (some ⟨nb, 0, none⟩), .int .i64 (i : Int), v] w fun e w' => EG B0 lo nb bs ND Ls R w (StepS (Ls i) bs S) e w' := by
  have HE := hide1 hE
  have HQ := hide1 hq
  have HV : Hid (IntR (fun d => d < w.heap.size ∧ (R d = 0 ∨ R d = 7)) w v l) := hv.same (Nat.le_refl _) (fun d hd hp => ⟨rfl, hd, hp⟩)
  have HP := hide1 hp
  have HS := hide1 hS
  obtain ⟨a, cap, rfl, lc, ll⟩ := hv.form
  obtain ⟨a0, capB, hB, lB, lN, _⟩ := hq.bytes
  obtain ⟨n, hn⟩ : ∃ n, bs.length = n := ⟨_, rfl⟩
  obtain ⟨nl, hnl⟩ : ∃ nl, l.length = nl := ⟨_, rfl⟩
  have HN := hide1 hn
  have HNL := hide1 hnl
  have HSB := hide1 (Nat.le_trans (Nat.le_refl _) hq.low)
  rw [hn] at hB lB lN
  rw [hnl] at lc ll HV ⊢
  have hmk := run_makeB (n + 1) (by omega)
  have e2 : ((n + 1 : Nat) : Int) = (n : Int) + 1 := by omega
  rw [e2] at hmk
  clear hE hq hv hp hS hn hnl e2
  go_enter Tryz.func31, Tryz.ntmps31
  by_cases h1 : nl = 1
  · subst h1
    obtain ⟨x, hx⟩ : ∃ x, l[0]? = some x := ⟨l[0]'(by have := HNL.out; omega), List.getElem?_eq_getElem _⟩
    have hl1 : l = [x] := by
      have h2 := HNL.out
      match l, h2, hx with
      | [y], _, hx => simpa using hx
    have HL1 := hide1 hl1
    obtain ⟨c, o, e1, hc⟩ := HV.out.cell hx
    subst e1
    have hc : w.cell? ⟨c, o, none⟩ = some (.int .i64 (x : Int)) := by simpa using hc
    have HXB : Hid (x ≤ bs.length) := HS.out x ((HP.out.2 x).1 (by rw [hl1]; simp))
    clear hx hl1
    go_wp2_with (go_at_call 20; refine (HE.out R w x HXB.out HQ.out).mono ?_; intro e w1 hg; have HG := hide1 hg; obtain ⟨R1, v1, l1, rfl, _⟩ := hg)
    go_ret
    refine EG.iff HG.out (fun k => ?_)
    rw [← step_one]
    exact step_iff (fun y => by rw [← HP.out.2 y, HL1.out]; simp) k
  · have b1 : ((nl : Int) == 1) = false := by simpa using (show ¬ (nl : Int) = 1 by omega)
    clear h1
    have HM0 := hide1 (bools_new w (List.replicate (n + 1) false))
    have HK0 : Hid (Kept w (w.alloc (.cells (boolV (List.replicate (n + 1) false)).toArray 4))) := (Kept.refl w).alloc _ _
    go_wp2_with fail
    go_loopw [8] (StR B0 lo nb bs ND Ls R w i w.heap.size l) (fun k _ => nl - (intOf k).toNat)
    case atStart =>
      refine ⟨0, R, _, rfl, Nat.zero_le _, HQ.out.kept HK0.out, HM0, (show _ = _ by rw [List.length_replicate, HN.out]), fun x => ?_, RK.of HK0.out, RX.refl R w, HQ.out.zero (Nat.le_refl _)⟩
      rw [List.getElem?_replicate]
      constructor
      · intro h; split at h <;> simp at h
      · rintro ⟨b, hb, _⟩; simp at hb
    case round =>
      obtain ⟨w1, hw1⟩ : ∃ w1, w1 = wr := ⟨_, rfl⟩
      subst hw1
      obtain ⟨k, R1, ms, rfl, hk, HQ1, HM1, HML, HMS, HK1, HX1, HG1⟩ := hrel
      rw [HNL.out] at hk
      by_cases hlt : (k : Int) < (nl : Int)
      · obtain ⟨x, hx⟩ : ∃ x, l[k]? = some x := ⟨l[k]'(by have := HNL.out; omega), List.getElem?_eq_getElem _⟩
        have HX := hide1 hx
        have hv1 : IntR (fun d => d < w.heap.size) w1 (.slice a nl cap) l := HV.out.same HK1.out.size (fun d hd hp => ⟨HK1.out.same hd hp.2, hp.1⟩)
        obtain ⟨c, o, e1, hc⟩ := hv1.cell hx
        subst e1
        have HXB : Hid (x ≤ bs.length) := HS.out x ((HP.out.2 x).1 (List.mem_of_getElem? hx))
        have gkc : (k : Int) < (cap : Int) := by omega
        clear hx hv1
        go_wp2_with (go_at_call 20; refine (HE.out R1 w1 x HXB.out HQ1.out).mono ?_; rintro e w2 ⟨R2, v2, l2, rfl, HQ2, HL2, HP2, HK2, HX2⟩; obtain ⟨a2, c2, e2, m1, m2⟩ := HL2.out.form; subst e2; obtain ⟨n2, hn2⟩ : ∃ n2, l2.length = n2 := ⟨_, rfl⟩; have HN2 := hide1 hn2; rw [hn2] at m1 m2 HL2 ⊢; clear hn2)
        have hgw : w.heap.size < w1.heap.size := HM1.out.lt
        have HG2 : Hid (R2 w.heap.size = 0) := (HX2.out _ hgw).trans HG1.out
        have HM2 : Hid (BoolsAt w2 w.heap.size ms) := (HK2.out.same hgw (.inl HG1.out)).trans HM1.out
        go_loopw [10] (InR w.heap.size ms l2 w2) (fun j _ => n2 - (intOf j).toNat)
        case atStart => exact ⟨0, rfl, Nat.zero_le _, HM2, ButB.refl _ _⟩
        case round =>
          obtain ⟨j, rfl, hj, HM3, HB3⟩ := hrel
          rw [HN2.out] at hj
          by_cases hlt2 : (j : Int) < (n2 : Int)
          · obtain ⟨y, hy⟩ : ∃ y, l2[j]? = some y := ⟨l2[j]'(by have := HN2.out; omega), List.getElem?_eq_getElem _⟩
            have hv2 := HB3.out.ints HL2.out (show ¬ R2 w.heap.size = 7 by rw [HG2.out]; omega)
            obtain ⟨c3, o3, e3, hc3⟩ := hv2.cell hy
            subst e3
            have HY : Hid (y ≤ n) := by rw [← HN.out]; exact ((HP2.out.2 y).1 (List.mem_of_getElem? hy)).2.1
            have hyn := HY.out
            have gy : (y : Int) < (n : Int) + 1 := by omega
            have HT : Hid (l2.take (j + 1) = l2.take j ++ [y]) := by show _ = _; rw [List.take_add_one, hy]; rfl
            obtain ⟨z, hz⟩ : ∃ z, (markL2 ms (l2.take j))[y]? = some z := ⟨_, List.getElem?_eq_getElem (by rw [markL2_len, HML.out, HN.out]; omega)⟩
            have hold := HM3.out.cell hz
            have hfz := HM3.out.free y
            have gj : (j : Int) < (c2 : Int) := by omega
            clear hy hz hv2 hyn
            go_wp2_with fail
            go_roundw
            case rel => exact ⟨j + 1, by go_num, by rw [HN2.out]; omega, by rw [HT.out, markL2_snoc]; exact HM3.out.put, HB3.out.set⟩
            case measure => simp [intOf]; omega
          · have HE2 : Hid (l2.take j = l2) := List.take_of_length_le (by have := HN2.out; omega)
            go_wp2_with fail
            go_roundw
            case rel =>
              have hm := HM3.out
              rw [HE2.out] at hm
              refine ⟨k + 1, R2, markL2 ms l2, by go_num, by rw [HNL.out]; omega, HB3.out.net HQ2.out HSB.out HG2.out, hm, (show _ = _ by rw [markL2_len]; exact HML.out), fun x => ?_, HB3.out.rk (HK1.out.trans HX1.out HK2.out) (Nat.le_refl _), HX1.out.trans HK1.out.size HX2.out, HG2.out⟩
              rw [markL2_get _ _ (fun y hy => by have := ((HP2.out.2 y).1 hy).2.1; rw [HML.out]; omega), HMS.out, HP2.out.2, step_more HX.out]
            case measure => simp [intOf]; omega
      · have HE2 : Hid (l.take k = l) := List.take_of_length_le (by have := HNL.out; omega)
        go_wp2_with (go_at_call 32; refine (marked_is w.heap.size (n + 1) ms w1 HM1.out (by rw [HML.out, HN.out]) (by omega)).mono ?_; rintro e w4 ⟨⟨v4, rfl, ho4⟩, hk4⟩; have HO4 := hide1 ho4; have HK4 := hide1 hk4; clear ho4 hk4)
        go_ret
        refine EG.made HQ1.out HK4.out HK1.out HX1.out HO4.out ((markF_pl ms).iff (fun x => (HMS.out x).trans (step_iff (fun b => by rw [HE2.out]; exact HP.out.2 b) x))) (fun x hx => ?_)
        obtain ⟨_, _, hx⟩ := hx
        exact hx.2.1

end Ex
end Go.Proofs.YtlgojnodhbmlkaaGreatDoor
namespace Go.Proofs.YtlgojnodhbmlkaaGreatDoor
open Go.RowKit
attribute [local go_sem] Oper.semAt_some
namespace Ex

/-- A value of the net: where its numbers and its parts lie. -/
theorem NetQ.node {B0 : Nat} {R : Nat → Nat} {lo : Nat → Nat → Option Int} {w : World} {nb : Nat} {bs : List Int} {ND : List NodeT} {Ls : Nat → List Int → Prop} (h : NetQ B0 R lo w nb bs ND Ls) {i : Nat} {nd : NodeT} (hi : ND[i]? = some nd) :
    ∃ (be ce bk ck : Nat) (ak : Option Addr) (cpk : Nat), (w.cell? ⟨nb, 1, none⟩ = some (.slice (some ⟨be, 0, none⟩) ND.length ce) ∧ ND.length ≤ ce ∧ w.cell? ⟨nb, 2, none⟩ = some (.slice (some ⟨bk, 0, none⟩) ND.length ck) ∧ ND.length ≤ ck) ∧
      (w.cell? ⟨be, i * 6, none⟩ = some (.int .i64 nd.1) ∧ w.cell? ⟨be, i * 6 + 1, none⟩ = some (.int .i64 nd.2.1) ∧ w.cell? ⟨be, i * 6 + 2, none⟩ = some (.int .i64 nd.2.2.1) ∧ w.cell? ⟨be, i * 6 + 3, none⟩ = some (.int .i64 nd.2.2.2.1) ∧ w.cell? ⟨be, i * 6 + 4, none⟩ = some (.int .i64 nd.2.2.2.2.1) ∧ ∃ a n c, w.cell? ⟨be, i * 6 + 5, none⟩ = some (.slice a n c)) ∧
      w.cell? ⟨bk, i, none⟩ = some (.slice ak nd.2.2.2.2.2.length cpk) ∧ nd.2.2.2.2.2.length ≤ cpk ∧ IntR (fun d => d < B0 ∧ R d = 0) w (.slice ak nd.2.2.2.2.2.length cpk) nd.2.2.2.2.2 := by
  obtain ⟨a, capB, be, ce, bk, ck, bn, cn, bw, cw, bl, cl, K, _, _, ⟨l1, l2, _⟩, h4, _, h6, h7, _⟩ := h
  obtain ⟨vk, c0, c1⟩ := h7 i nd hi
  obtain ⟨ak, cpk, e, hl, _⟩ := c1.form
  subst e
  exact ⟨be, ce, bk, ck, ak, cpk, ⟨by simp [World.cell?, h4], l1, by simp [World.cell?, h4], l2⟩, h6 i nd hi, c0, hl, c1⟩
/-- What must answers. -/
def MG (B0 : Nat) (lo : Nat → Nat → Option Int) (nb : Nat) (bs : List Int) (ND : List NodeT) (Ls : Nat → List Int → Prop) (R : Nat → Nat) (w : World) (S : Nat → Prop) (e : Ending) (w' : World) : Prop :=
  ∃ (R' : Nat → Nat) (v : Value) (l : List Nat), e = .returned v ∧ Hid (NetQ B0 R' lo w' nb bs ND Ls) ∧ Hid (IntR (fun d => R' d = 0 ∨ R' d = 7) w' v l) ∧ Hid (Pl S l) ∧ Hid (RK R w w') ∧ Hid (RX R R' w)
/-- The loop of must. -/
def MuR (B0 : Nat) (lo : Nat → Nat → Option Int) (nb : Nat) (bs : List Int) (ND : List NodeT) (Ls : Nat → List Int → Prop) (R : Nat → Nat) (w : World) (L : List Int → Prop) (S : Nat → Prop) (mn : Nat) (va vk : Value) (wr : World) : Prop :=
  ∃ (k : Nat) (R1 : Nat → Nat) (l : List Nat), vk = .int .i64 (k : Int) ∧ k ≤ mn ∧ Hid (NetQ B0 R1 lo wr nb bs ND Ls) ∧ Hid (IntR (fun d => R1 d = 0 ∨ R1 d = 7) wr va l) ∧ Hid (Pl (PowS L bs k S) l) ∧ Hid (RK R w wr) ∧ Hid (RX R R1 w)
theorem pow_bound {L : List Int → Prop} {bs : List Int} {S : Nat → Prop} (hS : ∀ k, S k → k ≤ bs.length) : ∀ (m k : Nat), PowS L bs m S k → k ≤ bs.length
  | 0, k, h => hS k h
  | _ + 1, _, ⟨_, _, h⟩ => h.2.1
set_option linter.unusedSimpArgs false in
set_option maxRecDepth 100000 in
set_option maxHeartbeats 4000000 in
theorem must_is (B0 : Nat) (lo : Nat → Nat → Option Int) (nb : Nat) (bs : List Int) (ND : List NodeT) (Ls : Nat → List Int → Prop) (i kd : Nat) (k0 fr t0 mn0 mx : Int) (mn : Nat) (hi : ND[i]? = some (k0, fr, t0, mn0, mx, [kd])) (hmn : mn0 = (mn : Int)) (hmn2 : mn ≤ 1000) (hE : EndsC B0 lo nb bs ND Ls kd) (R : Nat → Nat) (w : World) (hq : NetQ B0 R lo w nb bs ND Ls) (v : Value) (l : List Nat) (S : Nat → Prop) (hv : IntR (fun d => R d = 0 ∨ R d = 7) w v l) (hp : Pl S l) (hS : ∀ k, S k → k ≤ bs.length) :
    Calls Tryz.prog 33 #[.pointer (some ⟨nb, 0, none⟩), .int .i64 (i : Int), v] w fun e w' => MG B0 lo nb bs ND Ls R w (PowS (Ls kd) bs mn S) e w' := by
  subst hmn
  have HE := hide1 hE
  have HQ := hide1 hq
  have HV := hide1 hv
  have HP := hide1 hp
  have HS := hide1 hS
  have HI := hide1 hi
  obtain ⟨a, cap, rfl, _, _⟩ := hv.form
  have hin : i < ND.length := (List.getElem?_eq_some_iff.1 hi).1
  obtain ⟨N, hN⟩ : ∃ N, ND.length = N := ⟨_, rfl⟩
  have HN := hide1 hN
  rw [hN] at hin
  have gi : (i : Int) < (N : Int) := by omega
  clear hE hq hv hp hS hi hN
  go_enter Tryz.func33, Tryz.ntmps33
  go_wp2_with fail
  go_loopw [2, 7] (MuR B0 lo nb bs ND Ls R w (Ls kd) S mn) (fun _ k _ => mn - (intOf k).toNat)
  case atStart => exact ⟨0, R, l, rfl, Nat.zero_le _, HQ, HV, HP, RK.of (Kept.refl w), RX.refl R w⟩
  case round =>
    obtain ⟨k, R1, l1, rfl, hk, HQ1, HV1, HP1, HK1, HX1⟩ := hrel
    obtain ⟨a1, c1, rfl, m1, m2⟩ := HV1.out.form
    obtain ⟨be, ce, bk, ck, ak, cpk, ⟨f1, f2, f3, f4⟩, ⟨_, _, _, f5, _⟩, f6, f7, f8⟩ := HQ1.out.node HI.out
    rw [HN.out] at f1 f2 f3 f4
    obtain ⟨cc, oo, e1, f9⟩ := f8.cell (i := 0) (x := kd) rfl
    subst e1
    have f9 : wr.cell? ⟨cc, oo, none⟩ = some (.int .i64 (kd : Int)) := by simpa using f9
    have f6 : wr.cell? ⟨bk, i, none⟩ = some (.slice (some ⟨cc, oo, none⟩) 1 cpk) := f6
    obtain ⟨n1, hn1⟩ : ∃ n1, l1.length = n1 := ⟨_, rfl⟩
    have HN1 := hide1 hn1
    rw [hn1] at m1 m2 HV1 ⊢
    clear f8 f7 hn1
    have b0 : (0 : Int) < 1 := by omega
    by_cases hlt : (k : Int) < (mn : Int)
    · by_cases hpos : (0 : Int) < (n1 : Int)
      · go_wp2_with (first
          | (go_at_call 46; refine (sameI_is (fun d => R2 d = 7) (fun d => R1 d = 0 ∨ R1 d = 7) _ _ l2 l1 w2 HL2.out (HV1.out.same HK2.out.size (fun d hd hp => ⟨HK2.out.same hd hp, hp⟩))).mono ?_; rintro e w3 ⟨⟨b3, rfl, HB3⟩, hk3⟩; have HK3 := hide1 hk3; clear hk3; cases b3)
          | (go_at_call 31; refine (stepD_is B0 lo nb bs ND Ls kd HE.out R1 wr HQ1.out _ l1 (PowS (Ls kd) bs k S) HV1.out HP1.out (pow_bound HS.out k)).mono ?_; rintro e w2 ⟨R2, v2, l2, rfl, HQ2, HL2, HP2, HK2, HX2⟩; obtain ⟨a2, c2, e2, m3, m4⟩ := HL2.out.form; subst e2; obtain ⟨n2, hn2⟩ : ∃ n2, l2.length = n2 := ⟨_, rfl⟩; have HN2 := hide1 hn2; rw [hn2] at HL2 ⊢; clear hn2 m3 m4))
        · go_roundw
          case rel => exact ⟨k + 1, R2, l2, by go_num, by omega, HQ2.out.kept HK3.out, HL2.out.same HK3.out.size (fun d hd hp => ⟨HK3.out.2.2.2.2 d hd, .inr hp⟩), HP2, HK1.out.trans HX1.out (HK2.out.trans HX2.out (RK.of HK3.out)), HX1.out.trans HK1.out.size HX2.out⟩
          case measure => simp [intOf]; omega
        · go_ret
          have hl := HB3.out (by first | rfl | trivial)
          have hst : ∀ x, PowS (Ls kd) bs (k + 1) S x ↔ PowS (Ls kd) bs k S x := Pl.same (hl ▸ HP2.out) HP1.out
          refine ⟨R2, _, l1, rfl, HQ2.out.kept HK3.out, ?_, HP1.out.iff (fun x => ?_), HK1.out.trans HX1.out (HK2.out.trans HX2.out (RK.of HK3.out)), HX1.out.trans HK1.out.size HX2.out⟩
          · refine HV1.out.same (Nat.le_trans HK2.out.size HK3.out.size) (fun d hd hp => ⟨(HK3.out.2.2.2.2 d (Nat.lt_of_lt_of_le hd HK2.out.size)).trans (HK2.out.same hd hp), ?_⟩)
            show R2 d = 0 ∨ R2 d = 7
            rw [HX2.out d hd]
            exact hp
          · have := pow_stay hst (mn - k) x
            rw [show k + (mn - k) = mn by omega] at this
            exact this.symm
      · have HEM : Hid (∀ x, ¬ PowS (Ls kd) bs k S x) := fun x hx => by
          have h1 := (HP1.out.2 x).2 hx
          have h2 : l1 = [] := List.length_eq_zero_iff.1 (by have := HN1.out; omega)
          rw [h2] at h1
          simp at h1
        go_wp2_with fail
        go_ret
        refine ⟨R1, _, l1, rfl, HQ1, HV1, HP1.out.iff (fun x => ⟨fun h => absurd h (HEM.out x), fun h => ?_⟩), HK1, HX1⟩
        rw [show mn = k + (mn - k) by omega] at h
        exact absurd h (pow_none HEM.out (mn - k) x)
    · have e : k = mn := by omega
      subst e
      go_wp2_with fail
      go_ret
      exact ⟨R1, _, l1, rfl, HQ1, HV1, HP1, HK1, HX1⟩

end Ex
end Go.Proofs.YtlgojnodhbmlkaaGreatDoor
