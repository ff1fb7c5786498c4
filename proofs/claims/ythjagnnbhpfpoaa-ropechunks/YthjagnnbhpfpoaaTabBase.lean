import Derived.Test.YthjagnnbhpfpoaaRefRows
import Derived.Test.YthjagnnbhpfpoaaRopeList
import Derived.Test.YthjagnnbhpfpoaaRopeRound
import Derived.Test.YthjagnnbhpfpoaaRopeEqualB
namespace Go.Proofs.Ythjagnnbhpfpoaa
open Go.RowKit
attribute [local go_sem] Oper.semAt_some
namespace Rope

theorem RefAt.tight {S : Nat → Prop} {w : World} {r : Value} {xs : List Int} (h : RefAt S w r xs) : RefAt (fun x => S x ∧ x < w.heap.size) w r xs := by
  obtain ⟨b, v, rfl, h1, h2, h3, h4⟩ := h
  exact ⟨b, v, rfl, ⟨h1, World.block_lt_of_cell? w ⟨b, 0, none⟩ h2⟩, h2, h3.tight, h4⟩

/-- A row of bytes that is lent again and again. -/
def BufAt (n0 : Nat) (w : World) (v : Value) (cs : List Value) : Prop :=
  (v = .slice none 0 0 ∧ cs = []) ∨ ∃ g, v = .slice (some ⟨g, 0, none⟩) cs.length cs.length ∧ n0 ≤ g ∧ RowOf w g cs

/-- What the table's own rows keep apart. -/
def Apart (S : Nat → Prop) (tb : Nat) (vP vR vB : Value) : Prop :=
  ¬ S tb ∧ (∀ g, vP.ownBlock = some g → ¬ S g ∧ g ≠ tb) ∧ (∀ g, vR.ownBlock = some g → ¬ S g ∧ g ≠ tb ∧ vP.ownBlock ≠ some g) ∧ (∀ g, vB.ownBlock = some g → ¬ S g ∧ g ≠ tb ∧ vP.ownBlock ≠ some g ∧ vR.ownBlock ≠ some g)

/-- A table in block tb: its ropes have the bytes L. -/
def Tab (n0 : Nat) (S : Nat → Prop) (w : World) (tb : Nat) (L M : List (List Int)) (vP vR vB : Value) (ps rs cs : List Value) : Prop :=
  n0 ≤ tb ∧ Plain w tb ∧ w.cell? ⟨tb, 0, none⟩ = some vP ∧ w.cell? ⟨tb, 1, none⟩ = some vR ∧ w.cell? ⟨tb, 2, none⟩ = some vB ∧
  w.ownsRow n0 24 1 vP L.length ps ∧ w.ownsRow n0 56 1 vR M.length rs ∧ BufAt n0 w vB cs ∧ Apart S tb vP vR vB ∧
  (∀ (i : Nat) (xs : List Int), L[i]? = some xs → ∃ p, ps[i]? = some p ∧ RopeAt S w p xs) ∧ ∀ (i : Nat) (xs : List Int), M[i]? = some xs → ∃ r, rs[i]? = some r ∧ RefAt S w r xs

theorem owns_same {w w' : World} {base size n : Nat} {e : TypeId} {v : Value} {xs : List Value} (h : w.ownsRow base e size v n xs) (hh : ∀ g, v.ownBlock = some g → w'.heap[g]? = w.heap[g]?) : w'.ownsRow base e size v n xs := by
  refine ⟨h.1, ?_⟩
  rcases h.2 with h0 | ⟨g, cap, cur, rfl, h1, h2, h3⟩
  · exact .inl h0
  · exact .inr ⟨g, cap, cur, rfl, h1, by rw [hh g rfl]; exact h2, h3⟩
theorem owns_lt {w : World} {base size n : Nat} {e : TypeId} {v : Value} {xs : List Value} (h : w.ownsRow base e size v n xs) : ∀ g, v.ownBlock = some g → g < w.heap.size := fun g hg => (h.lt g hg).2
theorem owns_form {w : World} {base size n : Nat} {e : TypeId} {v : Value} {xs : List Value} (h : w.ownsRow base e size v n xs) : ∃ a c, v = .slice a n c := by
  rcases h.2 with ⟨rfl, rfl⟩ | ⟨g, cap, cur, rfl, _⟩
  · exact ⟨none, 0, rfl⟩
  · exact ⟨_, _, rfl⟩
theorem RowOf.lt {w : World} {g : Nat} {cs : List Value} (h : RowOf w g cs) : g < w.heap.size := (Array.getElem?_eq_some_iff.1 h).1
theorem BufAt.lt {n0 : Nat} {w : World} {v : Value} {cs : List Value} (h : BufAt n0 w v cs) : ∀ g, v.ownBlock = some g → g < w.heap.size := by
  rcases h with ⟨rfl, _⟩ | ⟨g, rfl, _, h⟩
  · intro g hg; cases hg
  · intro g' hg; simp only [Value.ownBlock, Option.some.injEq] at hg; subst hg; exact h.lt
theorem BufAt.same {n0 : Nat} {w w' : World} {v : Value} {cs : List Value} (h : BufAt n0 w v cs) (hh : ∀ g, v.ownBlock = some g → w'.heap[g]? = w.heap[g]?) : BufAt n0 w' v cs := by
  rcases h with h | ⟨g, rfl, h1, h⟩
  · exact .inl h
  · refine .inr ⟨g, rfl, h1, ?_⟩
    unfold RowOf at h ⊢
    rw [hh g rfl]; exact h
theorem BufAt.form {n0 : Nat} {w : World} {v : Value} {cs : List Value} (h : BufAt n0 w v cs) : ∃ a, v = .slice a cs.length cs.length := by
  rcases h with ⟨rfl, rfl⟩ | ⟨g, rfl, _⟩
  · exact ⟨none, rfl⟩
  · exact ⟨_, rfl⟩

section
variable {n0 tb : Nat} {S : Nat → Prop} {w w' : World} {L M : List (List Int)} {vP vR vB : Value} {ps rs cs : List Value}

theorem Tab.lt (h : Tab n0 S w tb L M vP vR vB ps rs cs) : tb < w.heap.size := by
  obtain ⟨_, _, h, _⟩ := h
  exact World.block_lt_of_cell? w ⟨tb, 0, none⟩ h

theorem Tab.move (h : Tab n0 S w tb L M vP vR vB ps rs cs) (cs' : List Value) (ht : w'.heap[tb]? = w.heap[tb]?) (hP : ∀ g, vP.ownBlock = some g → w'.heap[g]? = w.heap[g]?) (hR : ∀ g, vR.ownBlock = some g → w'.heap[g]? = w.heap[g]?)
    (hb : BufAt n0 w' vB cs') (hs : Same S w w') : Tab n0 S w' tb L M vP vR vB ps rs cs' := by
  obtain ⟨h1, h2, h3, h4, h5, h6, h7, h8, h9, h10, h11⟩ := h
  refine ⟨h1, fun o => ?_, ?_, ?_, ?_, owns_same h6 hP, owns_same h7 hR, hb, h9, fun i xs hi => ?_, fun i xs hi => ?_⟩
  · rw [World.frozen?_of_block (w := w) (w' := w') (a := ⟨tb, o, none⟩) ht]; exact h2 o
  · rw [World.cell?_of_block (w := w) (w' := w') (a := ⟨tb, 0, none⟩) ht]; exact h3
  · rw [World.cell?_of_block (w := w) (w' := w') (a := ⟨tb, 1, none⟩) ht]; exact h4
  · rw [World.cell?_of_block (w := w) (w' := w') (a := ⟨tb, 2, none⟩) ht]; exact h5
  · obtain ⟨p, a1, a3⟩ := h10 i xs hi
    exact ⟨p, a1, a3.mono hs (fun _ h => h)⟩
  · obtain ⟨r, a2, a4⟩ := h11 i xs hi
    exact ⟨r, a2, a4.mono hs (fun _ h => h)⟩

theorem Tab.kept (h : Tab n0 S w tb L M vP vR vB ps rs cs) (hk : Kept w w') : Tab n0 S w' tb L M vP vR vB ps rs cs := by
  have hlt := h.lt
  have hh := h
  obtain ⟨_, _, _, _, _, h6, h7, h8, _⟩ := h
  have hB : ∀ g, g < w.heap.size → w'.heap[g]? = w.heap[g]? := fun g hg => hk.2.2.2.2 g hg
  exact hh.move cs (hB _ hlt) (fun g hg => hB g (owns_lt h6 g hg)) (fun g hg => hB g (owns_lt h7 g hg)) (h8.same (fun g hg => hB g (h8.lt g hg))) (Kept.same hk S)

/-- Other sets, of the same blocks that lie already. -/
theorem Tab.sub (h : Tab n0 S w tb L M vP vR vB ps rs cs) {S' : Nat → Prop} (hS : ∀ b, S b → b < w.heap.size → S' b) (hn : ∀ b, b < w.heap.size → S' b → S b) : Tab n0 S' w tb L M vP vR vB ps rs cs := by
  have hlt := h.lt
  obtain ⟨h1, h2, h3, h4, h5, h6, h7, h8, ⟨a1, a2, a3, a4⟩, h10, h11⟩ := h
  refine ⟨h1, h2, h3, h4, h5, h6, h7, h8, ⟨fun h => a1 (hn _ hlt h), fun g hg => ⟨fun h => (a2 g hg).1 (hn _ (owns_lt h6 g hg) h), (a2 g hg).2⟩, fun g hg => ⟨fun h => (a3 g hg).1 (hn _ (owns_lt h7 g hg) h), (a3 g hg).2⟩, fun g hg => ⟨fun h => (a4 g hg).1 (hn _ (h8.lt g hg) h), (a4 g hg).2⟩⟩, fun i xs hi => ?_, fun i xs hi => ?_⟩
  · obtain ⟨p, b1, b3⟩ := h10 i xs hi
    exact ⟨p, b1, b3.tight.mono (Same.refl _ _) (fun b hb => hS b hb.1 hb.2)⟩
  · obtain ⟨r, b2, b4⟩ := h11 i xs hi
    exact ⟨r, b2, b4.tight.mono (Same.refl _ _) (fun b hb => hS b hb.1 hb.2)⟩
theorem Tab.wide (h : Tab n0 S w tb L M vP vR vB ps rs cs) : Tab n0 (Up S w.heap.size) w tb L M vP vR vB ps rs cs :=
  h.sub (fun _ hb _ => .inl hb) (fun _ hb h => h.elim id (fun h => absurd hb (by omega)))
theorem Tab.tight (h : Tab n0 S w tb L M vP vR vB ps rs cs) : Tab n0 (fun x => S x ∧ x < w.heap.size) w tb L M vP vR vB ps rs cs :=
  h.sub (fun _ hb hl => ⟨hb, hl⟩) (fun _ _ h => h.1)

/-- The buffer is written. -/
theorem Tab.but (h : Tab n0 S w tb L M vP vR vB ps rs cs) {g : Nat} (hg : vB.ownBlock = some g) (hk : KeptBut g w w') {cs' : List Value} (hb : BufAt n0 w' vB cs') : Tab n0 S w' tb L M vP vR vB ps rs cs' := by
  have hlt := h.lt
  have hh := h
  obtain ⟨_, _, _, _, _, h6, h7, h8, ⟨_, _, _, a4⟩, _⟩ := h
  obtain ⟨n1, n2, n3, n4⟩ := a4 g hg
  exact hh.move cs' (hk.2.2.2.2 tb hlt (fun e => n2 e.symm)) (fun k hk' => hk.2.2.2.2 k (owns_lt h6 k hk') (fun e => n3 (by rw [hk', e]))) (fun k hk' => hk.2.2.2.2 k (owns_lt h7 k hk') (fun e => n4 (by rw [hk', e]))) hb (hk.same n1)

/-- Another buffer, in a new block. -/
theorem Tab.rebuf (h : Tab n0 S w tb L M vP vR vB ps rs cs) {g n : Nat} {cs' : List Value} (hk : Kept w w') (hg : w.heap.size ≤ g) (hn : n0 ≤ g) (hr : RowOf w' g cs') (hl : cs'.length = n) :
    Tab n0 (fun x => S x ∧ x < w.heap.size) (w'.setCell ⟨tb, 2, none⟩ (.slice (some ⟨g, 0, none⟩) n n)) tb L M vP vR (.slice (some ⟨g, 0, none⟩) n n) ps rs cs' := by
  subst hl
  have hlt := h.lt
  obtain ⟨h1, h2, h3, h4, h5, h6, h7, h8, ⟨a1, a2, a3, a4⟩, h10, h11⟩ := h.tight.kept hk
  have hset : ∀ k, k ≠ tb → (w'.setCell ⟨tb, 2, none⟩ (.slice (some ⟨g, 0, none⟩) cs'.length cs'.length)).heap[k]? = w'.heap[k]? := fun k hne => Below.heap_setCell _ _ _ _ hne
  have hP := fun k (hk' : vP.ownBlock = some k) => hset k (a2 k hk').2
  have hR := fun k (hk' : vR.ownBlock = some k) => hset k (a3 k hk').2.1
  have hPl : ∀ k, vP.ownBlock = some k → k < w.heap.size := by
    obtain ⟨_, _, _, _, _, h6, _⟩ := h
    exact owns_lt h6
  have hRl : ∀ k, vR.ownBlock = some k → k < w.heap.size := by
    obtain ⟨_, _, _, _, _, _, h7, _⟩ := h
    exact owns_lt h7
  have hbut : KeptBut tb w' (w'.setCell ⟨tb, 2, none⟩ (.slice (some ⟨g, 0, none⟩) cs'.length cs'.length)) := (KeptBut.refl tb w').set 2 _
  refine ⟨h1, fun o => by rw [World.frozen?_setCell]; exact h2 o, set_other _ (by decide) h3, set_other _ (by decide) h4, set_same _ h5, owns_same h6 hP, owns_same h7 hR, .inr ⟨g, rfl, hn, ?_⟩, ⟨a1, a2, a3, fun k hk' => ?_⟩, fun i xs hi => ?_, fun i xs hi => ?_⟩
  · unfold RowOf at hr ⊢
    rw [hset g (by omega)]; exact hr
  · simp only [Value.ownBlock, Option.some.injEq] at hk'
    subst hk'
    exact ⟨fun h => by have := h.2; omega, by omega, fun h => by have := hPl _ h; omega, fun h => by have := hRl _ h; omega⟩
  · obtain ⟨p, b1, b3⟩ := h10 i xs hi
    exact ⟨p, b1, b3.mono (hbut.same a1) (fun _ h => h)⟩
  · obtain ⟨r, b2, b4⟩ := h11 i xs hi
    exact ⟨r, b2, b4.mono (hbut.same a1) (fun _ h => h)⟩
end

section
variable {n0 tb g : Nat} {S : Nat → Prop} {w w1 w2 : World} {L M : List (List Int)} {vP vR vB v' p r : Value} {ps rs cs : List Value} {xs : List Int}

/-- What an append and a store of the field leave: all but the row and the table. -/
theorem grow_heap (hk : Kept w w1) {row : Option Nat} (hg : w1.grownBy w2 row) (o : Nat) (v : Value) : ∀ k, k < w.heap.size → k ≠ tb → row ≠ some k → (w2.setCell ⟨tb, o, none⟩ v).heap[k]? = w.heap[k]? := by
  intro k hk1 hne hr
  have := hk.size
  rw [Below.heap_setCell _ _ _ _ hne, hg.block k (by omega) (fun e => hr e.symm), hk.2.2.2.2 k hk1]
theorem grow_low (hk : Kept w w1) {row : Option Nat} (hg : w1.grownBy w2 row) (hn : n0 ≤ w.heap.size) (hr : ∀ k, row = some k → n0 ≤ k) (ht : n0 ≤ tb) (o : Nat) (v : Value) : Below n0 w (w2.setCell ⟨tb, o, none⟩ v) :=
  ((hk.below.mono hn).grown hg (Nat.le_trans hn hk.size) hr).setCell ht v

theorem snoc_some {α : Type} {l : List α} {a x : α} {i : Nat} (h : (l ++ [a])[i]? = some x) : l[i]? = some x ∨ (i = l.length ∧ x = a) := by
  by_cases hi : i < l.length
  · rw [List.getElem?_append_left hi] at h; exact .inl h
  · rw [List.getElem?_append_right (by omega)] at h
    have hil : i - l.length < 1 := by have := (List.getElem?_eq_some_iff.1 h).1; simpa using this
    obtain rfl : i = l.length := by omega
    simp at h
    exact .inr ⟨rfl, h.symm⟩

theorem Tab.addP (h : Tab n0 S w tb L M vP vR vB ps rs cs) (hp : RopeAt S w p xs) (hk : Kept w w1) (hg : w1.grownBy w2 vP.ownBlock) (ho : w2.ownsRow n0 24 1 v' (L.length + 1) (ps ++ [p]))
    (hv : v'.ownBlock = some g) (hgg : vP.ownBlock = some g ∨ g = w1.heap.size) : Tab n0 (fun x => S x ∧ x < w.heap.size) (w2.setCell ⟨tb, 0, none⟩ v') tb (L ++ [xs]) M v' vR vB (ps ++ [p]) rs cs := by
  have hlt := h.lt
  have hsz := hk.size
  have hpl : ps.length = L.length := by obtain ⟨_, _, _, _, _, h6, _⟩ := h; simpa using h6.1
  obtain ⟨h1, h2, h3, h4, h5, h6, h7, h8, ⟨a1, a2, a3, a4⟩, h10, h11⟩ := h
  have hH := fun k => grow_heap (tb := tb) hk hg 0 v' k
  have ptb : vP.ownBlock ≠ some tb := fun e => (a2 tb e).2 rfl
  have hgtb : g ≠ tb := by rcases hgg with e | e; exact (a2 g e).2; omega
  have hw2 : w2.heap[tb]? = w.heap[tb]? := by rw [hg.block tb (by omega) (fun e => ptb e.symm), hk.2.2.2.2 tb hlt]
  have hs : Same (fun x => S x ∧ x < w.heap.size) w (w2.setCell ⟨tb, 0, none⟩ v') := by
    have hblk : ∀ b, S b ∧ b < w.heap.size → (w2.setCell ⟨tb, 0, none⟩ v').heap[b]? = w.heap[b]? := fun b hb => hH b hb.2 (fun e => a1 (e ▸ hb.1)) (fun e => (a2 b e).1 hb.1)
    exact ⟨fun b o v hb hc => by rw [World.cell?_of_block (w := w) (a := ⟨b, o, none⟩) (hblk b hb)]; exact hc, fun b v hb _ hpn o => by rw [World.frozen?_of_block (w := w) (a := ⟨b, o, none⟩) (hblk b hb)]; exact hpn o⟩
  refine ⟨h1, fun o => ?_, ?_, ?_, ?_, ?_, owns_same h7 (fun k hk' => hH k (owns_lt h7 k hk') (a3 k hk').2.1 (a3 k hk').2.2), h8.same (fun k hk' => hH k (h8.lt k hk') (a4 k hk').2.1 (a4 k hk').2.2.1), ⟨fun h => a1 h.1, fun k hk' => ?_, fun k hk' => ?_, fun k hk' => ?_⟩, fun i ys hi => ?_, fun i ys hi => ?_⟩
  · rw [World.frozen?_setCell, World.frozen?_of_block (w := w) (a := ⟨tb, o, none⟩) hw2]; exact h2 o
  · exact set_same (u := vP) _ (by rw [World.cell?_of_block (w := w) (a := ⟨tb, 0, none⟩) hw2]; exact h3)
  · exact set_other _ (by decide) (by rw [World.cell?_of_block (w := w) (a := ⟨tb, 1, none⟩) hw2]; exact h4)
  · exact set_other _ (by decide) (by rw [World.cell?_of_block (w := w) (a := ⟨tb, 2, none⟩) hw2]; exact h5)
  · rw [List.length_append]
    exact owns_same ho (fun k hk' => Below.heap_setCell _ _ _ _ (by rw [hv] at hk'; injection hk' with e; exact e ▸ hgtb))
  · rw [hv] at hk'
    injection hk' with e
    subst e
    refine ⟨fun hb => ?_, hgtb⟩
    rcases hgg with e | e
    · exact (a2 g e).1 hb.1
    · have := hb.2; omega
  · refine ⟨fun hb => (a3 k hk').1 hb.1, (a3 k hk').2.1, fun e => ?_⟩
    rw [hv] at e
    injection e with e
    subst e
    rcases hgg with e | e
    · exact (a3 g hk').2.2 e
    · have := owns_lt h7 g hk'; omega
  · refine ⟨fun hb => (a4 k hk').1 hb.1, (a4 k hk').2.1, fun e => ?_, (a4 k hk').2.2.2⟩
    rw [hv] at e
    injection e with e
    subst e
    rcases hgg with e | e
    · exact (a4 g hk').2.2.1 e
    · have := h8.lt g hk'; omega
  · rcases snoc_some hi with hi | ⟨rfl, rfl⟩
    · obtain ⟨q, b1, b3⟩ := h10 i ys hi
      exact ⟨q, by rw [List.getElem?_append_left (List.getElem?_eq_some_iff.1 b1).1]; exact b1, b3.tight.mono hs (fun _ h => h)⟩
    · exact ⟨p, by rw [← hpl]; simp, hp.tight.mono hs (fun _ h => h)⟩
  · obtain ⟨q, b2, b4⟩ := h11 i ys hi
    exact ⟨q, b2, b4.tight.mono hs (fun _ h => h)⟩

theorem Tab.addR (h : Tab n0 S w tb L M vP vR vB ps rs cs) (hp : RefAt S w r xs) (hk : Kept w w1) (hg : w1.grownBy w2 vR.ownBlock) (ho : w2.ownsRow n0 56 1 v' (M.length + 1) (rs ++ [r]))
    (hv : v'.ownBlock = some g) (hgg : vR.ownBlock = some g ∨ g = w1.heap.size) : Tab n0 (fun x => S x ∧ x < w.heap.size) (w2.setCell ⟨tb, 1, none⟩ v') tb L (M ++ [xs]) vP v' vB ps (rs ++ [r]) cs := by
  have hlt := h.lt
  have hsz := hk.size
  have hpl : rs.length = M.length := by obtain ⟨_, _, _, _, _, _, h7, _⟩ := h; simpa using h7.1
  obtain ⟨h1, h2, h3, h4, h5, h6, h7, h8, ⟨a1, a2, a3, a4⟩, h10, h11⟩ := h
  have hH := fun k => grow_heap (tb := tb) hk hg 1 v' k
  have ptb : vR.ownBlock ≠ some tb := fun e => (a3 tb e).2.1 rfl
  have hgtb : g ≠ tb := by rcases hgg with e | e; exact (a3 g e).2.1; omega
  have hw2 : w2.heap[tb]? = w.heap[tb]? := by rw [hg.block tb (by omega) (fun e => ptb e.symm), hk.2.2.2.2 tb hlt]
  have hs : Same (fun x => S x ∧ x < w.heap.size) w (w2.setCell ⟨tb, 1, none⟩ v') := by
    have hblk : ∀ b, S b ∧ b < w.heap.size → (w2.setCell ⟨tb, 1, none⟩ v').heap[b]? = w.heap[b]? := fun b hb => hH b hb.2 (fun e => a1 (e ▸ hb.1)) (fun e => (a3 b e).1 hb.1)
    exact ⟨fun b o v hb hc => by rw [World.cell?_of_block (w := w) (a := ⟨b, o, none⟩) (hblk b hb)]; exact hc, fun b v hb _ hpn o => by rw [World.frozen?_of_block (w := w) (a := ⟨b, o, none⟩) (hblk b hb)]; exact hpn o⟩
  refine ⟨h1, fun o => ?_, ?_, ?_, ?_, owns_same h6 (fun k hk' => hH k (owns_lt h6 k hk') (a2 k hk').2 (fun e => (a3 k e).2.2 hk')), ?_, h8.same (fun k hk' => hH k (h8.lt k hk') (a4 k hk').2.1 (a4 k hk').2.2.2), ⟨fun h => a1 h.1, fun k hk' => ⟨fun hb => (a2 k hk').1 hb.1, (a2 k hk').2⟩, fun k hk' => ?_, fun k hk' => ?_⟩, fun i ys hi => ?_, fun i ys hi => ?_⟩
  · rw [World.frozen?_setCell, World.frozen?_of_block (w := w) (a := ⟨tb, o, none⟩) hw2]; exact h2 o
  · exact set_other _ (by decide) (by rw [World.cell?_of_block (w := w) (a := ⟨tb, 0, none⟩) hw2]; exact h3)
  · exact set_same (u := vR) _ (by rw [World.cell?_of_block (w := w) (a := ⟨tb, 1, none⟩) hw2]; exact h4)
  · exact set_other _ (by decide) (by rw [World.cell?_of_block (w := w) (a := ⟨tb, 2, none⟩) hw2]; exact h5)
  · rw [List.length_append]
    exact owns_same ho (fun k hk' => Below.heap_setCell _ _ _ _ (by rw [hv] at hk'; injection hk' with e; exact e ▸ hgtb))
  · rw [hv] at hk'
    injection hk' with e
    subst e
    refine ⟨fun hb => ?_, hgtb, fun e2 => ?_⟩
    · rcases hgg with e | e
      · exact (a3 g e).1 hb.1
      · have := hb.2; omega
    · rcases hgg with e | e
      · exact (a3 g e).2.2 e2
      · have := owns_lt h6 g e2; omega
  · refine ⟨fun hb => (a4 k hk').1 hb.1, (a4 k hk').2.1, (a4 k hk').2.2.1, fun e => ?_⟩
    rw [hv] at e
    injection e with e
    subst e
    rcases hgg with e | e
    · exact (a4 g hk').2.2.2 e
    · have := h8.lt g hk'; omega
  · obtain ⟨q, b2, b4⟩ := h10 i ys hi
    exact ⟨q, b2, b4.tight.mono hs (fun _ h => h)⟩
  · rcases snoc_some hi with hi | ⟨rfl, rfl⟩
    · obtain ⟨q, b1, b3⟩ := h11 i ys hi
      exact ⟨q, by rw [List.getElem?_append_left (List.getElem?_eq_some_iff.1 b1).1]; exact b1, b3.tight.mono hs (fun _ h => h)⟩
    · exact ⟨r, by rw [← hpl]; simp, hp.tight.mono hs (fun _ h => h)⟩
end

/-- The row's front is xs, with marks behind. -/
def Marked (cs : List Value) (xs : List Int) : Prop := cs.take xs.length = bytesV xs ∧ ∀ j, j < 5 → cs[xs.length + j]? = some (.int .u8 169)

theorem RowOf.list {w : World} {g cap : Nat} {cs : List Value} {xs : List Int} (h : RowOf w g cs) (hm : cs.take xs.length = bytesV xs) (hb : Byt xs) (hc : xs.length ≤ cap) : ListAt (fun b => b = g) w (.slice (some ⟨g, 0, none⟩) xs.length cap) xs := by
  refine .inr ⟨g, 0, cap, rfl, hc, rfl, fun j x hx => ?_, hb⟩
  have hj : j < xs.length := (List.getElem?_eq_some_iff.1 hx).1
  have e : (cs.take xs.length)[j]? = some (.int .u8 x) := by rw [hm]; exact bytesV_at xs j x hx
  rw [List.getElem?_take, if_pos hj] at e
  obtain ⟨hjc, he⟩ := List.getElem?_eq_some_iff.1 e
  rw [Nat.zero_add, h.cell hjc, he]

theorem make_any (w : World) (n : Nat) (hn : n ≤ 281474976710656) : ∃ w' cs, (Instr.makeSlice 22 (.int .i64 n) (.int .i64 n)).run Try.prog w = .ok (.slice (some ⟨w.heap.size, 0, none⟩) n n) w' ∧ RowOf w' w.heap.size cs ∧ cs.length = n ∧ Kept w w' := by
  obtain ⟨i0, hi, hz0, hz1, hz2⟩ := info_parts u8_info
  have h := run_make (P := Try.prog) w 22 5 i0 (.int .u8 0) Try.underlying22 hi hz0 .i64 .i64 n n (by omega) (by omega) (by rw [hz2]; omega) (by omega)
  rw [Int.toNat_natCast, hz1, Nat.mul_one] at h
  refine ⟨_, (madeCells (Value.int .u8 0).cells n).toList, h, ?_, ?_, (Kept.refl w).alloc _ _⟩
  · unfold RowOf; show (w.heap.push _)[w.heap.size]? = _; simp
  · rw [Array.length_toList, size_madeCells]

theorem setRow_but (w : World) (g : Nat) (cs : Array Value) : KeptBut g w (w.setRow g cs) :=
  ⟨rfl, rfl, rfl, by simp [World.setRow], fun k hk hne => by
    unfold World.setRow
    simp only
    rw [Array.getElem?_modify, if_neg (fun e => hne e.symm)]⟩

theorem copy_into (S : Nat → Prop) (w : World) (g : Nat) (cs : List Value) (a : Option Addr) (m cap : Nat) (xs : List Int) (hg : RowOf w g cs) (hv : ListAt S w (.slice a m cap) xs) (hm : m = xs.length) (n c : Nat) (hn : xs.length ≤ n) (hc : n ≤ cs.length) :
    ∃ w', (Builtin.copy_ #[22, 22] 3 #[.slice (some ⟨g, 0, none⟩) n c, .slice a m cap]).run Try.prog w = .ok (.int .i64 m) w' ∧ RowOf w' g (splice cs 0 (bytesV xs)) ∧ KeptBut g w w' := by
  subst hm
  have hmin : (bytesV xs).length = Nat.min xs.length n := by rw [bytesV_len]; exact (Nat.min_eq_left hn).symm
  rcases hv with ⟨rfl, a', cap', he⟩ | ⟨c', o, cap', he, _, _, hc', _⟩
  · exact ⟨w, run_copy_none (P := Try.prog) w 22 22 3 5 _ _ _ _ _ _ Try.underlying22 u8_size (Nat.min_eq_left (Nat.zero_le _)), by simpa [splice, bytesV] using hg, KeptBut.refl _ _⟩
  · simp only [Value.slice.injEq] at he
    obtain ⟨rfl, _, rfl⟩ := he
    have h := run_copy_row (P := Try.prog) w 22 22 3 5 g 0 n c ⟨c', o, none⟩ xs.length cap cs.toArray 5 (bytesV xs) Try.underlying22 u8_size hg hmin (SliceAt.news hc') (by simp [bytesV_len]; omega) (bytesV_one xs)
    rw [bytesV_len] at h
    refine ⟨_, h, ?_, setRow_but _ _ _⟩
    unfold RowOf at hg ⊢
    rw [setRow_heap w g _ _ _ _ hg]
    simp [splice, bytesV_len]

end Rope
end Go.Proofs.Ythjagnnbhpfpoaa
