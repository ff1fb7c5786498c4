import Derived.Test.YteckbpmliahhhaaMDeMa
import Derived.Test.YteckbpmliahhhaaTrMkN
import Derived.Test.YteckbpmliahhhaaMDeHd
import Derived.Test.YteckbpmliahhhaaMExPat
namespace Go.Proofs.Yteckbpmliahhhaa
open Go.RowKit
attribute [local go_sem] Oper.semAt_some
namespace Ex
namespace Tr

/-- Lists of the program's nodes. -/
def ndE : ElK Nat := { T := 43, TT := 29, sz := 1, by_ := 8, z := .pointer none, enc := encPn, pos := by decide, info := by kernel_rfl, zs := rfl, und := Try.underlying29, len := fun _ => rfl, one := encPn_one }
/-- A node of the program whose blocks lie in the set V. -/
def NdV (V : Nat → Prop) (w : World) (b : Nat) (x : Nd) : Prop := V b ∧ ∃ kv, w.heap[b]? = some (.cells (cellsN x kv) 88 (0, 0)) ∧ ∃ a cap, kv = .slice a x.kids.length cap ∧ x.kids.length ≤ cap ∧ x.kids.length ≤ 4194304 ∧ (x.kids = [] ∨ ∃ g, a = some ⟨g, 0, none⟩ ∧ V g ∧ ∀ (i : Nat) (q : Nat × Nat), x.kids[i]? = some q → w.cell? ⟨g, i * 2, none⟩ = some (.pointer (some ⟨q.1, 0, none⟩)) ∧ w.cell? ⟨g, i * 2 + 1, none⟩ = some (.int .i64 (q.2 : Int)))
theorem KX.cel {V : Nat → Prop} {w w' : World} (h : KX V w w') {d o : Nat} {v : Value} (hd : V d) (hc : w.cell? ⟨d, o, none⟩ = some v) : w'.cell? ⟨d, o, none⟩ = some v := (World.cell?_of_block (w := w) (a := ⟨d, o, none⟩) (h.2 d hd)).trans hc
theorem NdV.kx {V : Nat → Prop} {w w' : World} {b : Nat} {x : Nd} (h : NdV V w b x) (hk : KX V w w') : NdV V w' b x := by
  obtain ⟨h0, kv, h1, a, cap, h2, h3, h4, h5⟩ := h
  refine ⟨h0, kv, (hk.2 b h0).trans h1, a, cap, h2, h3, h4, ?_⟩
  rcases h5 with h5 | ⟨g, h6, h7, h8⟩
  · exact Or.inl h5
  · exact Or.inr ⟨g, h6, h7, fun i q hq => ⟨hk.cel h7 (h8 i q hq).1, hk.cel h7 (h8 i q hq).2⟩⟩
theorem NdV.more {V V' : Nat → Prop} {w : World} {b : Nat} {x : Nd} (h : NdV V w b x) (hV : ∀ k, V k → V' k) : NdV V' w b x := by
  obtain ⟨h0, kv, h1, a, cap, h2, h3, h4, h5⟩ := h
  refine ⟨hV _ h0, kv, h1, a, cap, h2, h3, h4, ?_⟩
  rcases h5 with h5 | ⟨g, h6, h7, h8⟩
  · exact Or.inl h5
  · exact Or.inr ⟨g, h6, hV _ h7, h8⟩
theorem NdV.at {V : Nat → Prop} {B : Nat} {w : World} {b : Nat} {x : Nd} (h : NdV V w b x) (hB : ∀ k, V k → k < B) : NodeAt B w b x := by
  obtain ⟨h0, kv, h1, a, cap, h2, h3, h4, h5⟩ := h
  refine ⟨hB _ h0, kv, h1, a, cap, h2, h3, h4, ?_⟩
  rcases h5 with h5 | ⟨g, h6, h7, h8⟩
  · exact Or.inl h5
  · exact Or.inr ⟨g, h6, hB _ h7, h8⟩
theorem ndV_of {A B b : Nat} {w : World} {x : Nd} (h : NodeAt B w b x) (hA : A ≤ b) (hl : RowLow A w b ∨ x.kids = []) : NdV (fun k => A ≤ k ∧ k < B) w b x := by
  obtain ⟨h0, kv, h1, a, cap, h2, h3, h4, h5⟩ := h
  refine ⟨⟨hA, h0⟩, kv, h1, a, cap, h2, h3, h4, ?_⟩
  rcases h5 with h5 | ⟨g, h6, h7, h8⟩
  · exact Or.inl h5
  · rcases hl with hl | hl
    · refine Or.inr ⟨g, h6, ⟨hl kv (by simp [World.cell?, h1, cellsN]) g (by rw [h2, h6]; rfl), h7⟩, h8⟩
    · exact Or.inl hl
theorem PnV.kx {V : Nat → Prop} {w w' : World} {b : Nat} {p : Pn} (h : PnV V w b p) (hk : KX V w w') : PnV V w' b p := by
  obtain ⟨h0, a, c, h1, h2, h3⟩ := h
  refine ⟨h0, a, c, (hk.2 b h0).trans h1, h2, fun i k hi => ?_⟩
  obtain ⟨g, o, e, hg, h4⟩ := h3 i k hi
  exact ⟨g, o, e, hg, hk.cel hg h4⟩
theorem PnV.more {V V' : Nat → Prop} {w : World} {b : Nat} {p : Pn} (h : PnV V w b p) (hV : ∀ k, V k → V' k) : PnV V' w b p := by
  obtain ⟨h0, a, c, h1, h2, h3⟩ := h
  refine ⟨hV _ h0, a, c, h1, h2, fun i k hi => ?_⟩
  obtain ⟨g, o, e, hg, h4⟩ := h3 i k hi
  exact ⟨g, o, e, hV _ hg, h4⟩
/-- A node with no children. -/
theorem pnV_leaf {V : Nat → Prop} {w : World} {b : Nat} {p : Pn} (h : PnAt w b p) (hV : V b) (hk : p.kids = []) : PnV V w b p := by
  obtain ⟨a, c, h1, h2, h3⟩ := h
  exact ⟨hV, a, c, h1, h2, fun i k hi => by rw [hk] at hi; simp at hi⟩
/-- A node that gets its number. -/
def withId (p : Pn) (id : Int) : Pn := { p with id := id }
theorem PnV.setId {V : Nat → Prop} {w : World} {b : Nat} {p : Pn} (h : PnV V w b p) (id : Int) : PnV V (w.setCell ⟨b, 0, none⟩ (.int .i64 id)) b (withId p id) := by
  obtain ⟨h0, a, c, h1, h2, h3⟩ := h
  have hl := (Array.getElem?_eq_some_iff.1 h1).1
  have he := Option.some.inj ((Array.getElem?_eq_getElem hl).symm.trans h1)
  refine ⟨h0, a, c, ?_, h2, fun i k hi => ?_⟩
  · simp [World.setCell, Array.getElem_modify, hl, he, withId]
  · obtain ⟨g, o, e, hg, h4⟩ := h3 i k hi
    have hgb : g ≠ b := by
      rintro rfl
      simp only [World.cell?, h1] at h4
      have h5 : o + i < 9 := by
        rcases Nat.lt_or_ge (o + i) 9 with h | h
        · exact h
        · simp [h] at h4
      have h6 : o + i = 0 ∨ o + i = 1 ∨ o + i = 2 ∨ o + i = 3 ∨ o + i = 4 ∨ o + i = 5 ∨ o + i = 6 ∨ o + i = 7 ∨ o + i = 8 := by omega
      rcases h6 with h6 | h6 | h6 | h6 | h6 | h6 | h6 | h6 | h6 <;> rw [h6] at h4 <;> simp at h4
    exact ⟨g, o, e, hg, (World.cell?_of_block (w := w) (a := ⟨g, o + i, none⟩) (Below.heap_setCell _ _ _ _ hgb)).trans h4⟩
/-- A grove in memory: its struct in block gb, its store s, V the blocks of the nodes. -/
structure GrM (base gb s : Nat) (V : Nat → Prop) (P Q : List Nat) (N : Nat → Nd) (X : Nat → Pn) (m : Nat) (vN vP : Value) (w : World) : Prop where
  box : w.heap[gb]? = some (.cells #[.pointer (some ⟨s, 0, none⟩), vN, vP] 32 (0, 0))
  st : StoreAt w s m
  nl : LO ndE w base vN P
  pl : LO pnE w base vP Q
  lo : gb < base ∧ s < base ∧ s ≠ gb ∧ base ≤ w.heap.size
  ap : ∀ g, vN.ownBlock = some g → vP.ownBlock ≠ some g
  vs : ∀ k, V k → base ≤ k ∧ k < w.heap.size ∧ vN.ownBlock ≠ some k ∧ vP.ownBlock ≠ some k
  nd : ∀ b ∈ P, NdV V w b (N b)
  pn : ∀ d ∈ Q, PnV V w d (X d)
section
variable {base gb s : Nat} {V : Nat → Prop} {P Q : List Nat} {N : Nat → Nd} {X : Nat → Pn} {m : Nat} {vN vP : Value} {w w' : World}
theorem GrM.keep (h : GrM base gb s V P Q N X m vN vP w) (hk : Kept w w') : GrM base gb s V P Q N X m vN vP w' := by
  have hx : KX V w w' := ⟨hk.2.2.2.1, fun k hk' => hk.2.2.2.2 k (h.vs k hk').2.1⟩
  refine ⟨(hk.2.2.2.2 gb (Array.getElem?_eq_some_iff.1 h.box).1).trans h.box, h.st.keep hk, h.nl.keep hk, h.pl.keep hk, ?_, h.ap, fun k hk' => ?_, fun b hb => (h.nd b hb).kx hx, fun d hd => (h.pn d hd).kx hx⟩
  · have := hk.2.2.2.1
    have := h.lo
    omega
  · obtain ⟨a1, a2, a3⟩ := h.vs k hk'
    exact ⟨a1, Nat.lt_of_lt_of_le a2 hk.2.2.2.1, a3⟩
theorem GrM.but (h : GrM base gb s V P Q N X m vN vP w) {m' : Nat} (hk : KeptBut s w w') (g0 : StoreAt w' s m') : GrM base gb s V P Q N X m' vN vP w' := by
  have hlo := h.lo
  have hx : KX V w w' := ⟨hk.2.2.2.1, fun k hk' => hk.2.2.2.2 k (h.vs k hk').2.1 (by have := (h.vs k hk').1; omega)⟩
  refine ⟨(hk.2.2.2.2 gb (Array.getElem?_eq_some_iff.1 h.box).1 (by omega)).trans h.box, g0, h.nl.same (fun g hg => hk.2.2.2.2 g (h.nl.lt' g hg).2 (by have := (h.nl.lt' g hg).1; omega)), h.pl.same (fun g hg => hk.2.2.2.2 g (h.pl.lt' g hg).2 (by have := (h.pl.lt' g hg).1; omega)), ?_, h.ap, fun k hk' => ?_, fun b hb => (h.nd b hb).kx hx, fun d hd => (h.pn d hd).kx hx⟩
  · have := hk.2.2.2.1
    omega
  · obtain ⟨a1, a2, a3⟩ := h.vs k hk'
    exact ⟨a1, Nat.lt_of_lt_of_le a2 hk.2.2.2.1, a3⟩
/-- What a grove's blocks are below. -/
structure GrU (gb : Nat) (V : Nat → Prop) (vN vP : Value) (hw : Nat) : Prop where
  gb : gb < hw
  vs : ∀ k, V k → k < hw
  nl : ∀ g, vN.ownBlock = some g → g < hw
  pl : ∀ g, vP.ownBlock = some g → g < hw
theorem GrM.under (h : GrM base gb s V P Q N X m vN vP w) : GrU gb V vN vP w.heap.size := ⟨(Array.getElem?_eq_some_iff.1 h.box).1, fun k hk => (h.vs k hk).2.1, fun g hg => (h.nl.lt' g hg).2, fun g hg => (h.pl.lt' g hg).2⟩
theorem GrM.below (h : GrM base gb s V P Q N X m vN vP w) {hw : Nat} (hU : GrU gb V vN vP hw) (hb : base ≤ hw) (hk : KB hw w w') : GrM base gb s V P Q N X m vN vP w' := by
  have hlo := h.lo
  have hx : KX V w w' := ⟨hk.1, fun k hk' => hk.2 k (hU.vs k hk')⟩
  refine ⟨(hk.2 gb hU.gb).trans h.box, (hk.2 s (by omega)).trans h.st, h.nl.same (fun g hg => hk.2 g (hU.nl g hg)), h.pl.same (fun g hg => hk.2 g (hU.pl g hg)), ?_, h.ap, fun k hk' => ?_, fun b hb => (h.nd b hb).kx hx, fun d hd => (h.pn d hd).kx hx⟩
  · have := hk.1
    omega
  · obtain ⟨a1, a2, a3⟩ := h.vs k hk'
    exact ⟨a1, Nat.lt_of_lt_of_le a2 hk.1, a3⟩
theorem set3g {w : World} {g : Nat} {y0 y1 y2 : Value} {t : TypeId} (h : w.heap[g]? = some (.cells #[y0, y1, y2] t (0, 0))) (x : Value) : (w.setCell ⟨g, 1, none⟩ x).heap[g]? = some (.cells #[y0, x, y2] t (0, 0)) ∧ (w.setCell ⟨g, 2, none⟩ x).heap[g]? = some (.cells #[y0, y1, x] t (0, 0)) := by
  have hl := (Array.getElem?_eq_some_iff.1 h).1
  have he := Option.some.inj ((Array.getElem?_eq_getElem hl).symm.trans h)
  refine ⟨?_, ?_⟩ <;> simp [World.setCell, Array.getElem_modify, hl, he]
/-- The list of nodes has one more. -/
theorem gr_addN {Vb : Nat → Prop} {b g n c : Nat} {wa w5 : World} {Y : Nd} (hM : GrM base gb s V P Q N X m vN vP w)
    (hVb : ∀ k, Vb k → base ≤ k ∧ k < w.heap.size ∧ vN.ownBlock ≠ some k ∧ vP.ownBlock ≠ some k) (hb : NdV Vb w b Y) (hbP : b ∉ P)
    (hka : Kept w wa) (hO : LO ndE w5 base (.slice (some ⟨g, 0, none⟩) n c) (P ++ [b])) (hg : wa.grownBy w5 vN.ownBlock) (hor : vN.ownBlock = some g ∨ g = wa.heap.size) :
    GrM base gb s (fun k => V k ∨ Vb k) (P ++ [b]) Q (fun k => if k = b then Y else N k) X m (.slice (some ⟨g, 0, none⟩) n c) vP (w5.setCell ⟨gb, 1, none⟩ (.slice (some ⟨g, 0, none⟩) n c)) ∧ (∀ k, k < w.heap.size → k ≠ gb → vN.ownBlock ≠ some k → (w5.setCell ⟨gb, 1, none⟩ (.slice (some ⟨g, 0, none⟩) n c)).heap[k]? = w.heap[k]?) ∧ w.heap.size ≤ w5.heap.size := by
  have hlo := hM.lo
  have hs : w.heap.size ≤ w5.heap.size := Nat.le_trans hka.size hg.size
  have h5 : ∀ k, k < w.heap.size → vN.ownBlock ≠ some k → w5.heap[k]? = w.heap[k]? := fun k hk hn => (hg.block k (Nat.lt_of_lt_of_le hk hka.size) (fun e => hn e.symm)).trans (hka.2.2.2.2 k hk)
  have hgl := (Array.getElem?_eq_some_iff.1 hM.box).1
  have hgN : vN.ownBlock ≠ some gb := fun e => by have := (hM.nl.lt' gb e).1; omega
  have hgP : vP.ownBlock ≠ some gb := fun e => by have := (hM.pl.lt' gb e).1; omega
  have hbox := (h5 gb hgl hgN).trans hM.box
  have hC : ∀ k, k < w.heap.size → k ≠ gb → vN.ownBlock ≠ some k → (w5.setCell ⟨gb, 1, none⟩ (.slice (some ⟨g, 0, none⟩) n c)).heap[k]? = w.heap[k]? := fun k hk hn1 hn2 => (Below.heap_setCell _ _ _ _ hn1).trans (h5 k hk hn2)
  have hsz : (w5.setCell ⟨gb, 1, none⟩ (.slice (some ⟨g, 0, none⟩) n c)).heap.size = w5.heap.size := by simp [World.setCell]
  have hgb := (hO.lt' g rfl).1
  have hall : ∀ k, (V k ∨ Vb k) → base ≤ k ∧ k < w.heap.size ∧ vN.ownBlock ≠ some k ∧ vP.ownBlock ≠ some k := by
    rintro k (h | h)
    · exact hM.vs k h
    · exact hVb k h
  have hgk : ∀ k, k < w.heap.size → vN.ownBlock ≠ some k → g ≠ k := fun k hk hn e => by
    rcases hor with h | h
    · exact hn (by rw [h, e])
    · have := hka.size; omega
  have hx : KX V w (w5.setCell ⟨gb, 1, none⟩ (.slice (some ⟨g, 0, none⟩) n c)) := ⟨by omega, fun k hk => by obtain ⟨a1, a2, a3, a4⟩ := hM.vs k hk; exact hC k a2 (by omega) a3⟩
  have hxb : KX Vb w (w5.setCell ⟨gb, 1, none⟩ (.slice (some ⟨g, 0, none⟩) n c)) := ⟨by omega, fun k hk => by obtain ⟨a1, a2, a3, a4⟩ := hVb k hk; exact hC k a2 (by omega) a3⟩
  refine ⟨⟨(set3g hbox _).1, ?_, ?_, ?_, by omega, fun d hd => ?_, fun k hk => ?_, fun d hd => ?_, fun d hd => ((hM.pn d hd).kx hx).more (fun k hk => Or.inl hk)⟩, hC, hs⟩
  · exact (hC s hM.st.lt hlo.2.2.1 (fun e => by have := (hM.nl.lt' s e).1; omega)).trans hM.st
  · exact hO.same (fun d hd => Below.heap_setCell _ _ _ _ (by have h9 := (hO.lt' d hd).1; show d ≠ gb; omega))
  · exact hM.pl.same (fun d hd => hC d (hM.pl.lt' d hd).2 (by have := (hM.pl.lt' d hd).1; omega) (fun e => hM.ap d e hd))
  · simp only [Value.ownBlock, Option.some.injEq] at hd
    subst hd
    intro e
    exact hgk g (hM.pl.lt' g e).2 (fun e2 => hM.ap g e2 e) rfl
  · obtain ⟨a1, a2, a3, a4⟩ := hall k hk
    refine ⟨a1, by omega, fun e => ?_, a4⟩
    simp only [Value.ownBlock, Option.some.injEq] at e
    exact hgk k a2 a3 e
  · rcases List.mem_append.1 hd with hd | hd
    · have e : (if d = b then Y else N d) = N d := if_neg (fun (e : d = b) => hbP (by rw [← e]; exact hd))
      try dsimp only
      rw [e]
      exact ((hM.nd d hd).kx hx).more (fun k hk => Or.inl hk)
    · rw [List.mem_singleton.1 hd]
      try dsimp only
      rw [if_pos rfl]
      exact (hb.kx hxb).more (fun k hk => Or.inr hk)
/-- The list of plain nodes has one more. -/
theorem gr_addP {Vd : Nat → Prop} {d g n c : Nat} {wa w5 : World} {Z : Pn} (hM : GrM base gb s V P Q N X m vN vP w)
    (hVd : ∀ k, Vd k → base ≤ k ∧ k < w.heap.size ∧ vN.ownBlock ≠ some k ∧ vP.ownBlock ≠ some k) (hd : PnV Vd w d Z) (hdQ : d ∉ Q)
    (hka : Kept w wa) (hO : LO pnE w5 base (.slice (some ⟨g, 0, none⟩) n c) (Q ++ [d])) (hg : wa.grownBy w5 vP.ownBlock) (hor : vP.ownBlock = some g ∨ g = wa.heap.size) :
    GrM base gb s (fun k => V k ∨ Vd k) P (Q ++ [d]) N (fun k => if k = d then Z else X k) m vN (.slice (some ⟨g, 0, none⟩) n c) (w5.setCell ⟨gb, 2, none⟩ (.slice (some ⟨g, 0, none⟩) n c)) ∧ (∀ k, k < w.heap.size → k ≠ gb → vP.ownBlock ≠ some k → (w5.setCell ⟨gb, 2, none⟩ (.slice (some ⟨g, 0, none⟩) n c)).heap[k]? = w.heap[k]?) ∧ w.heap.size ≤ w5.heap.size := by
  have hlo := hM.lo
  have hs : w.heap.size ≤ w5.heap.size := Nat.le_trans hka.size hg.size
  have h5 : ∀ k, k < w.heap.size → vP.ownBlock ≠ some k → w5.heap[k]? = w.heap[k]? := fun k hk hn => (hg.block k (Nat.lt_of_lt_of_le hk hka.size) (fun e => hn e.symm)).trans (hka.2.2.2.2 k hk)
  have hgl := (Array.getElem?_eq_some_iff.1 hM.box).1
  have hgN : vN.ownBlock ≠ some gb := fun e => by have := (hM.nl.lt' gb e).1; omega
  have hgP : vP.ownBlock ≠ some gb := fun e => by have := (hM.pl.lt' gb e).1; omega
  have hbox := (h5 gb hgl hgP).trans hM.box
  have hC : ∀ k, k < w.heap.size → k ≠ gb → vP.ownBlock ≠ some k → (w5.setCell ⟨gb, 2, none⟩ (.slice (some ⟨g, 0, none⟩) n c)).heap[k]? = w.heap[k]? := fun k hk hn1 hn2 => (Below.heap_setCell _ _ _ _ hn1).trans (h5 k hk hn2)
  have hsz : (w5.setCell ⟨gb, 2, none⟩ (.slice (some ⟨g, 0, none⟩) n c)).heap.size = w5.heap.size := by simp [World.setCell]
  have hgb := (hO.lt' g rfl).1
  have hall : ∀ k, (V k ∨ Vd k) → base ≤ k ∧ k < w.heap.size ∧ vN.ownBlock ≠ some k ∧ vP.ownBlock ≠ some k := by
    rintro k (h | h)
    · exact hM.vs k h
    · exact hVd k h
  have hgk : ∀ k, k < w.heap.size → vP.ownBlock ≠ some k → g ≠ k := fun k hk hn e => by
    rcases hor with h | h
    · exact hn (by rw [h, e])
    · have := hka.size; omega
  have hx : KX V w (w5.setCell ⟨gb, 2, none⟩ (.slice (some ⟨g, 0, none⟩) n c)) := ⟨by omega, fun k hk => by obtain ⟨a1, a2, a3, a4⟩ := hM.vs k hk; exact hC k a2 (by omega) a4⟩
  have hxd : KX Vd w (w5.setCell ⟨gb, 2, none⟩ (.slice (some ⟨g, 0, none⟩) n c)) := ⟨by omega, fun k hk => by obtain ⟨a1, a2, a3, a4⟩ := hVd k hk; exact hC k a2 (by omega) a4⟩
  refine ⟨⟨(set3g hbox _).2, ?_, ?_, ?_, by omega, fun e he => ?_, fun k hk => ?_, fun e he => ((hM.nd e he).kx hx).more (fun k hk => Or.inl hk), fun e he => ?_⟩, hC, hs⟩
  · exact (hC s hM.st.lt hlo.2.2.1 (fun e => by have := (hM.pl.lt' s e).1; omega)).trans hM.st
  · exact hM.nl.same (fun e he => hC e (hM.nl.lt' e he).2 (by have := (hM.nl.lt' e he).1; omega) (hM.ap e he))
  · exact hO.same (fun e he => Below.heap_setCell _ _ _ _ (by have h9 := (hO.lt' e he).1; show e ≠ gb; omega))
  · simp only [Value.ownBlock, ne_eq, Option.some.injEq]
    exact hgk e (hM.nl.lt' e he).2 (hM.ap e he)
  · obtain ⟨a1, a2, a3, a4⟩ := hall k hk
    refine ⟨a1, by omega, a3, fun e => ?_⟩
    simp only [Value.ownBlock, Option.some.injEq] at e
    exact hgk k a2 a4 e
  · rcases List.mem_append.1 he with he | he
    · have e1 : (if e = d then Z else X e) = X e := if_neg (fun (e2 : e = d) => hdQ (by rw [← e2]; exact he))
      try dsimp only
      rw [e1]
      exact ((hM.pn e he).kx hx).more (fun k hk => Or.inl hk)
    · rw [List.mem_singleton.1 he]
      try dsimp only
      rw [if_pos rfl]
      exact (hd.kx hxd).more (fun k hk => Or.inr hk)
end
/-- The j-th of a list. -/
def atL (P : List Nat) (j : Nat) : Nat := (P[j]?).getD 0
theorem atL_some {P : List Nat} {j b : Nat} (h : P[j]? = some b) : atL P j = b := by simp [atL, h]
theorem atL_mem {P : List Nat} {j : Nat} (h : j < P.length) : atL P j ∈ P := by
  unfold atL
  rw [List.getElem?_eq_getElem h]
  exact List.getElem_mem h
theorem atL_app {P : List Nat} {j b : Nat} (h : j < P.length) : atL (P ++ [b]) j = atL P j := by
  unfold atL
  rw [List.getElem?_append_left h]
theorem mkN_congr {N N' : Nat → Nd} {s m : Nat} {kd n : Int} {ks : List Nat} (h : ∀ b ∈ ks, N' b = N b) : makeN N' s m kd n ks = makeN N s m kd n ks := by
  have h1 : ∀ (ks : List Nat), (∀ b ∈ ks, N' b = N b) → sizeS N' ks = sizeS N ks ∧ widthS N' ks = widthS N ks ∧ leafS N' ks = leafS N ks ∧ (∀ fl, failS N' fl ks = failS N fl ks) ∧ ∀ a, kidG N' a ks = kidG N a ks := by
    intro ks
    induction ks with
    | nil => intro _; exact ⟨rfl, rfl, rfl, fun _ => rfl, fun _ => rfl⟩
    | cons b ks ih =>
      intro h
      obtain ⟨g1, g2, g3, g4, g5⟩ := ih (fun d hd => h d (List.mem_cons_of_mem _ hd))
      have hb := h b List.mem_cons_self
      refine ⟨?_, ?_, ?_, fun fl => ?_, fun a => ?_⟩
      · simp only [sizeS, List.map_cons, List.sum_cons, hb] at g1 ⊢; omega
      · simp only [widthS, List.map_cons, List.sum_cons, hb] at g2 ⊢; omega
      · simp only [leafS, List.map_cons, List.sum_cons, hb] at g3 ⊢; omega
      · have := g4 false
        simp only [failS, List.any_cons, hb, Bool.false_or] at this ⊢
        rw [this]
      · simp only [kidG, hb, g5]
  obtain ⟨g1, g2, g3, g4, g5⟩ := h1 ks h
  simp only [makeN, g1, g2, g3, g4, g5]
theorem szP_congr {X X' : Nat → Pn} : ∀ (ks : List Nat), (∀ b ∈ ks, X' b = X b) → szP X' ks = szP X ks
  | [], _ => rfl
  | b :: ks, h => by
    have h1 := szP_congr (X := X) (X' := X') ks (fun d hd => h d (List.mem_cons_of_mem _ hd))
    simp only [szP, List.map_cons, List.sum_cons, h b List.mem_cons_self] at h1 ⊢
    omega
/-- What the two nodes of a place are. -/
def TwP (s : Nat) (P Q : List Nat) (N : Nat → Nd) (X : Nat → Pn) (i b d : Nat) : Prop :=
  NdOk (N b) ∧ (N b).size ≤ 1500 ∧ (X d).size = ((N b).size : Int) ∧
    ((∃ l0 l1 l2 l3 : Int, N b = leafN s i l0 l1 l2 l3 ∧ X d = ⟨((i + 1 : Nat) : Int), 1, l0, 1, l0, l1, l2, l3, []⟩) ∨
     (∃ (kd n : Int) (js : List Nat), mayP kd n = true ∧ (∀ j ∈ js, j < i) ∧ N b = makeN N s i kd n (js.map (atL P)) ∧ X d = ⟨((i + 1 : Nat) : Int), kd, n, 1 + szP X (js.map (atL Q)), 0, 0, 0, 0, js.map (atL Q)⟩))
def Tw (s : Nat) (P Q : List Nat) (N : Nat → Nd) (X : Nat → Pn) : Prop := P.length = Q.length ∧ ∀ i b d : Nat, P[i]? = some b → Q[i]? = some d → TwP s P Q N X i b d
theorem Tw.add {s : Nat} {P Q : List Nat} {N : Nat → Nd} {X : Nat → Pn} {b d : Nat} {Y : Nd} {Z : Pn} (h : Tw s P Q N X) (hb : b ∉ P) (hd : d ∉ Q) (hY : NdOk Y) (h15 : Y.size ≤ 1500) (hs : Z.size = (Y.size : Int))
    (hp : (∃ l0 l1 l2 l3 : Int, Y = leafN s P.length l0 l1 l2 l3 ∧ Z = ⟨((P.length + 1 : Nat) : Int), 1, l0, 1, l0, l1, l2, l3, []⟩) ∨ (∃ (kd n : Int) (js : List Nat), mayP kd n = true ∧ (∀ j ∈ js, j < P.length) ∧ Y = makeN N s P.length kd n (js.map (atL P)) ∧ Z = ⟨((P.length + 1 : Nat) : Int), kd, n, 1 + szP X (js.map (atL Q)), 0, 0, 0, 0, js.map (atL Q)⟩)) :
    Tw s (P ++ [b]) (Q ++ [d]) (fun k => if k = b then Y else N k) (fun k => if k = d then Z else X k) := by
  obtain ⟨t1, t4⟩ := h
  have hNP : ∀ c ∈ P, (if c = b then Y else N c) = N c := fun c hc => if_neg (fun (e : c = b) => hb (by rw [← e]; exact hc))
  have hXQ : ∀ c ∈ Q, (if c = d then Z else X c) = X c := fun c hc => if_neg (fun (e : c = d) => hd (by rw [← e]; exact hc))
  have hmk : ∀ s m kd n (js : List Nat), (∀ j ∈ js, j < P.length) → makeN (fun k => if k = b then Y else N k) s m kd n (js.map (atL (P ++ [b]))) = makeN N s m kd n (js.map (atL P)) := by
    intro s m kd n js hj
    have e : js.map (atL (P ++ [b])) = js.map (atL P) := List.map_congr_left (fun j hj' => atL_app (hj j hj'))
    rw [e]
    refine mkN_congr fun c hc => ?_
    obtain ⟨j, hj1, rfl⟩ := List.mem_map.1 hc
    exact hNP _ (atL_mem (hj j hj1))
  have hmq : ∀ (js : List Nat), (∀ j ∈ js, j < P.length) → js.map (atL (Q ++ [d])) = js.map (atL Q) := fun js hj => List.map_congr_left (fun j hj' => atL_app (by rw [← t1]; exact hj j hj'))
  have hmr : ∀ (js : List Nat), (∀ j ∈ js, j < P.length) → szP (fun k => if k = d then Z else X k) (js.map (atL Q)) = szP X (js.map (atL Q)) := by
    intro js hj
    refine szP_congr _ fun c hc => ?_
    obtain ⟨j, hj1, rfl⟩ := List.mem_map.1 hc
    exact hXQ _ (atL_mem (by rw [← t1]; exact hj j hj1))
  have hY' : (if b = b then Y else N b) = Y := if_pos rfl
  have hZ' : (if d = d then Z else X d) = Z := if_pos rfl
  refine ⟨by simp [t1], fun i c e hc he => ?_⟩
  by_cases hi : i < P.length
  · rw [List.getElem?_append_left hi] at hc
    rw [List.getElem?_append_left (by rw [← t1]; exact hi)] at he
    obtain ⟨p1, p2, p3, hh⟩ := t4 i c e hc he
    have e1 := hNP c (List.mem_of_getElem? hc)
    have e2 := hXQ e (List.mem_of_getElem? he)
    unfold TwP
    dsimp only
    rw [e1, e2]
    refine ⟨p1, p2, p3, ?_⟩
    rcases hh with hh | ⟨kd, n, js, q0, qj, q1, q2⟩
    · exact Or.inl hh
    · have hj9 : ∀ j ∈ js, j < P.length := fun j hj => Nat.lt_trans (qj j hj) hi
      exact Or.inr ⟨kd, n, js, q0, qj, by rw [hmk _ _ _ _ js hj9]; exact q1, by rw [hmq js hj9, hmr js hj9]; exact q2⟩
  · have hi' : i = P.length := by
      have := (List.getElem?_eq_some_iff.1 hc).1
      simp at this
      omega
    subst hi'
    have ec : c = b := by simpa using hc.symm
    have ee : e = d := by
      rw [t1] at he
      simpa using he.symm
    subst ec ee
    unfold TwP
    dsimp only
    rw [hY', hZ']
    refine ⟨hY, h15, hs, ?_⟩
    rcases hp with hh | ⟨kd, n, js, q0, qj, q1, q2⟩
    · exact Or.inl hh
    · exact Or.inr ⟨kd, n, js, q0, qj, by rw [hmk _ _ _ _ js qj]; exact q1, by rw [hmq js qj, hmr js qj]; exact q2⟩
theorem Tw.pair {s : Nat} {P Q : List Nat} {N : Nat → Nd} {X : Nat → Pn} (h : Tw s P Q N X) {j : Nat} (hj : j < P.length) : TwP s P Q N X j (atL P j) (atL Q j) := by
  obtain ⟨b, hb⟩ : ∃ b, P[j]? = some b := ⟨_, List.getElem?_eq_getElem hj⟩
  obtain ⟨d, hd⟩ : ∃ d, Q[j]? = some d := ⟨_, List.getElem?_eq_getElem (by rw [← h.1]; exact hj)⟩
  rw [atL_some hb, atL_some hd]
  exact h.2 j b d hb hd
theorem Tw.size {s : Nat} {P Q : List Nat} {N : Nat → Nd} {X : Nat → Pn} (h : Tw s P Q N X) : ∀ (js : List Nat), (∀ j ∈ js, j < P.length) → szP X (js.map (atL Q)) = (sizeS N (js.map (atL P)) : Int)
  | [], _ => rfl
  | j :: js, hj => by
    have h1 := Tw.size h js (fun k hk => hj k (List.mem_cons_of_mem _ hk))
    have h2 := (h.pair (hj j List.mem_cons_self)).2.2.1
    simp only [sizeS, szP, List.map_cons, List.sum_cons, h2] at h1 ⊢
    omega

end Tr
end Ex
end Go.Proofs.Yteckbpmliahhhaa
namespace Go.Proofs.Yteckbpmliahhhaa
open Go.RowKit
set_option linter.unusedVariables false
namespace Ex
namespace Tr

theorem wl_num (N : Nat → Nd) : ∀ (f : Nat) (ps : List Nat) (a a' : Nat), numL N ((wl N f ps a).filter (leafB N)) = numL N ((wl N f ps a').filter (leafB N))
  | 0, _, _, _ => rfl
  | _ + 1, [], _, _ => rfl
  | f + 1, b :: bs, a, a' => by
    have ih := wl_num N f ((N b).kids.map Prod.fst ++ bs) (a + lwid (N b)) (a' + lwid (N b))
    have e : leafB N (a, b) = leafB N (a', b) := rfl
    unfold wl
    rw [List.filter_cons, List.filter_cons, e]
    cases leafB N (a', b)
    · exact ih
    · simp only [if_true]
      unfold numL at ih ⊢
      rw [List.map_cons, List.map_cons, ih]
/-- The numbers of the leaves of trees. -/
def lnB (N : Nat → Nd) (ps : List Nat) : List Int := numL N ((wl N (sizeS N ps) ps 0).filter (leafB N))
theorem lnB_one (N : Nat → Nd) (b : Nat) : lnB N [b] = numL N (lvs N b) := by
  unfold lnB lvs
  have e : sizeS N [b] = (N b).size := by simp [sizeS]
  rw [e]
section
variable {R : Nat → Prop} {N : Nat → Nd} {B : Nat} {w : World}
theorem lnB_cons (hF : Forest R N B w) {b : Nat} (hb : R b) (ps : List Nat) : lnB N (b :: ps) = (if (N b).kind = 1 then [((N b).num : Int)] else []) ++ lnB N ((N b).kids.map Prod.fst ++ ps) := by
  unfold lnB
  rw [wl_step hF hb, List.filter_cons]
  have h9 := wl_num N (sizeS N ((N b).kids.map Prod.fst ++ ps)) ((N b).kids.map Prod.fst ++ ps) (0 + lwid (N b)) 0
  by_cases h : (N b).kind = 1
  · have e : leafB N (0, b) = true := by simp [leafB, h]
    rw [e, if_pos rfl, if_pos h]
    unfold numL at h9 ⊢
    rw [List.map_cons, h9]
    rfl
  · have e : leafB N (0, b) = false := by simp [leafB, h]
    rw [e, if_neg h]
    exact h9
theorem lnB_app (hF : Forest R N B w) : ∀ (n : Nat) (ps qs : List Nat), sizeS N ps = n → (∀ p ∈ ps, R p) → lnB N (ps ++ qs) = lnB N ps ++ lnB N qs := by
  intro n
  induction n using Nat.strongRecOn with
  | ind n ih =>
    intro ps qs hn hR
    cases ps with
    | nil => rfl
    | cons b ps =>
      have hb := hR b List.mem_cons_self
      have hsz := (hF b hb).2.2.2.2
      rw [List.cons_append, lnB_cons hF hb, lnB_cons hF hb, ← List.append_assoc, ih (sizeS N ((N b).kids.map Prod.fst ++ ps)) (by rw [← hn, sizeS_cons, sizeS_app]; omega) _ qs rfl, List.append_assoc]
      intro p hp
      rcases List.mem_append.1 hp with hp | hp
      · obtain ⟨q, hq, rfl⟩ := List.mem_map.1 hp
        exact (hF b hb).2.2.2.1 q hq
      · exact hR p (List.mem_cons_of_mem _ hp)
theorem lnB_flat (hF : Forest R N B w) : ∀ (ps : List Nat), (∀ p ∈ ps, R p) → lnB N ps = ps.flatMap fun p => lnB N [p]
  | [], _ => rfl
  | p :: ps, h => by
    rw [List.flatMap_cons, ← lnB_flat hF ps (fun q hq => h q (List.mem_cons_of_mem _ hq))]
    exact lnB_app hF _ [p] ps rfl (fun q hq => by rw [List.mem_singleton.1 hq]; exact h p List.mem_cons_self)
theorem lnB_node (hF : Forest R N B w) {b : Nat} (hb : R b) : lnB N [b] = if (N b).kind = 1 then [((N b).num : Int)] else ((N b).kids.map Prod.fst).flatMap fun p => lnB N [p] := by
  have hk : ∀ p ∈ (N b).kids.map Prod.fst, R p := fun p hp => by
    obtain ⟨q, hq, rfl⟩ := List.mem_map.1 hp
    exact (hF b hb).2.2.2.1 q hq
  rw [lnB_cons hF hb, List.append_nil, lnB_flat hF _ hk]
  by_cases h : (N b).kind = 1
  · rw [if_pos h, if_pos h, (hF b hb).2.2.1 h]
    rfl
  · rw [if_neg h, if_neg h, List.nil_append]
end
theorem may_kd {kd n : Int} (h : mayP kd n = true) : kd ≠ 1 ∧ 2 ≤ kd ∧ kd ≤ 5 ∧ 0 ≤ n ∧ (n ≠ 0 → kd = 2) := by
  unfold mayP at h
  simp only [Bool.or_eq_true, Bool.and_eq_true, beq_iff_eq, decide_eq_true_eq] at h
  rcases h with ⟨h1, h2⟩ | ⟨(h1 | h1) | h1, h2⟩ <;> refine ⟨by omega, by omega, by omega, by omega, fun h => by omega⟩
theorem kd_may {kd n : Int} (h : 2 ≤ kd ∧ kd ≤ 5 ∧ 0 ≤ n ∧ (n ≠ 0 → kd = 2)) : mayP kd n = true := by
  obtain ⟨h1, h2, h3, h4⟩ := h
  unfold mayP
  simp only [Bool.or_eq_true, Bool.and_eq_true, beq_iff_eq, decide_eq_true_eq]
  by_cases h : kd = 2
  · exact Or.inl ⟨h, h3⟩
  · have hn : n = 0 := by
      by_cases hn : n = 0
      · exact hn
      · exact absurd (h4 hn) h
    refine Or.inr ⟨?_, hn⟩
    omega
section
variable {base gb s : Nat} {V : Nat → Prop} {P Q : List Nat} {N : Nat → Nd} {X : Nat → Pn} {m : Nat} {vN vP : Value} {w : World}
theorem Tw.ofP (hT : Tw s P Q N X) {b : Nat} (hb : b ∈ P) : ∃ i, i < P.length ∧ b = atL P i ∧ TwP s P Q N X i b (atL Q i) := by
  obtain ⟨i, hi, he⟩ := List.getElem_of_mem hb
  have h1 : P[i]? = some b := by rw [List.getElem?_eq_getElem hi, he]
  have h2 := hT.pair hi
  rw [atL_some h1] at h2
  exact ⟨i, hi, (atL_some h1).symm, h2⟩
theorem Tw.ofQ (hT : Tw s P Q N X) {d : Nat} (hd : d ∈ Q) : ∃ i, i < P.length ∧ d = atL Q i ∧ TwP s P Q N X i (atL P i) d := by
  obtain ⟨i, hi, he⟩ := List.getElem_of_mem hd
  have h1 : Q[i]? = some d := by rw [List.getElem?_eq_getElem hi, he]
  have h2 := hT.pair (j := i) (by rw [hT.1]; exact hi)
  rw [atL_some h1] at h2
  exact ⟨i, by rw [hT.1]; exact hi, (atL_some h1).symm, h2⟩
theorem mk_kids (N : Nat → Nd) (s m : Nat) (kd n : Int) (ks : List Nat) : (makeN N s m kd n ks).kids.map Prod.fst = ks := by
  show (kidG N 0 ks).map Prod.fst = ks
  exact kidG_fst N ks 0
theorem gr_forest (hM : GrM base gb s V P Q N X m vN vP w) (hT : Tw s P Q N X) : Forest (fun b => b ∈ P) N w.heap.size w := by
  intro b hb
  refine ⟨(hM.nd b hb).at (fun k hk => (hM.vs k hk).2.1), ?_⟩
  obtain ⟨i, hi, rfl, h1, h2, h3, hh⟩ := hT.ofP hb
  refine ⟨h1, ?_⟩
  rcases hh with ⟨l0, l1, l2, l3, e, _⟩ | ⟨kd, n, js, q0, qj, e, _⟩
  · rw [e]
    exact ⟨fun _ => rfl, fun q hq => absurd hq (by simp [leafN]), rfl⟩
  · refine ⟨fun h => ?_, fun q hq => ?_, ?_⟩
    · rw [e] at h
      exact absurd h (may_kd q0).1
    · have h9 : q.1 ∈ (N (atL P i)).kids.map Prod.fst := List.mem_map_of_mem hq
      rw [e, mk_kids] at h9
      obtain ⟨j, hj, he⟩ := List.mem_map.1 h9
      rw [← he]
      exact atL_mem (Nat.lt_trans (qj j hj) hi)
    · have e2 : (N (atL P i)).kids.map Prod.fst = js.map (atL P) := by rw [e, mk_kids]
      rw [e2, e]
      rfl
theorem gr_sum (hT : Tw s P Q N X) : LeafSum N (fun b => b ∈ P) := by
  intro b hb
  obtain ⟨i, hi, rfl, h1, h2, h3, hh⟩ := hT.ofP hb
  rcases hh with ⟨l0, l1, l2, l3, e, _⟩ | ⟨kd, n, js, q0, qj, e, _⟩
  · rw [e]
    exact ⟨fun _ => rfl, fun h => absurd rfl h⟩
  · have e2 : (N (atL P i)).kids.map Prod.fst = js.map (atL P) := by rw [e, mk_kids]
    rw [e2]
    refine ⟨fun h => ?_, fun _ => ?_⟩
    · rw [e] at h
      exact absurd h (may_kd q0).1
    · rw [e]
      exact ⟨rfl, rfl⟩
theorem TwP.num {i b d : Nat} (h : TwP s P Q N X i b d) : (N b).num = i + 1 ∧ (X d).id = ((i + 1 : Nat) : Int) := by
  obtain ⟨_, _, _, hh⟩ := h
  rcases hh with ⟨l0, l1, l2, l3, e, e2⟩ | ⟨kd, n, js, q0, qj, e, e2⟩ <;> rw [e, e2] <;> exact ⟨rfl, rfl⟩
theorem gr_num (hT : Tw s P Q N X) (hl : P.length ≤ 4194304) : NumOk (fun b => b ∈ P) N := by
  intro b hb
  obtain ⟨i, hi, rfl, h⟩ := hT.ofP hb
  rw [h.num.1]
  omega
theorem szP_mem (X : Nat → Pn) : ∀ (ks : List Nat), (∀ k ∈ ks, 0 ≤ (X k).size) → 0 ≤ szP X ks ∧ ∀ k ∈ ks, (X k).size ≤ szP X ks
  | [], _ => ⟨by simp [szP], fun k hk => absurd hk (by simp)⟩
  | x :: l, h => by
    obtain ⟨h1, h2⟩ := szP_mem X l (fun k hk => h k (List.mem_cons_of_mem _ hk))
    have h3 := h x List.mem_cons_self
    have e : szP X (x :: l) = (X x).size + szP X l := by simp [szP]
    rw [e]
    refine ⟨by omega, fun k hk => ?_⟩
    rcases List.mem_cons.1 hk with rfl | hk
    · omega
    · have := h2 k hk; omega
theorem gr_size (hT : Tw s P Q N X) {d : Nat} (hd : d ∈ Q) : 1 ≤ (X d).size ∧ (X d).size ≤ 1500 := by
  obtain ⟨i, hi, rfl, h1, h2, h3, hh⟩ := hT.ofQ hd
  have := h1.1
  rw [h3]
  omega
theorem gr_kid (hT : Tw s P Q N X) {d : Nat} (hd : d ∈ Q) {k : Nat} (hk : k ∈ (X d).kids) : k ∈ Q ∧ (X k).size < (X d).size := by
  obtain ⟨i, hi, rfl, h1, h2, h3, hh⟩ := hT.ofQ hd
  rcases hh with ⟨l0, l1, l2, l3, _, e⟩ | ⟨kd, n, js, q0, qj, _, e⟩
  · rw [e] at hk
    exact absurd hk (by simp)
  · rw [e] at hk
    have hall : ∀ k ∈ js.map (atL Q), k ∈ Q := fun k hk => by
      obtain ⟨j, hj, rfl⟩ := List.mem_map.1 hk
      exact atL_mem (by rw [← hT.1]; exact Nat.lt_trans (qj j hj) hi)
    have h9 := (szP_mem X (js.map (atL Q)) (fun k hk => by have := (gr_size hT (hall k hk)).1; omega)).2 k hk
    refine ⟨hall k hk, ?_⟩
    rw [e]
    show (X k).size < 1 + szP X (js.map (atL Q))
    omega
/-- Where a document's node stands. -/
def rkX (X : Nat → Pn) (d : Nat) : Nat := (X d).size.toNat
theorem gr_pfor (hM : GrM base gb s V P Q N X m vN vP w) (hT : Tw s P Q N X) : PFor (fun d => d ∈ Q) X (rkX X) w := by
  refine ⟨fun d hd => (hM.pn d hd).at, fun d hd k hk => ?_⟩
  obtain ⟨h1, h2⟩ := gr_kid hT hd hk
  have := (gr_size hT h1).1
  refine ⟨h1, ?_⟩
  unfold rkX
  omega
theorem tw_lv (hM : GrM base gb s V P Q N X m vN vP w) (hT : Tw s P Q N X) : ∀ i, i < P.length → (lvP X (rkX X (atL Q i) + 1) (atL Q i)).map (fun k => (X k).id) = lnB N [atL P i] := by
  intro i
  induction i using Nat.strongRecOn with
  | ind i ih =>
    intro hi
    have hF := gr_forest hM hT
    have hPF := gr_pfor hM hT
    have hQi : i < Q.length := by rw [← hT.1]; exact hi
    rw [lnB_node hF (atL_mem hi)]
    have htw := hT.pair hi
    obtain ⟨hn1, hn2⟩ := htw.num
    obtain ⟨_, _, _, hh⟩ := htw
    rcases hh with ⟨l0, l1, l2, l3, e, e2⟩ | ⟨kd, n, js, q0, qj, e, e2⟩
    · have hk1 : (N (atL P i)).kind = 1 := by rw [e]; rfl
      have hk2 : (X (atL Q i)).kind = 1 := by rw [e2]
      unfold lvP
      rw [if_pos hk1, if_pos hk2, hn1, List.map_singleton, hn2]
    · have hk1 : (N (atL P i)).kind ≠ 1 := by rw [e]; exact (may_kd q0).1
      have hk2 : (X (atL Q i)).kind ≠ 1 := by rw [e2]; exact (may_kd q0).1
      have hkids : (N (atL P i)).kids.map Prod.fst = js.map (atL P) := by rw [e, mk_kids]
      have hkidX : (X (atL Q i)).kids = js.map (atL Q) := by rw [e2]
      unfold lvP
      rw [if_neg hk1, if_neg hk2, hkids, List.map_flatMap, hkidX, List.flatMap_map, List.flatMap_map]
      refine flat_congr _ (fun j hj => ?_)
      have hji := qj j hj
      have h9 := ih j hji (Nat.lt_trans hji hi)
      rw [← h9]
      have hjQ : atL Q j ∈ Q := atL_mem (by omega)
      have hlt : rkX X (atL Q j) < rkX X (atL Q i) := (hPF.kid (atL Q i) (atL_mem hQi) (atL Q j) (by rw [hkidX]; exact List.mem_map_of_mem hj)).2
      rw [lvP_fuel hPF (rkX X (atL Q i)) (rkX X (atL Q j) + 1) (atL Q j) hjQ hlt (Nat.lt_succ_self _)]
/-- The program's leaves and the document's have the same numbers. -/
theorem tw_leaves (hM : GrM base gb s V P Q N X m vN vP w) (hT : Tw s P Q N X) {i : Nat} (hi : i < P.length) : (lvP X (rkX X (atL Q i) + 1) (atL Q i)).map (fun k => (X k).id) = numL N (lvs N (atL P i)) := by rw [tw_lv hM hT i hi, lnB_one]
theorem tw_lens (hM : GrM base gb s V P Q N X m vN vP w) (hT : Tw s P Q N X) (d : Nat) (hd : d ∈ Q) : (lvP X (rkX X d + 1) d).length ≤ 4194304 ∧ (X d).kids.length ≤ 4194304 := by
  obtain ⟨i, hi, he, htw⟩ := hT.ofQ hd
  refine ⟨?_, ?_⟩
  · have h1 := congrArg List.length (tw_leaves hM hT hi)
    rw [List.length_map, ← he] at h1
    rw [h1]
    unfold numL
    rw [List.length_map]
    exact lvs_len (gr_forest hM hT) (atL_mem hi)
  · obtain ⟨h1, h2, h3, hh⟩ := htw
    rcases hh with ⟨l0, l1, l2, l3, e, e2⟩ | ⟨kd, n, js, q0, qj, e, e2⟩
    · rw [e2]; simp
    · have h5 : (X d).kids.length = (N (atL P i)).kids.length := by
        have h6 : ((N (atL P i)).kids.map Prod.fst).length = (js.map (atL P)).length := by rw [e, mk_kids]
        rw [e2]
        simp only [List.length_map] at h6 ⊢
        exact h6.symm
      obtain ⟨_, kv, _, a, cap, _, _, h7, _⟩ := hM.nd _ (atL_mem hi)
      omega
/-- Both answer the same hunks. -/
theorem tw_hunks (hM : GrM base gb s V P Q N X m vN vP w) (hT : Tw s P Q N X) {i j : Nat} (hi : i < P.length) (hj : j < P.length) : hkG ((lvP X (rkX X (atL Q i) + 1) (atL Q i)).map fun k => (X k).id) ((lvP X (rkX X (atL Q j) + 1) (atL Q j)).map fun k => (X k).id) ((lvP X (rkX X (atL Q i) + 1) (atL Q i)).map fun k => (X k).id) 0 0 0 = hunksL N (atL P i) (atL P j) := by
  rw [tw_leaves hM hT hi, tw_leaves hM hT hj, hkG_whole]
  rfl
end

end Tr
end Ex
end Go.Proofs.Yteckbpmliahhhaa
namespace Go.Proofs.Yteckbpmliahhhaa
open Go.RowKit
attribute [local go_sem] Oper.semAt_some
namespace Ex
namespace Tr

/-- A list of ints that came in. -/
def IntsS (w : World) (v : Value) (xs : List Int) : Prop := SliceOf w 1 (fun cs z => cs = [.int .i64 z]) v xs
theorem IntsS.keep {w w' : World} {v : Value} {xs : List Int} (h : IntsS w v xs) (hk : Kept w w') : IntsS w' v xs := SliceOf.mono h hk (fun _ _ h => h)
theorem IntsS.at' {w : World} {a : Option Addr} {n c : Nat} {xs : List Int} (h : IntsS w (.slice a n c) xs) {j : Nat} {x : Int} (hj : xs[j]? = some x) : ∃ g o, a = some ⟨g, o, none⟩ ∧ w.cell? ⟨g, o + j, none⟩ = some (.int .i64 x) := by
  obtain ⟨a', c', e, _, _, h4⟩ := h
  injection e with e1
  subst e1
  rcases h4 with rfl | ⟨g, o, h5, _, h6⟩
  · simp at hj
  · obtain ⟨cs, _, h7, h8⟩ := h6 j x hj
    have h9 := h7 0 (.int .i64 x) (by rw [h8]; rfl)
    rw [Nat.mul_one, Nat.add_zero] at h9
    exact ⟨g, o, h5, h9⟩
theorem IntsS.form {w : World} {v : Value} {xs : List Int} (h : IntsS w v xs) : ∃ a c, v = .slice a xs.length c ∧ xs.length ≤ c ∧ xs.length ≤ 17592186044416 := by
  obtain ⟨a, c, h1, h2, h3, _⟩ := h
  exact ⟨a, c, h1, h2, h3⟩
/-- A part that came in. -/
structure PtM where
  kd : Int
  n : Int
  l0 : Int
  l1 : Int
  l2 : Int
  l3 : Int
  kv : Value
  xs : List Int
def PtEl (w : World) (cs : List Value) (x : PtM) : Prop := cs = [.int .i64 x.kd, .int .i64 x.n, .int .i64 x.l0, .int .i64 x.l1, .int .i64 x.l2, .int .i64 x.l3, x.kv] ∧ IntsS w x.kv x.xs
def PartsIn (w : World) (v : Value) (l : List PtM) : Prop := SliceOf w 7 (PtEl w) v l
theorem PartsIn.keep {w w' : World} {v : Value} {l : List PtM} (h : PartsIn w v l) (hk : Kept w w') : PartsIn w' v l := SliceOf.mono h hk (fun _ _ h => ⟨h.1, h.2.keep hk⟩)
theorem PartsIn.at' {w : World} {a : Option Addr} {n c : Nat} {l : List PtM} (h : PartsIn w (.slice a n c) l) {j : Nat} {x : PtM} (hj : l[j]? = some x) : IntsS w x.kv x.xs ∧ ∃ g o, a = some ⟨g, o, none⟩ ∧ w.cell? ⟨g, o + j * 7, none⟩ = some (.int .i64 x.kd) ∧ w.cell? ⟨g, o + j * 7 + 1, none⟩ = some (.int .i64 x.n) ∧ w.cell? ⟨g, o + j * 7 + 2, none⟩ = some (.int .i64 x.l0) ∧ w.cell? ⟨g, o + j * 7 + 3, none⟩ = some (.int .i64 x.l1) ∧ w.cell? ⟨g, o + j * 7 + 4, none⟩ = some (.int .i64 x.l2) ∧ w.cell? ⟨g, o + j * 7 + 5, none⟩ = some (.int .i64 x.l3) ∧ w.cell? ⟨g, o + j * 7 + 6, none⟩ = some x.kv := by
  obtain ⟨a', c', e, _, _, h4⟩ := h
  injection e with e1
  subst e1
  rcases h4 with rfl | ⟨g, o, h5, _, h6⟩
  · simp at hj
  · obtain ⟨cs, _, h7, h8, h9⟩ := h6 j x hj
    subst h8
    exact ⟨h9, g, o, h5, h7 0 _ rfl, h7 1 _ rfl, h7 2 _ rfl, h7 3 _ rfl, h7 4 _ rfl, h7 5 _ rfl, h7 6 _ rfl⟩
/-- A grove that at most n parts have made. -/
def GrI (base gb s n : Nat) (w : World) : Prop := ∃ V P Q N X vN vP, GrM base gb s V P Q N X P.length vN vP w ∧ Tw s P Q N X ∧ P.length ≤ n
theorem GrI.keep {base gb s n : Nat} {w w' : World} (h : GrI base gb s n w) (hk : Kept w w') : GrI base gb s n w' := by
  obtain ⟨V, P, Q, N, X, vN, vP, h1, h2, h3⟩ := h
  exact ⟨V, P, Q, N, X, vN, vP, h1.keep hk, h2, h3⟩
theorem GrI.more {base gb s n n' : Nat} {w : World} (h : GrI base gb s n w) (hn : n ≤ n') : GrI base gb s n' w := by
  obtain ⟨V, P, Q, N, X, vN, vP, h1, h2, h3⟩ := h
  exact ⟨V, P, Q, N, X, vN, vP, h1, h2, by omega⟩
/-- What stands behind an empty grove's making. -/
theorem gr_start {w w' : World} {s gb base : Nat} (hk : Kept w w') (hb : w.heap[gb]? = some (.cells #[.pointer (some ⟨s, 0, none⟩), .slice none 0 0, .slice none 0 0] 32 (0, 0))) (hs : StoreAt w s 0) (hg : gb < base) (hsb : s < base) (hn : s ≠ gb) (hz : base ≤ w'.heap.size) : GrI base gb s 0 w' := by
  refine ⟨fun _ => False, [], [], fun _ => leafN 0 0 0 0 0 0, fun _ => ⟨0, 0, 0, 0, 0, 0, 0, 0, []⟩, .slice none 0 0, .slice none 0 0, ⟨(hk.2.2.2.2 gb (Array.getElem?_eq_some_iff.1 hb).1).trans hb, hs.keep hk, LO.nil _ _, LO.nil _ _, ⟨hg, hsb, hn, hz⟩, fun g h => (by cases h), fun k (h : False) => False.elim h, fun b h => (by cases h), fun d h => (by cases h)⟩, ⟨rfl, fun i b d h => by simp at h⟩, Nat.le_refl _⟩
/-- While a node's children are looked up. -/
def KdI (P Q : List Nat) (X : Nat → Pn) (pn : Nat) (wx : World) (j : Nat) (sz : Int) (v9 v10 : Value) (wq : World) : Prop := ∃ js : List Nat, js.length = j ∧ (∀ r ∈ js, r < pn) ∧ LO ndE wq wx.heap.size v9 (js.map (atL P)) ∧ LO pnE wq wx.heap.size v10 (js.map (atL Q)) ∧ Kept wx wq ∧ sz = 1 + szP X (js.map (atL Q)) ∧ ∀ g, v9.ownBlock = some g → v10.ownBlock ≠ some g
/-- What grove answers. -/
def GroveOut (w : World) (e : Ending) (w' : World) : Prop := ∃ gb base s, e = .returned (.tuple #[.pointer (some ⟨gb, 0, none⟩), .bool true]) ∧ GrI base gb s 200 w' ∧ Kept w w' ∧ w.heap.size ≤ base ∧ w.heap.size ≤ gb ∧ w.heap.size ≤ s

end Tr
end Ex
end Go.Proofs.Yteckbpmliahhhaa
