import Derived.Test.YteckbpmliahhhaaMDeLe
import Derived.Test.YteckbpmliahhhaaMDeWr
namespace Go.Proofs.Yteckbpmliahhhaa
open Go.RowKit
attribute [local go_sem] Oper.semAt_some
namespace Ex
namespace Tr

theorem Kept.lo {α : Type} {E : ElK α} {w0 w w' : World} {v : Value} {l : List α} (h : Kept w0 w) (ho : LO E w w0.heap.size v l) (hg : w.grownBy w' v.ownBlock) : Kept w0 w' :=
  ⟨hg.os.trans h.1, hg.tape.trans h.2.1, hg.output.trans h.2.2.1, Nat.le_trans h.size hg.size, fun k hk => (hg.block k (Nat.lt_of_lt_of_le hk h.size) (fun e => by have := (ho.lt' k e.symm).1; omega)).trans (h.2.2.2.2 k hk)⟩
theorem Kept.lob {α : Type} {E : ElK α} {w0 w w' : World} {base : Nat} {v : Value} {l : List α} (h : Kept w0 w) (hb : w0.heap.size ≤ base) (ho : LO E w base v l) (hg : w.grownBy w' v.ownBlock) : Kept w0 w' := Kept.lo h (ho.low hb) hg
theorem src_one (w : World) (x : Int) : Src u8E (w.alloc (.cells #[.int .u8 x] 5)) (some ⟨w.heap.size, 0, none⟩) [x] := by
  refine Or.inr ⟨w.heap.size, 0, rfl, fun j u hj => ?_⟩
  have hb := World.alloc_heap_new w (.cells #[.int .u8 x] 5)
  have hf : flatE u8E [x] = [.int .u8 x] := rfl
  rw [hf] at hj
  generalize w.alloc (.cells #[.int .u8 x] 5) = W at *
  cases j with
  | zero =>
    simp only [List.getElem?_cons_zero, Option.some.injEq] at hj
    subst hj
    simp [World.cell?, hb]
  | succ j => simp at hj
theorem lo_empty (w : World) {base : Nat} (hb : base ≤ w.heap.size) : LO u8E (w.alloc (.cells #[] 5)) base (.slice (some ⟨w.heap.size, 0, none⟩) 0 0) [] := ⟨rfl, Or.inr ⟨w.heap.size, 0, #[], rfl, hb, World.alloc_heap_new w _, Nat.le_refl _, Nat.zero_le _, rfl, rfl⟩⟩
theorem Src.grow {α : Type} {E : ElK α} {w w' : World} {g o : Nat} {v : Value} {ys : List α} (h : Src E w (some ⟨g, o, none⟩) ys) (hg : w.grownBy w' v.ownBlock) (hne : v.ownBlock ≠ some g) : Src E w' (some ⟨g, o, none⟩) ys := by
  rcases h with h | ⟨g', o', h1, h2⟩
  · exact Or.inl h
  · injection h1 with h1
    injection h1 with h1 h3
    subst h1 h3
    exact Or.inr ⟨g, o, rfl, fun j u hj => (World.cell?_of_block (w := w) (a := ⟨g, o + j, none⟩) (hg.block g (World.block_lt_of_cell? w _ (h2 j u hj)) (fun e => hne e.symm))).trans (h2 j u hj)⟩
theorem LO.some {α : Type} {E : ElK α} {w : World} {base n cap : Nat} {a : Option Addr} {l : List α} (h : LO E w base (.slice a n cap) l) (hl : l ≠ []) : ∃ g, a = some ⟨g, 0, none⟩ := by
  rcases h.2 with ⟨_, h0⟩ | ⟨g, cap', cur, he, _⟩
  · exact absurd (List.length_eq_zero_iff.1 h0) hl
  · injection he with e1
    exact ⟨g, e1⟩
theorem LO.cap {α : Type} {E : ElK α} {w : World} {base n cap : Nat} {a : Option Addr} {l : List α} (h : LO E w base (.slice a n cap) l) : l.length ≤ cap := by
  rcases h.2 with ⟨_, h0⟩ | ⟨g, cap', cur, he, _, _, h3, _⟩
  · omega
  · injection he with _ _ e3
    subst e3
    exact h3
theorem cells3 {w : World} {g : Nat} {y0 y1 y2 : Value} {t : TypeId} (h : w.heap[g]? = some (.cells #[y0, y1, y2] t (0, 0))) : w.cell? ⟨g, 0, none⟩ = some y0 ∧ w.cell? ⟨g, 1, none⟩ = some y1 ∧ w.cell? ⟨g, 2, none⟩ = some y2 := by
  refine ⟨?_, ?_, ?_⟩ <;> simp [World.cell?, h]
theorem set3at2 {w : World} {g : Nat} {y0 y1 y2 : Value} {t : TypeId} (h : w.heap[g]? = some (.cells #[y0, y1, y2] t (0, 0))) (x : Value) : (w.setCell ⟨g, 2, none⟩ x).heap[g]? = some (.cells #[y0, y1, x] t (0, 0)) := by
  have hl := (Array.getElem?_eq_some_iff.1 h).1
  have he := Option.some.inj ((Array.getElem?_eq_getElem hl).symm.trans h)
  simp [World.setCell, Array.getElem_modify, hl, he]
theorem EdCp.same {w w' : World} {base : Nat} {e : EdX} {y : List Int} {c : EdX} (h : EdCp w base e y c) (hk : ∀ d, (Value.slice c.ba (c.n + 1) c.bc).ownBlock = some d → w'.heap[d]? = w.heap[d]?) : EdCp w' base e y c := ⟨h.1, h.2.1, h.2.2.1, h.2.2.2.1, h.2.2.2.2.same hk⟩
theorem ed_next {w wr wz w9 : World} {l cs : List EdX} {bs : List (List Int)} {j n : Nat} {ca : Option Addr} {cc : Nat} {c9 : EdX} {e : EdX} {y : List Int} {v9 : Value} {X : Array Value} (h1 : cs.length = j) (h2 : LO edE wr w.heap.size (.slice ca j cc) cs) (h3 : Kept w wr) (h4 : ∀ (i : Nat) (e : EdX) (y : List Int) (c : EdX), l[i]? = some e → bs[i]? = some y → cs[i]? = some c → EdCp wr w.heap.size e y c) (hk : Kept wr wz) (hoz : LO edE wz w.heap.size (.slice ca j cc) cs) (hg : (wz.alloc (.cells X 80)).grownBy w9 (Value.slice ca j cc).ownBlock) (ho : LO edE w9 w.heap.size v9 (cs ++ [c9])) (hv : LO u8E wz w.heap.size (.slice c9.ba (n + 1) c9.bc) (y ++ [165])) (he : l[j]? = some e) (hy : bs[j]? = some y) (hn : n = y.length) (hc : c9.at_ = e.at_ ∧ c9.del = e.del ∧ c9.n = n ∧ e.n = n) :
    (cs ++ [c9]).length = j + 1 ∧ LO edE w9 w.heap.size v9 (cs ++ [c9]) ∧ Kept w w9 ∧ ∀ (i : Nat) (e : EdX) (y : List Int) (c : EdX), l[i]? = some e → bs[i]? = some y → (cs ++ [c9])[i]? = some c → EdCp w9 w.heap.size e y c := by
  have hkz : Kept w wz := gtrans h3 hk
  have hka : Kept wz (wz.alloc (.cells X 80)) := (Kept.refl wz).alloc _ _
  have hby : ∀ {v : Value} {ys : List Int}, LO u8E wz w.heap.size v ys → ∀ d, v.ownBlock = some d → w9.heap[d]? = wz.heap[d]? := fun {v} {ys} hb d hd => by
    obtain ⟨cur, hc1⟩ := hb.type hd
    have hdl := (hb.lt' d hd).2
    refine (hg.block d (Nat.lt_of_lt_of_le hdl hka.size) (fun e => ?_)).trans (hka.2.2.2.2 d hdl)
    obtain ⟨cur2, hc2⟩ := hoz.type e.symm
    exact block_ne hc1 hc2 (show (5 : TypeId) ≠ 80 by decide) rfl
  refine ⟨by simp [h1], ho, Kept.lo (gtrans hkz hka) (hoz.keep hka) hg, fun i e' y' c hi1 hi2 hi3 => ?_⟩
  rcases Nat.lt_or_ge i cs.length with hlt | hge
  · rw [List.getElem?_append_left hlt] at hi3
    have hcp := h4 i e' y' c hi1 hi2 hi3
    have hcz : EdCp wz w.heap.size e' y' c := hcp.same (fun d hd => hk.2.2.2.2 d (hcp.2.2.2.2.lt' d hd).2)
    exact hcz.same (hby hcz.2.2.2.2)
  · rw [List.getElem?_append_right hge] at hi3
    have hi0 : i - cs.length = 0 := by
      rcases Nat.eq_zero_or_pos (i - cs.length) with h | h
      · exact h
      · rw [List.getElem?_eq_none (by exact h)] at hi3; cases hi3
    rw [hi0] at hi3
    simp only [List.getElem?_cons_zero, Option.some.injEq] at hi3
    subst hi3
    obtain rfl : i = j := by omega
    rw [he, Option.some.injEq] at hi1
    rw [hy, Option.some.injEq] at hi2
    subst hi1 hi2
    obtain ⟨g1, g2, g3, g4⟩ := hc
    refine ⟨g1, g2, by rw [g3, g4], by rw [g4]; exact hn, ?_⟩
    rw [g3]
    exact hv.same (hby hv)

/-- What 'edits' has made: copies, and one more edit behind them. -/
def EdMade (w : World) (base g ec : Nat) (l : List EdX) (bs : List (List Int)) (cs : List EdX) : Prop :=
  cs.length = l.length ∧ LO edE w base (.slice (some ⟨g, 0, none⟩) (l.length + 1) ec) (cs ++ [⟨77, 0, none, 0, 0⟩]) ∧ ∀ (i : Nat) (e : EdX) (y : List Int) (c : EdX), l[i]? = some e → bs[i]? = some y → cs[i]? = some c → EdCp w base e y c
def EdOut (w : World) (l : List EdX) (bs : List (List Int)) (e : Ending) (w' : World) : Prop := ∃ g ec cs, e = .returned (.slice (some ⟨g, 0, none⟩) l.length ec) ∧ EdMade w' w.heap.size g ec l bs cs ∧ Kept w w'

end Tr
end Ex
end Go.Proofs.Yteckbpmliahhhaa
