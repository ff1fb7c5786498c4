import Derived.Test.YtajmbplipjeojaaDoorShB
import Derived.Test.YtajmbplipjeojaaDoorShO
namespace Go.Proofs.YtajmbplipjeojaaDoor
open Go.RowKit
attribute [local go_sem] Oper.semAt_some
namespace Ex
namespace Sh

/-- Inside a quoted word: all ahead of fr is read, out is what the word has so far. -/
def QInv (L : List Int) (fr : Nat) (out : List Int) : Prop := ∀ ws dg, ∃ dg', fin (runS (start ws dg) L) = fin (runS ⟨2, out, ws, dg', false⟩ (L.drop fr))
theorem qinv_start {L : List Int} (h : L[0]? = some 34) : QInv L 1 [] := fun ws dg => ⟨dg, by
  cases L with
  | nil => cases h
  | cons c t =>
    obtain rfl : c = 34 := by simpa using h
    rw [quo_start]; rfl⟩
theorem qinv_move {L : List Int} {fr pos : Nat} {out : List Int} (h : QInv L fr out) (h1 : fr ≤ pos) (hq : ∀ (i : Nat) (c : Int), fr ≤ i → i < pos → L[i]? = some c → quoB c = true) : QInv L pos (out ++ (L.drop fr).take (pos - fr)) := fun ws dg => by
  obtain ⟨dg', h2⟩ := h ws dg
  refine ⟨dg', ?_⟩
  rw [h2]
  conv => lhs; rw [← List.take_append_drop (pos - fr) (L.drop fr), run_app, run_quo _ (fun c hc => by
    obtain ⟨i, hi, e⟩ := List.getElem_of_mem hc
    rw [List.length_take, List.length_drop] at hi
    refine hq (fr + i) c (by omega) (by omega) ?_
    rw [← e, List.getElem_take, List.getElem_drop]
    exact List.getElem?_eq_getElem _), List.drop_drop]
  rw [show fr + (pos - fr) = pos by omega]
theorem qinv_esc {L : List Int} {pos : Nat} {out : List Int} (h : QInv L pos out) (h9 : L[pos]? = some 92) (hz : (escM (L.drop (pos + 1))).2 ≠ 0) :
    ∃ n : Nat, (escM (L.drop (pos + 1))).2 = (n : Int) ∧ 2 ≤ n ∧ pos + n ≤ L.length ∧ (∀ (i : Nat) (x : Int), pos ≤ i → i < pos + n → L[i]? = some x → x < 128) ∧ 0 ≤ (escM (L.drop (pos + 1))).1 ∧ (escM (L.drop (pos + 1))).1 < 256 ∧ QInv L (pos + n) (out ++ [(escM (L.drop (pos + 1))).1]) := by
  have hlt := (List.getElem?_eq_some_iff.1 h9).1
  obtain ⟨n, h1, h2, h3, h4, h5, h6, _⟩ := esc_some hz out [] 0
  rw [List.length_drop] at h3
  refine ⟨n, h1, h2, by omega, fun i x hi1 hi2 hx => h4 (i - pos) x (by omega) ?_, h5, h6, fun ws dg => ?_⟩
  · rw [← drop_at h9, List.getElem?_drop, show pos + (i - pos) = i by omega]
    exact hx
  · obtain ⟨dg', hd⟩ := h ws dg
    obtain ⟨n', h1', _, _, _, _, _, dg2, hr⟩ := esc_some hz out ws dg'
    obtain rfl : n' = n := by omega
    refine ⟨dg2, ?_⟩
    rw [hd, drop_at h9, hr, ← drop_at h9, List.drop_drop]
theorem qinv_zero {L : List Int} {pos : Nat} {out : List Int} (h : QInv L pos out) (h9 : L[pos]? = some 92) (hz : (escM (L.drop (pos + 1))).2 = 0) (ws : List ByteArray) (dg : Int) : fin (runS (start ws dg) L) = none := by
  obtain ⟨dg', hd⟩ := h ws dg
  rw [hd, drop_at h9]
  exact esc_zero hz out ws dg'
theorem qinv_odd {L : List Int} {pos : Nat} {out : List Int} {c : Int} (h : QInv L pos out) (h9 : L[pos]? = some c) (hc : c < 32 ∨ c = 127) (ws : List ByteArray) (dg : Int) : fin (runS (start ws dg) L) = none := by
  obtain ⟨dg', hd⟩ := h ws dg
  rw [hd, drop_at h9]
  exact quo_bad hc _ out ws dg'
theorem qinv_open {L : List Int} {out : List Int} (h : QInv L L.length out) (ws : List ByteArray) (dg : Int) : fin (runS (start ws dg) L) = none := by
  obtain ⟨dg', hd⟩ := h ws dg
  rw [hd, List.drop_of_length_le (Nat.le_refl _)]
  simp [runS, fin]
theorem qinv_wrong {L : List Int} {pos : Nat} {out : List Int} {c : Int} (h : QInv L pos out) (h9 : L[pos]? = some 34) (hc : L[pos + 1]? = some c) (hb : blank c = false) (ws : List ByteArray) (dg : Int) : fin (runS (start ws dg) L) = none := by
  obtain ⟨dg', hd⟩ := h ws dg
  rw [hd, drop_at h9]
  exact quo_wrong _ c (by rw [List.getElem?_drop]; exact hc) hb out ws dg'
theorem qinv_end {s : ByteArray} {pos : Nat} {out : List Int} (h : QInv (strN s) pos out) (h9 : (strN s)[pos]? = some 34) (hb : ∀ c, (strN s)[pos + 1]? = some c → blank c = true) (hl : out.length ≤ s.size) :
    WordA s (.returned (.tuple #[.string (bs out), .string (s.extract (pos + 1) s.size), .bool true])) := by
  have hlt := (List.getElem?_eq_some_iff.1 h9).1
  rw [strN_len] at hlt
  refine .inl ⟨_, _, rfl, by simp; omega, by rw [bs_len]; exact hl, fun ws dg => ?_⟩
  obtain ⟨dg', hd⟩ := h ws dg
  refine ⟨dg', ?_⟩
  rw [hd, drop_at h9, quo_ends _ (fun c hc => hb c (by rw [List.getElem?_drop] at hc; exact hc)), drop_str]
theorem wordA_no {s : ByteArray} (h : ∀ ws dg, fin (runS (start ws dg) (strN s)) = none) : WordA s (.returned (.tuple #[.string ⟨#[]⟩, .string ⟨#[]⟩, .bool false])) := .inr ⟨rfl, h⟩
/-- append of a string. -/
theorem flat_strN (s : ByteArray) : flatE u8E (strN s) = Lib.strCells s := by
  rw [flat_u8b]
  simp [Lib.strCells, strN]
theorem lo_str {w : World} {base : Nat} {v : Value} {l : List Int} (h : LO u8E w base v l) (ty : TypeId) (s : ByteArray) (hl : l.length + s.size ≤ 140737488355328) (hbase : base ≤ w.heap.size) :
    ∃ v' w', (Builtin.append_ #[23, 9] ty #[v, .string s]).run Tryd.prog w = .ok v' w' ∧ LO u8E w' base v' (l ++ strN s) ∧ w.grownBy w' v.ownBlock := by
  obtain ⟨i0, hi, hz0, hz1, hz2⟩ := info_parts u8E.info
  obtain ⟨v', w', hr, h2, h3, _⟩ := Lib.run_append_own_string (P := Tryd.prog) w base 23 9 ty 5 i0 Tryd.underlying23 Tryd.underlying9 hi hz0 hz1 hz2 v l.length (flatE u8E l) h s (by unfold maxLen; omega) hl hbase
  refine ⟨v', w', hr, ?_, h3⟩
  unfold LO
  rw [flatE_app2, List.length_append, strN_len, flat_strN]
  exact h2
section
variable {w : World} {ops : Array Oper} {rest : List Oper} {o : Oper} {a : Act} {Q : Exit → Act → World → Prop}
theorem wpl_str (hgd : o.guard = none) (sl x : Operand) (ho : o.op = .call { callee := .builtin .append, args := #[sl, x], argTypes := #[23, 9] }) (base : Nat) (v : Value) (l : List Int) (hs : a.eval sl = v) (hown : LO u8E w base v l) (s : ByteArray) (hx : a.eval x = .string s) (hl : l.length + s.size ≤ 140737488355328) (hbase : base ≤ w.heap.size)
    (h : ∀ v' w', LO u8E w' base v' (l ++ strN s) → w.grownBy w' v.ownBlock → wpList Tryd.prog ops Q rest (a.put o.dst v') w') : wpList Tryd.prog ops Q (o :: rest) a w := by
  obtain ⟨v', w', hr, h2, h3⟩ := lo_str hown o.type s hl hbase
  refine wpList_plain hgd fun K hK => ?_
  unfold Oper.wp
  simp [execOp, ho, resolve, invoke, builtin, hs, hx, hr, Result.andThen]
  exact hK _ _ (h v' w' h2 h3)
theorem step_str {K : Act → World → Prop} {EE : Prop} (hgd : o.guard = none) (sl x : Operand) (ho : o.op = .call { callee := .builtin .append, args := #[sl, x], argTypes := #[23, 9] }) (base : Nat) (v : Value) (l : List Int) (hs : a.eval sl = v) (hown : LO u8E w base v l) (s : ByteArray) (hx : a.eval x = .string s) (hl : l.length + s.size ≤ 140737488355328) (hbase : base ≤ w.heap.size)
    (h : ∀ v' w', LO u8E w' base v' (l ++ strN s) → w.grownBy w' v.ownBlock → K (a.put o.dst v') w') :
    if Region.wanted o (yielded ops a.tmps) = true then Oper.wp Tryd.prog o a w K Q else EE := by
  have hw : Region.wanted o (yielded ops a.tmps) = true := by simp [Region.wanted, hgd]
  rw [if_pos hw]
  obtain ⟨v', w', hr, h2, h3⟩ := lo_str hown o.type s hl hbase
  unfold Oper.wp
  simp [execOp, ho, resolve, invoke, builtin, hs, hx, hr, Result.andThen]
  exact h v' w' h2 h3
end

end Sh
end Ex
end Go.Proofs.YtajmbplipjeojaaDoor
