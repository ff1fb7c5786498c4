import Derived.Test.YtbnchnlogikecaaGreatDoorMExRd2
import Derived.Deep.AppendLies
import Derived.OwnWalk
import Derived.Lib.AppendStr
import Derived.Lib.AppendZeros
import Derived.Lib.ConvBytes
import Derived.Laws.BytesString
import Derived.Deep.RegionHeld3
import Derived.Deep.DeepMust
import Derived.Test.YtbnchnlogikecaaGreatDoorMExO0
import Derived.ArgAppend
namespace Go.Proofs.YtbnchnlogikecaaGreatDoor
open Go.RowKit
attribute [local go_sem] Oper.semAt_some
namespace Ex
namespace Sh

theorem owns_same {w w' : World} {base size n : Nat} {e : TypeId} {v : Value} {xs : List Value} (h : w.ownsRow base e size v n xs) (hh : ∀ g, v.ownBlock = some g → w'.heap[g]? = w.heap[g]?) : w'.ownsRow base e size v n xs := by
  refine ⟨h.1, ?_⟩
  rcases h.2 with h0 | ⟨g, cap, cur, rfl, h1, h2, h3⟩
  · exact .inl h0
  · exact .inr ⟨g, cap, cur, rfl, h1, by rw [hh g rfl]; exact h2, h3⟩
theorem row_cells {w : World} {g n : Nat} {cur : Array Value} {xs : List Value} {t : TypeId} (h : w.heap[g]? = some (.cells cur t (0, 0))) (hx : cur.toList.take n = xs) : ∀ j u, xs[j]? = some u → w.cell? ⟨g, 0 + j, none⟩ = some u := by
  intro j u hj
  rw [← hx, List.getElem?_take] at hj
  split at hj
  · unfold World.cell?
    rw [Nat.zero_add]
    simp only [h]
    simpa using hj
  · cases hj
/-- A kind of element of lists: its type, the list's type, its cells, its bytes, what its cells are. -/
structure ElK (α : Type) where
  T : TypeId
  TT : TypeId
  sz : Nat
  by_ : Nat
  z : Value
  enc : α → List Value
  pos : 0 < sz
  info : (Tryz.prog.info? T).map (fun i => (i.zero, i.size, i.bytes)) = some (some z, sz, by_)
  zs : z.cells.size = sz
  und : Tryz.prog.underlying TT = some (.slice T)
  len : ∀ x, (enc x).length = sz
  one : ∀ x, ∀ u ∈ enc x, u.oneCell' = true
section
variable {α : Type} (E : ElK α)
def flatE (l : List α) : List Value := l.flatMap E.enc
theorem flatE_app (l : List α) (q : α) : flatE E (l ++ [q]) = flatE E l ++ E.enc q := by unfold flatE; simp
/-- A list of the call's own. -/
def LO (w : World) (base : Nat) (v : Value) (l : List α) : Prop := w.ownsRow base E.T E.sz v l.length (flatE E l)
variable {E}
theorem LO.nil (w : World) (base : Nat) : LO E w base (.slice none 0 0) [] := World.ownsRow_nil _ _ _ _
theorem LO.form {w : World} {base : Nat} {v : Value} {l : List α} (h : LO E w base v l) : ∃ a c, v = .slice a l.length c := by
  rcases h.2 with ⟨rfl, h0⟩ | ⟨g, cap, cur, rfl, _⟩
  · exact ⟨none, 0, by rw [h0]⟩
  · exact ⟨_, _, rfl⟩
theorem LO.lt' {w : World} {base : Nat} {v : Value} {l : List α} (h : LO E w base v l) : ∀ g, v.ownBlock = some g → base ≤ g ∧ g < w.heap.size := fun g hg => World.ownsRow.lt h g hg
theorem LO.same {w w' : World} {base : Nat} {v : Value} {l : List α} (h : LO E w base v l) (he : ∀ d, v.ownBlock = some d → w'.heap[d]? = w.heap[d]?) : LO E w' base v l := owns_same h he
theorem LO.keep {w w' : World} {base : Nat} {v : Value} {l : List α} (h : LO E w base v l) (hk : Kept w w') : LO E w' base v l := h.same (fun d hd => hk.2.2.2.2 d (h.lt' d hd).2)
/-- append of one element, that lies in a block of its own. -/
theorem lo_run {w : World} {base : Nat} {v : Value} {l : List α} (h : LO E w base v l) (ty : TypeId) {lb : Nat} {q : α} (hbx : w.heap[lb]? = some (.cells (E.enc q).toArray E.T (0, 0))) (hl : (l.length + 1) * E.by_ ≤ 140737488355328) (hl2 : l.length + 1 ≤ maxLen) (hbase : base ≤ w.heap.size) :
    ∃ g cap w', (Builtin.append_ #[E.TT, E.TT] ty #[v, .slice (some ⟨lb, 0, none⟩) 1 1]).run Tryz.prog w = .ok (.slice (some ⟨g, 0, none⟩) (l.length + 1) cap) w' ∧ LO E w' base (.slice (some ⟨g, 0, none⟩) (l.length + 1) cap) (l ++ [q]) ∧ w.grownBy w' v.ownBlock ∧ (v.ownBlock = some g ∨ g = w.heap.size) ∧ g < w'.heap.size := by
  obtain ⟨i0, hi, hz0, hz1, hz2⟩ := info_parts E.info
  obtain ⟨g, cap, w', hr, h2, h3, h4, h5⟩ := run_append_lies (P := Tryz.prog) w E.TT ty base E.T i0 _ E.sz E.by_ E.und hi hz0 hz1 hz2 E.zs E.pos v l.length (flatE E l) h ⟨lb, 0, none⟩ 1 1 (E.enc q) (by rw [E.len, Nat.one_mul]) (fun j y hj => by
    have e : w.cell? ⟨lb, j, none⟩ = (E.enc q)[j]? := by simp [World.cell?, hbx]
    simp only [Addr.add, Nat.zero_add]
    split
    · rename_i h0
      subst h0
      rw [e, hj]
    · rw [e, hj]) (E.one q) (by decide) hl2 hl hbase w.heap.size rfl
  refine ⟨g, cap, w', hr, ?_, h3, h4, h5⟩
  unfold LO
  rw [flatE_app, List.length_append]
  exact h2
section
variable {w : World} {ops : Array Oper} {rest : List Oper} {o : Oper} {a : Act} {Q : Exit → Act → World → Prop}
theorem wpl_lo (hgd : o.guard = none) (s x : Operand) (ho : o.op = .call { callee := .builtin .append, args := #[s, x], argTypes := #[E.TT, E.TT] }) (base : Nat) (v : Value) (l : List α) (m : Nat) (hm : l.length = m) (hs : a.eval s = v) (hown : LO E w base v l) (lb : Nat) (q : α) (hx : a.eval x = .slice (some ⟨lb, 0, none⟩) 1 1) (hbx : w.heap[lb]? = some (.cells (E.enc q).toArray E.T (0, 0))) (hl : (m + 1) * E.by_ ≤ 140737488355328) (hl2 : m + 1 ≤ maxLen) (hbase : base ≤ w.heap.size)
    (h : ∀ g cap w', LO E w' base (.slice (some ⟨g, 0, none⟩) (m + 1) cap) (l ++ [q]) → w.grownBy w' v.ownBlock → (v.ownBlock = some g ∨ g = w.heap.size) → g < w'.heap.size → wpList Tryz.prog ops Q rest (a.put o.dst (.slice (some ⟨g, 0, none⟩) (m + 1) cap)) w') : wpList Tryz.prog ops Q (o :: rest) a w := by
  subst hm
  obtain ⟨g, cap, w', hr, h2, h3, h4, h5⟩ := lo_run hown o.type hbx hl hl2 hbase
  refine wpList_plain hgd fun K hK => ?_
  unfold Oper.wp
  simp [execOp, ho, resolve, invoke, builtin, hs, hx, hr, Result.andThen]
  exact hK _ _ (h g cap w' h2 h3 h4 h5)
/-- The same at a step of a region that draws its order. -/
theorem step_lo {K : Act → World → Prop} {EE : Prop} (hgd : o.guard = none) (s x : Operand) (ho : o.op = .call { callee := .builtin .append, args := #[s, x], argTypes := #[E.TT, E.TT] }) (base : Nat) (v : Value) (l : List α) (m : Nat) (hm : l.length = m) (hs : a.eval s = v) (hown : LO E w base v l) (lb : Nat) (q : α) (hx : a.eval x = .slice (some ⟨lb, 0, none⟩) 1 1) (hbx : w.heap[lb]? = some (.cells (E.enc q).toArray E.T (0, 0))) (hl : (m + 1) * E.by_ ≤ 140737488355328) (hl2 : m + 1 ≤ maxLen) (hbase : base ≤ w.heap.size)
    (h : ∀ g cap w', LO E w' base (.slice (some ⟨g, 0, none⟩) (m + 1) cap) (l ++ [q]) → w.grownBy w' v.ownBlock → (v.ownBlock = some g ∨ g = w.heap.size) → g < w'.heap.size → K (a.put o.dst (.slice (some ⟨g, 0, none⟩) (m + 1) cap)) w') :
    if Region.wanted o (yielded ops a.tmps) = true then Oper.wp Tryz.prog o a w K Q else EE := by
  subst hm
  have hw : Region.wanted o (yielded ops a.tmps) = true := by simp [Region.wanted, hgd]
  rw [if_pos hw]
  obtain ⟨g, cap, w', hr, h2, h3, h4, h5⟩ := lo_run hown o.type hbx hl hl2 hbase
  unfold Oper.wp
  simp [execOp, ho, resolve, invoke, builtin, hs, hx, hr, Result.andThen]
  exact h g cap w' h2 h3 h4 h5
end
/-- Where an element's cells lie. -/
theorem LO.cell {w : World} {base g n cap : Nat} {l : List α} (h : LO E w base (.slice (some ⟨g, 0, none⟩) n cap) l) {i j : Nat} {x : α} {u : Value} (hx : l[i]? = some x) (hu : (E.enc x)[j]? = some u) : w.cell? ⟨g, i * E.sz + j, none⟩ = some u := by
  rcases h.2 with ⟨h0, _⟩ | ⟨g', cap', cur, he, _, hg, hc, hlen, _, hxs⟩
  · cases h0
  · have hj : j < E.sz := by rw [← E.len x]; exact (List.getElem?_eq_some_iff.1 hu).1
    have key : ∀ (l : List α) (i : Nat), l[i]? = some x → (flatE E l)[i * E.sz + j]? = some u := fun l => by
      induction l with
      | nil => intro i hi; simp at hi
      | cons y l ih =>
        intro i hi
        have e : flatE E (y :: l) = E.enc y ++ flatE E l := by unfold flatE; simp
        cases i with
        | zero =>
          simp only [List.getElem?_cons_zero, Option.some.injEq] at hi
          subst hi
          rw [e, Nat.zero_mul, Nat.zero_add, List.getElem?_append_left (by rw [E.len]; exact hj), hu]
        | succ i =>
          simp only [List.getElem?_cons_succ] at hi
          rw [e, List.getElem?_append_right (by rw [E.len, Nat.add_mul]; omega), E.len, ← ih i hi]
          congr 1
          rw [Nat.add_mul]
          omega
    injection he with he1
    injection he1 with he2
    injection he2 with he3
    subst he3
    have := row_cells hg hxs (i * E.sz + j) u (key l i hx)
    rw [Nat.zero_add] at this
    exact this
end

theorem flatE_app2 {α : Type} (E : ElK α) (l m : List α) : flatE E (l ++ m) = flatE E l ++ flatE E m := by unfold flatE; simp
theorem flatE_one {α : Type} (E : ElK α) (l : List α) : ∀ u ∈ flatE E l, u.oneCell' = true := fun u hu => by
  unfold flatE at hu
  obtain ⟨x, _, h⟩ := List.mem_flatMap.1 hu
  exact E.one x u h
theorem flatE_lenT {α : Type} (E : ElK α) (l : List α) : (flatE E l).length = l.length * E.sz := by
  induction l with
  | nil => simp [flatE]
  | cons x l ih =>
    have e : flatE E (x :: l) = E.enc x ++ flatE E l := by unfold flatE; simp
    rw [e, List.length_append, ih, E.len, List.length_cons, Nat.add_mul]
    omega
/-- Where a list's elements can be read. -/
def Src {α : Type} (E : ElK α) (w : World) (sa : Option Addr) (ys : List α) : Prop := ys = [] ∨ ∃ g o, sa = some ⟨g, o, none⟩ ∧ ∀ j u, (flatE E ys)[j]? = some u → w.cell? ⟨g, o + j, none⟩ = some u
theorem Src.keep {α : Type} {E : ElK α} {w w' : World} {sa : Option Addr} {ys : List α} (h : Src E w sa ys) (hk : Kept w w') : Src E w' sa ys := by
  rcases h with h | ⟨g, o, h1, h2⟩
  · exact Or.inl h
  · exact Or.inr ⟨g, o, h1, fun j u hj => grown_cell hk (h2 j u hj)⟩
theorem lo_zero {α : Type} {E : ElK α} {w : World} {base : Nat} {v : Value} {l : List α} (h : LO E w base v l) (a : Option Addr) (cap : Nat) (ty : TypeId) :
    (Builtin.append_ #[E.TT, E.TT] ty #[v, .slice a 0 cap]).run Tryz.prog w = .ok v w := by
  obtain ⟨i0, hi, hz0, hz1, hz2⟩ := info_parts E.info
  have ht := E.und
  rcases h.2 with ⟨rfl, h0⟩ | ⟨g, c, cur, rfl, _, _, hnc, _⟩
  · cases a <;> simp [Builtin.append_, run_underlying ht, sizeOf, typeInfo, hi, Builtin.lenOf, Builtin.firstCells, loadCells, loadCellsFrom, Result.andThen]
  · cases a <;> simp [Builtin.append_, run_underlying ht, sizeOf, typeInfo, hi, Builtin.lenOf, Builtin.firstCells, hnc, storeCells, loadCells, loadCellsFrom, Result.andThen]
/-- append of a list. -/
theorem lo_many {α : Type} {E : ElK α} {w : World} {base : Nat} {v : Value} {l : List α} (h : LO E w base v l) (ty : TypeId) {sa : Option Addr} {ys : List α} (sc : Nat) (hs : Src E w sa ys) (hl : (l.length + ys.length) * E.by_ ≤ 140737488355328) (hl2 : l.length + ys.length ≤ maxLen) (hbase : base ≤ w.heap.size) :
    ∃ a' cap w', (Builtin.append_ #[E.TT, E.TT] ty #[v, .slice sa ys.length sc]).run Tryz.prog w = .ok (.slice a' (l.length + ys.length) cap) w' ∧ LO E w' base (.slice a' (l.length + ys.length) cap) (l ++ ys) ∧ w.grownBy w' v.ownBlock ∧ ((Value.slice a' (l.length + ys.length) cap).ownBlock = v.ownBlock ∨ (Value.slice a' (l.length + ys.length) cap).ownBlock = some w.heap.size) := by
  by_cases hy : ys = []
  · subst hy
    obtain ⟨b', c', rfl⟩ := h.form
    refine ⟨b', c', w, lo_zero h sa sc ty, ?_, ⟨rfl, rfl, rfl, Nat.le_refl _, fun _ _ _ => rfl⟩, Or.inl rfl⟩
    rw [List.append_nil]
    exact h
  · rcases hs with hs | ⟨g0, o0, rfl, hc⟩
    · exact absurd hs hy
    · obtain ⟨i0, hi, hz0, hz1, hz2⟩ := info_parts E.info
      obtain ⟨g, cap, w', hr, h2, h3, h4, h5⟩ := run_append_lies (P := Tryz.prog) w E.TT ty base E.T i0 _ E.sz E.by_ E.und hi hz0 hz1 hz2 E.zs E.pos v l.length (flatE E l) h ⟨g0, o0, none⟩ ys.length sc (flatE E ys) (by rw [flatE_lenT]) (fun j y hj => by rw [Addr.add_lit]; exact hc j y hj) (flatE_one E ys) (List.length_pos_iff.2 hy) hl2 hl hbase w.heap.size rfl
      refine ⟨some ⟨g, 0, none⟩, cap, w', hr, ?_, h3, ?_⟩
      · unfold LO
        rw [flatE_app2, List.length_append]
        exact h2
      · rcases h4 with h4 | h4
        · exact Or.inl h4.symm
        · exact Or.inr (by rw [h4]; rfl)
section
variable {α : Type} {E : ElK α} {w : World} {ops : Array Oper} {rest : List Oper} {o : Oper} {a : Act} {Q : Exit → Act → World → Prop}
theorem wpl_many (hgd : o.guard = none) (s x : Operand) (ho : o.op = .call { callee := .builtin .append, args := #[s, x], argTypes := #[E.TT, E.TT] }) (base : Nat) (v : Value) (l ys : List α) (m n k : Nat) (hm : l.length = m) (hn : ys.length = n) (hk : m + n = k) (hs : a.eval s = v) (hown : LO E w base v l) (sa : Option Addr) (sc : Nat) (hx : a.eval x = .slice sa n sc) (hsrc : Src E w sa ys) (hl : k * E.by_ ≤ 140737488355328) (hl2 : k ≤ maxLen) (hbase : base ≤ w.heap.size)
    (h : ∀ a' cap w', LO E w' base (.slice a' k cap) (l ++ ys) → w.grownBy w' v.ownBlock → ((Value.slice a' k cap).ownBlock = v.ownBlock ∨ (Value.slice a' k cap).ownBlock = some w.heap.size) → wpList Tryz.prog ops Q rest (a.put o.dst (.slice a' k cap)) w') : wpList Tryz.prog ops Q (o :: rest) a w := by
  subst hm hn hk
  obtain ⟨a', cap, w', hr, h2, h3, h4⟩ := lo_many hown o.type sc hsrc hl hl2 hbase
  refine wpList_plain hgd fun K hK => ?_
  unfold Oper.wp
  simp [execOp, ho, resolve, invoke, builtin, hs, hx, hr, Result.andThen]
  exact hK _ _ (h a' cap w' h2 h3 h4)
end
def encStr (y : ByteArray) : List Value := [.string y]
theorem encStr_one (y : ByteArray) : ∀ u ∈ encStr y, u.oneCell' = true := fun u hu => by
  unfold encStr at hu
  simp only [List.mem_cons, List.not_mem_nil, or_false] at hu
  subst hu
  rfl
/-- Lists of strings. -/
def strE : ElK ByteArray := { T := 9, TT := 24, sz := 1, by_ := 16, z := .string ByteArray.empty, enc := encStr, pos := by decide, info := by kernel_rfl, zs := rfl, und := Tryz.underlying24, len := fun _ => rfl, one := encStr_one }
end Sh
end Ex
end Go.Proofs.YtbnchnlogikecaaGreatDoor
namespace Go.Proofs.YtbnchnlogikecaaGreatDoor
open Go.RowKit
set_option linter.unusedVariables false
namespace Ex
namespace Sh

def KT (S : Nat → Prop) (u v : World) : Prop := v.os = u.os ∧ v.tape = u.tape ∧ v.output = u.output ∧ u.heap.size ≤ v.heap.size ∧ ∀ k, k < u.heap.size → ¬ S k → v.heap[k]? = u.heap[k]?
theorem KT.trans {S : Nat → Prop} {u v w : World} (h : KT S u v) (k : KT S v w) : KT S u w := ⟨k.1.trans h.1, k.2.1.trans h.2.1, k.2.2.1.trans h.2.2.1, Nat.le_trans h.2.2.2.1 k.2.2.2.1, fun d hd h1 => (k.2.2.2.2 d (Nat.lt_of_lt_of_le hd h.2.2.2.1) h1).trans (h.2.2.2.2 d hd h1)⟩
theorem _root_.Go.Proofs.YtbnchnlogikecaaGreatDoor.Ex.Kept.kt (S : Nat → Prop) {u v : World} (h : Kept u v) : KT S u v := ⟨h.1, h.2.1, h.2.2.1, h.2.2.2.1, fun k hk _ => h.2.2.2.2 k hk⟩
theorem KT.mono {S S' : Nat → Prop} {u v : World} (h : KT S u v) (hs : ∀ k, S k → S' k) : KT S' u v := ⟨h.1, h.2.1, h.2.2.1, h.2.2.2.1, fun k hk hn => h.2.2.2.2 k hk (fun e => hn (hs k e))⟩
theorem set_kt (w : World) (g o : Nat) (u : Value) : KT (fun k => k = g) w (w.setCell ⟨g, o, none⟩ u) := ⟨rfl, rfl, rfl, by simp [World.setCell], fun k _ hn => Below.heap_setCell _ _ _ _ hn⟩
/-- Elements of equal width, as one row of cells. -/
theorem flat_get {sz : Nat} (hs : 0 < sz) : ∀ (E : List (List Value)), (∀ x ∈ E, x.length = sz) → ∀ k, E.flatten[k]? = (E[k / sz]?).bind (fun x => x[k % sz]?)
  | [], _, k => by simp
  | x :: E, h, k => by
    have hx := h x List.mem_cons_self
    rw [List.flatten_cons]
    by_cases hk : k < sz
    · rw [List.getElem?_append_left (by omega), Nat.div_eq_of_lt hk, Nat.mod_eq_of_lt hk]
      rfl
    · rw [List.getElem?_append_right (by omega), hx, flat_get hs E (fun y hy => h y (List.mem_cons_of_mem _ hy))]
      have e1 : k / sz = (k - sz) / sz + 1 := by
        rw [Nat.div_eq_sub_div hs (by omega)]
      have e2 : k % sz = (k - sz) % sz := by rw [Nat.mod_eq_sub_mod (by omega)]
      rw [e1, e2, List.getElem?_cons_succ]
theorem flat_len {sz : Nat} : ∀ (E : List (List Value)), (∀ x ∈ E, x.length = sz) → E.flatten.length = E.length * sz
  | [], _ => by simp
  | x :: E, h => by
    rw [List.flatten_cons, List.length_append, h x List.mem_cons_self, flat_len E (fun y hy => h y (List.mem_cons_of_mem _ hy)), List.length_cons, Nat.add_mul]
    omega
theorem flat_inj {sz : Nat} (hs : 0 < sz) : ∀ (E F : List (List Value)), (∀ x ∈ E, x.length = sz) → (∀ x ∈ F, x.length = sz) → E.flatten = F.flatten → E = F
  | [], [], _, _, _ => rfl
  | [], y :: F, _, hF, e => by
    have := congrArg List.length e
    rw [List.flatten_cons, List.length_append, hF y List.mem_cons_self] at this
    simp at this
    omega
  | x :: E, [], hE, _, e => by
    have := congrArg List.length e
    rw [List.flatten_cons, List.length_append, hE x List.mem_cons_self] at this
    simp at this
    omega
  | x :: E, y :: F, hE, hF, e => by
    rw [List.flatten_cons, List.flatten_cons] at e
    have h1 := List.append_inj e (by rw [hE x List.mem_cons_self, hF y List.mem_cons_self])
    rw [h1.1, flat_inj hs E F (fun z hz => hE z (List.mem_cons_of_mem _ hz)) (fun z hz => hF z (List.mem_cons_of_mem _ hz)) h1.2]
theorem flat_take {sz : Nat} : ∀ (E : List (List Value)) (n : Nat), (∀ x ∈ E, x.length = sz) → (E.take n).flatten = E.flatten.take (n * sz)
  | [], n, _ => by simp
  | x :: E, 0, _ => by simp
  | x :: E, n + 1, h => by
    have e : (n + 1) * sz = x.length + n * sz := by rw [h x List.mem_cons_self, Nat.add_mul]; omega
    rw [List.take_succ_cons, List.flatten_cons, List.flatten_cons, flat_take E n (fun y hy => h y (List.mem_cons_of_mem _ hy)), e, List.take_length_add_append]
theorem flat_of {sz : Nat} : ∀ (c : Nat) (l : List Value), l.length = c * sz → ∃ E : List (List Value), E.length = c ∧ (∀ x ∈ E, x.length = sz) ∧ E.flatten = l
  | 0, l, h => ⟨[], rfl, by simp, by have : l = [] := List.length_eq_zero_iff.1 (by omega); rw [this]; rfl⟩
  | c + 1, l, h => by
    rw [Nat.add_mul] at h
    obtain ⟨E, h1, h2, h3⟩ := flat_of (sz := sz) c (l.drop sz) (by rw [List.length_drop]; omega)
    refine ⟨l.take sz :: E, by simp [h1], ?_, by rw [List.flatten_cons, h3, List.take_append_drop]⟩
    intro x hx
    rcases List.mem_cons.1 hx with rfl | hx
    · rw [List.length_take]
      omega
    · exact h2 x hx
/-- A block of elements of the type T, sz cells each. -/
def RowE (T : TypeId) (sz : Nat) (w : World) (b : Nat) (E : List (List Value)) : Prop := ∃ cur, w.heap[b]? = some (.cells cur T (0, 0)) ∧ cur.toList = E.flatten ∧ ∀ x ∈ E, x.length = sz
section
variable {T : TypeId} {sz : Nat} {w w' : World} {b : Nat} {E E' : List (List Value)}
theorem RowE.lt (h : RowE T sz w b E) : b < w.heap.size := by
  obtain ⟨_, h, _⟩ := h
  exact (Array.getElem?_eq_some_iff.1 h).1
theorem RowE.same (h : RowE T sz w b E) (hh : w'.heap[b]? = w.heap[b]?) : RowE T sz w' b E := by
  obtain ⟨cur, h1, h2⟩ := h
  exact ⟨cur, hh.trans h1, h2⟩
theorem RowE.kept (h : RowE T sz w b E) (hk : Kept w w') : RowE T sz w' b E := h.same (hk.2.2.2.2 b h.lt)
theorem RowE.one (hs : 0 < sz) (h : RowE T sz w b E) (h' : RowE T sz w b E') : E = E' := by
  obtain ⟨cur, h1, h2, h3⟩ := h
  obtain ⟨cur', g1, g2, g3⟩ := h'
  rw [h1] at g1
  injection g1 with g1
  injection g1 with g1 _ _
  subst g1
  exact flat_inj hs E E' h3 g3 (h2.symm.trans g2)
theorem RowE.cell (hs : 0 < sz) (h : RowE T sz w b E) {s j : Nat} {x : List Value} {u : Value} (hx : E[s]? = some x) (hu : x[j]? = some u) : w.cell? ⟨b, s * sz + j, none⟩ = some u := by
  obtain ⟨cur, h1, h2, h3⟩ := h
  have hxl := h3 x (List.mem_of_getElem? hx)
  have hj : j < sz := by have := (List.getElem?_eq_some_iff.1 hu).1; omega
  have e : cur.toList[s * sz + j]? = some u := by
    rw [h2, flat_get hs E h3, show (s * sz + j) / sz = s by rw [Nat.mul_comm, Nat.mul_add_div hs, Nat.div_eq_of_lt hj, Nat.add_zero], show (s * sz + j) % sz = j by rw [Nat.mul_comm, Nat.mul_add_mod, Nat.mod_eq_of_lt hj], hx]
    exact hu
  simp only [World.cell?, h1]
  simpa using e
theorem RowE.frozen (h : RowE T sz w b E) (o : Nat) : w.frozen? ⟨b, o, none⟩ = false := by
  obtain ⟨cur, h1, _⟩ := h
  simp [World.frozen?, h1]
/-- One element is written over. -/
theorem RowE.put (hs : 0 < sz) (h : RowE T sz w b E) {s : Nat} {x : List Value} (hx : x.length = sz) {cur cur' : Array Value} (h1 : w.heap[b]? = some (.cells cur T (0, 0))) (h2 : w'.heap[b]? = some (.cells cur' T (0, 0))) (hl : s < E.length) (hc : ∀ k, cur'[k]? = if s * sz ≤ k ∧ k < s * sz + sz then x[k - s * sz]? else cur[k]?) : RowE T sz w' b (E.set s x) := by
  obtain ⟨cu, g1, g2, g3⟩ := h
  rw [h1] at g1
  injection g1 with g1
  injection g1 with g1 _ _
  subst g1
  have hm : ∀ y ∈ E.set s x, y.length = sz := by
    intro y hy
    rcases List.mem_or_eq_of_mem_set hy with hy | rfl
    · exact g3 y hy
    · exact hx
  refine ⟨cur', h2, ?_, hm⟩
  refine List.ext_getElem? fun k => ?_
  rw [flat_get hs _ hm, Array.getElem?_toList, hc k]
  have hdm := Nat.div_add_mod k sz
  have hml := Nat.mod_lt k hs
  by_cases hks : k / sz = s
  · have e : s * sz + k % sz = k := by rw [← hks, Nat.mul_comm]; exact hdm
    rw [hks, List.getElem?_set_self hl, if_pos ⟨by omega, by omega⟩]
    show _ = x[k % sz]?
    congr 1
    omega
  · rw [List.getElem?_set_ne (fun e => hks e.symm), if_neg (fun hh => hks ?_), ← flat_get hs E g3, ← g2, Array.getElem?_toList]
    have h4 : k = sz * s + (k - s * sz) := by rw [Nat.mul_comm]; omega
    rw [h4, Nat.mul_add_div hs, Nat.div_eq_of_lt (by omega), Nat.add_zero]
theorem owns_rowE {base n cap : Nat} {xs : List Value} (h : w.ownsRow base T sz (.slice (some ⟨b, 0, none⟩) n cap) n xs) : ∃ E, RowE T sz w b E ∧ E.length = cap ∧ (E.take n).flatten = xs ∧ n ≤ cap ∧ base ≤ b ∧ cap ≤ maxLen := by
  rcases h.2 with ⟨h, _⟩ | ⟨g', c', cur, e, h1, h2, h3, h4, h5, h6⟩
  · cases h
  · simp only [Value.slice.injEq, Option.some.injEq, Addr.mk.injEq] at e
    obtain ⟨⟨rfl, _⟩, _, rfl⟩ := e
    obtain ⟨E, e1, e2, e3⟩ := flat_of (sz := sz) cap cur.toList (by simpa using h5)
    refine ⟨E, ⟨cur, h2, e3.symm, e2⟩, e1, ?_, h3, h1, h4⟩
    rw [flat_take E n e2, e3]
    exact h6
theorem rowE_owns {base n : Nat} (h : RowE T sz w b E) (hb : base ≤ b) (hn : n ≤ E.length) (hm : E.length ≤ maxLen) : w.ownsRow base T sz (.slice (some ⟨b, 0, none⟩) n E.length) n (E.take n).flatten := by
  obtain ⟨cur, h1, h2, h3⟩ := h
  have hcs : cur.size = E.length * sz := by
    have := congrArg List.length h2
    rw [flat_len E h3] at this
    simpa using this
  refine ⟨?_, .inr ⟨b, E.length, cur, rfl, hb, h1, hn, hm, hcs, ?_⟩⟩
  · rw [flat_len _ (fun x hx => h3 x (List.mem_of_mem_take hx)), List.length_take, Nat.min_eq_left hn]
  · rw [flat_take E n h3, h2]
end
theorem LO.type {α : Type} {E : ElK α} {w : World} {base : Nat} {v : Value} {l : List α} (h : LO E w base v l) {g : Nat} (hg : v.ownBlock = some g) : ∃ cur, w.heap[g]? = some (.cells cur E.T (0, 0)) := by
  rcases h.2 with ⟨rfl, _⟩ | ⟨g', cap, cur, rfl, _, h3, _⟩
  · cases hg
  · simp only [Value.ownBlock, Option.some.injEq] at hg
    subst hg
    exact ⟨cur, h3⟩
theorem LO.take {α : Type} {E : ElK α} {w : World} {base n c : Nat} {a : Option Addr} {l : List α} (h : LO E w base (.slice a n c) l) {k : Nat} (hk : k ≤ l.length) : LO E w base (.slice a k c) (l.take k) := by
  have hl : (l.take k).length = k := by rw [List.length_take]; omega
  have hfl : flatE E (l.take k) = (flatE E l).take (k * E.sz) := by
    have e : flatE E l = flatE E (l.take k) ++ flatE E (l.drop k) := by
      unfold flatE
      rw [← List.flatMap_append, List.take_append_drop]
    have e2 : (flatE E (l.take k)).length = k * E.sz := by rw [flatE_lenT, hl]
    rw [e, ← e2, List.take_left]
  unfold LO at h ⊢
  rw [hl]
  rcases h.2 with ⟨h0, h1⟩ | ⟨g, cap, cur, he, h2, h3, h4, h5, h6, h7⟩
  · have hk0 : k = 0 := by omega
    injection h0 with e1 e2 e3
    subst e1 e3 hk0
    refine ⟨?_, Or.inl ⟨rfl, rfl⟩⟩
    simp [flatE]
  · injection he with e1 e2 e3
    subst e1 e3
    refine ⟨by rw [hfl, List.length_take, flatE_lenT]; exact Nat.min_eq_left (Nat.mul_le_mul_right _ hk), Or.inr ⟨g, c, cur, rfl, h2, h3, by omega, h5, h6, ?_⟩⟩
    rw [hfl, ← h7, List.take_take, Nat.min_eq_left (Nat.mul_le_mul_right _ hk)]
theorem LO.cap {α : Type} {E : ElK α} {w : World} {base n cap : Nat} {a : Option Addr} {l : List α} (h : LO E w base (.slice a n cap) l) : l.length ≤ cap := by
  rcases h.2 with ⟨_, h0⟩ | ⟨g, cap', cur, he, _, _, h3, _⟩
  · omega
  · injection he with _ _ e3
    subst e3
    exact h3
theorem LO.some {α : Type} {E : ElK α} {w : World} {base n cap : Nat} {a : Option Addr} {l : List α} (h : LO E w base (.slice a n cap) l) (hl : l ≠ []) : ∃ g, a = some ⟨g, 0, none⟩ := by
  rcases h.2 with ⟨_, h0⟩ | ⟨g, cap', cur, he, _⟩
  · exact absurd (List.length_eq_zero_iff.1 h0) hl
  · injection he with e1
    exact ⟨g, e1⟩
section
variable {α : Type} {E : ElK α}
theorem flatE_map (l : List α) : flatE E l = (l.map E.enc).flatten := by
  unfold flatE
  rw [List.flatMap_def]
theorem enc_lens (l : List α) : ∀ y ∈ l.map E.enc, y.length = E.sz := fun y hy => by
  obtain ⟨x, _, rfl⟩ := List.mem_map.1 hy
  exact E.len x
theorem lo_lens {w : World} {base n c : Nat} {a : Option Addr} {l : List α} (h : LO E w base (.slice a n c) l) : l.length = n := by
  obtain ⟨a', c', e⟩ := h.form
  injection e with _ e2 _
  exact e2.symm
/-- A list's block, as elements. -/
theorem lo_toRow {w : World} {base g n c : Nat} {l : List α} (h : LO E w base (.slice (some ⟨g, 0, none⟩) n c) l) : ∃ EE, RowE E.T E.sz w g EE ∧ EE.length = c ∧ EE.take n = l.map E.enc ∧ n ≤ c ∧ base ≤ g ∧ c ≤ maxLen := by
  have hn := lo_lens h
  subst hn
  obtain ⟨EE, r1, r2, r3, r4, r5, r6⟩ := owns_rowE h
  have hE : ∀ x ∈ EE, x.length = E.sz := by obtain ⟨_, _, _, h⟩ := r1; exact h
  refine ⟨EE, r1, r2, ?_, r4, r5, r6⟩
  exact flat_inj E.pos _ _ (fun x hx => hE x (List.mem_of_mem_take hx)) (enc_lens l) (r3.trans (flatE_map l))
theorem lo_rowE {w : World} {base g n : Nat} {l : List α} {EE : List (List Value)} (r1 : RowE E.T E.sz w g EE) (hb : base ≤ g) (hn : n ≤ EE.length) (hm : EE.length ≤ maxLen) (ht : EE.take n = l.map E.enc) : LO E w base (.slice (some ⟨g, 0, none⟩) n EE.length) l := by
  have hl : l.length = n := by
    have := congrArg List.length ht
    rw [List.length_take, List.length_map] at this
    omega
  have h := rowE_owns (base := base) (n := n) r1 hb hn hm
  rw [ht, ← flatE_map] at h
  unfold LO
  rw [hl]
  exact h
end
/-- A list, as a value: where it lies, its length, its room. -/
abbrev SlV : Type := Option Addr × Nat × Nat
def val (x : SlV) : Value := .slice x.1 x.2.1 x.2.2
section
variable {α : Type} {E : ElK α} {L : ElK SlV}
theorem KT.wide {S S' : Nat → Prop} {u v w : World} (h : KT S u v) (k : KT S' v w) (hs : ∀ d, d < u.heap.size → S' d → S d) : KT S u w := ⟨k.1.trans h.1, k.2.1.trans h.2.1, k.2.2.1.trans h.2.2.1, Nat.le_trans h.2.2.2.1 k.2.2.2.1, fun d hd h1 => (k.2.2.2.2 d (Nat.lt_of_lt_of_le hd h.2.2.2.1) (fun e => h1 (hs d hd e))).trans (h.2.2.2.2 d hd h1)⟩
end

end Sh
end Ex
end Go.Proofs.YtbnchnlogikecaaGreatDoor
namespace Go.Proofs.YtbnchnlogikecaaGreatDoor
open Go.RowKit
set_option linter.unusedVariables false
namespace Ex
open Sh

/-- A pattern's six cells. -/
abbrev ExM : Type := Int × Int × Int × Int × Int × SlV
def encEx (x : ExM) : List Value := [.int .i64 x.1, .int .i64 x.2.1, .int .i64 x.2.2.1, .int .i64 x.2.2.2.1, .int .i64 x.2.2.2.2.1, val x.2.2.2.2.2]
theorem encEx_one (x : ExM) : ∀ u ∈ encEx x, u.oneCell' = true := fun u hu => by
  simp only [encEx, List.mem_cons, List.not_mem_nil, or_false] at hu
  rcases hu with rfl | rfl | rfl | rfl | rfl | rfl <;> rfl
def exE : ElK ExM := { T := 70, TT := 68, sz := 6, by_ := 64, z := .agg #[.int .i64 0, .int .i64 0, .int .i64 0, .int .i64 0, .int .i64 0, .slice none 0 0], enc := encEx, pos := by decide, info := by kernel_rfl, zs := rfl, und := Tryz.underlying68, len := fun _ => rfl, one := encEx_one }
theorem take_six {l : List Value} {a b c d e f : Value} (h0 : l[0]? = some a) (h1 : l[1]? = some b) (h2 : l[2]? = some c) (h3 : l[3]? = some d) (h4 : l[4]? = some e) (h5 : l[5]? = some f) : l.take 6 = [a, b, c, d, e, f] := by
  match l, h0, h1, h2, h3, h4, h5 with
  | x0 :: x1 :: x2 :: x3 :: x4 :: x5 :: t, h0, h1, h2, h3, h4, h5 =>
    simp at h0 h1 h2 h3 h4 h5
    subst h0 h1 h2 h3 h4 h5
    rfl
theorem take_rows (cs : List Value) : ∀ N : Nat, (∀ i, i < N → ∃ y : ExM, (cs.drop (i * 6)).take 6 = encEx y) → ∃ ys : List ExM, ys.length = N ∧ cs.take (N * 6) = flatE exE ys
  | 0, _ => ⟨[], rfl, by simp [flatE]⟩
  | N + 1, h => by
    obtain ⟨ys, h1, h2⟩ := take_rows cs N (fun i hi => h i (by omega))
    obtain ⟨y, hy⟩ := h N (by omega)
    refine ⟨ys ++ [y], by rw [List.length_append, h1]; rfl, ?_⟩
    rw [Nat.succ_mul, List.take_add, h2, hy]
    simp [flatE, exE]
theorem cell_list {w : World} {c o : Nat} {cur : Array Value} {t : TypeId} {v : Value} (hg : w.heap[c]? = some (.cells cur t (0, 0))) (h : w.cell? ⟨c, o, none⟩ = some v) : cur.toList[o]? = some v := by
  unfold World.cell? at h
  simp only [hg] at h
  simpa using h
/-- A list of patterns, as a row of cells. -/
theorem KidsO.lo {S : Nat → Prop} {w : World} {n : Nat} {l : List (PatN n)} {v : Value} (h : KidsO S w n l v) (hl : l ≠ []) : ∃ (c N cap : Nat) (ys : List ExM), v = .slice (some ⟨c, 0, none⟩) N cap ∧ S c ∧ N = l.length ∧ LO exE w 0 v ys := by
  match n, l, h with
  | 0, l, _ => exact absurd (none_of l) hl
  | n + 1, l, ⟨a, cap, hv, hlc, hl44, hor⟩ =>
    obtain ⟨c, cur, F, rfl, hSc, hg, hcm, hcs, f1, f2, hq⟩ := hor.resolve_left hl
    obtain ⟨ys, h1, h2⟩ := take_rows cur.toList l.length (fun i hi => by
      obtain ⟨v', g0, g1, g2, g3, g4, g5, g6⟩ := hq i _ (List.getElem?_eq_getElem hi)
      obtain ⟨au, cu, rfl⟩ := g6.form
      exact ⟨(_, _, _, _, _, (au, _, cu)), take_six (by rw [List.getElem?_drop]; exact cell_list hg g0) (by rw [List.getElem?_drop]; exact cell_list hg g1) (by rw [List.getElem?_drop]; exact cell_list hg g2) (by rw [List.getElem?_drop]; exact cell_list hg g3) (by rw [List.getElem?_drop]; exact cell_list hg g4) (by rw [List.getElem?_drop]; exact cell_list hg g5)⟩)
    refine ⟨c, l.length, cap, ys, hv, hSc, rfl, ?_⟩
    rw [hv]
    refine ⟨?_, .inr ⟨c, cap, cur, by rw [h1], Nat.zero_le _, hg, by rw [h1]; exact hlc, hcm, hcs, by rw [h1]; exact h2⟩⟩
    have h3 := congrArg List.length h2
    rw [List.length_take] at h3
    rw [← h3, h1]
    have h4 : cur.toList.length = cap * 6 := by rw [Array.length_toList]; exact hcs
    show min (l.length * 6) cur.toList.length = l.length * 6
    omega

end Ex
end Go.Proofs.YtbnchnlogikecaaGreatDoor
