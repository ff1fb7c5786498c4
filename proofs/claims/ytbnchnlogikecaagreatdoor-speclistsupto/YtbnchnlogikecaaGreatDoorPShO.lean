import Derived.Test.YtbnchnlogikecaaGreatDoorPExGd0
import Derived.Deep.AppendLies
import Derived.OwnWalk
import Derived.Lib.AppendStr
import Derived.Lib.AppendZeros
import Derived.Lib.ConvBytes
import Derived.Laws.BytesString
import Derived.Deep.RegionHeld3
import Derived.Deep.DeepMust
import Derived.Test.YtbnchnlogikecaaGreatDoorPExRd5
namespace Go.Proofs.YtbnchnlogikecaaGreatDoor
open Go.RowKit
attribute [local go_sem] Oper.semAt_some
namespace Ex
namespace Sh
theorem owns_same {w w' : World} {base size n : Nat} {e : TypeId} {v : Value} {xs : List Value} (h : w.ownsRow base e size v n xs) (hh : ∀ g, v.ownBlock = some g → w'.heap[g]? = w.heap[g]?) : w'.ownsRow base e size v n xs := by
  refine ⟨h.1, ?_⟩
  rcases h.2 with h0 | ⟨g, cap, cur, rfl, h1, h2, h3⟩
  · exact .inl h0
  · exact .inr ⟨g, cap, cur, rfl, h1, by rw [hh g rfl]; exact h2, h3⟩
theorem row_cells {w : World} {g n : Nat} {cur : Array Value} {xs : List Value} {t : TypeId} (h : w.heap[g]? = some (.cells cur t (0, 0))) (hx : cur.toList.take n = xs) : ∀ j u, xs[j]? = some u → w.cell? ⟨g, 0 + j, none⟩ = some u := by
  intro j u hj
  rw [← hx, List.getElem?_take] at hj
  split at hj
  · unfold World.cell?
    rw [Nat.zero_add]
    simp only [h]
    simpa using hj
  · cases hj
structure ElK (α : Type) where
  T : TypeId
  TT : TypeId
  sz : Nat
  by_ : Nat
  z : Value
  enc : α → List Value
  pos : 0 < sz
  info : (Tryz.prog.info? T).map (fun i => (i.zero, i.size, i.bytes)) = some (some z, sz, by_)
  zs : z.cells.size = sz
  und : Tryz.prog.underlying TT = some (.slice T)
  len : ∀ x, (enc x).length = sz
  one : ∀ x, ∀ u ∈ enc x, u.oneCell' = true
section
variable {α : Type} (E : ElK α)
def flatE (l : List α) : List Value := l.flatMap E.enc
theorem flatE_app (l : List α) (q : α) : flatE E (l ++ [q]) = flatE E l ++ E.enc q := by unfold flatE; simp
def LO (w : World) (base : Nat) (v : Value) (l : List α) : Prop := w.ownsRow base E.T E.sz v l.length (flatE E l)
variable {E}
theorem LO.nil (w : World) (base : Nat) : LO E w base (.slice none 0 0) [] := World.ownsRow_nil _ _ _ _
theorem LO.form {w : World} {base : Nat} {v : Value} {l : List α} (h : LO E w base v l) : ∃ a c, v = .slice a l.length c := by
  rcases h.2 with ⟨rfl, h0⟩ | ⟨g, cap, cur, rfl, _⟩
  · exact ⟨none, 0, by rw [h0]⟩
  · exact ⟨_, _, rfl⟩
theorem LO.lt' {w : World} {base : Nat} {v : Value} {l : List α} (h : LO E w base v l) : ∀ g, v.ownBlock = some g → base ≤ g ∧ g < w.heap.size := fun g hg => World.ownsRow.lt h g hg
theorem LO.same {w w' : World} {base : Nat} {v : Value} {l : List α} (h : LO E w base v l) (he : ∀ d, v.ownBlock = some d → w'.heap[d]? = w.heap[d]?) : LO E w' base v l := owns_same h he
theorem LO.keep {w w' : World} {base : Nat} {v : Value} {l : List α} (h : LO E w base v l) (hk : Kept w w') : LO E w' base v l := h.same (fun d hd => hk.2.2.2.2 d (h.lt' d hd).2)
theorem lo_run {w : World} {base : Nat} {v : Value} {l : List α} (h : LO E w base v l) (ty : TypeId) {lb : Nat} {q : α} (hbx : w.heap[lb]? = some (.cells (E.enc q).toArray E.T (0, 0))) (hl : (l.length + 1) * E.by_ ≤ 140737488355328) (hl2 : l.length + 1 ≤ maxLen) (hbase : base ≤ w.heap.size) :
    ∃ g cap w', (Builtin.append_ #[E.TT, E.TT] ty #[v, .slice (some ⟨lb, 0, none⟩) 1 1]).run Tryz.prog w = .ok (.slice (some ⟨g, 0, none⟩) (l.length + 1) cap) w' ∧ LO E w' base (.slice (some ⟨g, 0, none⟩) (l.length + 1) cap) (l ++ [q]) ∧ w.grownBy w' v.ownBlock ∧ (v.ownBlock = some g ∨ g = w.heap.size) ∧ g < w'.heap.size := by
  obtain ⟨i0, hi, hz0, hz1, hz2⟩ := info_parts E.info
  obtain ⟨g, cap, w', hr, h2, h3, h4, h5⟩ := run_append_lies (P := Tryz.prog) w E.TT ty base E.T i0 _ E.sz E.by_ E.und hi hz0 hz1 hz2 E.zs E.pos v l.length (flatE E l) h ⟨lb, 0, none⟩ 1 1 (E.enc q) (by rw [E.len, Nat.one_mul]) (fun j y hj => by
    have e : w.cell? ⟨lb, j, none⟩ = (E.enc q)[j]? := by simp [World.cell?, hbx]
    simp only [Addr.add, Nat.zero_add]
    split
    · rename_i h0
      subst h0
      rw [e, hj]
    · rw [e, hj]) (E.one q) (by decide) hl2 hl hbase w.heap.size rfl
  refine ⟨g, cap, w', hr, ?_, h3, h4, h5⟩
  unfold LO
  rw [flatE_app, List.length_append]
  exact h2
section
variable {w : World} {ops : Array Oper} {rest : List Oper} {o : Oper} {a : Act} {Q : Exit → Act → World → Prop}
theorem wpl_lo (hgd : o.guard = none) (s x : Operand) (ho : o.op = .call { callee := .builtin .append, args := #[s, x], argTypes := #[E.TT, E.TT] }) (base : Nat) (v : Value) (l : List α) (m : Nat) (hm : l.length = m) (hs : a.eval s = v) (hown : LO E w base v l) (lb : Nat) (q : α) (hx : a.eval x = .slice (some ⟨lb, 0, none⟩) 1 1) (hbx : w.heap[lb]? = some (.cells (E.enc q).toArray E.T (0, 0))) (hl : (m + 1) * E.by_ ≤ 140737488355328) (hl2 : m + 1 ≤ maxLen) (hbase : base ≤ w.heap.size)
    (h : ∀ g cap w', LO E w' base (.slice (some ⟨g, 0, none⟩) (m + 1) cap) (l ++ [q]) → w.grownBy w' v.ownBlock → (v.ownBlock = some g ∨ g = w.heap.size) → g < w'.heap.size → wpList Tryz.prog ops Q rest (a.put o.dst (.slice (some ⟨g, 0, none⟩) (m + 1) cap)) w') : wpList Tryz.prog ops Q (o :: rest) a w := by
  subst hm
  obtain ⟨g, cap, w', hr, h2, h3, h4, h5⟩ := lo_run hown o.type hbx hl hl2 hbase
  refine wpList_plain hgd fun K hK => ?_
  unfold Oper.wp
  simp [execOp, ho, resolve, invoke, builtin, hs, hx, hr, Result.andThen]
  exact hK _ _ (h g cap w' h2 h3 h4 h5)
theorem step_lo {K : Act → World → Prop} {EE : Prop} (hgd : o.guard = none) (s x : Operand) (ho : o.op = .call { callee := .builtin .append, args := #[s, x], argTypes := #[E.TT, E.TT] }) (base : Nat) (v : Value) (l : List α) (m : Nat) (hm : l.length = m) (hs : a.eval s = v) (hown : LO E w base v l) (lb : Nat) (q : α) (hx : a.eval x = .slice (some ⟨lb, 0, none⟩) 1 1) (hbx : w.heap[lb]? = some (.cells (E.enc q).toArray E.T (0, 0))) (hl : (m + 1) * E.by_ ≤ 140737488355328) (hl2 : m + 1 ≤ maxLen) (hbase : base ≤ w.heap.size)
    (h : ∀ g cap w', LO E w' base (.slice (some ⟨g, 0, none⟩) (m + 1) cap) (l ++ [q]) → w.grownBy w' v.ownBlock → (v.ownBlock = some g ∨ g = w.heap.size) → g < w'.heap.size → K (a.put o.dst (.slice (some ⟨g, 0, none⟩) (m + 1) cap)) w') :
    if Region.wanted o (yielded ops a.tmps) = true then Oper.wp Tryz.prog o a w K Q else EE := by
  subst hm
  have hw : Region.wanted o (yielded ops a.tmps) = true := by simp [Region.wanted, hgd]
  rw [if_pos hw]
  obtain ⟨g, cap, w', hr, h2, h3, h4, h5⟩ := lo_run hown o.type hbx hl hl2 hbase
  unfold Oper.wp
  simp [execOp, ho, resolve, invoke, builtin, hs, hx, hr, Result.andThen]
  exact h g cap w' h2 h3 h4 h5
end
theorem LO.cell {w : World} {base g n cap : Nat} {l : List α} (h : LO E w base (.slice (some ⟨g, 0, none⟩) n cap) l) {i j : Nat} {x : α} {u : Value} (hx : l[i]? = some x) (hu : (E.enc x)[j]? = some u) : w.cell? ⟨g, i * E.sz + j, none⟩ = some u := by
  rcases h.2 with ⟨h0, _⟩ | ⟨g', cap', cur, he, _, hg, hc, hlen, _, hxs⟩
  · cases h0
  · have hj : j < E.sz := by rw [← E.len x]; exact (List.getElem?_eq_some_iff.1 hu).1
    have key : ∀ (l : List α) (i : Nat), l[i]? = some x → (flatE E l)[i * E.sz + j]? = some u := fun l => by
      induction l with
      | nil => intro i hi; simp at hi
      | cons y l ih =>
        intro i hi
        have e : flatE E (y :: l) = E.enc y ++ flatE E l := by unfold flatE; simp
        cases i with
        | zero =>
          simp only [List.getElem?_cons_zero, Option.some.injEq] at hi
          subst hi
          rw [e, Nat.zero_mul, Nat.zero_add, List.getElem?_append_left (by rw [E.len]; exact hj), hu]
        | succ i =>
          simp only [List.getElem?_cons_succ] at hi
          rw [e, List.getElem?_append_right (by rw [E.len, Nat.add_mul]; omega), E.len, ← ih i hi]
          congr 1
          rw [Nat.add_mul]
          omega
    injection he with he1
    injection he1 with he2
    injection he2 with he3
    subst he3
    have := row_cells hg hxs (i * E.sz + j) u (key l i hx)
    rw [Nat.zero_add] at this
    exact this
end
theorem flatE_app2 {α : Type} (E : ElK α) (l m : List α) : flatE E (l ++ m) = flatE E l ++ flatE E m := by unfold flatE; simp
theorem flatE_one {α : Type} (E : ElK α) (l : List α) : ∀ u ∈ flatE E l, u.oneCell' = true := fun u hu => by
  unfold flatE at hu
  obtain ⟨x, _, h⟩ := List.mem_flatMap.1 hu
  exact E.one x u h
theorem flatE_lenT {α : Type} (E : ElK α) (l : List α) : (flatE E l).length = l.length * E.sz := by
  induction l with
  | nil => simp [flatE]
  | cons x l ih =>
    have e : flatE E (x :: l) = E.enc x ++ flatE E l := by unfold flatE; simp
    rw [e, List.length_append, ih, E.len, List.length_cons, Nat.add_mul]
    omega
def Src {α : Type} (E : ElK α) (w : World) (sa : Option Addr) (ys : List α) : Prop := ys = [] ∨ ∃ g o, sa = some ⟨g, o, none⟩ ∧ ∀ j u, (flatE E ys)[j]? = some u → w.cell? ⟨g, o + j, none⟩ = some u
theorem Src.keep {α : Type} {E : ElK α} {w w' : World} {sa : Option Addr} {ys : List α} (h : Src E w sa ys) (hk : Kept w w') : Src E w' sa ys := by
  rcases h with h | ⟨g, o, h1, h2⟩
  · exact Or.inl h
  · exact Or.inr ⟨g, o, h1, fun j u hj => grown_cell hk (h2 j u hj)⟩
theorem lo_zero {α : Type} {E : ElK α} {w : World} {base : Nat} {v : Value} {l : List α} (h : LO E w base v l) (a : Option Addr) (cap : Nat) (ty : TypeId) :
    (Builtin.append_ #[E.TT, E.TT] ty #[v, .slice a 0 cap]).run Tryz.prog w = .ok v w := by
  obtain ⟨i0, hi, hz0, hz1, hz2⟩ := info_parts E.info
  have ht := E.und
  rcases h.2 with ⟨rfl, h0⟩ | ⟨g, c, cur, rfl, _, _, hnc, _⟩
  · cases a <;> simp [Builtin.append_, run_underlying ht, sizeOf, typeInfo, hi, Builtin.lenOf, Builtin.firstCells, loadCells, loadCellsFrom, Result.andThen]
  · cases a <;> simp [Builtin.append_, run_underlying ht, sizeOf, typeInfo, hi, Builtin.lenOf, Builtin.firstCells, hnc, storeCells, loadCells, loadCellsFrom, Result.andThen]
theorem lo_many {α : Type} {E : ElK α} {w : World} {base : Nat} {v : Value} {l : List α} (h : LO E w base v l) (ty : TypeId) {sa : Option Addr} {ys : List α} (sc : Nat) (hs : Src E w sa ys) (hl : (l.length + ys.length) * E.by_ ≤ 140737488355328) (hl2 : l.length + ys.length ≤ maxLen) (hbase : base ≤ w.heap.size) :
    ∃ a' cap w', (Builtin.append_ #[E.TT, E.TT] ty #[v, .slice sa ys.length sc]).run Tryz.prog w = .ok (.slice a' (l.length + ys.length) cap) w' ∧ LO E w' base (.slice a' (l.length + ys.length) cap) (l ++ ys) ∧ w.grownBy w' v.ownBlock ∧ ((Value.slice a' (l.length + ys.length) cap).ownBlock = v.ownBlock ∨ (Value.slice a' (l.length + ys.length) cap).ownBlock = some w.heap.size) := by
  by_cases hy : ys = []
  · subst hy
    obtain ⟨b', c', rfl⟩ := h.form
    refine ⟨b', c', w, lo_zero h sa sc ty, ?_, ⟨rfl, rfl, rfl, Nat.le_refl _, fun _ _ _ => rfl⟩, Or.inl rfl⟩
    rw [List.append_nil]
    exact h
  · rcases hs with hs | ⟨g0, o0, rfl, hc⟩
    · exact absurd hs hy
    · obtain ⟨i0, hi, hz0, hz1, hz2⟩ := info_parts E.info
      obtain ⟨g, cap, w', hr, h2, h3, h4, h5⟩ := run_append_lies (P := Tryz.prog) w E.TT ty base E.T i0 _ E.sz E.by_ E.und hi hz0 hz1 hz2 E.zs E.pos v l.length (flatE E l) h ⟨g0, o0, none⟩ ys.length sc (flatE E ys) (by rw [flatE_lenT]) (fun j y hj => by rw [Addr.add_lit]; exact hc j y hj) (flatE_one E ys) (List.length_pos_iff.2 hy) hl2 hl hbase w.heap.size rfl
      refine ⟨some ⟨g, 0, none⟩, cap, w', hr, ?_, h3, ?_⟩
      · unfold LO
        rw [flatE_app2, List.length_append]
        exact h2
      · rcases h4 with h4 | h4
        · exact Or.inl h4.symm
        · exact Or.inr (by rw [h4]; rfl)
section
variable {α : Type} {E : ElK α} {w : World} {ops : Array Oper} {rest : List Oper} {o : Oper} {a : Act} {Q : Exit → Act → World → Prop}
theorem step_many {K : Act → World → Prop} {EE : Prop} (hgd : o.guard = none) (s x : Operand) (ho : o.op = .call { callee := .builtin .append, args := #[s, x], argTypes := #[E.TT, E.TT] }) (base : Nat) (v : Value) (l ys : List α) (m n k : Nat) (hm : l.length = m) (hn : ys.length = n) (hk : m + n = k) (hs : a.eval s = v) (hown : LO E w base v l) (sa : Option Addr) (sc : Nat) (hx : a.eval x = .slice sa n sc) (hsrc : Src E w sa ys) (hl : k * E.by_ ≤ 140737488355328) (hl2 : k ≤ maxLen) (hbase : base ≤ w.heap.size)
    (h : ∀ a' cap w', LO E w' base (.slice a' k cap) (l ++ ys) → w.grownBy w' v.ownBlock → ((Value.slice a' k cap).ownBlock = v.ownBlock ∨ (Value.slice a' k cap).ownBlock = some w.heap.size) → K (a.put o.dst (.slice a' k cap)) w') :
    if Region.wanted o (yielded ops a.tmps) = true then Oper.wp Tryz.prog o a w K Q else EE := by
  subst hm hn hk
  have hw : Region.wanted o (yielded ops a.tmps) = true := by simp [Region.wanted, hgd]
  rw [if_pos hw]
  obtain ⟨a', cap, w', hr, h2, h3, h4⟩ := lo_many hown o.type sc hsrc hl hl2 hbase
  unfold Oper.wp
  simp [execOp, ho, resolve, invoke, builtin, hs, hx, hr, Result.andThen]
  exact h a' cap w' h2 h3 h4
theorem wpl_many (hgd : o.guard = none) (s x : Operand) (ho : o.op = .call { callee := .builtin .append, args := #[s, x], argTypes := #[E.TT, E.TT] }) (base : Nat) (v : Value) (l ys : List α) (m n k : Nat) (hm : l.length = m) (hn : ys.length = n) (hk : m + n = k) (hs : a.eval s = v) (hown : LO E w base v l) (sa : Option Addr) (sc : Nat) (hx : a.eval x = .slice sa n sc) (hsrc : Src E w sa ys) (hl : k * E.by_ ≤ 140737488355328) (hl2 : k ≤ maxLen) (hbase : base ≤ w.heap.size)
    (h : ∀ a' cap w', LO E w' base (.slice a' k cap) (l ++ ys) → w.grownBy w' v.ownBlock → ((Value.slice a' k cap).ownBlock = v.ownBlock ∨ (Value.slice a' k cap).ownBlock = some w.heap.size) → wpList Tryz.prog ops Q rest (a.put o.dst (.slice a' k cap)) w') : wpList Tryz.prog ops Q (o :: rest) a w := by
  subst hm hn hk
  obtain ⟨a', cap, w', hr, h2, h3, h4⟩ := lo_many hown o.type sc hsrc hl hl2 hbase
  refine wpList_plain hgd fun K hK => ?_
  unfold Oper.wp
  simp [execOp, ho, resolve, invoke, builtin, hs, hx, hr, Result.andThen]
  exact hK _ _ (h a' cap w' h2 h3 h4)
end
def encStr (y : ByteArray) : List Value := [.string y]
theorem encStr_one (y : ByteArray) : ∀ u ∈ encStr y, u.oneCell' = true := fun u hu => by
  unfold encStr at hu
  simp only [List.mem_cons, List.not_mem_nil, or_false] at hu
  subst hu
  rfl
def strE : ElK ByteArray := { T := 9, TT := 24, sz := 1, by_ := 16, z := .string ByteArray.empty, enc := encStr, pos := by decide, info := by kernel_rfl, zs := rfl, und := Tryz.underlying24, len := fun _ => rfl, one := encStr_one }
end Sh
end Ex
end Go.Proofs.YtbnchnlogikecaaGreatDoor
namespace Go.Proofs.YtbnchnlogikecaaGreatDoor
open Go.RowKit
attribute [local go_sem] Oper.semAt_some
namespace Ex
def oneOf (k : Int) : List Pat → Pat
  | [p] => p
  | l => mkP k 0 0 0 0 l
theorem failE_ne {e x : Int} (hx : x ≠ 0) : failE e x ≠ 0 := by unfold failE; split <;> assumption
theorem wrongC_ne (T : ByteArray) (k : Int) : wrongC T k ≠ 0 := by unfold wrongC; split <;> decide
theorem one_go {T : ByteArray} {s : Int × Int × Int} : s.1 < (oneS T s).2.1 ∨ (oneS T s).2.2.1 ≠ 0 := by
  unfold oneS
  split
  · left; show s.1 < s.1 + 1; omega
  · right; exact failE_ne (wrongC_ne _ _)
theorem box_moved {b o : Nat} {w w' : World} {v : Value} (h : KeptBut b ((w.setCell ⟨b, o, none⟩ v).alloc (.cells #[.int .i64 0, .int .i64 0, .int .i64 0, .int .i64 0, .int .i64 0, .slice none 0 0] 70)) w') (hb : b < w.heap.size) : BoxAt w' w.heap.size (.int .i64 0) (.int .i64 0) (.int .i64 0) (.int .i64 0) (.int .i64 0) (.slice none 0 0) := by
  have e : (w.setCell ⟨b, o, none⟩ v).heap.size = w.heap.size := by simp [World.setCell]
  have := box_kept h (by rw [e]; exact hb)
  rw [e] at this
  exact this
theorem PatsOwn.nonnil {base n cap : Nat} {w : World} {S : Nat → Prop} {a : Option Addr} {q : Pat} {l : List Pat} (h : PatsOwn w base S (.slice a n cap) (q :: l)) : ∃ g, a = some ⟨g, 0, none⟩ ∧ 1 ≤ cap := by
  obtain ⟨g, c, u, e, hc, _⟩ := h.first
  simp only [Value.slice.injEq] at e
  exact ⟨g, e.1, by omega⟩
theorem PatsOwn.one_facts {base n cap g : Nat} {w : World} {S : Nat → Prop} {q : Pat} {l : List Pat} (h : PatsOwn w base S (.slice (some ⟨g, 0, none⟩) n cap) (q :: l)) : ∃ u, (w.cell? ⟨g, 0, none⟩ = some (.int .i64 (kind q.2)) ∧ w.cell? ⟨g, 1, none⟩ = some (.int .i64 (from_ q.2)) ∧ w.cell? ⟨g, 2, none⟩ = some (.int .i64 (to_ q.2)) ∧ w.cell? ⟨g, 3, none⟩ = some (.int .i64 (min_ q.2)) ∧ w.cell? ⟨g, 4, none⟩ = some (.int .i64 (max_ q.2)) ∧ w.cell? ⟨g, 5, none⟩ = some u) ∧ KidsAt S w q.1 (Ex.kids q.2) u := by
  obtain ⟨g', c, u, e, _, hc, hk⟩ := h.first
  simp only [Value.slice.injEq, Option.some.injEq, Addr.mk.injEq] at e
  obtain ⟨⟨rfl, _⟩, _⟩ := e
  exact ⟨u, hc, hk⟩
def errOf (b : Nat) (w : World) : Int := intOf ((w.cell? ⟨b, 2, none⟩).getD (.int .i64 0))
theorem RAt.err {w : World} {b : Nat} {T : ByteArray} {k e f : Int} (h : RAt w b T k e f) : errOf b w = e := by
  unfold errOf; rw [h.cells.2.2.1]; rfl
def classB (k1 : Int) (j : Nat) (k2 e2 : Int) : Prop := k1 + (j : Int) ≤ k2 + (if e2 ≠ 0 then 1 else 0)
theorem oneOf_more {k : Int} {l : List Pat} (h : l.length ≠ 1) : oneOf k l = mkP k 0 0 0 0 l := by
  match l, h with
  | [], _ => rfl
  | [_], h => exact absurd rfl h
  | _ :: _ :: _, _ => rfl
theorem list_one {l : List Pat} (h : l.length = 1) : ∃ p, l = [p] := List.length_eq_one_iff.1 h
end Ex
end Go.Proofs.YtbnchnlogikecaaGreatDoor
namespace Go.Proofs.YtbnchnlogikecaaGreatDoor
open Go.RowKit
set_option linter.unusedVariables false
namespace Ex
def HoldsU (S : Nat → Prop) (w w' : World) : Prop := ∀ b, S b → b < w.heap.size → w'.heap[b]? = w.heap[b]?
theorem HoldsU.cell {S : Nat → Prop} {w w' : World} (h : HoldsU S w w') {b o : Nat} {v : Value} (hS : S b) (hc : w.cell? ⟨b, o, none⟩ = some v) : w'.cell? ⟨b, o, none⟩ = some v :=
  (World.cell?_of_block (a := ⟨b, o, none⟩) (h b hS (World.block_lt_of_cell? w _ hc))).trans hc
theorem Kept.holdsU {w w' : World} (h : Kept w w') (S : Nat → Prop) : HoldsU S w w' := fun b _ hb => h.2.2.2.2 b hb
theorem KeptBut.holdsU {b : Nat} {w w' : World} (h : KeptBut b w w') {S : Nat → Prop} (hS : ¬ S b) : HoldsU S w w' := fun d hd hl => h.2.2.2.2 d hl (fun e => hS (e ▸ hd))
theorem set6_holdsU {S : Nat → Prop} {W : World} {g : Nat} {x0 x1 x2 x3 x4 x5 : Value} (hS : ¬ S g) : HoldsU S W ((((((W.setCell ⟨g, 0, none⟩ x0).setCell ⟨g, 1, none⟩ x1).setCell ⟨g, 2, none⟩ x2).setCell ⟨g, 3, none⟩ x3).setCell ⟨g, 4, none⟩ x4).setCell ⟨g, 5, none⟩ x5) :=
  fun d hd _ => set6_other (fun e => hS (e ▸ hd))
theorem HoldsU.set {S : Nat → Prop} {w W : World} {g o : Nat} {v : Value} (h : HoldsU S w W) (hS : ¬ S g) : HoldsU S w (W.setCell ⟨g, o, none⟩ v) :=
  fun d hd hl => (Below.heap_setCell _ _ _ _ (fun e => hS (by have e2 : d = g := e; rw [← e2]; exact hd))).trans (h d hd hl)
def KidsO (S : Nat → Prop) (w : World) : (n : Nat) → List (PatN n) → Value → Prop
  | 0, _, v => ∃ a cap, v = .slice a 0 cap
  | n + 1, l, v => ∃ a cap, v = .slice a l.length cap ∧ l.length ≤ cap ∧ l.length ≤ 17592186044416 ∧ (l = [] ∨ ∃ (c : Nat) (cur : Array Value) (F : Nat → Nat → Prop), a = some ⟨c, 0, none⟩ ∧ S c ∧ w.heap[c]? = some (.cells cur 70 (0, 0)) ∧ cap ≤ maxLen ∧ cur.size = cap * 6 ∧
      (∀ i d, F i d → S d ∧ d ≠ c) ∧ (∀ i j d, F i d → F j d → i = j) ∧ ∀ (i : Nat) (q : PatN (n + 1)), l[i]? = some q → ∃ v',
      w.cell? ⟨c, i * 6, none⟩ = some (.int .i64 (kind q)) ∧ w.cell? ⟨c, i * 6 + 1, none⟩ = some (.int .i64 (from_ q)) ∧ w.cell? ⟨c, i * 6 + 2, none⟩ = some (.int .i64 (to_ q)) ∧
      w.cell? ⟨c, i * 6 + 3, none⟩ = some (.int .i64 (min_ q)) ∧ w.cell? ⟨c, i * 6 + 4, none⟩ = some (.int .i64 (max_ q)) ∧ w.cell? ⟨c, i * 6 + 5, none⟩ = some v' ∧ KidsO (F i) w n (kids q) v')
theorem KidsO.mono0 {w w' : World} : ∀ (n : Nat) {S S' : Nat → Prop} (hs : HoldsU S w w') (hS : ∀ b, S b → S' b) (l : List (PatN n)) (v : Value), KidsO S w n l v → KidsO S' w' n l v
  | 0, _, _, _, _, _, _, h => h
  | n + 1, S, S', hs, hS, l, v, ⟨a, cap, h1, h2, h3, h4⟩ => by
    refine ⟨a, cap, h1, h2, h3, ?_⟩
    rcases h4 with h4 | ⟨c, cur, F, h5, h6, h7, h8, h9, f1, f2, hq⟩
    · exact Or.inl h4
    · refine Or.inr ⟨c, cur, F, h5, hS c h6, (hs c h6 (Array.getElem?_eq_some_iff.1 h7).1).trans h7, h8, h9, fun i d hd => ⟨hS d (f1 i d hd).1, (f1 i d hd).2⟩, f2, fun i q hi => ?_⟩
      obtain ⟨v', g0, g1, g2, g3, g4, g5, g6⟩ := hq i q hi
      exact ⟨v', hs.cell h6 g0, hs.cell h6 g1, hs.cell h6 g2, hs.cell h6 g3, hs.cell h6 g4, hs.cell h6 g5, KidsO.mono0 n (fun b hb => hs b (f1 i b hb).1) (fun _ h => h) (kids q) v' g6⟩
theorem KidsO.mono {S S' : Nat → Prop} {w w' : World} (hs : HoldsU S w w') (hS : ∀ b, S b → S' b) (n : Nat) (l : List (PatN n)) (v : Value) (h : KidsO S w n l v) : KidsO S' w' n l v := KidsO.mono0 n hs hS l v h
theorem KidsO.form {S : Nat → Prop} {w : World} : ∀ {n : Nat} {l : List (PatN n)} {v : Value}, KidsO S w n l v → ∃ a cap, v = .slice a l.length cap
  | 0, l, v, h => by obtain ⟨a, cap, h⟩ := h; rw [none_of l]; exact ⟨a, cap, h⟩
  | _ + 1, _, _, h => by obtain ⟨a, cap, h, _⟩ := h; exact ⟨a, cap, h⟩
theorem KidsO.kept {S : Nat → Prop} {w w' : World} {n : Nat} {l : List (PatN n)} {v : Value} (h : KidsO S w n l v) (hk : Kept w w') : KidsO S w' n l v := KidsO.mono (hk.holdsU S) (fun _ h => h) n l v h
theorem KidsO.drew {S : Nat → Prop} {w : World} {n : Nat} {l : List (PatN n)} {v : Value} (h : KidsO S w n l v) (m : Nat) : KidsO S (w.drewN m) n l v := KidsO.mono (w := w) (w' := w.drewN m) (fun _ _ _ => rfl) (fun _ h => h) n l v h
theorem KidsO.wide {S S' : Nat → Prop} {w : World} {n : Nat} {l : List (PatN n)} {v : Value} (h : KidsO S w n l v) (hS : ∀ d, S d → S' d) : KidsO S' w n l v := KidsO.mono (fun _ _ _ => rfl) hS n l v h
theorem KidsO.tight0 {w : World} : ∀ (n : Nat) {S : Nat → Prop} (l : List (PatN n)) (v : Value), KidsO S w n l v → KidsO (fun d => S d ∧ d < w.heap.size) w n l v
  | 0, _, _, _, h => h
  | n + 1, S, l, v, ⟨a, cap, h1, h2, h3, h4⟩ => by
    refine ⟨a, cap, h1, h2, h3, ?_⟩
    rcases h4 with h4 | ⟨c, cur, F, h5, h6, h7, h8, h9, f1, f2, hq⟩
    · exact Or.inl h4
    · refine Or.inr ⟨c, cur, fun i d => F i d ∧ d < w.heap.size, h5, ⟨h6, (Array.getElem?_eq_some_iff.1 h7).1⟩, h7, h8, h9, fun i d hd => ⟨⟨(f1 i d hd.1).1, hd.2⟩, (f1 i d hd.1).2⟩, fun i j d x y => f2 i j d x.1 y.1, fun i q hi => ?_⟩
      obtain ⟨v', g0, g1, g2, g3, g4, g5, g6⟩ := hq i q hi
      exact ⟨v', g0, g1, g2, g3, g4, g5, KidsO.tight0 n (kids q) v' g6⟩
theorem KidsO.tight {S : Nat → Prop} {w : World} (n : Nat) (l : List (PatN n)) (v : Value) (h : KidsO S w n l v) : KidsO (fun d => S d ∧ d < w.heap.size) w n l v := KidsO.tight0 n l v h
theorem KidsO.fit {w : World} : ∀ (n m : Nat), n ≤ m → ∀ {S : Nat → Prop} (l : List (PatN n)) (v : Value), KidsO S w n l v → KidsO S w m (fitL m n l) v
  | 0, 0, _, _, _, _, h => h
  | 0, m + 1, _, _, _, v, h => by
    obtain ⟨a, cap, h⟩ := h
    exact ⟨a, cap, h, Nat.zero_le _, Nat.zero_le _, Or.inl rfl⟩
  | n + 1, 0, hm, _, _, _, _ => absurd hm (by omega)
  | n + 1, m + 1, hm, S, l, v, ⟨a, cap, h1, h2, h3, h4⟩ => by
    have e : (fitL (m + 1) (n + 1) l).length = l.length := List.length_map ..
    refine ⟨a, cap, by rw [e]; exact h1, by rw [e]; exact h2, by rw [e]; exact h3, ?_⟩
    rcases h4 with h4 | ⟨c, cur, F, h5, h6, h7, h8, h9, f1, f2, hq⟩
    · left; rw [h4]; rfl
    · refine Or.inr ⟨c, cur, F, h5, h6, h7, h8, h9, f1, f2, fun i q hi => ?_⟩
      have hq' : (l.map fun p => (show PatN (m + 1) from (kind p, from_ p, to_ p, min_ p, max_ p, fitL m n (kids p))))[i]? = some q := hi
      rw [List.getElem?_map] at hq'
      obtain ⟨p, hp, rfl⟩ := Option.map_eq_some_iff.1 hq'
      obtain ⟨v', g0, g1, g2, g3, g4, g5, g6⟩ := hq i p hp
      exact ⟨v', g0, g1, g2, g3, g4, g5, KidsO.fit n m (by omega) (kids p) v' g6⟩
theorem KidsO.at_ {w : World} : ∀ (n : Nat) {S S' : Nat → Prop} (hS : ∀ d, S d → S' d) (l : List (PatN n)) (v : Value), KidsO S w n l v → KidsAt S' w n l v
  | 0, _, _, _, _, _, h => h
  | n + 1, S, S', hS, l, v, ⟨a, cap, h1, h2, h3, h4⟩ => by
    refine ⟨a, cap, h1, h2, h3, ?_⟩
    rcases h4 with h4 | ⟨c, cur, F, h5, h6, h7, h8, h9, f1, f2, hq⟩
    · exact Or.inl h4
    · refine Or.inr ⟨c, 0, h5, hS c h6, fun i q hi => ?_⟩
      obtain ⟨v', g0, g1, g2, g3, g4, g5, g6⟩ := hq i q hi
      rw [Nat.zero_add]
      exact ⟨v', g0, g1, g2, g3, g4, g5, KidsO.at_ n (fun d h => hS d (f1 i d h).1) (kids q) v' g6⟩
theorem kidsO_nil (S : Nat → Prop) (w : World) (m cap : Nat) (a : Option Addr) (l : List (PatN m)) (h : l = []) : KidsO S w m l (.slice a 0 cap) := by
  subst h
  cases m with
  | zero => exact ⟨_, _, rfl⟩
  | succ m => exact ⟨_, _, rfl, Nat.zero_le _, Nat.zero_le _, Or.inl rfl⟩
def FlatO (S : Nat → Prop) (w : World) (l : List Pat) (xs : List Value) : Prop := xs.length = l.length * 6 ∧ ∃ F : Nat → Nat → Prop, (∀ i d, F i d → S d) ∧ (∀ i j d, F i d → F j d → i = j) ∧ ∀ (i : Nat) (p : Pat), l[i]? = some p → ∃ v',
  xs[i * 6]? = some (.int .i64 (kind p.2)) ∧ xs[i * 6 + 1]? = some (.int .i64 (from_ p.2)) ∧ xs[i * 6 + 2]? = some (.int .i64 (to_ p.2)) ∧ xs[i * 6 + 3]? = some (.int .i64 (min_ p.2)) ∧ xs[i * 6 + 4]? = some (.int .i64 (max_ p.2)) ∧ xs[i * 6 + 5]? = some v' ∧ KidsO (F i) w p.1 (kids p.2) v'
theorem FlatO.nil (S : Nat → Prop) (w : World) : FlatO S w [] [] := ⟨rfl, fun _ _ => False, fun _ _ h => h.elim, fun _ _ _ h => h.elim, fun i p h => by simp at h⟩
theorem FlatO.mono {S S' : Nat → Prop} {w w' : World} (hs : HoldsU S w w') (hS : ∀ b, S b → S' b) {l : List Pat} {xs : List Value} (h : FlatO S w l xs) : FlatO S' w' l xs := by
  obtain ⟨hl, F, f1, f2, hq⟩ := h
  refine ⟨hl, F, fun i d hd => hS d (f1 i d hd), f2, fun i p hi => ?_⟩
  obtain ⟨v', g0, g1, g2, g3, g4, g5, g6⟩ := hq i p hi
  exact ⟨v', g0, g1, g2, g3, g4, g5, KidsO.mono0 _ (fun b hb => hs b (f1 i b hb)) (fun _ h => h) _ _ g6⟩
theorem FlatO.tight {S : Nat → Prop} {w : World} {l : List Pat} {xs : List Value} (h : FlatO S w l xs) : FlatO (fun d => S d ∧ d < w.heap.size) w l xs := by
  obtain ⟨hl, F, f1, f2, hq⟩ := h
  refine ⟨hl, fun i d => F i d ∧ d < w.heap.size, fun i d hd => ⟨f1 i d hd.1, hd.2⟩, fun i j d x y => f2 i j d x.1 y.1, fun i p hi => ?_⟩
  obtain ⟨v', g0, g1, g2, g3, g4, g5, g6⟩ := hq i p hi
  exact ⟨v', g0, g1, g2, g3, g4, g5, KidsO.tight0 _ _ _ g6⟩
theorem FlatO.snoc {S S1 S2 : Nat → Prop} {w : World} {l : List Pat} {xs : List Value} {p : Pat} {v' : Value} (h : FlatO S1 w l xs) (hk : KidsO S2 w p.1 (kids p.2) v') (h12 : ∀ d, S1 d → ¬ S2 d) (hS1 : ∀ d, S1 d → S d) (hS2 : ∀ d, S2 d → S d) : FlatO S w (l ++ [p]) (xs ++ cellsP p v') := by
  obtain ⟨hl, F, f1, f2, hq⟩ := h
  refine ⟨by rw [List.length_append, hl, List.length_append]; show _ + 6 = (_ + 1) * 6; omega, fun i d => (i < l.length ∧ F i d) ∨ (i = l.length ∧ S2 d), ?_, ?_, fun i q hi => ?_⟩
  · rintro i d (⟨_, h⟩ | ⟨_, h⟩)
    · exact hS1 d (f1 i d h)
    · exact hS2 d h
  · rintro i j d (⟨h1, h⟩ | ⟨h1, h⟩) (⟨h2, h'⟩ | ⟨h2, h'⟩)
    · exact f2 i j d h h'
    · exact absurd h' (h12 d (f1 i d h))
    · exact absurd h (h12 d (f1 j d h'))
    · omega
  · by_cases hlt : i < l.length
    · rw [List.getElem?_append_left hlt] at hi
      obtain ⟨u', g0, g1, g2, g3, g4, g5, g6⟩ := hq i q hi
      refine ⟨u', ?_, ?_, ?_, ?_, ?_, ?_, g6.wide (fun d h => Or.inl ⟨hlt, h⟩)⟩
      · rw [List.getElem?_append_left (by omega)]; exact g0
      · rw [List.getElem?_append_left (by omega)]; exact g1
      · rw [List.getElem?_append_left (by omega)]; exact g2
      · rw [List.getElem?_append_left (by omega)]; exact g3
      · rw [List.getElem?_append_left (by omega)]; exact g4
      · rw [List.getElem?_append_left (by omega)]; exact g5
    · have hi2 : i = l.length := by have := (List.getElem?_eq_some_iff.1 hi).1; rw [List.length_append] at this; simp at this; omega
      subst hi2
      rw [List.getElem?_append_right (Nat.le_refl _), Nat.sub_self] at hi
      simp only [List.getElem?_cons_zero, Option.some.injEq] at hi
      subst hi
      have ex : ∀ j, (xs ++ cellsP p v')[l.length * 6 + j]? = (cellsP p v')[j]? := fun j => by
        rw [List.getElem?_append_right (by omega), hl, Nat.add_sub_cancel_left]
      exact ⟨v', ex 0, ex 1, ex 2, ex 3, ex 4, ex 5, hk.wide (fun d h => Or.inr ⟨rfl, h⟩)⟩
theorem FlatO.kids {S S' : Nat → Prop} {w : World} {l : List Pat} {xs : List Value} {m c cap : Nat} {cur : Array Value} (h : FlatO S w l xs) (hg : w.heap[c]? = some (.cells cur 70 (0, 0))) (hcm : cap ≤ maxLen) (hcs : cur.size = cap * 6) (hx : ∀ j u, xs[j]? = some u → w.cell? ⟨c, j, none⟩ = some u) (hc' : S' c) (hS : ∀ d, S d → S' d ∧ d ≠ c) (hm : topL l ≤ m) (hl : l.length ≤ 17592186044416) (hc : l.length ≤ cap) :
    KidsO S' w m (kidsOf m l) (.slice (some ⟨c, 0, none⟩) l.length cap) := by
  cases m with
  | zero =>
    have : l = [] := by
      cases l with
      | nil => rfl
      | cons p l => have := top_le (List.mem_cons_self (a := p) (l := l)); omega
    subst this
    exact ⟨_, _, rfl⟩
  | succ m =>
    obtain ⟨_, F, f1, f2, hq⟩ := h
    rw [kidsOf_succ]
    have e : ∀ G : Pat → PatN (m + 1), (l.map G).length = l.length := fun G => List.length_map ..
    refine ⟨_, cap, by rw [e], by rw [e]; exact hc, by rw [e]; exact hl, Or.inr ⟨c, cur, F, rfl, hc', hg, hcm, hcs, fun i d hd => hS d (f1 i d hd), f2, fun i q hi => ?_⟩⟩
    rw [List.getElem?_map] at hi
    obtain ⟨p, hp, rfl⟩ := Option.map_eq_some_iff.1 hi
    obtain ⟨v', g0, g1, g2, g3, g4, g5, g6⟩ := hq i p hp
    have hp1 := top_le (List.mem_of_getElem? hp)
    exact ⟨v', hx _ _ g0, hx _ _ g1, hx _ _ g2, hx _ _ g3, hx _ _ g4, hx _ _ g5, KidsO.fit _ _ (by omega) _ _ g6⟩
def PatU (S : Nat → Prop) (w : World) (p : Pat) (v : Value) : Prop := ∃ v', v = valOf p.2 v' ∧ KidsO S w p.1 (kids p.2) v'
def PGivU (S : Nat → Prop) (p : Pat) (e : Ending) (w' : World) : Prop := ∃ v, e = .returned v ∧ PatU S w' p v
def PatsU (w : World) (base : Nat) (S : Nat → Prop) (v : Value) (l : List Pat) : Prop := ∃ xs, w.ownsRow base 70 6 v l.length xs ∧ FlatO (fun d => S d ∧ v.ownBlock ≠ some d) w l xs
theorem PatsU.nil (w : World) (base : Nat) (S : Nat → Prop) : PatsU w base S (.slice none 0 0) [] := ⟨[], World.ownsRow_nil _ _ _ _, FlatO.nil _ _⟩
theorem PatsU.form {w : World} {base : Nat} {S : Nat → Prop} {v : Value} {l : List Pat} (h : PatsU w base S v l) : ∃ a c, v = .slice a l.length c := by
  obtain ⟨xs, h, _⟩ := h
  rcases h.2 with ⟨rfl, h0⟩ | ⟨g, cap, cur, rfl, _⟩
  · exact ⟨none, 0, by rw [h0]⟩
  · exact ⟨_, _, rfl⟩
theorem PatsU.but {b base : Nat} {w w' : World} {S : Nat → Prop} {v : Value} {l : List Pat} (h : PatsU w base S v l) (hk : KeptBut b w w') (hb : b < base) (hS : ¬ S b) : PatsU w' base S v l := by
  obtain ⟨xs, h1, h2⟩ := h
  exact ⟨xs, owns_same h1 (fun g hg => hk.2.2.2.2 g (h1.lt g hg).2 (by have := (h1.lt g hg).1; omega)), h2.mono (hk.holdsU (fun h => hS h.1)) (fun _ h => h)⟩
theorem PatsU.keep {base : Nat} {w w' : World} {S : Nat → Prop} {v : Value} {l : List Pat} (h : PatsU w base S v l) (hk : Kept w w') : PatsU w' base S v l := by
  obtain ⟨xs, h1, h2⟩ := h
  exact ⟨xs, owns_same h1 (fun g hg => hk.2.2.2.2 g (h1.lt g hg).2), h2.mono (hk.holdsU _) (fun _ h => h)⟩
theorem PatsU.lt {base : Nat} {w : World} {S : Nat → Prop} {v : Value} {l : List Pat} (h : PatsU w base S v l) : ∀ g, v.ownBlock = some g → base ≤ g ∧ g < w.heap.size := by
  obtain ⟨xs, h1, _⟩ := h
  exact h1.lt
theorem PatsU.tight {base : Nat} {w : World} {S : Nat → Prop} {v : Value} {l : List Pat} (h : PatsU w base S v l) : PatsU w base (fun d => S d ∧ d < w.heap.size) v l := by
  obtain ⟨xs, h1, h2⟩ := h
  exact ⟨xs, h1, h2.tight.mono (fun _ _ _ => rfl) (fun d hd => ⟨⟨hd.1.1, hd.2⟩, hd.1.2⟩)⟩
theorem PatsU.one {w : World} {base g : Nat} {S : Nat → Prop} {p : Pat} {u : Value} (h : BoxAt w g (.int .i64 (kind p.2)) (.int .i64 (from_ p.2)) (.int .i64 (to_ p.2)) (.int .i64 (min_ p.2)) (.int .i64 (max_ p.2)) u) (hg : base ≤ g) (hk : KidsO (fun d => S d ∧ d ≠ g) w p.1 (kids p.2) u) :
    PatsU w base S (.slice (some ⟨g, 0, none⟩) 1 1) [p] := by
  refine ⟨cellsP p u, ⟨rfl, .inr ⟨g, 1, _, rfl, hg, h, Nat.le_refl _, by unfold maxLen; omega, rfl, rfl⟩⟩, ?_⟩
  exact FlatO.snoc (S1 := fun _ => False) (FlatO.nil _ _) hk (fun _ h => h.elim) (fun _ h => h.elim) (fun d hd => ⟨hd.1, fun e => hd.2 (by simp only [Value.ownBlock, Option.some.injEq] at e; exact e.symm)⟩)
theorem PatsU.kids {base m : Nat} {w : World} {S S' : Nat → Prop} {v : Value} {l : List Pat} (h : PatsU w base S v l) (hS : ∀ d, base ≤ d → S' d) (hS' : ∀ d, S d → S' d) (hm : topL l ≤ m) (hl : l.length ≤ 17592186044416) : KidsO S' w m (kidsOf m l) v := by
  obtain ⟨xs, h1, h2⟩ := h
  rcases h1.2 with ⟨rfl, h0⟩ | ⟨g, cap, cur, rfl, hb, hg, hc, hcm, hcs, hx⟩
  · have : l = [] := List.length_eq_zero_iff.1 h0
    subst this
    exact kidsO_nil _ _ _ _ _ _ rfl
  · exact h2.kids hg hcm hcs (fun j u hj => by have := row_cells hg hx j u hj; rw [Nat.zero_add] at this; exact this) (hS g hb) (fun d hd => ⟨hS' d hd.1, fun e => hd.2 (by simp only [Value.ownBlock, Option.some.injEq]; exact e.symm)⟩) hm hl hc
theorem PatsU.first {base : Nat} {w : World} {S : Nat → Prop} {v : Value} {p : Pat} {l : List Pat} (h : PatsU w base S v (p :: l)) : ∃ g cap u, v = .slice (some ⟨g, 0, none⟩) (l.length + 1) cap ∧ l.length + 1 ≤ cap ∧ (w.cell? ⟨g, 0, none⟩ = some (.int .i64 (kind p.2)) ∧ w.cell? ⟨g, 1, none⟩ = some (.int .i64 (from_ p.2)) ∧ w.cell? ⟨g, 2, none⟩ = some (.int .i64 (to_ p.2)) ∧ w.cell? ⟨g, 3, none⟩ = some (.int .i64 (min_ p.2)) ∧ w.cell? ⟨g, 4, none⟩ = some (.int .i64 (max_ p.2)) ∧ w.cell? ⟨g, 5, none⟩ = some u) ∧ KidsO S w p.1 (Ex.kids p.2) u := by
  obtain ⟨xs, h1, h2⟩ := h
  rcases h1.2 with ⟨rfl, h0⟩ | ⟨g, cap, cur, rfl, hb, hg, hc, _, _, hx⟩
  · simp at h0
  · obtain ⟨_, F, f1, _, hq⟩ := h2
    obtain ⟨u, a0, a1, a2, a3, a4, a5, hk⟩ := hq 0 p rfl
    have hh := row_cells hg hx
    refine ⟨g, cap, u, rfl, hc, ⟨?_, ?_, ?_, ?_, ?_, ?_⟩, hk.wide (fun d h => (f1 0 d h).1)⟩
    · exact hh _ _ a0
    · exact hh _ _ a1
    · exact hh _ _ a2
    · exact hh _ _ a3
    · exact hh _ _ a4
    · exact hh _ _ a5
theorem PatsU.nonnil {base n cap : Nat} {w : World} {S : Nat → Prop} {a : Option Addr} {q : Pat} {l : List Pat} (h : PatsU w base S (.slice a n cap) (q :: l)) : ∃ g, a = some ⟨g, 0, none⟩ ∧ 1 ≤ cap := by
  obtain ⟨g, c, u, e, hc, _⟩ := h.first
  simp only [Value.slice.injEq] at e
  exact ⟨g, e.1, by omega⟩
theorem PatsU.one_facts {base n cap g : Nat} {w : World} {S : Nat → Prop} {q : Pat} {l : List Pat} (h : PatsU w base S (.slice (some ⟨g, 0, none⟩) n cap) (q :: l)) : ∃ u, (w.cell? ⟨g, 0, none⟩ = some (.int .i64 (kind q.2)) ∧ w.cell? ⟨g, 1, none⟩ = some (.int .i64 (from_ q.2)) ∧ w.cell? ⟨g, 2, none⟩ = some (.int .i64 (to_ q.2)) ∧ w.cell? ⟨g, 3, none⟩ = some (.int .i64 (min_ q.2)) ∧ w.cell? ⟨g, 4, none⟩ = some (.int .i64 (max_ q.2)) ∧ w.cell? ⟨g, 5, none⟩ = some u) ∧ KidsO S w q.1 (Ex.kids q.2) u := by
  obtain ⟨g', c, u, e, _, hc, hk⟩ := h.first
  simp only [Value.slice.injEq, Option.some.injEq, Addr.mk.injEq] at e
  obtain ⟨⟨rfl, _⟩, _⟩ := e
  exact ⟨u, hc, hk⟩
theorem KeptBut.grownU {b base : Nat} {w0 w w' : World} {S : Nat → Prop} {v : Value} {l : List Pat} (h : KeptBut b w0 w) (ho : PatsU w base S v l) (hb : w0.heap.size ≤ base) (hg : w.grownBy w' v.ownBlock) : KeptBut b w0 w' :=
  ⟨hg.os.trans h.1, hg.tape.trans h.2.1, hg.output.trans h.2.2.1, Nat.le_trans h.2.2.2.1 hg.size, fun k hk hn => (hg.block k (Nat.lt_of_lt_of_le hk h.2.2.2.1) (fun e => by have := (ho.lt k e.symm).1; omega)).trans (h.2.2.2.2 k hk hn)⟩
theorem heap_grownU {base k : Nat} {w w' : World} {S : Nat → Prop} {v : Value} {l : List Pat} (ho : PatsU w base S v l) (hg : w.grownBy w' v.ownBlock) (hk : k < base) (hl : k < w.heap.size) : w'.heap[k]? = w.heap[k]? :=
  hg.block k hl (fun e => by have := (ho.lt k e.symm).1; omega)
theorem wpl_append_patU {ops : Array Oper} {rest : List Oper} {o : Oper} {a : Act} {Q : Exit → Act → World → Prop} (hgd : o.guard = none) (s x : Operand)
    (ho : o.op = .call { callee := .builtin .append, args := #[s, x], argTypes := #[68, 68] }) (W : World) (base m : Nat) (S : Nat → Prop) (v : Value) (l : List Pat) (n : Nat) (hn : l.length = n) (hs : a.eval s = v) (hown : PatsU W base (fun d => S d ∧ d < m) v l)
    (lb : Nat) (p : Pat) (u : Value) (hx : a.eval x = .slice (some ⟨lb, 0, none⟩) 1 1) (hbx : BoxAt W lb (.int .i64 (kind p.2)) (.int .i64 (from_ p.2)) (.int .i64 (to_ p.2)) (.int .i64 (min_ p.2)) (.int .i64 (max_ p.2)) u)
    (hk : KidsO (fun d => S d ∧ m ≤ d ∧ v.ownBlock ≠ some d) W p.1 (kids p.2) u) (hl : l.length ≤ 100000) (hbase : base ≤ W.heap.size)
    (h : ∀ g cap w', PatsU w' base S (.slice (some ⟨g, 0, none⟩) (n + 1) cap) (l ++ [p]) → W.grownBy w' v.ownBlock → wpList Tryz.prog ops Q rest (a.put o.dst (.slice (some ⟨g, 0, none⟩) (n + 1) cap)) w') : wpList Tryz.prog ops Q (o :: rest) a W := by
  obtain ⟨i0, hi, hz0, hz1, hz2⟩ := info_parts expr_info
  obtain ⟨xs, h1, h2⟩ := hown
  subst hn
  obtain ⟨⟨c0, c1, c2, c3, c4, c5⟩, _⟩ := hbx.facts
  obtain ⟨au, lu, cu, hu⟩ : ∃ a l c, u = .slice a l c := by obtain ⟨a, c, h⟩ := hk.form; exact ⟨_, _, _, h⟩
  refine wpList_append_lies W hgd s x 68 ho base 70 i0 _ 6 64 Tryz.underlying68 hi hz0 hz1 hz2 rfl (by decide) v l.length xs hs h1 ⟨lb, 0, none⟩ 1 1 (cellsP p u) hx rfl ?_ ?_ (by decide) (by unfold maxLen; omega) (by omega) hbase W.heap.size rfl ?_
  · intro j y hj
    have hj6 : j < 6 := (List.getElem?_eq_some_iff.1 hj).1
    match j, hj6 with
    | 0, _ => exact c0.trans hj
    | 1, _ => exact c1.trans hj
    | 2, _ => exact c2.trans hj
    | 3, _ => exact c3.trans hj
    | 4, _ => exact c4.trans hj
    | 5, _ => exact c5.trans hj
  · intro y hy
    subst hu
    simp only [cellsP, List.mem_cons, List.not_mem_nil, or_false] at hy
    rcases hy with rfl | rfl | rfl | rfl | rfl | rfl <;> rfl
  · intro g cap w' h3 h4 h5 h6
    refine h g cap w' ⟨xs ++ cellsP p u, by rw [List.length_append, List.length_singleton]; exact h3, ?_⟩ h4
    have hflat : FlatO (fun d => S d ∧ v.ownBlock ≠ some d) W (l ++ [p]) (xs ++ cellsP p u) := h2.snoc hk (fun d hd hd2 => by have := hd.1.2; have := hd2.2.1; omega) (fun d hd => ⟨hd.1.1, hd.2⟩) (fun d hd => ⟨hd.1, hd.2.2⟩)
    refine hflat.tight.mono ?_ ?_
    · intro d hd hlt
      exact h4.block d hlt (fun e => hd.1.2 e.symm)
    · intro d hd
      refine ⟨hd.1.1, fun e => ?_⟩
      simp only [Value.ownBlock, Option.some.injEq] at e
      rcases h5 with h5 | h5
      · exact hd.1.2 (by rw [h5, e])
      · have := hd.2; omega
end Ex
end Go.Proofs.YtbnchnlogikecaaGreatDoor
