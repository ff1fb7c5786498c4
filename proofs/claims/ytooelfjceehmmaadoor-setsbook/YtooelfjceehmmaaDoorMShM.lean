import Derived.Test.YtooelfjceehmmaaDoorMExBase
import Derived.Lib.OthersKept
import Derived.Lib.DecodeN
import Derived.Lib.MapLaws
import Derived.Deep.AppendLies
import Derived.OwnWalk
import Derived.Lib.AppendStr
import Derived.Lib.AppendZeros
import Derived.Lib.ConvBytes
import Derived.Laws.BytesString
import Derived.Deep.RegionHeld3
import Derived.Deep.DeepMust
import Derived.Test.YtooelfjceehmmaaDoorMSpCl
namespace Go.Proofs.YtooelfjceehmmaaDoor
open Go.RowKit
namespace Ex
namespace Sh

def bs (xs : List Int) : ByteArray := ⟨(xs.map fun x => x.toNat.toUInt8).toArray⟩
/-- What a reader of words has read so far, as the document's reader. -/
structure St where
  md : Int
  word : List Int
  words : List ByteArray
  digit : Int
  bad : Bool
/-- The answer: none: ErrCommand. -/
def fin (st : St) : Option (List ByteArray) := if st.bad = true ∨ (2 ≤ st.md ∧ st.md ≤ 5) then none else some (if st.md = 1 then st.words ++ [bs st.word] else st.words)
def start (ws : List ByteArray) (dg : Int) : St := ⟨0, [], ws, dg, false⟩
end Sh
end Ex
end Go.Proofs.YtooelfjceehmmaaDoor
namespace Go.Proofs.YtooelfjceehmmaaDoor
open Go.RowKit
attribute [local go_sem] Oper.semAt_some
namespace Ex
namespace Sh

theorem owns_same {w w' : World} {base size n : Nat} {e : TypeId} {v : Value} {xs : List Value} (h : w.ownsRow base e size v n xs) (hh : ∀ g, v.ownBlock = some g → w'.heap[g]? = w.heap[g]?) : w'.ownsRow base e size v n xs := by
  refine ⟨h.1, ?_⟩
  rcases h.2 with h0 | ⟨g, cap, cur, rfl, h1, h2, h3⟩
  · exact .inl h0
  · exact .inr ⟨g, cap, cur, rfl, h1, by rw [hh g rfl]; exact h2, h3⟩
theorem row_cells {w : World} {g n : Nat} {cur : Array Value} {xs : List Value} {t : TypeId} (h : w.heap[g]? = some (.cells cur t (0, 0))) (hx : cur.toList.take n = xs) : ∀ j u, xs[j]? = some u → w.cell? ⟨g, 0 + j, none⟩ = some u := by
  intro j u hj
  rw [← hx, List.getElem?_take] at hj
  split at hj
  · unfold World.cell?
    rw [Nat.zero_add]
    simp only [h]
    simpa using hj
  · cases hj
/-- A kind of element of lists: its type, the list's type, its cells, its bytes, what its cells are. -/
structure ElK (α : Type) where
  T : TypeId
  TT : TypeId
  sz : Nat
  by_ : Nat
  z : Value
  enc : α → List Value
  pos : 0 < sz
  info : (Tryd.prog.info? T).map (fun i => (i.zero, i.size, i.bytes)) = some (some z, sz, by_)
  zs : z.cells.size = sz
  und : Tryd.prog.underlying TT = some (.slice T)
  len : ∀ x, (enc x).length = sz
  one : ∀ x, ∀ u ∈ enc x, u.oneCell' = true
section
variable {α : Type} (E : ElK α)
def flatE (l : List α) : List Value := l.flatMap E.enc
theorem flatE_app (l : List α) (q : α) : flatE E (l ++ [q]) = flatE E l ++ E.enc q := by unfold flatE; simp
/-- A list of the call's own. -/
def LO (w : World) (base : Nat) (v : Value) (l : List α) : Prop := w.ownsRow base E.T E.sz v l.length (flatE E l)
variable {E}
theorem LO.nil (w : World) (base : Nat) : LO E w base (.slice none 0 0) [] := World.ownsRow_nil _ _ _ _
theorem LO.form {w : World} {base : Nat} {v : Value} {l : List α} (h : LO E w base v l) : ∃ a c, v = .slice a l.length c := by
  rcases h.2 with ⟨rfl, h0⟩ | ⟨g, cap, cur, rfl, _⟩
  · exact ⟨none, 0, by rw [h0]⟩
  · exact ⟨_, _, rfl⟩
theorem LO.lt' {w : World} {base : Nat} {v : Value} {l : List α} (h : LO E w base v l) : ∀ g, v.ownBlock = some g → base ≤ g ∧ g < w.heap.size := fun g hg => World.ownsRow.lt h g hg
theorem LO.same {w w' : World} {base : Nat} {v : Value} {l : List α} (h : LO E w base v l) (he : ∀ d, v.ownBlock = some d → w'.heap[d]? = w.heap[d]?) : LO E w' base v l := owns_same h he
theorem LO.keep {w w' : World} {base : Nat} {v : Value} {l : List α} (h : LO E w base v l) (hk : Kept w w') : LO E w' base v l := h.same (fun d hd => hk.2.2.2.2 d (h.lt' d hd).2)
/-- append of one element, that lies in a block of its own. -/
theorem lo_run {w : World} {base : Nat} {v : Value} {l : List α} (h : LO E w base v l) (ty : TypeId) {lb : Nat} {q : α} (hbx : w.heap[lb]? = some (.cells (E.enc q).toArray E.T (0, 0))) (hl : (l.length + 1) * E.by_ ≤ 140737488355328) (hl2 : l.length + 1 ≤ maxLen) (hbase : base ≤ w.heap.size) :
    ∃ g cap w', (Builtin.append_ #[E.TT, E.TT] ty #[v, .slice (some ⟨lb, 0, none⟩) 1 1]).run Tryd.prog w = .ok (.slice (some ⟨g, 0, none⟩) (l.length + 1) cap) w' ∧ LO E w' base (.slice (some ⟨g, 0, none⟩) (l.length + 1) cap) (l ++ [q]) ∧ w.grownBy w' v.ownBlock ∧ (v.ownBlock = some g ∨ g = w.heap.size) ∧ g < w'.heap.size := by
  obtain ⟨i0, hi, hz0, hz1, hz2⟩ := info_parts E.info
  obtain ⟨g, cap, w', hr, h2, h3, h4, h5⟩ := run_append_lies (P := Tryd.prog) w E.TT ty base E.T i0 _ E.sz E.by_ E.und hi hz0 hz1 hz2 E.zs E.pos v l.length (flatE E l) h ⟨lb, 0, none⟩ 1 1 (E.enc q) (by rw [E.len, Nat.one_mul]) (fun j y hj => by
    have e : w.cell? ⟨lb, j, none⟩ = (E.enc q)[j]? := by simp [World.cell?, hbx]
    simp only [Addr.add, Nat.zero_add]
    split
    · rename_i h0
      subst h0
      rw [e, hj]
    · rw [e, hj]) (E.one q) (by decide) hl2 hl hbase w.heap.size rfl
  refine ⟨g, cap, w', hr, ?_, h3, h4, h5⟩
  unfold LO
  rw [flatE_app, List.length_append]
  exact h2
section
variable {w : World} {ops : Array Oper} {rest : List Oper} {o : Oper} {a : Act} {Q : Exit → Act → World → Prop}
theorem wpl_lo (hgd : o.guard = none) (s x : Operand) (ho : o.op = .call { callee := .builtin .append, args := #[s, x], argTypes := #[E.TT, E.TT] }) (base : Nat) (v : Value) (l : List α) (m : Nat) (hm : l.length = m) (hs : a.eval s = v) (hown : LO E w base v l) (lb : Nat) (q : α) (hx : a.eval x = .slice (some ⟨lb, 0, none⟩) 1 1) (hbx : w.heap[lb]? = some (.cells (E.enc q).toArray E.T (0, 0))) (hl : (m + 1) * E.by_ ≤ 140737488355328) (hl2 : m + 1 ≤ maxLen) (hbase : base ≤ w.heap.size)
    (h : ∀ g cap w', LO E w' base (.slice (some ⟨g, 0, none⟩) (m + 1) cap) (l ++ [q]) → w.grownBy w' v.ownBlock → (v.ownBlock = some g ∨ g = w.heap.size) → g < w'.heap.size → wpList Tryd.prog ops Q rest (a.put o.dst (.slice (some ⟨g, 0, none⟩) (m + 1) cap)) w') : wpList Tryd.prog ops Q (o :: rest) a w := by
  subst hm
  obtain ⟨g, cap, w', hr, h2, h3, h4, h5⟩ := lo_run hown o.type hbx hl hl2 hbase
  refine wpList_plain hgd fun K hK => ?_
  unfold Oper.wp
  simp [execOp, ho, resolve, invoke, builtin, hs, hx, hr, Result.andThen]
  exact hK _ _ (h g cap w' h2 h3 h4 h5)
end
/-- Where an element's cells lie. -/
theorem LO.cell {w : World} {base g n cap : Nat} {l : List α} (h : LO E w base (.slice (some ⟨g, 0, none⟩) n cap) l) {i j : Nat} {x : α} {u : Value} (hx : l[i]? = some x) (hu : (E.enc x)[j]? = some u) : w.cell? ⟨g, i * E.sz + j, none⟩ = some u := by
  rcases h.2 with ⟨h0, _⟩ | ⟨g', cap', cur, he, _, hg, hc, hlen, _, hxs⟩
  · cases h0
  · have hj : j < E.sz := by rw [← E.len x]; exact (List.getElem?_eq_some_iff.1 hu).1
    have key : ∀ (l : List α) (i : Nat), l[i]? = some x → (flatE E l)[i * E.sz + j]? = some u := fun l => by
      induction l with
      | nil => intro i hi; simp at hi
      | cons y l ih =>
        intro i hi
        have e : flatE E (y :: l) = E.enc y ++ flatE E l := by unfold flatE; simp
        cases i with
        | zero =>
          simp only [List.getElem?_cons_zero, Option.some.injEq] at hi
          subst hi
          rw [e, Nat.zero_mul, Nat.zero_add, List.getElem?_append_left (by rw [E.len]; exact hj), hu]
        | succ i =>
          simp only [List.getElem?_cons_succ] at hi
          rw [e, List.getElem?_append_right (by rw [E.len, Nat.add_mul]; omega), E.len, ← ih i hi]
          congr 1
          rw [Nat.add_mul]
          omega
    injection he with he1
    injection he1 with he2
    injection he2 with he3
    subst he3
    have := row_cells hg hxs (i * E.sz + j) u (key l i hx)
    rw [Nat.zero_add] at this
    exact this
end

def encU8 (y : Int) : List Value := [.int .u8 y]
theorem encU8_one (y : Int) : ∀ u ∈ encU8 y, u.oneCell' = true := fun u hu => by
  unfold encU8 at hu
  simp only [List.mem_cons, List.not_mem_nil, or_false] at hu
  subst hu
  rfl
/-- Lists of bytes. -/
def u8E : ElK Int := { T := 5, TT := 162, sz := 1, by_ := 1, z := .int .u8 0, enc := encU8, pos := by decide, info := by kernel_rfl, zs := rfl, und := Tryd.underlying162, len := fun _ => rfl, one := encU8_one }
theorem flatE_app2 {α : Type} (E : ElK α) (l m : List α) : flatE E (l ++ m) = flatE E l ++ flatE E m := by unfold flatE; simp
theorem flatE_one {α : Type} (E : ElK α) (l : List α) : ∀ u ∈ flatE E l, u.oneCell' = true := fun u hu => by
  unfold flatE at hu
  obtain ⟨x, _, h⟩ := List.mem_flatMap.1 hu
  exact E.one x u h
theorem flatE_lenT {α : Type} (E : ElK α) (l : List α) : (flatE E l).length = l.length * E.sz := by
  induction l with
  | nil => simp [flatE]
  | cons x l ih =>
    have e : flatE E (x :: l) = E.enc x ++ flatE E l := by unfold flatE; simp
    rw [e, List.length_append, ih, E.len, List.length_cons, Nat.add_mul]
    omega
/-- Where a list's elements can be read. -/
def Src {α : Type} (E : ElK α) (w : World) (sa : Option Addr) (ys : List α) : Prop := ys = [] ∨ ∃ g o, sa = some ⟨g, o, none⟩ ∧ ∀ j u, (flatE E ys)[j]? = some u → w.cell? ⟨g, o + j, none⟩ = some u
theorem Src.keep {α : Type} {E : ElK α} {w w' : World} {sa : Option Addr} {ys : List α} (h : Src E w sa ys) (hk : Kept w w') : Src E w' sa ys := by
  rcases h with h | ⟨g, o, h1, h2⟩
  · exact Or.inl h
  · exact Or.inr ⟨g, o, h1, fun j u hj => grown_cell hk (h2 j u hj)⟩
theorem lo_zero {α : Type} {E : ElK α} {w : World} {base : Nat} {v : Value} {l : List α} (h : LO E w base v l) (a : Option Addr) (cap : Nat) (ty : TypeId) :
    (Builtin.append_ #[E.TT, E.TT] ty #[v, .slice a 0 cap]).run Tryd.prog w = .ok v w := by
  obtain ⟨i0, hi, hz0, hz1, hz2⟩ := info_parts E.info
  have ht := E.und
  rcases h.2 with ⟨rfl, h0⟩ | ⟨g, c, cur, rfl, _, _, hnc, _⟩
  · cases a <;> simp [Builtin.append_, run_underlying ht, sizeOf, typeInfo, hi, Builtin.lenOf, Builtin.firstCells, loadCells, loadCellsFrom, Result.andThen]
  · cases a <;> simp [Builtin.append_, run_underlying ht, sizeOf, typeInfo, hi, Builtin.lenOf, Builtin.firstCells, hnc, storeCells, loadCells, loadCellsFrom, Result.andThen]
/-- append of a list. -/
theorem lo_many {α : Type} {E : ElK α} {w : World} {base : Nat} {v : Value} {l : List α} (h : LO E w base v l) (ty : TypeId) {sa : Option Addr} {ys : List α} (sc : Nat) (hs : Src E w sa ys) (hl : (l.length + ys.length) * E.by_ ≤ 140737488355328) (hl2 : l.length + ys.length ≤ maxLen) (hbase : base ≤ w.heap.size) :
    ∃ a' cap w', (Builtin.append_ #[E.TT, E.TT] ty #[v, .slice sa ys.length sc]).run Tryd.prog w = .ok (.slice a' (l.length + ys.length) cap) w' ∧ LO E w' base (.slice a' (l.length + ys.length) cap) (l ++ ys) ∧ w.grownBy w' v.ownBlock ∧ ((Value.slice a' (l.length + ys.length) cap).ownBlock = v.ownBlock ∨ (Value.slice a' (l.length + ys.length) cap).ownBlock = some w.heap.size) := by
  by_cases hy : ys = []
  · subst hy
    obtain ⟨b', c', rfl⟩ := h.form
    refine ⟨b', c', w, lo_zero h sa sc ty, ?_, ⟨rfl, rfl, rfl, Nat.le_refl _, fun _ _ _ => rfl⟩, Or.inl rfl⟩
    rw [List.append_nil]
    exact h
  · rcases hs with hs | ⟨g0, o0, rfl, hc⟩
    · exact absurd hs hy
    · obtain ⟨i0, hi, hz0, hz1, hz2⟩ := info_parts E.info
      obtain ⟨g, cap, w', hr, h2, h3, h4, h5⟩ := run_append_lies (P := Tryd.prog) w E.TT ty base E.T i0 _ E.sz E.by_ E.und hi hz0 hz1 hz2 E.zs E.pos v l.length (flatE E l) h ⟨g0, o0, none⟩ ys.length sc (flatE E ys) (by rw [flatE_lenT]) (fun j y hj => by rw [Addr.add_lit]; exact hc j y hj) (flatE_one E ys) (List.length_pos_iff.2 hy) hl2 hl hbase w.heap.size rfl
      refine ⟨some ⟨g, 0, none⟩, cap, w', hr, ?_, h3, ?_⟩
      · unfold LO
        rw [flatE_app2, List.length_append]
        exact h2
      · rcases h4 with h4 | h4
        · exact Or.inl h4.symm
        · exact Or.inr (by rw [h4]; rfl)
section
variable {α : Type} {E : ElK α} {w : World} {ops : Array Oper} {rest : List Oper} {o : Oper} {a : Act} {Q : Exit → Act → World → Prop}
theorem wpl_many (hgd : o.guard = none) (s x : Operand) (ho : o.op = .call { callee := .builtin .append, args := #[s, x], argTypes := #[E.TT, E.TT] }) (base : Nat) (v : Value) (l ys : List α) (m n k : Nat) (hm : l.length = m) (hn : ys.length = n) (hk : m + n = k) (hs : a.eval s = v) (hown : LO E w base v l) (sa : Option Addr) (sc : Nat) (hx : a.eval x = .slice sa n sc) (hsrc : Src E w sa ys) (hl : k * E.by_ ≤ 140737488355328) (hl2 : k ≤ maxLen) (hbase : base ≤ w.heap.size)
    (h : ∀ a' cap w', LO E w' base (.slice a' k cap) (l ++ ys) → w.grownBy w' v.ownBlock → ((Value.slice a' k cap).ownBlock = v.ownBlock ∨ (Value.slice a' k cap).ownBlock = some w.heap.size) → wpList Tryd.prog ops Q rest (a.put o.dst (.slice a' k cap)) w') : wpList Tryd.prog ops Q (o :: rest) a w := by
  subst hm hn hk
  obtain ⟨a', cap, w', hr, h2, h3, h4⟩ := lo_many hown o.type sc hsrc hl hl2 hbase
  refine wpList_plain hgd fun K hK => ?_
  unfold Oper.wp
  simp [execOp, ho, resolve, invoke, builtin, hs, hx, hr, Result.andThen]
  exact hK _ _ (h a' cap w' h2 h3 h4)
end
theorem Src.front {w : World} {a : Option Addr} {y z : List Int} (h : Src u8E w a (y ++ z)) : Src u8E w a y := by
  rcases h with h | ⟨g, o, h1, h2⟩
  · exact Or.inl (List.append_eq_nil_iff.1 h).1
  · refine Or.inr ⟨g, o, h1, fun j u hj => h2 j u ?_⟩
    rw [flatE_app2, List.getElem?_append_left (List.getElem?_eq_some_iff.1 hj).1]
    exact hj


theorem LO.src {w : World} {base n cap : Nat} {a : Option Addr} {α : Type} {E : ElK α} {l : List α} (h : LO E w base (.slice a n cap) l) : Src E w a l := by
  rcases h.2 with ⟨h0, h1⟩ | ⟨g, cap', cur, he, _, hg, hc, hlen, _, hxs⟩
  · left
    exact List.length_eq_zero_iff.1 h1
  · right
    injection he with he1
    exact ⟨g, 0, he1, fun j u hj => row_cells hg hxs j u hj⟩
end Sh
end Ex
end Go.Proofs.YtooelfjceehmmaaDoor
namespace Go.Proofs.YtooelfjceehmmaaDoor
open Go.RowKit
attribute [local go_sem] Oper.semAt_some
namespace Ex

theorem TabB.other {w : World} {g d i : Nat} {v : Value} {ms : List Bool} (h : TabB w g ms) (hd : g ≠ d) : TabB (w.setCell ⟨d, i, none⟩ v) g ms := h.but (but_set (but_refl d w) _ _) hd
end Ex
end Go.Proofs.YtooelfjceehmmaaDoor
