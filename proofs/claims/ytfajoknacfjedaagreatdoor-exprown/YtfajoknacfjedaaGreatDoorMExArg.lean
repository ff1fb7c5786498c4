import Derived.Test.YtfajoknacfjedaaGreatDoorMExFr0
import Derived.Deep.Slices
import Derived.SizedLaws
import Derived.ChangeSlices
import Derived.Lib.OthersKept
import Derived.Lib.DecodeN
import Derived.Lib.MapLaws
import Derived.Deep.AppendLies
import Derived.OwnWalk
import Derived.Lib.AppendStr
import Derived.Lib.AppendZeros
import Derived.Lib.ConvBytes
import Derived.Laws.BytesString
import Derived.Deep.RegionHeld3
import Derived.Deep.DeepMust
namespace Go.Proofs.YtfajoknacfjedaaGreatDoor
open Go.RowKit Go.ChangeShapes Go.WideShapes Go.ChangeAt
namespace Ex

section
variable {H : Type} {enc : TypeId × Value → H}

theorem weights_all {P : Program} {e : TypeId} : ∀ {ds : List (DataW H)} {d : DataW H}, d ∈ ds → ∀ n ∈ d.weights P e, n ∈ DataW.weightsAll P e ds
  | x :: r, d, hd, n, hn => by
    simp only [DataW.weightsAll, List.mem_append]
    rcases List.mem_cons.1 hd with rfl | hd
    · exact .inl hn
    · exact .inr (weights_all hd n hn)
  | [], _, hd, _, _ => by cases hd
theorem six {α : Type} : ∀ {l : List α}, l.length = 6 → ∃ a b c d e f, l = [a, b, c, d, e, f]
  | [a, b, c, d, e, f], _ => ⟨a, b, c, d, e, f, rfl⟩
  | [], h => by simp at h
  | [_], h => by simp at h
  | [_, _], h => by simp at h
  | [_, _, _], h => by simp at h
  | [_, _, _, _], h => by simp at h
  | [_, _, _, _, _], h => by simp at h
  | _ :: _ :: _ :: _ :: _ :: _ :: _ :: _, h => by simp at h
theorem expr_size : Tryz.prog.cellsOf 24 = 6 := by kernel_rfl
theorem int_size : Tryz.prog.cellsOf 3 = 1 := by kernel_rfl
theorem exprs_size : Tryz.prog.cellsOf 22 = 1 := by kernel_rfl
theorem expr_bytes : Tryz.prog.bytesOf 24 = 64 := by kernel_rfl

theorem weights_field {P : Program} {t : TypeId} {fs : Array Field} (ht : P.underlying t = some (.struct fs)) {y0 y1 y2 y3 y4 y5 : DataW H} {f0 f1 f2 f3 f4 f5 : Field} (hf : fs = #[f0, f1, f2, f3, f4, f5]) : ∀ n ∈ y5.weights P f5.type, n ∈ (DataW.agg [y0, y1, y2, y3, y4, y5]).weights P t := by
  intro n hn
  subst hf
  simp only [DataW.weights, ht]
  simp only [List.map_cons, List.map_nil, DataW.weightsEach, List.mem_append]
  right; right; right; right; right; left
  exact hn

set_option maxRecDepth 100000 in
/-- The lists that are read with so much fuel are lists of patterns of so many levels. -/
theorem exprs_trod {W : World} : ∀ (k fuel : Nat), fuel ≤ 2 * k → ∀ (v : Value) (x : DataW H × List MemPlace), DataW.trod enc Tryz.prog W 0 (fun _ => true) true fuel 22 [v] = some x → (∀ n ∈ x.1.weights Tryz.prog 22, n ≤ reachBytes) →
    ∃ l : List (PatN k), KidsAt (fun b => b < W.heap.size) W k l v := by
  intro k
  induction k with
  | zero =>
    intro fuel hfu v x h
    obtain rfl : fuel = 0 := by omega
    simp [DataW.trod] at h
  | succ k ih =>
    intro fuel hfu v x hf hz
    rcases DataW.trod_slice Tryz.underlying22 hf with ⟨hcs, _⟩ | ⟨a, len, cap, elems, rest, n, hn, hcs, hx, _, hl, hm, hlen, hel, _, _⟩
    · simp only [List.cons.injEq, and_true] at hcs
      subst hcs
      exact ⟨[], kids_nil _ _ _ _ _ _ rfl⟩
    · simp only [List.cons.injEq, and_true] at hcs
      subst hcs hx
      have hb : len * 64 ≤ reachBytes := by
        have := hz _ (by simp only [DataW.weights, Tryz.underlying22]; exact List.mem_cons_self)
        rw [expr_bytes] at this
        simp only [List.length_map] at this
        rw [hlen] at this
        have h2 : len * 64 ≤ (len + rest.length) * 64 := Nat.mul_le_mul_right _ (Nat.le_add_right _ _)
        omega
      have hle : len ≤ 17592186044416 := by unfold reachBytes at hb; omega
      by_cases h0 : len = 0
      · subst h0
        exact ⟨[], kids_nil _ _ _ _ _ _ rfl⟩
      obtain ⟨cc, oo, hx⟩ : ∃ cc oo, a = ⟨cc, oo, none⟩ := by
        have hei := hel 0 (by omega)
        obtain ⟨ei, hei2⟩ : ∃ y, elems[0]? = some y := ⟨_, List.getElem?_eq_getElem (by omega)⟩
        rw [hei2, expr_size] at hei
        obtain ⟨cs', hc1, hc2⟩ := Option.bind_eq_some_iff.1 hei
        obtain ⟨_, hc3, hc4⟩ := World.cells?_some hc1
        obtain ⟨v0, v1, v2, v3, v4, v5, rfl⟩ := six hc3
        have k0 := hc4 0 (by omega)
        simp only [List.getElem?_cons_zero] at k0
        obtain ⟨c1, o1, t1⟩ := a
        have hspot : t1 = none := by simpa [Addr.add] using World.cell?_spot k0
        subst hspot
        exact ⟨c1, o1, rfl⟩
      subst hx
      have hone : ∀ i, i < len → ∃ (q : PatN (k + 1)) (c o : Nat) (v' : Value), (⟨cc, oo, none⟩ : Addr) = ⟨c, o, none⟩ ∧ c < W.heap.size ∧ W.cell? ⟨c, o + i * 6, none⟩ = some (.int .i64 (kind q)) ∧ W.cell? ⟨c, o + i * 6 + 1, none⟩ = some (.int .i64 (from_ q)) ∧ W.cell? ⟨c, o + i * 6 + 2, none⟩ = some (.int .i64 (to_ q)) ∧
          W.cell? ⟨c, o + i * 6 + 3, none⟩ = some (.int .i64 (min_ q)) ∧ W.cell? ⟨c, o + i * 6 + 4, none⟩ = some (.int .i64 (max_ q)) ∧ W.cell? ⟨c, o + i * 6 + 5, none⟩ = some v' ∧ KidsAt (fun b => b < W.heap.size) W k (kids q) v' := by
        intro i hi
        have hei := hel i hi
        obtain ⟨ei, hei2⟩ : ∃ y, elems[i]? = some y := ⟨_, List.getElem?_eq_getElem (by omega)⟩
        rw [hei2, expr_size] at hei
        obtain ⟨cs', hc1, hc2⟩ := Option.bind_eq_some_iff.1 hei
        obtain ⟨_, hc3, hc4⟩ := World.cells?_some hc1
        obtain ⟨xs, n', hn', hx1, _, hx3, hx4⟩ := DataW.trod_struct Tryz.underlying24 hc2
        obtain ⟨v0, v1, v2, v3, v4, v5, rfl⟩ := six hc3
        obtain ⟨y0, y1, y2, y3, y4, y5, rfl⟩ := six hx3
        have f0 : DataW.trod enc Tryz.prog W 0 (fun _ => true) true n' 3 [v0] = some y0 := by have := hx4 0 _ rfl; simpa [int_size] using this
        have f1 : DataW.trod enc Tryz.prog W 0 (fun _ => true) true n' 3 [v1] = some y1 := by have := hx4 1 _ rfl; simpa [int_size] using this
        have f2 : DataW.trod enc Tryz.prog W 0 (fun _ => true) true n' 3 [v2] = some y2 := by have := hx4 2 _ rfl; simpa [int_size] using this
        have f3 : DataW.trod enc Tryz.prog W 0 (fun _ => true) true n' 3 [v3] = some y3 := by have := hx4 3 _ rfl; simpa [int_size] using this
        have f4 : DataW.trod enc Tryz.prog W 0 (fun _ => true) true n' 3 [v4] = some y4 := by have := hx4 4 _ rfl; simpa [int_size] using this
        have f5 : DataW.trod enc Tryz.prog W 0 (fun _ => true) true n' 22 [v5] = some y5 := by have := hx4 5 _ rfl; simpa [exprs_size] using this
        obtain ⟨z0, e0, _, _⟩ := DataW.trod_int Tryz.underlying3 f0
        obtain ⟨z1, e1, _, _⟩ := DataW.trod_int Tryz.underlying3 f1
        obtain ⟨z2, e2, _, _⟩ := DataW.trod_int Tryz.underlying3 f2
        obtain ⟨z3, e3, _, _⟩ := DataW.trod_int Tryz.underlying3 f3
        obtain ⟨z4, e4, _, _⟩ := DataW.trod_int Tryz.underlying3 f4
        simp only [List.cons.injEq, and_true] at e0 e1 e2 e3 e4
        subst e0 e1 e2 e3 e4
        have hw : ∀ m ∈ y5.1.weights Tryz.prog 22, m ≤ reachBytes := by
          intro m hm2
          apply hz
          simp only [DataW.weights, Tryz.underlying22]
          refine List.mem_cons_of_mem _ (List.mem_append.2 (.inl (weights_all (List.mem_map.2 ⟨ei, List.mem_of_getElem? hei2, rfl⟩) m ?_)))
          have hD : ei.1 = .agg [y0.1, y1.1, y2.1, y3.1, y4.1, y5.1] := by have := congrArg Prod.fst hx1; simpa using this
          rw [hD]
          exact weights_field Tryz.underlying24 rfl m hm2
        obtain ⟨l5, g5⟩ := ih n' (by omega) v5 y5 f5 hw
        have k0 := hc4 0 (by omega)
        have k1 := hc4 1 (by omega)
        have k2 := hc4 2 (by omega)
        have k3 := hc4 3 (by omega)
        have k4 := hc4 4 (by omega)
        have k5 := hc4 5 (by omega)
        simp only [List.getElem?_cons_zero, List.getElem?_cons_succ] at k0 k1 k2 k3 k4 k5
        simp only [Addr.add_mid, Nat.add_zero] at k0 k1 k2 k3 k4 k5
        exact ⟨(show PatN (k + 1) from ((z0, z1, z2, z3, z4, l5) : Int × Int × Int × Int × Int × List (PatN k))), cc, oo, v5, rfl, World.block_lt_of_cell? W _ k0, k0, k1, k2, k3, k4, k5, g5⟩
      have inh : Inhabited (PatN (k + 1)) := ⟨(show PatN (k + 1) from ((0, 0, 0, 0, 0, []) : Int × Int × Int × Int × Int × List (PatN k)))⟩
      obtain ⟨Q, hQ⟩ := Go.Deep.choose_lt hone
      obtain ⟨c, o, _, ea, hc, _⟩ := hQ 0 (by omega)
      simp only [Addr.mk.injEq, and_true] at ea
      obtain ⟨rfl, rfl⟩ := ea
      refine ⟨(List.range len).map Q, some ⟨cc, oo, none⟩, cap, ?_, ?_, ?_, Or.inr ⟨cc, oo, rfl, hc, fun i q hq => ?_⟩⟩
      · rw [List.length_map, List.length_range]
      · rw [List.length_map, List.length_range]; exact hl
      · rw [List.length_map, List.length_range]; exact hle
      · rw [List.getElem?_map] at hq
        obtain ⟨i', hi', rfl⟩ := Option.map_eq_some_iff.1 hq
        obtain ⟨hi, he⟩ := List.getElem?_eq_some_iff.1 hi'
        rw [List.length_range] at hi
        rw [List.getElem_range] at he
        subst he
        obtain ⟨c', o', v', e, _, g0, g1, g2, g3, g4, g5, g6⟩ := hQ i hi
        simp only [Addr.mk.injEq, and_true] at e
        obtain ⟨rfl, rfl⟩ := e
        exact ⟨v', g0, g1, g2, g3, g4, g5, g6⟩
end

end Ex
end Go.Proofs.YtfajoknacfjedaaGreatDoor
namespace Go.Proofs.YtfajoknacfjedaaGreatDoor
open Go.RowKit Go.ChangeShapes Go.WideShapes Go.ChangeAt
namespace Ex

section
variable {H : Type} {enc : TypeId × Value → H}

set_option maxRecDepth 100000 in
/-- A pattern that came in. -/
theorem expr_of {W : World} {v : Value} {d : DataW H} {p : List MemPlace} (hv : ∃ cs, v = .agg cs ∧ cs.size = Tryz.prog.cellsOf 24) (h : DataW.Trod enc Tryz.prog W 0 (fun _ => true) true 24 v d p) (hz : ∀ n ∈ d.weights Tryz.prog 24, n ≤ reachBytes) :
    ∃ (k : Nat) (q : PatN (k + 1)) (v' : Value), v = valOf q v' ∧ KidsAt (fun b => b < W.heap.size) W k (kids q) v' := by
  obtain ⟨cs, rfl, hc⟩ := hv
  rw [expr_size] at hc
  obtain ⟨fuel, hf⟩ := h
  have hf2 : DataW.trod enc Tryz.prog W 0 (fun _ => true) true fuel 24 cs.toList = some (d, p) := hf
  obtain ⟨xs, n', hn', hx1, _, hx3, hx4⟩ := DataW.trod_struct Tryz.underlying24 hf2
  obtain ⟨v0, v1, v2, v3, v4, v5, hcs⟩ := six (l := cs.toList) (by rw [Array.length_toList]; exact hc)
  rw [hcs] at hx4
  obtain ⟨y0, y1, y2, y3, y4, y5, rfl⟩ := six hx3
  have f0 : DataW.trod enc Tryz.prog W 0 (fun _ => true) true n' 3 [v0] = some y0 := by have := hx4 0 _ rfl; simpa [int_size] using this
  have f1 : DataW.trod enc Tryz.prog W 0 (fun _ => true) true n' 3 [v1] = some y1 := by have := hx4 1 _ rfl; simpa [int_size] using this
  have f2 : DataW.trod enc Tryz.prog W 0 (fun _ => true) true n' 3 [v2] = some y2 := by have := hx4 2 _ rfl; simpa [int_size] using this
  have f3 : DataW.trod enc Tryz.prog W 0 (fun _ => true) true n' 3 [v3] = some y3 := by have := hx4 3 _ rfl; simpa [int_size] using this
  have f4 : DataW.trod enc Tryz.prog W 0 (fun _ => true) true n' 3 [v4] = some y4 := by have := hx4 4 _ rfl; simpa [int_size] using this
  have f5 : DataW.trod enc Tryz.prog W 0 (fun _ => true) true n' 22 [v5] = some y5 := by have := hx4 5 _ rfl; simpa [exprs_size] using this
  obtain ⟨z0, e0, _, _⟩ := DataW.trod_int Tryz.underlying3 f0
  obtain ⟨z1, e1, _, _⟩ := DataW.trod_int Tryz.underlying3 f1
  obtain ⟨z2, e2, _, _⟩ := DataW.trod_int Tryz.underlying3 f2
  obtain ⟨z3, e3, _, _⟩ := DataW.trod_int Tryz.underlying3 f3
  obtain ⟨z4, e4, _, _⟩ := DataW.trod_int Tryz.underlying3 f4
  simp only [List.cons.injEq, and_true] at e0 e1 e2 e3 e4
  subst e0 e1 e2 e3 e4
  have hw : ∀ m ∈ y5.1.weights Tryz.prog 22, m ≤ reachBytes := by
    intro m hm2
    apply hz
    have hD : d = .agg [y0.1, y1.1, y2.1, y3.1, y4.1, y5.1] := by have := congrArg Prod.fst hx1; simpa using this
    rw [hD]
    exact weights_field Tryz.underlying24 rfl m hm2
  obtain ⟨l5, g5⟩ := exprs_trod n' n' (by omega) v5 y5 f5 hw
  refine ⟨n', (show PatN (n' + 1) from ((z0, z1, z2, z3, z4, l5) : Int × Int × Int × Int × Int × List (PatN n'))), v5, ?_, g5⟩
  have e : cs = #[.int .i64 z0, .int .i64 z1, .int .i64 z2, .int .i64 z3, .int .i64 z4, v5] := by
    apply Array.toList_inj.1
    rw [hcs]
  rw [e]
  rfl
end

end Ex
end Go.Proofs.YtfajoknacfjedaaGreatDoor
namespace Go.Proofs.YtfajoknacfjedaaGreatDoor
open Go.RowKit
namespace Ex
namespace Sh

def bs (xs : List Int) : ByteArray := ⟨(xs.map fun x => x.toNat.toUInt8).toArray⟩
/-- What a reader of words has read so far, as the document's reader. -/
structure St where
  md : Int
  word : List Int
  words : List ByteArray
  digit : Int
  bad : Bool
def blank (c : Int) : Bool := c == 32 || c == 9
def oddB (c : Int) : Bool := decide (c < 32) || c == 127 || c == 34 || c == 92
def hexD (c : Int) : Int := if 48 ≤ c ∧ c ≤ 57 then c - 48 else if 97 ≤ c ∧ c ≤ 102 then c - 87 else if 65 ≤ c ∧ c ≤ 70 then c - 55 else -1
def endsS (st : St) : St := { st with words := st.words ++ [bs st.word], word := [] }
def plainS (st : St) (c : Int) : St := { st with bad := st.bad || oddB c, word := st.word ++ [c] }
def firstS (st : St) (c : Int) : St :=
  if blank c then { st with md := 0 } else if c = 35 then { st with md := 7 } else if c = 34 then { st with md := 2 } else plainS { st with md := 1 } c
def insideS (st : St) (c : Int) : St :=
  if c = 34 then { endsS st with md := 6 } else if c = 92 then { st with md := 3 } else if c < 32 ∨ c = 127 then { st with bad := true } else { st with word := st.word ++ [c] }
def escapedS (st : St) (c : Int) : St :=
  if c = 92 ∨ c = 34 then { st with md := 2, word := st.word ++ [c] } else if c = 110 then { st with md := 2, word := st.word ++ [10] } else if c = 116 then { st with md := 2, word := st.word ++ [9] }
  else if c = 120 then { st with md := 4 } else { st with md := 2, bad := true }
def highS (st : St) (c : Int) : St := { st with digit := hexD c, md := 5, bad := decide (hexD c < 0) }
def lowS (st : St) (c : Int) : St := if hexD c < 0 then { st with md := 2, bad := true } else { st with md := 2, word := st.word ++ [16 * st.digit + hexD c] }
def behindS (st : St) (c : Int) : St := { st with md := 0, bad := !blank c }
def nextS (st : St) (c : Int) : St :=
  if st.md = 0 then firstS st c else if st.md = 1 then (if blank c then { endsS st with md := 0 } else plainS st c) else if st.md = 2 then insideS st c
  else if st.md = 3 then escapedS st c else if st.md = 4 then highS st c else if st.md = 5 then lowS st c else if st.md = 6 then behindS st c else st
def stepS (st : St) (c : Int) : St := if st.bad = true then st else nextS st c
def runS (st : St) (l : List Int) : St := l.foldl stepS st
/-- The answer: none: ErrCommand. -/
def fin (st : St) : Option (List ByteArray) := if st.bad = true ∨ (2 ≤ st.md ∧ st.md ≤ 5) then none else some (if st.md = 1 then st.words ++ [bs st.word] else st.words)
def start (ws : List ByteArray) (dg : Int) : St := ⟨0, [], ws, dg, false⟩
theorem run_cons (st : St) (c : Int) (l : List Int) : runS st (c :: l) = runS (stepS st c) l := rfl
theorem run_bad (st : St) (h : st.bad = true) : ∀ l, runS st l = st
  | [] => rfl
  | c :: l => by rw [run_cons, show stepS st c = st by simp [stepS, h]]; exact run_bad st h l
end Sh
end Ex
end Go.Proofs.YtfajoknacfjedaaGreatDoor
namespace Go.Proofs.YtfajoknacfjedaaGreatDoor
open Go.RowKit
attribute [local go_sem] Oper.semAt_some
namespace Ex
namespace Sh

theorem owns_same {w w' : World} {base size n : Nat} {e : TypeId} {v : Value} {xs : List Value} (h : w.ownsRow base e size v n xs) (hh : ∀ g, v.ownBlock = some g → w'.heap[g]? = w.heap[g]?) : w'.ownsRow base e size v n xs := by
  refine ⟨h.1, ?_⟩
  rcases h.2 with h0 | ⟨g, cap, cur, rfl, h1, h2, h3⟩
  · exact .inl h0
  · exact .inr ⟨g, cap, cur, rfl, h1, by rw [hh g rfl]; exact h2, h3⟩
theorem row_cells {w : World} {g n : Nat} {cur : Array Value} {xs : List Value} {t : TypeId} (h : w.heap[g]? = some (.cells cur t (0, 0))) (hx : cur.toList.take n = xs) : ∀ j u, xs[j]? = some u → w.cell? ⟨g, 0 + j, none⟩ = some u := by
  intro j u hj
  rw [← hx, List.getElem?_take] at hj
  split at hj
  · unfold World.cell?
    rw [Nat.zero_add]
    simp only [h]
    simpa using hj
  · cases hj
/-- A kind of element of lists: its type, the list's type, its cells, its bytes, what its cells are. -/
structure ElK (α : Type) where
  T : TypeId
  TT : TypeId
  sz : Nat
  by_ : Nat
  z : Value
  enc : α → List Value
  pos : 0 < sz
  info : (Tryz.prog.info? T).map (fun i => (i.zero, i.size, i.bytes)) = some (some z, sz, by_)
  zs : z.cells.size = sz
  und : Tryz.prog.underlying TT = some (.slice T)
  len : ∀ x, (enc x).length = sz
  one : ∀ x, ∀ u ∈ enc x, u.oneCell' = true
section
variable {α : Type} (E : ElK α)
def flatE (l : List α) : List Value := l.flatMap E.enc
theorem flatE_app (l : List α) (q : α) : flatE E (l ++ [q]) = flatE E l ++ E.enc q := by unfold flatE; simp
/-- A list of the call's own. -/
def LO (w : World) (base : Nat) (v : Value) (l : List α) : Prop := w.ownsRow base E.T E.sz v l.length (flatE E l)
variable {E}
theorem LO.nil (w : World) (base : Nat) : LO E w base (.slice none 0 0) [] := World.ownsRow_nil _ _ _ _
theorem LO.form {w : World} {base : Nat} {v : Value} {l : List α} (h : LO E w base v l) : ∃ a c, v = .slice a l.length c := by
  rcases h.2 with ⟨rfl, h0⟩ | ⟨g, cap, cur, rfl, _⟩
  · exact ⟨none, 0, by rw [h0]⟩
  · exact ⟨_, _, rfl⟩
theorem LO.lt' {w : World} {base : Nat} {v : Value} {l : List α} (h : LO E w base v l) : ∀ g, v.ownBlock = some g → base ≤ g ∧ g < w.heap.size := fun g hg => World.ownsRow.lt h g hg
theorem LO.same {w w' : World} {base : Nat} {v : Value} {l : List α} (h : LO E w base v l) (he : ∀ d, v.ownBlock = some d → w'.heap[d]? = w.heap[d]?) : LO E w' base v l := owns_same h he
theorem LO.keep {w w' : World} {base : Nat} {v : Value} {l : List α} (h : LO E w base v l) (hk : Kept w w') : LO E w' base v l := h.same (fun d hd => hk.2.2.2.2 d (h.lt' d hd).2)
/-- append of one element, that lies in a block of its own. -/
theorem lo_run {w : World} {base : Nat} {v : Value} {l : List α} (h : LO E w base v l) (ty : TypeId) {lb : Nat} {q : α} (hbx : w.heap[lb]? = some (.cells (E.enc q).toArray E.T (0, 0))) (hl : (l.length + 1) * E.by_ ≤ 140737488355328) (hl2 : l.length + 1 ≤ maxLen) (hbase : base ≤ w.heap.size) :
    ∃ g cap w', (Builtin.append_ #[E.TT, E.TT] ty #[v, .slice (some ⟨lb, 0, none⟩) 1 1]).run Tryz.prog w = .ok (.slice (some ⟨g, 0, none⟩) (l.length + 1) cap) w' ∧ LO E w' base (.slice (some ⟨g, 0, none⟩) (l.length + 1) cap) (l ++ [q]) ∧ w.grownBy w' v.ownBlock ∧ (v.ownBlock = some g ∨ g = w.heap.size) ∧ g < w'.heap.size := by
  obtain ⟨i0, hi, hz0, hz1, hz2⟩ := info_parts E.info
  obtain ⟨g, cap, w', hr, h2, h3, h4, h5⟩ := run_append_lies (P := Tryz.prog) w E.TT ty base E.T i0 _ E.sz E.by_ E.und hi hz0 hz1 hz2 E.zs E.pos v l.length (flatE E l) h ⟨lb, 0, none⟩ 1 1 (E.enc q) (by rw [E.len, Nat.one_mul]) (fun j y hj => by
    have e : w.cell? ⟨lb, j, none⟩ = (E.enc q)[j]? := by simp [World.cell?, hbx]
    simp only [Addr.add, Nat.zero_add]
    split
    · rename_i h0
      subst h0
      rw [e, hj]
    · rw [e, hj]) (E.one q) (by decide) hl2 hl hbase w.heap.size rfl
  refine ⟨g, cap, w', hr, ?_, h3, h4, h5⟩
  unfold LO
  rw [flatE_app, List.length_append]
  exact h2
section
variable {w : World} {ops : Array Oper} {rest : List Oper} {o : Oper} {a : Act} {Q : Exit → Act → World → Prop}
theorem wpl_lo (hgd : o.guard = none) (s x : Operand) (ho : o.op = .call { callee := .builtin .append, args := #[s, x], argTypes := #[E.TT, E.TT] }) (base : Nat) (v : Value) (l : List α) (m : Nat) (hm : l.length = m) (hs : a.eval s = v) (hown : LO E w base v l) (lb : Nat) (q : α) (hx : a.eval x = .slice (some ⟨lb, 0, none⟩) 1 1) (hbx : w.heap[lb]? = some (.cells (E.enc q).toArray E.T (0, 0))) (hl : (m + 1) * E.by_ ≤ 140737488355328) (hl2 : m + 1 ≤ maxLen) (hbase : base ≤ w.heap.size)
    (h : ∀ g cap w', LO E w' base (.slice (some ⟨g, 0, none⟩) (m + 1) cap) (l ++ [q]) → w.grownBy w' v.ownBlock → (v.ownBlock = some g ∨ g = w.heap.size) → g < w'.heap.size → wpList Tryz.prog ops Q rest (a.put o.dst (.slice (some ⟨g, 0, none⟩) (m + 1) cap)) w') : wpList Tryz.prog ops Q (o :: rest) a w := by
  subst hm
  obtain ⟨g, cap, w', hr, h2, h3, h4, h5⟩ := lo_run hown o.type hbx hl hl2 hbase
  refine wpList_plain hgd fun K hK => ?_
  unfold Oper.wp
  simp [execOp, ho, resolve, invoke, builtin, hs, hx, hr, Result.andThen]
  exact hK _ _ (h g cap w' h2 h3 h4 h5)
end
/-- Where an element's cells lie. -/
theorem LO.cell {w : World} {base g n cap : Nat} {l : List α} (h : LO E w base (.slice (some ⟨g, 0, none⟩) n cap) l) {i j : Nat} {x : α} {u : Value} (hx : l[i]? = some x) (hu : (E.enc x)[j]? = some u) : w.cell? ⟨g, i * E.sz + j, none⟩ = some u := by
  rcases h.2 with ⟨h0, _⟩ | ⟨g', cap', cur, he, _, hg, hc, hlen, _, hxs⟩
  · cases h0
  · have hj : j < E.sz := by rw [← E.len x]; exact (List.getElem?_eq_some_iff.1 hu).1
    have key : ∀ (l : List α) (i : Nat), l[i]? = some x → (flatE E l)[i * E.sz + j]? = some u := fun l => by
      induction l with
      | nil => intro i hi; simp at hi
      | cons y l ih =>
        intro i hi
        have e : flatE E (y :: l) = E.enc y ++ flatE E l := by unfold flatE; simp
        cases i with
        | zero =>
          simp only [List.getElem?_cons_zero, Option.some.injEq] at hi
          subst hi
          rw [e, Nat.zero_mul, Nat.zero_add, List.getElem?_append_left (by rw [E.len]; exact hj), hu]
        | succ i =>
          simp only [List.getElem?_cons_succ] at hi
          rw [e, List.getElem?_append_right (by rw [E.len, Nat.add_mul]; omega), E.len, ← ih i hi]
          congr 1
          rw [Nat.add_mul]
          omega
    injection he with he1
    injection he1 with he2
    injection he2 with he3
    subst he3
    have := row_cells hg hxs (i * E.sz + j) u (key l i hx)
    rw [Nat.zero_add] at this
    exact this
end

def encU8 (y : Int) : List Value := [.int .u8 y]
theorem encU8_one (y : Int) : ∀ u ∈ encU8 y, u.oneCell' = true := fun u hu => by
  unfold encU8 at hu
  simp only [List.mem_cons, List.not_mem_nil, or_false] at hu
  subst hu
  rfl
/-- Lists of bytes. -/
def u8E : ElK Int := { T := 5, TT := 31, sz := 1, by_ := 1, z := .int .u8 0, enc := encU8, pos := by decide, info := by kernel_rfl, zs := rfl, und := Tryz.underlying31, len := fun _ => rfl, one := encU8_one }
theorem flatE_app2 {α : Type} (E : ElK α) (l m : List α) : flatE E (l ++ m) = flatE E l ++ flatE E m := by unfold flatE; simp
theorem flatE_one {α : Type} (E : ElK α) (l : List α) : ∀ u ∈ flatE E l, u.oneCell' = true := fun u hu => by
  unfold flatE at hu
  obtain ⟨x, _, h⟩ := List.mem_flatMap.1 hu
  exact E.one x u h
theorem flatE_lenT {α : Type} (E : ElK α) (l : List α) : (flatE E l).length = l.length * E.sz := by
  induction l with
  | nil => simp [flatE]
  | cons x l ih =>
    have e : flatE E (x :: l) = E.enc x ++ flatE E l := by unfold flatE; simp
    rw [e, List.length_append, ih, E.len, List.length_cons, Nat.add_mul]
    omega
/-- Where a list's elements can be read. -/
def Src {α : Type} (E : ElK α) (w : World) (sa : Option Addr) (ys : List α) : Prop := ys = [] ∨ ∃ g o, sa = some ⟨g, o, none⟩ ∧ ∀ j u, (flatE E ys)[j]? = some u → w.cell? ⟨g, o + j, none⟩ = some u
theorem Src.keep {α : Type} {E : ElK α} {w w' : World} {sa : Option Addr} {ys : List α} (h : Src E w sa ys) (hk : Kept w w') : Src E w' sa ys := by
  rcases h with h | ⟨g, o, h1, h2⟩
  · exact Or.inl h
  · exact Or.inr ⟨g, o, h1, fun j u hj => grown_cell hk (h2 j u hj)⟩
theorem lo_zero {α : Type} {E : ElK α} {w : World} {base : Nat} {v : Value} {l : List α} (h : LO E w base v l) (a : Option Addr) (cap : Nat) (ty : TypeId) :
    (Builtin.append_ #[E.TT, E.TT] ty #[v, .slice a 0 cap]).run Tryz.prog w = .ok v w := by
  obtain ⟨i0, hi, hz0, hz1, hz2⟩ := info_parts E.info
  have ht := E.und
  rcases h.2 with ⟨rfl, h0⟩ | ⟨g, c, cur, rfl, _, _, hnc, _⟩
  · cases a <;> simp [Builtin.append_, run_underlying ht, sizeOf, typeInfo, hi, Builtin.lenOf, Builtin.firstCells, loadCells, loadCellsFrom, Result.andThen]
  · cases a <;> simp [Builtin.append_, run_underlying ht, sizeOf, typeInfo, hi, Builtin.lenOf, Builtin.firstCells, hnc, storeCells, loadCells, loadCellsFrom, Result.andThen]
/-- append of a list. -/
theorem lo_many {α : Type} {E : ElK α} {w : World} {base : Nat} {v : Value} {l : List α} (h : LO E w base v l) (ty : TypeId) {sa : Option Addr} {ys : List α} (sc : Nat) (hs : Src E w sa ys) (hl : (l.length + ys.length) * E.by_ ≤ 140737488355328) (hl2 : l.length + ys.length ≤ maxLen) (hbase : base ≤ w.heap.size) :
    ∃ a' cap w', (Builtin.append_ #[E.TT, E.TT] ty #[v, .slice sa ys.length sc]).run Tryz.prog w = .ok (.slice a' (l.length + ys.length) cap) w' ∧ LO E w' base (.slice a' (l.length + ys.length) cap) (l ++ ys) ∧ w.grownBy w' v.ownBlock ∧ ((Value.slice a' (l.length + ys.length) cap).ownBlock = v.ownBlock ∨ (Value.slice a' (l.length + ys.length) cap).ownBlock = some w.heap.size) := by
  by_cases hy : ys = []
  · subst hy
    obtain ⟨b', c', rfl⟩ := h.form
    refine ⟨b', c', w, lo_zero h sa sc ty, ?_, ⟨rfl, rfl, rfl, Nat.le_refl _, fun _ _ _ => rfl⟩, Or.inl rfl⟩
    rw [List.append_nil]
    exact h
  · rcases hs with hs | ⟨g0, o0, rfl, hc⟩
    · exact absurd hs hy
    · obtain ⟨i0, hi, hz0, hz1, hz2⟩ := info_parts E.info
      obtain ⟨g, cap, w', hr, h2, h3, h4, h5⟩ := run_append_lies (P := Tryz.prog) w E.TT ty base E.T i0 _ E.sz E.by_ E.und hi hz0 hz1 hz2 E.zs E.pos v l.length (flatE E l) h ⟨g0, o0, none⟩ ys.length sc (flatE E ys) (by rw [flatE_lenT]) (fun j y hj => by rw [Addr.add_lit]; exact hc j y hj) (flatE_one E ys) (List.length_pos_iff.2 hy) hl2 hl hbase w.heap.size rfl
      refine ⟨some ⟨g, 0, none⟩, cap, w', hr, ?_, h3, ?_⟩
      · unfold LO
        rw [flatE_app2, List.length_append]
        exact h2
      · rcases h4 with h4 | h4
        · exact Or.inl h4.symm
        · exact Or.inr (by rw [h4]; rfl)
section
variable {α : Type} {E : ElK α} {w : World} {ops : Array Oper} {rest : List Oper} {o : Oper} {a : Act} {Q : Exit → Act → World → Prop}
theorem wpl_many (hgd : o.guard = none) (s x : Operand) (ho : o.op = .call { callee := .builtin .append, args := #[s, x], argTypes := #[E.TT, E.TT] }) (base : Nat) (v : Value) (l ys : List α) (m n k : Nat) (hm : l.length = m) (hn : ys.length = n) (hk : m + n = k) (hs : a.eval s = v) (hown : LO E w base v l) (sa : Option Addr) (sc : Nat) (hx : a.eval x = .slice sa n sc) (hsrc : Src E w sa ys) (hl : k * E.by_ ≤ 140737488355328) (hl2 : k ≤ maxLen) (hbase : base ≤ w.heap.size)
    (h : ∀ a' cap w', LO E w' base (.slice a' k cap) (l ++ ys) → w.grownBy w' v.ownBlock → ((Value.slice a' k cap).ownBlock = v.ownBlock ∨ (Value.slice a' k cap).ownBlock = some w.heap.size) → wpList Tryz.prog ops Q rest (a.put o.dst (.slice a' k cap)) w') : wpList Tryz.prog ops Q (o :: rest) a w := by
  subst hm hn hk
  obtain ⟨a', cap, w', hr, h2, h3, h4⟩ := lo_many hown o.type sc hsrc hl hl2 hbase
  refine wpList_plain hgd fun K hK => ?_
  unfold Oper.wp
  simp [execOp, ho, resolve, invoke, builtin, hs, hx, hr, Result.andThen]
  exact hK _ _ (h a' cap w' h2 h3 h4)
end
theorem flat_u8b : ∀ l : List Int, flatE u8E l = l.map (Value.int .u8)
  | [] => rfl
  | x :: l => by
    have ih := flat_u8b l
    show Value.int .u8 x :: flatE u8E l = _
    rw [ih]; rfl
theorem Src.front {w : World} {a : Option Addr} {y z : List Int} (h : Src u8E w a (y ++ z)) : Src u8E w a y := by
  rcases h with h | ⟨g, o, h1, h2⟩
  · exact Or.inl (List.append_eq_nil_iff.1 h).1
  · refine Or.inr ⟨g, o, h1, fun j u hj => h2 j u ?_⟩
    rw [flatE_app2, List.getElem?_append_left (List.getElem?_eq_some_iff.1 hj).1]
    exact hj


theorem LO.src {w : World} {base n cap : Nat} {a : Option Addr} {α : Type} {E : ElK α} {l : List α} (h : LO E w base (.slice a n cap) l) : Src E w a l := by
  rcases h.2 with ⟨h0, h1⟩ | ⟨g, cap', cur, he, _, hg, hc, hlen, _, hxs⟩
  · left
    exact List.length_eq_zero_iff.1 h1
  · right
    injection he with he1
    exact ⟨g, 0, he1, fun j u hj => row_cells hg hxs j u hj⟩
end Sh
end Ex
end Go.Proofs.YtfajoknacfjedaaGreatDoor
