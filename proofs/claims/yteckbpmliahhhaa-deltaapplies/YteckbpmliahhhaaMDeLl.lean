import Derived.Test.YteckbpmliahhhaaMDeGv
import Derived.Test.YteckbpmliahhhaaMDeLe
import Derived.Test.YteckbpmliahhhaaMExPat
import Derived.Test.YteckbpmliahhhaaRows
import Derived.WalkKit
import Derived.ProofKit
import Derived.OpenShut
import Derived.ShutString
import Derived.ChangeOld
import Derived.Below
import Derived.SizedLaws
namespace Go.Proofs.Yteckbpmliahhhaa
open Go.RowKit
attribute [local go_sem] Oper.semAt_some
namespace Ex
namespace Tr

/-- Pairs that came in. -/
def PairsIn (w : World) (v : Value) (ps : List (Int × Int)) : Prop := SliceOf w 2 (fun cs z => cs = [.int .i64 z.1, .int .i64 z.2]) v ps
theorem PairsIn.keep {w w' : World} {v : Value} {ps : List (Int × Int)} (h : PairsIn w v ps) (hk : Kept w w') : PairsIn w' v ps := SliceOf.mono h hk (fun _ _ h => h)
theorem PairsIn.at' {w : World} {a : Option Addr} {n c : Nat} {ps : List (Int × Int)} (h : PairsIn w (.slice a n c) ps) {j : Nat} {x : Int × Int} (hj : ps[j]? = some x) : ∃ g o, a = some ⟨g, o, none⟩ ∧ w.cell? ⟨g, o + j * 2, none⟩ = some (.int .i64 x.1) ∧ w.cell? ⟨g, o + j * 2 + 1, none⟩ = some (.int .i64 x.2) := by
  obtain ⟨a', c', e, _, _, h4⟩ := h
  injection e with e1
  subst e1
  rcases h4 with rfl | ⟨g, o, h5, _, h6⟩
  · simp at hj
  · obtain ⟨cs, _, h7, h8⟩ := h6 j x hj
    subst h8
    exact ⟨g, o, h5, h7 0 _ rfl, h7 1 _ rfl⟩
/-- What a grove's lists tell. -/
theorem gr_read {base gb s : Nat} {V : Nat → Prop} {P Q : List Nat} {N : Nat → Nd} {X : Nat → Pn} {m n1 n2 c1 c2 : Nat} {aN aP : Option Addr} {w : World} (hM : GrM base gb s V P Q N X m (.slice aN n1 c1) (.slice aP n2 c2) w) {r b d : Nat} (hb : P[r]? = some b) (hd : Q[r]? = some d) : ∃ gN gP, aN = some ⟨gN, 0, none⟩ ∧ aP = some ⟨gP, 0, none⟩ ∧ w.cell? ⟨gN, r, none⟩ = some (.pointer (some ⟨b, 0, none⟩)) ∧ w.cell? ⟨gP, r, none⟩ = some (.pointer (some ⟨d, 0, none⟩)) := by
  have hN9 := hM.nl
  have hP9 := hM.pl
  obtain ⟨gN, hgN⟩ := hN9.some (by intro e; rw [e] at hb; simp at hb)
  obtain ⟨gP, hgP⟩ := hP9.some (by intro e; rw [e] at hd; simp at hd)
  rw [hgN] at hN9
  rw [hgP] at hP9
  have h1 := hN9.cell (i := r) (j := 0) (x := b) (u := .pointer (some ⟨b, 0, none⟩)) hb rfl
  rw [show r * ndE.sz + 0 = r from by show r * 1 + 0 = r; omega] at h1
  have h2 := hP9.cell (i := r) (j := 0) (x := d) (u := .pointer (some ⟨d, 0, none⟩)) hd rfl
  rw [show r * pnE.sz + 0 = r from by show r * 1 + 0 = r; omega] at h2
  exact ⟨gN, gP, hgN, hgP, h1, h2⟩
theorem kcell {w : World} {a o : Nat} {v : Value} (h : w.cell? ⟨a, o, none⟩ = some v) : ∀ W, Kept w W → W.cell? ⟨a, o, none⟩ = some v := fun _ hk => grown_cell hk h

end Tr
end Ex
end Go.Proofs.Yteckbpmliahhhaa
namespace Go.Proofs.Yteckbpmliahhhaa
open Go.ChangeShapes Go.WideShapes Go.ChangeAt Go.RowKit
namespace Ex
namespace Tr

theorem ownD : ownKnob Try.prog.godebug = none := by kernel_rfl
theorem laidOutD : laidOutB Try.prog = true := by kernel_rfl
theorem edit_cells : Try.prog.cellsOf 80 = 3 := by kernel_rfl
theorem edit_bytes : Try.prog.bytesOf 80 = 40 := by kernel_rfl
theorem int_cellsD : Try.prog.cellsOf 3 = 1 := by kernel_rfl
theorem u8_cellsD : Try.prog.cellsOf 5 = 1 := by kernel_rfl
theorem u8_bytesD : Try.prog.bytesOf 5 = 1 := by kernel_rfl
theorem row_cellsD : Try.prog.cellsOf 78 = 1 := by kernel_rfl
theorem three {α : Type} : ∀ {l : List α}, l.length = 3 → ∃ a b c, l = [a, b, c]
  | [a, b, c], _ => ⟨a, b, c, rfl⟩
theorem flat_u8 : ∀ l : List Int, flatE u8E l = l.map (Value.int .u8)
  | [] => rfl
  | x :: l => by
    have ih := flat_u8 l
    show Value.int .u8 x :: flatE u8E l = _
    rw [ih]; rfl
section
variable {H : Type} {enc : TypeId × Value → H}
set_option maxRecDepth 100000 in
/-- A row of bytes that came in. -/
theorem bytes_src {W : World} {fuel : Nat} {v : Value} {x : DataW H × List MemPlace} (h : DataW.trod enc Try.prog W 0 (fun _ => true) true fuel 78 [v] = some x) (hz : ∀ n ∈ x.1.weights Try.prog 78, n ≤ reachBytes) :
    ∃ a len cap y, v = .slice a len cap ∧ len = y.length ∧ len ≤ cap ∧ len ≤ 140737488351232 ∧ Src u8E W a y := by
  obtain ⟨d, p⟩ := x
  rcases DataW.trod_slice Try.underlying78 h with ⟨hcs, _⟩ | ⟨a, len, cap, elems, rest, n, hn, hcs, hx, _, hl, hm, hlen, hall, _, _⟩
  · simp only [List.cons.injEq, and_true] at hcs
    subst hcs
    exact ⟨none, 0, 0, [], rfl, rfl, Nat.le_refl _, by decide, Or.inl rfl⟩
  · simp only [List.cons.injEq, and_true] at hcs
    subst hcs
    injection hx with hx1 hx2
    have hb : len ≤ 140737488351232 := by
      have := hz (_ * _) (by rw [hx1]; simp only [DataW.weights, Try.underlying78]; exact List.mem_cons_self)
      rw [u8_bytesD] at this
      simp only [List.length_map] at this
      rw [hlen] at this
      unfold reachBytes at this
      omega
    have hone : ∀ i, i < len → ∃ q : Int, W.cell? (a.add i) = some (.int .u8 q) := by
      intro i hi
      have hei := hall i hi
      obtain ⟨ei, hei2⟩ : ∃ y, elems[i]? = some y := ⟨_, List.getElem?_eq_getElem (by omega)⟩
      rw [hei2, u8_cellsD] at hei
      obtain ⟨cs', hc1, hc2⟩ := Option.bind_eq_some_iff.1 hei
      obtain ⟨_, hc3, hc4⟩ := World.cells?_some hc1
      obtain ⟨z, e1, _, _⟩ := DataW.trod_int Try.underlying5 hc2
      refine ⟨z, ?_⟩
      have h9 := hc4 0 (by omega)
      rw [e1] at h9
      rw [Nat.mul_one] at h9
      simpa [Addr.add] using h9
    by_cases h0 : len = 0
    · subst h0
      exact ⟨some a, 0, cap, [], rfl, rfl, hl, hb, Or.inl rfl⟩
    obtain ⟨Q, hQ⟩ := Go.Deep.choose_lt hone
    obtain ⟨c1, o1, t1⟩ := a
    have hspot : t1 = none := by simpa [Addr.add] using World.cell?_spot (hQ 0 (by omega))
    subst hspot
    refine ⟨some ⟨c1, o1, none⟩, len, cap, (List.range len).map Q, rfl, by simp, hl, hb, Or.inr ⟨c1, o1, rfl, fun j u hj => ?_⟩⟩
    rw [flat_u8, List.map_map, List.getElem?_map] at hj
    obtain ⟨i', hi', rfl⟩ := Option.map_eq_some_iff.1 hj
    obtain ⟨hi, he⟩ := List.getElem?_eq_some_iff.1 hi'
    rw [List.length_range] at hi
    rw [List.getElem_range] at he
    subst he
    have := hQ j hi
    rw [Addr.add_lit] at this
    exact this
/-- An edit's cells that came in. -/
def EdC (W : World) (cs : List Value) (x : EdX × List Int) : Prop := cs = [.int .i64 x.1.at_, .int .i64 x.1.del, .slice x.1.ba x.1.n x.1.bc] ∧ x.1.n = x.2.length ∧ x.1.n ≤ x.1.bc ∧ x.1.n ≤ 140737488351232 ∧ Src u8E W x.1.ba x.2
set_option maxRecDepth 100000 in
theorem edit_el {W : World} {m : Nat} {cs : List Value} {y : DataW H × List MemPlace} (hl : cs.length = 3) (h : DataW.trod enc Try.prog W 0 (fun _ => true) true m 80 cs = some y) (hz : ∀ n ∈ y.1.weights Try.prog 80, n ≤ reachBytes) : ∃ x, EdC W cs x := by
  obtain ⟨d, p⟩ := y
  obtain ⟨xs, n', hn', hx1, _, hx3, hx4⟩ := DataW.trod_struct Try.underlying80 h
  obtain ⟨v0, v1, v2, rfl⟩ := three hl
  obtain ⟨y0, y1, y2, rfl⟩ := three hx3
  have f0 : DataW.trod enc Try.prog W 0 (fun _ => true) true n' 3 [v0] = some y0 := by have := hx4 0 _ rfl; simpa [int_cellsD] using this
  have f1 : DataW.trod enc Try.prog W 0 (fun _ => true) true n' 3 [v1] = some y1 := by have := hx4 1 _ rfl; simpa [int_cellsD] using this
  have f2 : DataW.trod enc Try.prog W 0 (fun _ => true) true n' 78 [v2] = some y2 := by have := hx4 2 _ rfl; simpa [row_cellsD] using this
  obtain ⟨z0, e0, _, _⟩ := DataW.trod_int Try.underlying3 f0
  obtain ⟨z1, e1, _, _⟩ := DataW.trod_int Try.underlying3 f1
  obtain ⟨a, n, c, r, e2, h1, h2, h3, h4⟩ := bytes_src f2 (fun q hq => hz q (by
    show q ∈ d.weights Try.prog 80
    rw [(Prod.mk.inj hx1).1]
    simp only [DataW.weights, Try.underlying80]
    exact DataW.weights_mem_each (j := 2) (by rfl) (by rfl) q hq))
  simp only [List.cons.injEq, and_true] at e0 e1
  subst e0 e1 e2
  exact ⟨⟨⟨z0, z1, a, n, c⟩, r⟩, rfl, h1, h2, h3, h4⟩
set_option maxRecDepth 100000 in
/-- A list of edits that came in. -/
theorem edits_arg {W : World} {v : Value} {d : DataW H} {p : List MemPlace} (hv : ∃ a len cap, v = .slice a len cap) (h : DataW.Trod enc Try.prog W 0 (fun _ => true) true 81 v d p) (hz : ∀ n ∈ d.weights Try.prog 81, n ≤ reachBytes) : ∃ l bs, EdIn W v l bs ∧ l.length * 40 ≤ 140737488351232 := by
  obtain ⟨a0, len0, cap0, rfl⟩ := hv
  obtain ⟨fuel, hf⟩ := h
  have hf2 : DataW.trod enc Try.prog W 0 (fun _ => true) true fuel 81 [.slice a0 len0 cap0] = some (d, p) := hf
  obtain ⟨xs, hxs⟩ := slice_gen (α := EdX × List Int) ⟨⟨0, 0, none, 0, 0⟩, []⟩ Try.underlying81 3 40 edit_cells (by decide) edit_bytes (by decide) (EdC W) hf2 hz (fun m cs y _ hl hy hw => edit_el hl hy hw)
  obtain ⟨a, cap, e, h2, h3, h4⟩ := hxs
  injection e with e1 e2 e3
  subst e1 e3
  have hb : len0 * 40 ≤ 140737488351232 := by
    rcases DataW.trod_slice Try.underlying81 hf2 with ⟨hcs, _⟩ | ⟨a, len, cap, elems, rest, n, hn, hcs, hx, _, hl, hm, hlen, hall, _, _⟩
    · simp only [List.cons.injEq, and_true, Value.slice.injEq] at hcs
      omega
    · simp only [List.cons.injEq, and_true, Value.slice.injEq] at hcs
      obtain ⟨_, rfl, _⟩ := hcs
      have := hz (_ * _) (by rw [(Prod.mk.inj hx).1]; simp only [DataW.weights, Try.underlying81]; exact List.mem_cons_self)
      rw [edit_bytes] at this
      simp only [List.length_map] at this
      rw [hlen] at this
      unfold reachBytes at this
      omega
  refine ⟨xs.map (·.1), xs.map (·.2), ⟨⟨a0, cap0, ?_, ?_, fun i e he => ?_⟩, by simp, fun i e y he hy => ?_⟩, ?_⟩
  · rw [List.length_map, e2]
  · rw [List.length_map]; exact h2
  · rw [List.getElem?_map] at he
    obtain ⟨x, hx, rfl⟩ := Option.map_eq_some_iff.1 he
    rcases h4 with rfl | ⟨c, o, h5, h6, h7⟩
    · cases hx
    obtain ⟨cs, g1, g2, g3⟩ := h7 i x hx
    obtain ⟨rfl, _⟩ := g3
    exact ⟨c, o, h5, g2 0 _ rfl, g2 1 _ rfl, g2 2 _ rfl⟩
  · rw [List.getElem?_map] at he hy
    obtain ⟨x, hx, rfl⟩ := Option.map_eq_some_iff.1 he
    rw [hx] at hy
    cases hy
    rcases h4 with rfl | ⟨c, o, h5, h6, h7⟩
    · cases hx
    obtain ⟨cs, g1, g2, g3⟩ := h7 i x hx
    exact g3.2
  · rw [List.length_map, ← e2]; exact hb
end

end Tr
end Ex
end Go.Proofs.Yteckbpmliahhhaa
namespace Go.Proofs.Yteckbpmliahhhaa
open Go.ChangeShapes Go.WideShapes Go.ChangeAt Go.RowKit
namespace Ex
namespace Tr

theorem int_bytesP : Try.prog.bytesOf 3 = 8 := by kernel_rfl
theorem ints_cellsP : Try.prog.cellsOf 24 = 1 := by kernel_rfl
theorem leaf_cellsP : Try.prog.cellsOf 34 = 4 := by kernel_rfl
theorem part_cellsP : Try.prog.cellsOf 53 = 7 := by kernel_rfl
theorem part_bytesP : Try.prog.bytesOf 53 = 72 := by kernel_rfl
theorem one_p {α : Type} : ∀ {l : List α}, l.length = 1 → ∃ a, l = [a]
  | [a], _ => ⟨a, rfl⟩
theorem two_p {α : Type} : ∀ {l : List α}, l.length = 2 → ∃ a b, l = [a, b]
  | [a, b], _ => ⟨a, b, rfl⟩
theorem four_p {α : Type} : ∀ {l : List α}, l.length = 4 → ∃ a b c d, l = [a, b, c, d]
  | [a, b, c, d], _ => ⟨a, b, c, d, rfl⟩
theorem seven_p {α : Type} : ∀ {l : List α}, l.length = 7 → ∃ a b c d e f g, l = [a, b, c, d, e, f, g]
  | [a, b, c, d, e, f, g], _ => ⟨a, b, c, d, e, f, g, rfl⟩
section
variable {H : Type} {enc : TypeId × Value → H}
set_option maxRecDepth 100000 in
theorem ints_p {W : World} {fuel : Nat} {v : Value} {x : DataW H × List MemPlace} (h : DataW.trod enc Try.prog W 0 (fun _ => true) true fuel 24 [v] = some x) (hz : ∀ n ∈ x.1.weights Try.prog 24, n ≤ reachBytes) : ∃ xs, IntsS W v xs :=
  slice_gen (α := Int) 0 Try.underlying24 1 8 int_cellsD (by decide) int_bytesP (by decide) _ h hz (fun m cs y _ hl hy _ => by
    obtain ⟨u, rfl⟩ := one_p hl
    obtain ⟨z, e, _, _⟩ := DataW.trod_int Try.underlying3 hy
    exact ⟨z, e⟩)
set_option maxRecDepth 100000 in
theorem part_el {W : World} {m : Nat} {cs : List Value} {y : DataW H × List MemPlace} (hl : cs.length = 7) (h : DataW.trod enc Try.prog W 0 (fun _ => true) true m 53 cs = some y) (hz : ∀ n ∈ y.1.weights Try.prog 53, n ≤ reachBytes) : ∃ x, PtEl W cs x := by
  obtain ⟨d, p⟩ := y
  obtain ⟨xs, n', hn', hx1, _, hx3, hx4⟩ := DataW.trod_struct Try.underlying53 h
  obtain ⟨v0, v1, v2, v3, v4, v5, v6, rfl⟩ := seven_p hl
  obtain ⟨y0, y1, y2, y3, rfl⟩ := four_p hx3
  have f0 : DataW.trod enc Try.prog W 0 (fun _ => true) true n' 3 [v0] = some y0 := by have := hx4 0 _ rfl; simpa [int_cellsD] using this
  have f1 : DataW.trod enc Try.prog W 0 (fun _ => true) true n' 3 [v1] = some y1 := by have := hx4 1 _ rfl; simpa [int_cellsD] using this
  have f2 : DataW.trod enc Try.prog W 0 (fun _ => true) true n' 34 [v2, v3, v4, v5] = some y2 := by have := hx4 2 _ rfl; simpa [leaf_cellsP] using this
  have f3 : DataW.trod enc Try.prog W 0 (fun _ => true) true n' 24 [v6] = some y3 := by have := hx4 3 _ rfl; simpa [ints_cellsP] using this
  obtain ⟨z0, e0, _, _⟩ := DataW.trod_int Try.underlying3 f0
  obtain ⟨z1, e1, _, _⟩ := DataW.trod_int Try.underlying3 f1
  obtain ⟨xs2, n2, hn2, hx12, _, hx32, hx42⟩ := DataW.trod_struct Try.underlying34 f2
  obtain ⟨w0, w1, w2, w3, rfl⟩ := four_p hx32
  have g0 : DataW.trod enc Try.prog W 0 (fun _ => true) true n2 3 [v2] = some w0 := by have := hx42 0 _ rfl; simpa [int_cellsD] using this
  have g1 : DataW.trod enc Try.prog W 0 (fun _ => true) true n2 3 [v3] = some w1 := by have := hx42 1 _ rfl; simpa [int_cellsD] using this
  have g2 : DataW.trod enc Try.prog W 0 (fun _ => true) true n2 3 [v4] = some w2 := by have := hx42 2 _ rfl; simpa [int_cellsD] using this
  have g3 : DataW.trod enc Try.prog W 0 (fun _ => true) true n2 3 [v5] = some w3 := by have := hx42 3 _ rfl; simpa [int_cellsD] using this
  obtain ⟨q0, d0, _, _⟩ := DataW.trod_int Try.underlying3 g0
  obtain ⟨q1, d1, _, _⟩ := DataW.trod_int Try.underlying3 g1
  obtain ⟨q2, d2, _, _⟩ := DataW.trod_int Try.underlying3 g2
  obtain ⟨q3, d3, _, _⟩ := DataW.trod_int Try.underlying3 g3
  obtain ⟨ks, hks⟩ := ints_p f3 (fun q hq => hz q (by
    show q ∈ d.weights Try.prog 53
    rw [(Prod.mk.inj hx1).1]
    simp only [DataW.weights, Try.underlying53]
    exact DataW.weights_mem_each (j := 3) (by rfl) (by rfl) q hq))
  simp only [List.cons.injEq, and_true] at e0 e1 d0 d1 d2 d3
  subst e0 e1 d0 d1 d2 d3
  exact ⟨⟨z0, z1, q0, q1, q2, q3, v6, ks⟩, rfl, hks⟩
set_option maxRecDepth 100000 in
/-- A list of parts that came in. -/
theorem parts_arg {W : World} {v : Value} {d : DataW H} {p : List MemPlace} (hv : ∃ a len cap, v = .slice a len cap) (h : DataW.Trod enc Try.prog W 0 (fun _ => true) true 22 v d p) (hz : ∀ n ∈ d.weights Try.prog 22, n ≤ reachBytes) : ∃ l, PartsIn W v l := by
  obtain ⟨a0, len0, cap0, rfl⟩ := hv
  obtain ⟨fuel, hf⟩ := h
  have hf2 : DataW.trod enc Try.prog W 0 (fun _ => true) true fuel 22 [.slice a0 len0 cap0] = some (d, p) := hf
  exact slice_gen (α := PtM) ⟨0, 0, 0, 0, 0, 0, .slice none 0 0, []⟩ Try.underlying22 7 72 part_cellsP (by decide) part_bytesP (by decide) (PtEl W) hf2 hz (fun m cs y _ hl hy hw => part_el hl hy hw)
end

end Tr
end Ex
end Go.Proofs.Yteckbpmliahhhaa
