import Derived.Test.YtooelfjceehmmaaDoorMSpDi
import Derived.Laws.MakeOwn
import Derived.Laws.CopyOwn
import Derived.Test.YtooelfjceehmmaaDoorMExRight
namespace Go.Proofs.YtooelfjceehmmaaDoor
open Go.RowKit
namespace Ex

/-- A table of bools as a set. -/
def bitsOf : List Bool → Nat
  | [] => 0
  | b :: l => (if b then 1 else 0) + 2 * bitsOf l
theorem bits_test : ∀ (l : List Bool) (n : Nat), (bitsOf l).testBit n = l.getD n false
  | [], n => by simp [bitsOf]
  | b :: l, 0 => by
    show ((if b then 1 else 0) + 2 * bitsOf l).testBit 0 = b
    rw [Nat.testBit_zero]
    cases b <;> simp <;> omega
  | b :: l, n + 1 => by
    show ((if b then 1 else 0) + 2 * bitsOf l).testBit (n + 1) = l.getD n false
    rw [Nat.testBit_succ, ← bits_test l n]
    congr 1
    cases b <;> simp <;> omega
theorem bits_lt : ∀ (l : List Bool), bitsOf l < 2 ^ l.length
  | [] => by simp [bitsOf]
  | b :: l => by
    have := bits_lt l
    show (if b then 1 else 0) + 2 * bitsOf l < 2 ^ (l.length + 1)
    rw [Nat.pow_succ]
    cases b <;> simp <;> omega
theorem bits_set {l : List Bool} {n : Nat} (hn : n < l.length) : bitsOf (l.set n true) = bitsOf l ||| 2 ^ n := by
  refine Nat.eq_of_testBit_eq (fun i => ?_)
  have key : ((bitsOf l ||| 2 ^ n).testBit i = true) ↔ (l.getD i false = true ∨ i = n) := by rw [testBit_with, bits_test]
  rw [bits_test, Bool.eq_iff_iff, key]
  by_cases e : i = n
  · subst e
    rw [List.getD_eq_getElem?_getD, List.getElem?_set_self hn]
    simp
  · rw [List.getD_eq_getElem?_getD, List.getElem?_set_ne (fun h => e h.symm), ← List.getD_eq_getElem?_getD]
    simp [e]
theorem bits_false (n : Nat) : bitsOf (List.replicate n false) = 0 := by
  induction n with
  | zero => rfl
  | succ n ih => rw [List.replicate_succ]; show (if false then 1 else 0) + 2 * bitsOf _ = 0; rw [ih]; rfl
/-- Where a step of the document has added nothing. -/
theorem MkStep.docDone {t : Bool} {ps : List ProdM} {A : Nat} (h : MkStep t ps A A ps.length) (hs : ∀ n, A.testBit n = true → Mk t ps n) (n : Nat) : A.testBit n = true ↔ Mk t ps n := mk_is hs h.done n

end Ex
end Go.Proofs.YtooelfjceehmmaaDoor
namespace Go.Proofs.YtooelfjceehmmaaDoor
open Go.RowKit
attribute [local go_sem] Oper.semAt_some
namespace Ex

/-- A table of bools, alone in its block. -/
def TabB (w : World) (g : Nat) (ms : List Bool) : Prop := w.heap[g]? = some (.cells (ms.map Value.bool).toArray 4 (0, 0))
theorem TabB.cell {w : World} {g i : Nat} {x : Bool} {ms : List Bool} (h : TabB w g ms) (hi : ms[i]? = some x) : w.cell? ⟨g, i, none⟩ = some (.bool x) := by
  unfold TabB at h
  simp [World.cell?, h, hi]
theorem TabB.free {w : World} {g : Nat} {ms : List Bool} (i : Nat) (h : TabB w g ms) : w.frozen? ⟨g, i, none⟩ = false := by
  unfold TabB at h
  simp [World.frozen?, h]
theorem TabB.lt {w : World} {g : Nat} {ms : List Bool} (h : TabB w g ms) : g < w.heap.size := (Array.getElem?_eq_some_iff.1 h).1
theorem TabB.keep {w w' : World} {g : Nat} {ms : List Bool} (h : TabB w g ms) (hk : Kept w w') : TabB w' g ms := (hk.2.2.2.2 g h.lt).trans h
theorem TabB.but {w w' : World} {g d : Nat} {ms : List Bool} (h : TabB w g ms) (hk : KeptBut d w w') (hd : g ≠ d) : TabB w' g ms := (hk.2.2.2.2 g h.lt hd).trans h
def DaI (t : Bool) (A : Nat) (row : List SymM) (W : World) (vi : Value) (wr : World) : Prop := ∃ j : Nat, vi = .int .i64 (j : Int) ∧ j ≤ row.length ∧ Hid ((row.take j).any (missB t A) = false) ∧ Hid (wr = W)
set_option linter.unusedSimpArgs false in
set_option maxRecDepth 100000 in
set_option maxHeartbeats 4000000 in
/-- The document's all: no name of the row is missing. -/
theorem dAll_is (g : Nat) (ms : List Bool) (nn cn : Nat) (ar : Option Addr) (nr cr : Nat) (row : List SymM) (lf : Int) (w : World) (hms : ms.length = nn) (hnn : nn ≤ 128) (hcn : nn ≤ cn) (hrow : row.length = nr) (hT : TabB w g ms) (hr : RightAt w (.slice ar nr cr) row) (hok : ∀ x ∈ row, x.1 = 3 → 0 ≤ x.2 ∧ x.2 < (nn : Int)) :
    Calls Tryd.prog 72 #[.agg #[.int .i64 lf, .slice ar nr cr], .slice (some ⟨g, 0, none⟩) nn cn] w fun e w' => e = .returned (.bool (!row.any (missB true (bitsOf ms)))) ∧ Kept w w' := by
  have HK : Hid (Kept w (w.alloc (.cells #[.int .i64 lf, .slice ar nr cr] 40))) := (Kept.refl w).alloc _ _
  have HPB := hide1 (PBox.new w (.int .i64 lf) (.slice ar nr cr))
  have HT := hide1 (hT.keep HK.out)
  have HR := hide1 (hr.keep HK.out)
  have HROW := hide1 hrow
  have HMS := hide1 hms
  have HOK := hide1 hok
  obtain ⟨_, _, e1, hc, hn⟩ := hr.len
  simp only [Value.slice.injEq] at e1
  obtain ⟨rfl, en, rfl⟩ := e1
  clear en
  rw [hrow] at hc hn
  have gn : (nr : Int) ≤ 17592186044416 := by omega
  have gnn : (nn : Int) ≤ 128 := by omega
  clear hT hr hrow hms hok
  go_enter Tryd.func72, Tryd.ntmps72
  go_upto_region 1 with fail
  obtain ⟨W, hW⟩ : ∃ W, w.alloc (.cells #[.int .i64 lf, .slice ar nr cr] 40) = W := ⟨_, rfl⟩
  rw [hW] at HK HPB HT HR ⊢
  clear hW
  obtain ⟨pb, hpb⟩ : ∃ pb, w.heap.size = pb := ⟨_, rfl⟩
  rw [hpb] at HPB ⊢
  clear hpb
  obtain ⟨p0, p1⟩ := HPB.out.cells
  go_wp2_with fail
  go_loopw [5] (DaI true (bitsOf ms) row W) (fun i _ => nr - (intOf i).toNat)
  case atStart => exact ⟨0, rfl, Nat.zero_le _, rfl, rfl⟩
  case round =>
    obtain ⟨j, rfl, hj, HA, HW⟩ := hrel
    have hW := HW.out.symm
    subst hW
    rw [HROW.out] at hj
    by_cases hlt : (j : Int) < (nr : Int)
    · obtain ⟨x, hx⟩ : ∃ x, row[j]? = some x := ⟨_, List.getElem?_eq_getElem (by have := HROW.out; omega)⟩
      obtain ⟨cb, ob, cs, ea, hcb, hlen, hcell, hcs⟩ := SliceOf.el HR.out hx
      have hcs : cs = [.int .i64 x.1, .int .i64 x.2] := hcs
      subst ea hcs
      have k0 : W.cell? ⟨cb, ob + j * 2, none⟩ = some (.int .i64 x.1) := hcell 0 _ rfl
      have k1 := hcell 1 _ rfl
      have gjc : (j : Int) < (cr : Int) := by omega
      have HOX := hide1 (HOK.out x (List.mem_of_getElem? hx))
      have HA2 : Hid (∀ y, missB true (bitsOf ms) x = y → (row.take (j + 1)).any (missB true (bitsOf ms)) = y) := by
        intro y hy
        rw [List.take_add_one, hx, List.any_append, HA.out]
        simpa using hy
      obtain ⟨kd, sn⟩ := x
      clear hx hcell
      by_cases h3 : kd = 3
      · subst h3
        obtain ⟨hn0, hn1⟩ := HOX.out rfl
        obtain ⟨p, rfl⟩ : ∃ p : Nat, sn = (p : Int) := ⟨sn.toNat, by simp only at hn0; omega⟩
        have hp2 : p < nn := by simp only at hn1; omega
        have gpn : (p : Int) < (nn : Int) := by omega
        have gpc : (p : Int) < (cn : Int) := by omega
        obtain ⟨y, hy⟩ : ∃ y, ms[p]? = some y := ⟨_, List.getElem?_eq_getElem (by have := HMS.out; omega)⟩
        have c0 := HT.out.cell hy
        have HAT := hide1 (HA2.out (!y) (by
          unfold missB
          rw [if_pos rfl]
          show (!(bitsOf ms).testBit p) = !y
          rw [bits_test, List.getD_eq_getElem?_getD, hy]
          rfl))
        clear hy hn0 hn1 hp2
        cases y with
        | true =>
          go_wp2_with fail
          go_roundw
          case rel => exact ⟨j + 1, by go_num, by rw [HROW.out]; omega, HAT, rfl⟩
          case measure => simp [intOf]; omega
        | false =>
          go_wp2_with fail
          go_ret
          refine ⟨?_, HK.out⟩
          have e : row.any (missB true (bitsOf ms)) = true := by
            rw [← List.take_append_drop (j + 1) row, List.any_append, HAT.out]
            rfl
          rw [e]
          rfl
      · have b3 : (kd == 3) = false := by simpa using h3
        have HAT := hide1 (HA2.out false (by unfold missB; rw [if_neg h3]; rfl))
        clear h3
        go_wp2_with fail
        go_roundw
        case rel => exact ⟨j + 1, by go_num, by rw [HROW.out]; omega, HAT, rfl⟩
        case measure => simp [intOf]; omega
    · have HAT : Hid (row.any (missB true (bitsOf ms)) = false) := by
        show _ = _
        rw [← HA.out, List.take_of_length_le (by have := HROW.out; omega)]
      go_wp2_with fail
      go_ret
      exact ⟨by rw [HAT.out]; rfl, HK.out⟩

end Ex
end Go.Proofs.YtooelfjceehmmaaDoor
namespace Go.Proofs.YtooelfjceehmmaaDoor
open Go.RowKit
attribute [local go_sem] Oper.semAt_some
namespace Ex

theorem MkStep.had {t : Bool} {ps : List ProdM} {old A j : Nat} (h : MkStep t ps old A j) {p : ProdM} (hp : ps[j]? = some p) (hl : A.testBit p.1.toNat = true) : MkStep t ps old A (j + 1) := by
  refine ⟨h.up, h.sound, fun i q hi hq hxq => ?_, h.bound⟩
  rcases Nat.lt_or_ge i j with hij | hij
  · exact h.closed i q hij hq hxq
  · have e : i = j := by omega
    subst e
    rw [hp] at hq
    injection hq with hq
    subst hq
    exact hl
theorem TabB.set {w : World} {g i : Nat} {ms : List Bool} (h : TabB w g ms) : TabB (w.setCell ⟨g, i, none⟩ (.bool true)) g (ms.set i true) := by
  unfold TabB at h ⊢
  have hl : g < w.heap.size := (Array.getElem?_eq_some_iff.1 h).1
  have he : w.heap[g] = Obj.cells (ms.map Value.bool).toArray 4 (0, 0) := by rw [Array.getElem?_eq_getElem hl] at h; exact Option.some.inj h
  simp [World.setCell, Array.getElem_modify, hl, he, List.map_set]
/-- The table in a block, read off the world. -/
def rdTab (g : Nat) (w : World) : Nat := match w.heap[g]? with | some (.cells cs _ _) => bitsOf (cs.toList.map fun v => match v with | .bool b => b | _ => false) | _ => 0
theorem TabB.rd {w : World} {g : Nat} {ms : List Bool} (h : TabB w g ms) : rdTab g w = bitsOf ms := by
  unfold TabB at h
  unfold rdTab
  rw [h]
  simp [List.map_map, Function.comp_def]
def flagN : Value → Nat
  | .bool true => 1
  | _ => 0
theorem bool_infoS : (Tryd.prog.info? 4).map (fun i => (i.zero, i.size, i.bytes)) = some (some (.bool false), 1, 1) := by kernel_rfl
theorem run_tab (n : Nat) (hn : n ≤ 300000) (w : World) : (Instr.makeSlice 27 (.int .i64 (n : Int)) (.int .i64 (n : Int))).run Tryd.prog w = .ok (.slice (some ⟨w.heap.size, 0, none⟩) n n) (w.alloc (.cells ((List.replicate n false).map Value.bool).toArray 4)) := by
  obtain ⟨i0, hi, hz0, hz1, hz2⟩ := info_of bool_infoS
  rw [run_make (P := Tryd.prog) w 27 4 i0 _ Tryd.underlying27 hi hz0 .i64 .i64 n n (by omega) (Int.le_refl _) (by rw [hz2]; omega) (by omega)]
  rw [hz1]
  have e : madeCells (Value.bool false).cells ((n : Int).toNat * 1) = ((List.replicate n false).map Value.bool).toArray := by
    unfold madeCells
    apply Array.ext_getElem?
    intro i
    simp only [Int.toNat_natCast, Nat.mul_one, Array.getElem?_map, List.getElem?_toArray, List.getElem?_map, List.getElem?_replicate]
    by_cases h : i < n
    · simp [h, Value.cells, Nat.mod_one]
    · simp [h]
  rw [e]
  simp

end Ex
end Go.Proofs.YtooelfjceehmmaaDoor
namespace Go.Proofs.YtooelfjceehmmaaDoor
open Go.RowKit
namespace Ex

/-- A deep copy (in the blocks S) with a mark behind each list. -/
def MarkAt (S : Nat → Prop) (w : World) : (n : Nat) → List (PatN n) → Value → Prop
  | 0, _, v => v = .slice none 0 0
  | n + 1, l, v => (l = [] ∧ v = .slice none 0 0) ∨ (l ≠ [] ∧ ∃ c, v = .slice (some ⟨c, 0, none⟩) l.length (l.length + 1) ∧ l.length ≤ 4096 ∧ S c ∧ w.cell? ⟨c, l.length * 6, none⟩ = some (.int .i64 93) ∧ ∀ (i : Nat) (q : PatN (n + 1)), l[i]? = some q → ∃ v',
      w.cell? ⟨c, i * 6, none⟩ = some (.int .i64 (kind q)) ∧ w.cell? ⟨c, i * 6 + 1, none⟩ = some (.int .i64 (from_ q)) ∧ w.cell? ⟨c, i * 6 + 2, none⟩ = some (.int .i64 (to_ q)) ∧
      w.cell? ⟨c, i * 6 + 3, none⟩ = some (.int .i64 (min_ q)) ∧ w.cell? ⟨c, i * 6 + 4, none⟩ = some (.int .i64 (max_ q)) ∧ w.cell? ⟨c, i * 6 + 5, none⟩ = some v' ∧ MarkAt S w n (kids q) v')
theorem MarkAt.mono {S S' : Nat → Prop} {w w' : World} (hs : Holds S w w') (hS : ∀ b, S b → S' b) : ∀ (n : Nat) (l : List (PatN n)) (v : Value), MarkAt S w n l v → MarkAt S' w' n l v
  | 0, _, _, h => h
  | n + 1, l, v, h => by
    rcases h with h | ⟨h0, c, h1, h2, h3, h4, h5⟩
    · exact Or.inl h
    · refine Or.inr ⟨h0, c, h1, h2, hS c h3, hs _ _ _ h3 h4, fun i q hq => ?_⟩
      obtain ⟨v', g0, g1, g2, g3, g4, g5, g6⟩ := h5 i q hq
      exact ⟨v', hs _ _ _ h3 g0, hs _ _ _ h3 g1, hs _ _ _ h3 g2, hs _ _ _ h3 g3, hs _ _ _ h3 g4, hs _ _ _ h3 g5, MarkAt.mono hs hS n (kids q) v' g6⟩
theorem MarkAt.kept {S : Nat → Prop} {w w' : World} {n : Nat} {l : List (PatN n)} {v : Value} (h : MarkAt S w n l v) (hk : Kept w w') : MarkAt S w' n l v := MarkAt.mono (hk.holds S) (fun _ h => h) n l v h
theorem MarkAt.kids {S : Nat → Prop} {w : World} : ∀ (n : Nat) (l : List (PatN n)) (v : Value), MarkAt S w n l v → KidsAt S w n l v
  | 0, _, _, h => ⟨_, _, h⟩
  | n + 1, l, v, h => by
    rcases h with ⟨rfl, rfl⟩ | ⟨h0, c, h1, h2, h3, h4, h5⟩
    · exact kids_nil _ _ _ _ _ _ rfl
    · refine ⟨_, _, h1, by omega, by omega, Or.inr ⟨c, 0, rfl, h3, fun i q hq => ?_⟩⟩
      obtain ⟨v', g0, g1, g2, g3, g4, g5, g6⟩ := h5 i q hq
      rw [Nat.zero_add]
      exact ⟨v', g0, g1, g2, g3, g4, g5, MarkAt.kids n (Ex.kids q) v' g6⟩
theorem MarkAt.form {S : Nat → Prop} {w : World} {n : Nat} {l : List (PatN n)} {v : Value} (h : MarkAt S w n l v) : ∃ a cap, v = .slice a l.length cap := (MarkAt.kids n l v h).form

/-- A row of M values in a block of its own. -/
def RowAt (w : World) (g M : Nat) : Prop := ∃ cur : Array Value, w.heap[g]? = some (.cells cur 87 (0, 0)) ∧ cur.size = M * 6
theorem RowAt.lt {w : World} {g M : Nat} (h : RowAt w g M) : g < w.heap.size := by obtain ⟨_, h, _⟩ := h; exact (Array.getElem?_eq_some_iff.1 h).1
theorem RowAt.keep {w w' : World} {g M : Nat} (h : RowAt w g M) (hk : Kept w w') : RowAt w' g M := by
  obtain ⟨cur, h1, h2⟩ := h
  exact ⟨cur, (hk.2.2.2.2 g (Array.getElem?_eq_some_iff.1 h1).1).trans h1, h2⟩
theorem RowAt.set {w : World} {g M : Nat} (h : RowAt w g M) (o : Nat) (x : Value) : RowAt (w.setCell ⟨g, o, none⟩ x) g M := by
  obtain ⟨cur, h1, h2⟩ := h
  have hl : g < w.heap.size := (Array.getElem?_eq_some_iff.1 h1).1
  have he : w.heap[g] = Obj.cells cur 87 (0, 0) := by rw [Array.getElem?_eq_getElem hl] at h1; exact Option.some.inj h1
  refine ⟨cur.setIfInBounds o x, ?_, by rw [Array.size_setIfInBounds]; exact h2⟩
  simp [World.setCell, Array.getElem_modify, hl, he]
theorem RowAt.cell {w : World} {g M k : Nat} (h : RowAt w g M) (hk : k < M * 6) : (∃ x, w.cell? ⟨g, k, none⟩ = some x) ∧ w.frozen? ⟨g, k, none⟩ = false := by
  obtain ⟨cur, h1, h2⟩ := h
  refine ⟨⟨cur[k]'(by omega), ?_⟩, ?_⟩
  · simp [World.cell?, h1, h2, hk]
  · simp [World.frozen?, h1]
theorem RowAt.at {w : World} {g M j : Nat} (h : RowAt w g M) (hj : j < M) : ∃ x0 x1 x2 x3 x4 x5, (w.cell? ⟨g, j * 6, none⟩ = some x0 ∧ w.cell? ⟨g, j * 6 + 1, none⟩ = some x1 ∧ w.cell? ⟨g, j * 6 + 2, none⟩ = some x2 ∧ w.cell? ⟨g, j * 6 + 3, none⟩ = some x3 ∧ w.cell? ⟨g, j * 6 + 4, none⟩ = some x4 ∧ w.cell? ⟨g, j * 6 + 5, none⟩ = some x5) ∧
    w.frozen? ⟨g, j * 6, none⟩ = false ∧ w.frozen? ⟨g, j * 6 + 1, none⟩ = false ∧ w.frozen? ⟨g, j * 6 + 2, none⟩ = false ∧ w.frozen? ⟨g, j * 6 + 3, none⟩ = false ∧ w.frozen? ⟨g, j * 6 + 4, none⟩ = false ∧ w.frozen? ⟨g, j * 6 + 5, none⟩ = false := by
  obtain ⟨⟨x0, c0⟩, f0⟩ := h.cell (k := j * 6) (by omega)
  obtain ⟨⟨x1, c1⟩, f1⟩ := h.cell (k := j * 6 + 1) (by omega)
  obtain ⟨⟨x2, c2⟩, f2⟩ := h.cell (k := j * 6 + 2) (by omega)
  obtain ⟨⟨x3, c3⟩, f3⟩ := h.cell (k := j * 6 + 3) (by omega)
  obtain ⟨⟨x4, c4⟩, f4⟩ := h.cell (k := j * 6 + 4) (by omega)
  obtain ⟨⟨x5, c5⟩, f5⟩ := h.cell (k := j * 6 + 5) (by omega)
  exact ⟨x0, x1, x2, x3, x4, x5, ⟨c0, c1, c2, c3, c4, c5⟩, f0, f1, f2, f3, f4, f5⟩
theorem set_same {w : World} {g M o : Nat} {x : Value} (h : RowAt w g M) (ho : o < M * 6) : (w.setCell ⟨g, o, none⟩ x).cell? ⟨g, o, none⟩ = some x := by
  obtain ⟨⟨y, hy⟩, _⟩ := h.cell ho
  exact World.cell?_setCell_same w _ _ hy
theorem set_other {w : World} {g b o k : Nat} {x : Value} (h : b ≠ g ∨ k ≠ o) : (w.setCell ⟨g, o, none⟩ x).cell? ⟨b, k, none⟩ = w.cell? ⟨b, k, none⟩ :=
  World.cell?_setCell_other _ _ _ _ (by intro e; simp only [Addr.mk.injEq, and_true] at e; omega)
theorem put_row {w : World} {g M o : Nat} {x0 x1 x2 x3 x4 x5 : Value} (h : RowAt w g M) : RowAt ((((((w.setCell ⟨g, o, none⟩ x0).setCell ⟨g, o + 1, none⟩ x1).setCell ⟨g, o + 2, none⟩ x2).setCell ⟨g, o + 3, none⟩ x3).setCell ⟨g, o + 4, none⟩ x4).setCell ⟨g, o + 5, none⟩ x5) g M := (((((h.set _ _).set _ _).set _ _).set _ _).set _ _).set _ _
theorem put_other {w : World} {g b o k : Nat} {x0 x1 x2 x3 x4 x5 : Value} (h : b ≠ g ∨ k < o ∨ o + 6 ≤ k) : ((((((w.setCell ⟨g, o, none⟩ x0).setCell ⟨g, o + 1, none⟩ x1).setCell ⟨g, o + 2, none⟩ x2).setCell ⟨g, o + 3, none⟩ x3).setCell ⟨g, o + 4, none⟩ x4).setCell ⟨g, o + 5, none⟩ x5).cell? ⟨b, k, none⟩ = w.cell? ⟨b, k, none⟩ := by
  rw [set_other (by omega), set_other (by omega), set_other (by omega), set_other (by omega), set_other (by omega), set_other (by omega)]
theorem put_cells {w : World} {g M o : Nat} {x0 x1 x2 x3 x4 x5 : Value} (h : RowAt w g M) (ho : o + 6 ≤ M * 6) : ((((((w.setCell ⟨g, o, none⟩ x0).setCell ⟨g, o + 1, none⟩ x1).setCell ⟨g, o + 2, none⟩ x2).setCell ⟨g, o + 3, none⟩ x3).setCell ⟨g, o + 4, none⟩ x4).setCell ⟨g, o + 5, none⟩ x5).cell? ⟨g, o, none⟩ = some x0 ∧ ((((((w.setCell ⟨g, o, none⟩ x0).setCell ⟨g, o + 1, none⟩ x1).setCell ⟨g, o + 2, none⟩ x2).setCell ⟨g, o + 3, none⟩ x3).setCell ⟨g, o + 4, none⟩ x4).setCell ⟨g, o + 5, none⟩ x5).cell? ⟨g, o + 1, none⟩ = some x1 ∧ ((((((w.setCell ⟨g, o, none⟩ x0).setCell ⟨g, o + 1, none⟩ x1).setCell ⟨g, o + 2, none⟩ x2).setCell ⟨g, o + 3, none⟩ x3).setCell ⟨g, o + 4, none⟩ x4).setCell ⟨g, o + 5, none⟩ x5).cell? ⟨g, o + 2, none⟩ = some x2 ∧ ((((((w.setCell ⟨g, o, none⟩ x0).setCell ⟨g, o + 1, none⟩ x1).setCell ⟨g, o + 2, none⟩ x2).setCell ⟨g, o + 3, none⟩ x3).setCell ⟨g, o + 4, none⟩ x4).setCell ⟨g, o + 5, none⟩ x5).cell? ⟨g, o + 3, none⟩ = some x3 ∧ ((((((w.setCell ⟨g, o, none⟩ x0).setCell ⟨g, o + 1, none⟩ x1).setCell ⟨g, o + 2, none⟩ x2).setCell ⟨g, o + 3, none⟩ x3).setCell ⟨g, o + 4, none⟩ x4).setCell ⟨g, o + 5, none⟩ x5).cell? ⟨g, o + 4, none⟩ = some x4 ∧ ((((((w.setCell ⟨g, o, none⟩ x0).setCell ⟨g, o + 1, none⟩ x1).setCell ⟨g, o + 2, none⟩ x2).setCell ⟨g, o + 3, none⟩ x3).setCell ⟨g, o + 4, none⟩ x4).setCell ⟨g, o + 5, none⟩ x5).cell? ⟨g, o + 5, none⟩ = some x5 := by
  refine ⟨?_, ?_, ?_, ?_, ?_, ?_⟩
  · rw [set_other (by omega), set_other (by omega), set_other (by omega), set_other (by omega), set_other (by omega)]; exact set_same h (by omega)
  · rw [set_other (by omega), set_other (by omega), set_other (by omega), set_other (by omega)]; exact set_same (h.set _ _) (by omega)
  · rw [set_other (by omega), set_other (by omega), set_other (by omega)]; exact set_same ((h.set _ _).set _ _) (by omega)
  · rw [set_other (by omega), set_other (by omega)]; exact set_same (((h.set _ _).set _ _).set _ _) (by omega)
  · rw [set_other (by omega)]; exact set_same ((((h.set _ _).set _ _).set _ _).set _ _) (by omega)
  · exact set_same (((((h.set _ _).set _ _).set _ _).set _ _).set _ _) (by omega)
theorem keep_set {w W : World} {g o : Nat} {x : Value} (h : Kept w W) (hg : w.heap.size ≤ g) : Kept w (W.setCell ⟨g, o, none⟩ x) :=
  ⟨h.1, h.2.1, h.2.2.1, by rw [World.size_setCell]; exact h.size, fun k hk => (Below.heap_setCell W _ _ k (by show k ≠ g; omega)).trans (h.2.2.2.2 k hk)⟩
theorem put_kept {w w1 : World} {g o : Nat} {x0 x1 x2 x3 x4 x5 : Value} (h : Kept w1 w) (hg : w1.heap.size ≤ g) : Kept w1 ((((((w.setCell ⟨g, o, none⟩ x0).setCell ⟨g, o + 1, none⟩ x1).setCell ⟨g, o + 2, none⟩ x2).setCell ⟨g, o + 3, none⟩ x3).setCell ⟨g, o + 4, none⟩ x4).setCell ⟨g, o + 5, none⟩ x5) := keep_set (keep_set (keep_set (keep_set (keep_set (keep_set h hg) hg) hg) hg) hg) hg

end Ex
end Go.Proofs.YtooelfjceehmmaaDoor
