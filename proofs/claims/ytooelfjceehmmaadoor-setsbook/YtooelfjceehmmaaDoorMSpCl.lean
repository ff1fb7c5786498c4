import Derived.Test.YtooelfjceehmmaaDoorMSpCk
import Derived.Laws.MakeOwn
import Derived.Laws.CopyOwn
import Derived.Test.YtooelfjceehmmaaDoorMSpSz2
namespace Go.Proofs.YtooelfjceehmmaaDoor
open Go.RowKit
attribute [local go_sem] Oper.semAt_some
namespace Ex

set_option linter.unusedSimpArgs false in
set_option maxRecDepth 100000 in
set_option maxHeartbeats 4000000 in
/-- Check of any spec. -/
theorem sCheckTop_is (k : Nat) (lex : List (LexM k)) (ps : List ProdM) (al an ap : Option Addr) (nl cl nn cn np cp : Nat) (st : Int) (w : World) (hnn : nn ≤ 17592186044416) (hlex : lex.length = nl) (hps : ps.length = np) (hl : LexAt w k (.slice al nl cl) lex) (hp : ProdsAt w (.slice ap np cp) ps) :
    Calls Tryd.prog 15 #[.agg #[.slice al nl cl, .slice an nn cn, .int .i64 st, .slice ap np cp]] w (FaultR (CheckQ lex ps nn nl st) w) := by
  obtain ⟨h1, h2, h3⟩ := chk_start w (.slice al nl cl) (.slice an nn cn) (.int .i64 st) (.slice ap np cp)
  have HB := hide1 h1
  have HF := hide1 h2
  have HK := hide1 h3
  have HC := hide1 (sCheck_is k lex ps al an ap nl cl nn cn np cp st _ hnn hlex hps (hl.keep h3) (hp.keep h3))
  clear h1 h2 h3 hp hps hl hlex hnn
  go_enter Tryd.func15, Tryd.ntmps15
  go_upto_region 1 with fail
  obtain ⟨W, hW⟩ : ∃ W, (w.alloc (.cells #[.slice al nl cl, .slice an nn cn, .int .i64 st, .slice ap np cp] 26)).alloc (.cells #[.int .i64 0, .int .i64 0, .string ⟨#[]⟩] 44) = W := ⟨_, rfl⟩
  rw [hW] at HB HF HK HC ⊢
  clear hW
  obtain ⟨b, hb⟩ : ∃ b, w.heap.size = b := ⟨_, rfl⟩
  rw [hb] at HB HF ⊢
  have HSZ := hide1 hb
  clear hb
  obtain ⟨s0, s1, s2, s3⟩ := HB.out.facts
  go_wp2_with (go_at_call 27; refine HC.out.mono ?_; rintro e w6 ⟨⟨xe, xa⟩, rfl, hq6, hk6⟩; rw [faultV_eq]; have HQ6 := hide1 hq6; have HK6 := hide1 hk6; have HF6 := hide1 (HF.out.keep hk6); obtain ⟨⟨f0, f1, f2⟩, z0, z1, z2⟩ := HF6.out.cells; clear hq6 hk6)
  refine bodyPost_ret (results_cell_row rfl _ _ (b + 1) 44 _ (0, 0) _ rfl (HF6.out.fill xe xa) Tryd.underlying44 rfl (fault_size _ _)) rfl ?_
  exact ⟨(xe, xa), rfl, HQ6.out, keepB (keepB (keepB (gtrans HK.out HK6.out) (by rw [HSZ.out]; omega)) (by rw [HSZ.out]; omega)) (by rw [HSZ.out]; omega)⟩
/-- The checks tell one fault alone. -/
theorem then_one {Q Q' R R' : Int × Int → Prop} (hQ : ∀ a b, Q a → Q' b → a = b) (hR : ∀ {a}, Q a → a.1 = 0 → ∀ x y, R x → R' y → x = y) {x y : Int × Int} (hx : ThenQ Q R x) (hy : ThenQ Q' R' y) : x = y := by
  obtain ⟨a, ha, h1⟩ := hx
  obtain ⟨c, hc, h2⟩ := hy
  have e := hQ a c ha hc
  subst e
  rcases h1 with ⟨n1, rfl⟩ | ⟨z1, h1⟩
  · rcases h2 with ⟨_, rfl⟩ | ⟨z2, _⟩
    · rfl
    · exact absurd z2 n1
  · rcases h2 with ⟨n2, _⟩ | ⟨_, h2⟩
    · exact absurd z1 n2
    · exact hR ha z1 x y h1 h2
theorem reached_one {k : Nat} {lex : List (LexM k)} {ps : List ProdM} {nn nl st : Nat} {x y : Int × Int} (hx : ReachedQ lex ps nn nl st x) (hy : ReachedQ lex ps nn nl st y) : x = y := by
  obtain ⟨a, ha, h1⟩ := hx
  obtain ⟨c, hc, h2⟩ := hy
  have e := FirstMiss.one (fun _ _ => Iff.rfl) ha hc
  subst e
  rcases h1 with ⟨n1, rfl⟩ | ⟨z1, h1⟩
  · rcases h2 with ⟨_, rfl⟩ | ⟨z2, _⟩
    · rfl
    · exact absurd z2 n1
  · rcases h2 with ⟨n2, _⟩ | ⟨_, h2⟩
    · exact absurd z1 n2
    · exact FirstMiss.one (fun _ _ => Iff.rfl) h1 h2
theorem chkQ_one {k : Nat} {lex : List (LexM k)} {ps : List ProdM} {nn nl : Nat} {st : Int} : ∀ (j : Nat) (a b : Int × Int), chkQ lex ps nn nl st j a → chkQ lex ps nn nl st j b → a = b
  | 0, _, _, ha, hb => Eq.trans (show _ = _ from ha) (show _ = _ from hb).symm
  | 1, _, _, ha, hb => Eq.trans (show _ = _ from ha) (show _ = _ from hb).symm
  | 2, _, _, ha, hb => reached_one ha hb
  | 3, _, _, ha, hb => FirstMiss.one (fun _ _ => Iff.rfl) ha hb
  | _ + 4, _, _, ha, hb => FirstMiss.one (fun _ _ => Iff.rfl) ha hb
theorem restQ_one {k : Nat} {lex : List (LexM k)} {ps : List ProdM} {nn nl : Nat} {st : Int} : ∀ (m j : Nat) (x y : Int × Int), restQ lex ps nn nl st m j x → restQ lex ps nn nl st m j y → x = y
  | 0, _, _, _, hx, hy => Eq.trans (show _ = _ from hx) (show _ = _ from hy).symm
  | m + 1, j, _, _, hx, hy => then_one (chkQ_one j) (fun _ _ x y h1 h2 => restQ_one m (j + 1) x y h1 h2) hx hy
theorem checkQ_one {k : Nat} {lex : List (LexM k)} {ps : List ProdM} {nn nl : Nat} {st : Int} {x y : Int × Int} (hx : CheckQ lex ps nn nl st x) (hy : CheckQ lex ps nn nl st y) : x = y := restQ_one 5 0 x y hx hy

end Ex
end Go.Proofs.YtooelfjceehmmaaDoor
namespace Go.Proofs.YtooelfjceehmmaaDoor
open Go.RowKit
namespace Ex

/-- A table of bools as a set. -/
def bitsOf : List Bool → Nat
  | [] => 0
  | b :: l => (if b then 1 else 0) + 2 * bitsOf l
end Ex
end Go.Proofs.YtooelfjceehmmaaDoor
namespace Go.Proofs.YtooelfjceehmmaaDoor
open Go.RowKit
attribute [local go_sem] Oper.semAt_some
namespace Ex

/-- A table of bools, alone in its block. -/
def TabB (w : World) (g : Nat) (ms : List Bool) : Prop := w.heap[g]? = some (.cells (ms.map Value.bool).toArray 4 (0, 0))
theorem TabB.cell {w : World} {g i : Nat} {x : Bool} {ms : List Bool} (h : TabB w g ms) (hi : ms[i]? = some x) : w.cell? ⟨g, i, none⟩ = some (.bool x) := by
  unfold TabB at h
  simp [World.cell?, h, hi]
theorem TabB.free {w : World} {g : Nat} {ms : List Bool} (i : Nat) (h : TabB w g ms) : w.frozen? ⟨g, i, none⟩ = false := by
  unfold TabB at h
  simp [World.frozen?, h]
theorem TabB.lt {w : World} {g : Nat} {ms : List Bool} (h : TabB w g ms) : g < w.heap.size := (Array.getElem?_eq_some_iff.1 h).1
theorem TabB.keep {w w' : World} {g : Nat} {ms : List Bool} (h : TabB w g ms) (hk : Kept w w') : TabB w' g ms := (hk.2.2.2.2 g h.lt).trans h
theorem TabB.but {w w' : World} {g d : Nat} {ms : List Bool} (h : TabB w g ms) (hk : KeptBut d w w') (hd : g ≠ d) : TabB w' g ms := (hk.2.2.2.2 g h.lt hd).trans h
end Ex
end Go.Proofs.YtooelfjceehmmaaDoor
namespace Go.Proofs.YtooelfjceehmmaaDoor
open Go.RowKit
attribute [local go_sem] Oper.semAt_some
namespace Ex

theorem TabB.set {w : World} {g i : Nat} {ms : List Bool} (h : TabB w g ms) : TabB (w.setCell ⟨g, i, none⟩ (.bool true)) g (ms.set i true) := by
  unfold TabB at h ⊢
  have hl : g < w.heap.size := (Array.getElem?_eq_some_iff.1 h).1
  have he : w.heap[g] = Obj.cells (ms.map Value.bool).toArray 4 (0, 0) := by rw [Array.getElem?_eq_getElem hl] at h; exact Option.some.inj h
  simp [World.setCell, Array.getElem_modify, hl, he, List.map_set]
/-- The table in a block, read off the world. -/
def rdTab (g : Nat) (w : World) : Nat := match w.heap[g]? with | some (.cells cs _ _) => bitsOf (cs.toList.map fun v => match v with | .bool b => b | _ => false) | _ => 0
theorem TabB.rd {w : World} {g : Nat} {ms : List Bool} (h : TabB w g ms) : rdTab g w = bitsOf ms := by
  unfold TabB at h
  unfold rdTab
  rw [h]
  simp [List.map_map, Function.comp_def]
theorem bool_infoS : (Tryd.prog.info? 4).map (fun i => (i.zero, i.size, i.bytes)) = some (some (.bool false), 1, 1) := by kernel_rfl
theorem run_tab (n : Nat) (hn : n ≤ 300000) (w : World) : (Instr.makeSlice 27 (.int .i64 (n : Int)) (.int .i64 (n : Int))).run Tryd.prog w = .ok (.slice (some ⟨w.heap.size, 0, none⟩) n n) (w.alloc (.cells ((List.replicate n false).map Value.bool).toArray 4)) := by
  obtain ⟨i0, hi, hz0, hz1, hz2⟩ := info_of bool_infoS
  rw [run_make (P := Tryd.prog) w 27 4 i0 _ Tryd.underlying27 hi hz0 .i64 .i64 n n (by omega) (Int.le_refl _) (by rw [hz2]; omega) (by omega)]
  rw [hz1]
  have e : madeCells (Value.bool false).cells ((n : Int).toNat * 1) = ((List.replicate n false).map Value.bool).toArray := by
    unfold madeCells
    apply Array.ext_getElem?
    intro i
    simp only [Int.toNat_natCast, Nat.mul_one, Array.getElem?_map, List.getElem?_toArray, List.getElem?_map, List.getElem?_replicate]
    by_cases h : i < n
    · simp [h, Value.cells, Nat.mod_one]
    · simp [h]
  rw [e]
  simp

end Ex
end Go.Proofs.YtooelfjceehmmaaDoor
namespace Go.Proofs.YtooelfjceehmmaaDoor
open Go.RowKit
namespace Ex

/-- A deep copy (in the blocks S) with a mark behind each list. -/
def MarkAt (S : Nat → Prop) (w : World) : (n : Nat) → List (PatN n) → Value → Prop
  | 0, _, v => v = .slice none 0 0
  | n + 1, l, v => (l = [] ∧ v = .slice none 0 0) ∨ (l ≠ [] ∧ ∃ c, v = .slice (some ⟨c, 0, none⟩) l.length (l.length + 1) ∧ l.length ≤ 4096 ∧ S c ∧ w.cell? ⟨c, l.length * 6, none⟩ = some (.int .i64 93) ∧ ∀ (i : Nat) (q : PatN (n + 1)), l[i]? = some q → ∃ v',
      w.cell? ⟨c, i * 6, none⟩ = some (.int .i64 (kind q)) ∧ w.cell? ⟨c, i * 6 + 1, none⟩ = some (.int .i64 (from_ q)) ∧ w.cell? ⟨c, i * 6 + 2, none⟩ = some (.int .i64 (to_ q)) ∧
      w.cell? ⟨c, i * 6 + 3, none⟩ = some (.int .i64 (min_ q)) ∧ w.cell? ⟨c, i * 6 + 4, none⟩ = some (.int .i64 (max_ q)) ∧ w.cell? ⟨c, i * 6 + 5, none⟩ = some v' ∧ MarkAt S w n (kids q) v')
theorem MarkAt.mono {S S' : Nat → Prop} {w w' : World} (hs : Holds S w w') (hS : ∀ b, S b → S' b) : ∀ (n : Nat) (l : List (PatN n)) (v : Value), MarkAt S w n l v → MarkAt S' w' n l v
  | 0, _, _, h => h
  | n + 1, l, v, h => by
    rcases h with h | ⟨h0, c, h1, h2, h3, h4, h5⟩
    · exact Or.inl h
    · refine Or.inr ⟨h0, c, h1, h2, hS c h3, hs _ _ _ h3 h4, fun i q hq => ?_⟩
      obtain ⟨v', g0, g1, g2, g3, g4, g5, g6⟩ := h5 i q hq
      exact ⟨v', hs _ _ _ h3 g0, hs _ _ _ h3 g1, hs _ _ _ h3 g2, hs _ _ _ h3 g3, hs _ _ _ h3 g4, hs _ _ _ h3 g5, MarkAt.mono hs hS n (kids q) v' g6⟩
theorem MarkAt.kept {S : Nat → Prop} {w w' : World} {n : Nat} {l : List (PatN n)} {v : Value} (h : MarkAt S w n l v) (hk : Kept w w') : MarkAt S w' n l v := MarkAt.mono (hk.holds S) (fun _ h => h) n l v h
theorem MarkAt.kids {S : Nat → Prop} {w : World} : ∀ (n : Nat) (l : List (PatN n)) (v : Value), MarkAt S w n l v → KidsAt S w n l v
  | 0, _, _, h => ⟨_, _, h⟩
  | n + 1, l, v, h => by
    rcases h with ⟨rfl, rfl⟩ | ⟨h0, c, h1, h2, h3, h4, h5⟩
    · exact kids_nil _ _ _ _ _ _ rfl
    · refine ⟨_, _, h1, by omega, by omega, Or.inr ⟨c, 0, rfl, h3, fun i q hq => ?_⟩⟩
      obtain ⟨v', g0, g1, g2, g3, g4, g5, g6⟩ := h5 i q hq
      rw [Nat.zero_add]
      exact ⟨v', g0, g1, g2, g3, g4, g5, MarkAt.kids n (Ex.kids q) v' g6⟩
theorem MarkAt.form {S : Nat → Prop} {w : World} {n : Nat} {l : List (PatN n)} {v : Value} (h : MarkAt S w n l v) : ∃ a cap, v = .slice a l.length cap := (MarkAt.kids n l v h).form

/-- A row of M values in a block of its own. -/
def RowAt (w : World) (g M : Nat) : Prop := ∃ cur : Array Value, w.heap[g]? = some (.cells cur 87 (0, 0)) ∧ cur.size = M * 6
theorem RowAt.lt {w : World} {g M : Nat} (h : RowAt w g M) : g < w.heap.size := by obtain ⟨_, h, _⟩ := h; exact (Array.getElem?_eq_some_iff.1 h).1
theorem RowAt.keep {w w' : World} {g M : Nat} (h : RowAt w g M) (hk : Kept w w') : RowAt w' g M := by
  obtain ⟨cur, h1, h2⟩ := h
  exact ⟨cur, (hk.2.2.2.2 g (Array.getElem?_eq_some_iff.1 h1).1).trans h1, h2⟩
theorem RowAt.set {w : World} {g M : Nat} (h : RowAt w g M) (o : Nat) (x : Value) : RowAt (w.setCell ⟨g, o, none⟩ x) g M := by
  obtain ⟨cur, h1, h2⟩ := h
  have hl : g < w.heap.size := (Array.getElem?_eq_some_iff.1 h1).1
  have he : w.heap[g] = Obj.cells cur 87 (0, 0) := by rw [Array.getElem?_eq_getElem hl] at h1; exact Option.some.inj h1
  refine ⟨cur.setIfInBounds o x, ?_, by rw [Array.size_setIfInBounds]; exact h2⟩
  simp [World.setCell, Array.getElem_modify, hl, he]
theorem RowAt.cell {w : World} {g M k : Nat} (h : RowAt w g M) (hk : k < M * 6) : (∃ x, w.cell? ⟨g, k, none⟩ = some x) ∧ w.frozen? ⟨g, k, none⟩ = false := by
  obtain ⟨cur, h1, h2⟩ := h
  refine ⟨⟨cur[k]'(by omega), ?_⟩, ?_⟩
  · simp [World.cell?, h1, h2, hk]
  · simp [World.frozen?, h1]
theorem RowAt.at {w : World} {g M j : Nat} (h : RowAt w g M) (hj : j < M) : ∃ x0 x1 x2 x3 x4 x5, (w.cell? ⟨g, j * 6, none⟩ = some x0 ∧ w.cell? ⟨g, j * 6 + 1, none⟩ = some x1 ∧ w.cell? ⟨g, j * 6 + 2, none⟩ = some x2 ∧ w.cell? ⟨g, j * 6 + 3, none⟩ = some x3 ∧ w.cell? ⟨g, j * 6 + 4, none⟩ = some x4 ∧ w.cell? ⟨g, j * 6 + 5, none⟩ = some x5) ∧
    w.frozen? ⟨g, j * 6, none⟩ = false ∧ w.frozen? ⟨g, j * 6 + 1, none⟩ = false ∧ w.frozen? ⟨g, j * 6 + 2, none⟩ = false ∧ w.frozen? ⟨g, j * 6 + 3, none⟩ = false ∧ w.frozen? ⟨g, j * 6 + 4, none⟩ = false ∧ w.frozen? ⟨g, j * 6 + 5, none⟩ = false := by
  obtain ⟨⟨x0, c0⟩, f0⟩ := h.cell (k := j * 6) (by omega)
  obtain ⟨⟨x1, c1⟩, f1⟩ := h.cell (k := j * 6 + 1) (by omega)
  obtain ⟨⟨x2, c2⟩, f2⟩ := h.cell (k := j * 6 + 2) (by omega)
  obtain ⟨⟨x3, c3⟩, f3⟩ := h.cell (k := j * 6 + 3) (by omega)
  obtain ⟨⟨x4, c4⟩, f4⟩ := h.cell (k := j * 6 + 4) (by omega)
  obtain ⟨⟨x5, c5⟩, f5⟩ := h.cell (k := j * 6 + 5) (by omega)
  exact ⟨x0, x1, x2, x3, x4, x5, ⟨c0, c1, c2, c3, c4, c5⟩, f0, f1, f2, f3, f4, f5⟩
theorem set_same {w : World} {g M o : Nat} {x : Value} (h : RowAt w g M) (ho : o < M * 6) : (w.setCell ⟨g, o, none⟩ x).cell? ⟨g, o, none⟩ = some x := by
  obtain ⟨⟨y, hy⟩, _⟩ := h.cell ho
  exact World.cell?_setCell_same w _ _ hy
theorem set_other {w : World} {g b o k : Nat} {x : Value} (h : b ≠ g ∨ k ≠ o) : (w.setCell ⟨g, o, none⟩ x).cell? ⟨b, k, none⟩ = w.cell? ⟨b, k, none⟩ :=
  World.cell?_setCell_other _ _ _ _ (by intro e; simp only [Addr.mk.injEq, and_true] at e; omega)
theorem put_row {w : World} {g M o : Nat} {x0 x1 x2 x3 x4 x5 : Value} (h : RowAt w g M) : RowAt ((((((w.setCell ⟨g, o, none⟩ x0).setCell ⟨g, o + 1, none⟩ x1).setCell ⟨g, o + 2, none⟩ x2).setCell ⟨g, o + 3, none⟩ x3).setCell ⟨g, o + 4, none⟩ x4).setCell ⟨g, o + 5, none⟩ x5) g M := (((((h.set _ _).set _ _).set _ _).set _ _).set _ _).set _ _
theorem put_other {w : World} {g b o k : Nat} {x0 x1 x2 x3 x4 x5 : Value} (h : b ≠ g ∨ k < o ∨ o + 6 ≤ k) : ((((((w.setCell ⟨g, o, none⟩ x0).setCell ⟨g, o + 1, none⟩ x1).setCell ⟨g, o + 2, none⟩ x2).setCell ⟨g, o + 3, none⟩ x3).setCell ⟨g, o + 4, none⟩ x4).setCell ⟨g, o + 5, none⟩ x5).cell? ⟨b, k, none⟩ = w.cell? ⟨b, k, none⟩ := by
  rw [set_other (by omega), set_other (by omega), set_other (by omega), set_other (by omega), set_other (by omega), set_other (by omega)]
theorem put_cells {w : World} {g M o : Nat} {x0 x1 x2 x3 x4 x5 : Value} (h : RowAt w g M) (ho : o + 6 ≤ M * 6) : ((((((w.setCell ⟨g, o, none⟩ x0).setCell ⟨g, o + 1, none⟩ x1).setCell ⟨g, o + 2, none⟩ x2).setCell ⟨g, o + 3, none⟩ x3).setCell ⟨g, o + 4, none⟩ x4).setCell ⟨g, o + 5, none⟩ x5).cell? ⟨g, o, none⟩ = some x0 ∧ ((((((w.setCell ⟨g, o, none⟩ x0).setCell ⟨g, o + 1, none⟩ x1).setCell ⟨g, o + 2, none⟩ x2).setCell ⟨g, o + 3, none⟩ x3).setCell ⟨g, o + 4, none⟩ x4).setCell ⟨g, o + 5, none⟩ x5).cell? ⟨g, o + 1, none⟩ = some x1 ∧ ((((((w.setCell ⟨g, o, none⟩ x0).setCell ⟨g, o + 1, none⟩ x1).setCell ⟨g, o + 2, none⟩ x2).setCell ⟨g, o + 3, none⟩ x3).setCell ⟨g, o + 4, none⟩ x4).setCell ⟨g, o + 5, none⟩ x5).cell? ⟨g, o + 2, none⟩ = some x2 ∧ ((((((w.setCell ⟨g, o, none⟩ x0).setCell ⟨g, o + 1, none⟩ x1).setCell ⟨g, o + 2, none⟩ x2).setCell ⟨g, o + 3, none⟩ x3).setCell ⟨g, o + 4, none⟩ x4).setCell ⟨g, o + 5, none⟩ x5).cell? ⟨g, o + 3, none⟩ = some x3 ∧ ((((((w.setCell ⟨g, o, none⟩ x0).setCell ⟨g, o + 1, none⟩ x1).setCell ⟨g, o + 2, none⟩ x2).setCell ⟨g, o + 3, none⟩ x3).setCell ⟨g, o + 4, none⟩ x4).setCell ⟨g, o + 5, none⟩ x5).cell? ⟨g, o + 4, none⟩ = some x4 ∧ ((((((w.setCell ⟨g, o, none⟩ x0).setCell ⟨g, o + 1, none⟩ x1).setCell ⟨g, o + 2, none⟩ x2).setCell ⟨g, o + 3, none⟩ x3).setCell ⟨g, o + 4, none⟩ x4).setCell ⟨g, o + 5, none⟩ x5).cell? ⟨g, o + 5, none⟩ = some x5 := by
  refine ⟨?_, ?_, ?_, ?_, ?_, ?_⟩
  · rw [set_other (by omega), set_other (by omega), set_other (by omega), set_other (by omega), set_other (by omega)]; exact set_same h (by omega)
  · rw [set_other (by omega), set_other (by omega), set_other (by omega), set_other (by omega)]; exact set_same (h.set _ _) (by omega)
  · rw [set_other (by omega), set_other (by omega), set_other (by omega)]; exact set_same ((h.set _ _).set _ _) (by omega)
  · rw [set_other (by omega), set_other (by omega)]; exact set_same (((h.set _ _).set _ _).set _ _) (by omega)
  · rw [set_other (by omega)]; exact set_same ((((h.set _ _).set _ _).set _ _).set _ _) (by omega)
  · exact set_same (((((h.set _ _).set _ _).set _ _).set _ _).set _ _) (by omega)
theorem keep_set {w W : World} {g o : Nat} {x : Value} (h : Kept w W) (hg : w.heap.size ≤ g) : Kept w (W.setCell ⟨g, o, none⟩ x) :=
  ⟨h.1, h.2.1, h.2.2.1, by rw [World.size_setCell]; exact h.size, fun k hk => (Below.heap_setCell W _ _ k (by show k ≠ g; omega)).trans (h.2.2.2.2 k hk)⟩
theorem put_kept {w w1 : World} {g o : Nat} {x0 x1 x2 x3 x4 x5 : Value} (h : Kept w1 w) (hg : w1.heap.size ≤ g) : Kept w1 ((((((w.setCell ⟨g, o, none⟩ x0).setCell ⟨g, o + 1, none⟩ x1).setCell ⟨g, o + 2, none⟩ x2).setCell ⟨g, o + 3, none⟩ x3).setCell ⟨g, o + 4, none⟩ x4).setCell ⟨g, o + 5, none⟩ x5) := keep_set (keep_set (keep_set (keep_set (keep_set (keep_set h hg) hg) hg) hg) hg) hg

end Ex
end Go.Proofs.YtooelfjceehmmaaDoor
