import Derived.Test.YtooelfjceehmmaaDoorMExBase
import Derived.Laws.Externs
import Derived.Handy
import Derived.Deep.DeepMust
import Derived.OwnWalk
import Derived.Lib.AppendStr
import Derived.Lib.AppendZeros
namespace Go.Proofs.YtooelfjceehmmaaDoor
open Go.RowKit
attribute [local go_sem] Oper.semAt_some
namespace Ex

theorem valOf_eq {n : Nat} (p : PatN (n + 1)) (v : Value) : valOf p v = .agg #[.int .i64 (kind p), .int .i64 (from_ p), .int .i64 (to_ p), .int .i64 (min_ p), .int .i64 (max_ p), v] := rfl

end Ex
end Go.Proofs.YtooelfjceehmmaaDoor
namespace Go.Proofs.YtooelfjceehmmaaDoor
open Go.RowKit
attribute [local go_sem] Oper.semAt_some
namespace Ex

/-- What a walk saw: how many values (none above 4097), how deep. -/
def lookP : (n : Nat) → PatN n → Int → Int × Int → Int × Int
  | 0, _, _, s => s
  | n + 1, p, d, s => (kids p).foldl (fun s q => if 4096 < s.1 then s else lookP n q (d + 1) s) (s.1 + 1, max s.2 d)
/-- All but the block b lies as it lay. -/
def KeptBut (b : Nat) (w w' : World) : Prop :=
  w'.os = w.os ∧ w'.tape = w.tape ∧ w'.output = w.output ∧ w.heap.size ≤ w'.heap.size ∧ ∀ k, k < w.heap.size → k ≠ b → w'.heap[k]? = w.heap[k]?
theorem KeptBut.trans {b : Nat} {u v w : World} (h1 : KeptBut b u v) (h2 : KeptBut b v w) : KeptBut b u w :=
  ⟨h2.1.trans h1.1, h2.2.1.trans h1.2.1, h2.2.2.1.trans h1.2.2.1, Nat.le_trans h1.2.2.2.1 h2.2.2.2.1, fun k hk hn => (h2.2.2.2.2 k (Nat.lt_of_lt_of_le hk h1.2.2.2.1) hn).trans (h1.2.2.2.2 k hk hn)⟩
theorem Kept.but {w w' : World} (h : Kept w w') (b : Nat) : KeptBut b w w' := ⟨h.1, h.2.1, h.2.2.1, h.2.2.2.1, fun k hk _ => h.2.2.2.2 k hk⟩
theorem setCell_but (w : World) (b o : Nat) (v : Value) : KeptBut b w (w.setCell ⟨b, o, none⟩ v) := ⟨rfl, rfl, rfl, by simp [World.setCell], fun k _ hn => Below.heap_setCell _ _ _ _ hn⟩
theorem KeptBut.holds {b : Nat} {w w' : World} (h : KeptBut b w w') {S : Nat → Prop} (hS : ¬ S b) : Holds S w w' := by
  intro k o v hk hc
  have hlt : k < w.heap.size := World.block_lt_of_cell? w _ hc
  rw [← hc]
  exact World.cell?_of_block (a := ⟨k, o, none⟩) (h.2.2.2.2 k hlt (fun e => hS (e ▸ hk)))
def stepL (n : Nat) (d : Int) (s : Int × Int) (q : PatN n) : Int × Int := if 4096 < s.1 then s else lookP n q (d + 1) s
theorem look_eq (n : Nat) (p : PatN (n + 1)) (d : Int) (s : Int × Int) : lookP (n + 1) p d s = (kids p).foldl (stepL n d) (s.1 + 1, max s.2 d) := rfl
theorem fold_stop {n : Nat} {d : Int} : ∀ (L : List (PatN n)) (s : Int × Int), 4096 < s.1 → L.foldl (stepL n d) s = s
  | [], _, _ => rfl
  | q :: L, s, h => by
    have e : stepL n d s q = s := by unfold stepL; rw [if_pos h]
    rw [List.foldl_cons, e]; exact fold_stop L s h
end Ex
end Go.Proofs.YtooelfjceehmmaaDoor
namespace Go.Proofs.YtooelfjceehmmaaDoor
open Go.RowKit
attribute [local go_sem] Oper.semAt_some
namespace Ex

theorem but_set {b : Nat} {w w' : World} (h : KeptBut b w w') (o : Nat) (v : Value) : KeptBut b w (w'.setCell ⟨b, o, none⟩ v) := h.trans (setCell_but _ _ _ _)
theorem but_refl (b : Nat) (w : World) : KeptBut b w w := (Kept.refl w).but b
end Ex
end Go.Proofs.YtooelfjceehmmaaDoor
namespace Go.Proofs.YtooelfjceehmmaaDoor
open Go.RowKit
attribute [local go_sem] Oper.semAt_some
namespace Ex

def IsB (c : Int) : Prop := 0 ≤ c ∧ c ≤ 255
end Ex
end Go.Proofs.YtooelfjceehmmaaDoor
namespace Go.Proofs.YtooelfjceehmmaaDoor
open Go.RowKit
attribute [local go_sem] Oper.semAt_some
namespace Ex

theorem one_flat {S : Nat → Prop} {w : World} {p : Pat} {v' : Value} (h : KidsAt S w p.1 (kids p.2) v') : FlatAt S w [p] (cellsP p v') := FlatAt.snoc (l := []) (xs := []) rfl h
end Ex
end Go.Proofs.YtooelfjceehmmaaDoor
namespace Go.Proofs.YtooelfjceehmmaaDoor
open Go.RowKit
attribute [local go_sem] Oper.semAt_some
namespace Ex

theorem box_full {w : World} {g : Nat} {y0 y1 y2 y3 y4 y5 x0 x1 x2 x3 x4 x5 : Value} (h : w.heap[g]? = some (.cells #[y0, y1, y2, y3, y4, y5] 87 (0, 0))) :
    ((((((w.setCell ⟨g, 0, none⟩ x0).setCell ⟨g, 1, none⟩ x1).setCell ⟨g, 2, none⟩ x2).setCell ⟨g, 3, none⟩ x3).setCell ⟨g, 4, none⟩ x4).setCell ⟨g, 5, none⟩ x5).heap[g]? = some (.cells #[x0, x1, x2, x3, x4, x5] 87 (0, 0)) := by
  have hl : g < w.heap.size := (Array.getElem?_eq_some_iff.1 h).1
  have he : w.heap[g] = Obj.cells #[y0, y1, y2, y3, y4, y5] 87 (0, 0) := by rw [Array.getElem?_eq_getElem hl] at h; exact Option.some.inj h
  simp [World.setCell, Array.getElem_modify, hl, he]
theorem box_returns {fn : Func} {p : Tmp} (h : fn.results = #[.cell p 87]) (tmps : Array Value) (w : World) (g : Nat) (x0 x1 x2 x3 x4 x5 : Value) (hp : tmps.getD p undef = .pointer (some ⟨g, 0, none⟩)) (hg : w.heap[g]? = some (.cells #[x0, x1, x2, x3, x4, x5] 87 (0, 0))) :
    (results fn tmps).run Tryd.prog w = .ok (.agg #[x0, x1, x2, x3, x4, x5]) w :=
  results_cell_row h tmps w g 87 _ (0, 0) _ hp hg Tryd.underlying87 rfl (by kernel_rfl)
end Ex
end Go.Proofs.YtooelfjceehmmaaDoor
namespace Go.Proofs.YtooelfjceehmmaaDoor
open Go.RowKit
attribute [local go_sem] Oper.semAt_some
namespace Ex

/-- A box of six cells. -/
def BoxAt (w : World) (g : Nat) (x0 x1 x2 x3 x4 x5 : Value) : Prop := w.heap[g]? = some (.cells #[x0, x1, x2, x3, x4, x5] 87 (0, 0))
theorem BoxAt.facts {w : World} {g : Nat} {x0 x1 x2 x3 x4 x5 : Value} (h : BoxAt w g x0 x1 x2 x3 x4 x5) :
    (w.cell? ⟨g, 0, none⟩ = some x0 ∧ w.cell? ⟨g, 1, none⟩ = some x1 ∧ w.cell? ⟨g, 2, none⟩ = some x2 ∧ w.cell? ⟨g, 3, none⟩ = some x3 ∧ w.cell? ⟨g, 4, none⟩ = some x4 ∧ w.cell? ⟨g, 5, none⟩ = some x5) ∧
    w.frozen? ⟨g, 0, none⟩ = false ∧ w.frozen? ⟨g, 1, none⟩ = false ∧ w.frozen? ⟨g, 2, none⟩ = false ∧ w.frozen? ⟨g, 3, none⟩ = false ∧ w.frozen? ⟨g, 4, none⟩ = false ∧ w.frozen? ⟨g, 5, none⟩ = false := by
  unfold BoxAt at h
  refine ⟨⟨?_, ?_, ?_, ?_, ?_, ?_⟩, ?_, ?_, ?_, ?_, ?_, ?_⟩ <;> simp [World.cell?, World.frozen?, h]
theorem BoxAt.lt {w : World} {g : Nat} {x0 x1 x2 x3 x4 x5 : Value} (h : BoxAt w g x0 x1 x2 x3 x4 x5) : g < w.heap.size := (Array.getElem?_eq_some_iff.1 h).1
theorem BoxAt.but {b : Nat} {w w' : World} {g : Nat} {x0 x1 x2 x3 x4 x5 : Value} (h : BoxAt w g x0 x1 x2 x3 x4 x5) (hk : KeptBut b w w') (hg : g ≠ b) : BoxAt w' g x0 x1 x2 x3 x4 x5 := (hk.2.2.2.2 g h.lt hg).trans h
theorem BoxAt.keep {w w' : World} {g : Nat} {x0 x1 x2 x3 x4 x5 : Value} (h : BoxAt w g x0 x1 x2 x3 x4 x5) (hk : Kept w w') : BoxAt w' g x0 x1 x2 x3 x4 x5 := (hk.2.2.2.2 g h.lt).trans h
theorem BoxAt.new (w : World) (x0 x1 x2 x3 x4 x5 : Value) : BoxAt (w.alloc (.cells #[x0, x1, x2, x3, x4, x5] 87)) w.heap.size x0 x1 x2 x3 x4 x5 := heap_alloc_new w _
theorem BoxAt.set {W : World} {g : Nat} {y0 y1 y2 y3 y4 y5 x0 x1 x2 x3 x4 x5 : Value} (h : BoxAt W g y0 y1 y2 y3 y4 y5) : BoxAt ((((((W.setCell ⟨g, 0, none⟩ x0).setCell ⟨g, 1, none⟩ x1).setCell ⟨g, 2, none⟩ x2).setCell ⟨g, 3, none⟩ x3).setCell ⟨g, 4, none⟩ x4).setCell ⟨g, 5, none⟩ x5) g x0 x1 x2 x3 x4 x5 := box_full h
theorem set6_other {W : World} {g d : Nat} {x0 x1 x2 x3 x4 x5 : Value} (hd : d ≠ g) : ((((((W.setCell ⟨g, 0, none⟩ x0).setCell ⟨g, 1, none⟩ x1).setCell ⟨g, 2, none⟩ x2).setCell ⟨g, 3, none⟩ x3).setCell ⟨g, 4, none⟩ x4).setCell ⟨g, 5, none⟩ x5).heap[d]? = W.heap[d]? := by
  rw [Below.heap_setCell _ _ _ _ hd, Below.heap_setCell _ _ _ _ hd, Below.heap_setCell _ _ _ _ hd, Below.heap_setCell _ _ _ _ hd, Below.heap_setCell _ _ _ _ hd, Below.heap_setCell _ _ _ _ hd]
theorem BoxAt.other {W : World} {g d : Nat} {y0 y1 y2 y3 y4 y5 x0 x1 x2 x3 x4 x5 : Value} (h : BoxAt W d y0 y1 y2 y3 y4 y5) (hd : d ≠ g) : BoxAt ((((((W.setCell ⟨g, 0, none⟩ x0).setCell ⟨g, 1, none⟩ x1).setCell ⟨g, 2, none⟩ x2).setCell ⟨g, 3, none⟩ x3).setCell ⟨g, 4, none⟩ x4).setCell ⟨g, 5, none⟩ x5) d y0 y1 y2 y3 y4 y5 := (set6_other hd).trans h
theorem set6_holds {S : Nat → Prop} {W : World} {g : Nat} {x0 x1 x2 x3 x4 x5 : Value} (hS : ¬ S g) : Holds S W ((((((W.setCell ⟨g, 0, none⟩ x0).setCell ⟨g, 1, none⟩ x1).setCell ⟨g, 2, none⟩ x2).setCell ⟨g, 3, none⟩ x3).setCell ⟨g, 4, none⟩ x4).setCell ⟨g, 5, none⟩ x5) := by
  intro d o v hd hc
  rw [← hc]
  exact World.cell?_of_block (a := ⟨d, o, none⟩) (set6_other (fun e => hS (e ▸ hd)))

end Ex
end Go.Proofs.YtooelfjceehmmaaDoor
namespace Go.Proofs.YtooelfjceehmmaaDoor
open Go.RowKit
attribute [local go_sem] Oper.semAt_some
namespace Ex

theorem expr_info : (Tryd.prog.info? 87).map (fun i => (i.zero, i.size, i.bytes)) = some (some (.agg #[.int .i64 0, .int .i64 0, .int .i64 0, .int .i64 0, .int .i64 0, .slice none 0 0]), 6, 64) := by kernel_rfl
theorem info_parts {P : Program} {e : TypeId} {z : Value} {s b : Nat} (h : (P.info? e).map (fun i => (i.zero, i.size, i.bytes)) = some (some z, s, b)) : ∃ i, P.info? e = some i ∧ i.zero = some z ∧ i.size = s ∧ i.bytes = b := by
  obtain ⟨i, hi, h2⟩ := Option.map_eq_some_iff.1 h
  simp only [Prod.mk.injEq] at h2
  exact ⟨i, hi, h2.1, h2.2.1, h2.2.2⟩
/-- A list of patterns of the call's own, at v; what they hold lies in S, and not in the list's own block. -/
def PatsOwn (w : World) (base : Nat) (S : Nat → Prop) (v : Value) (l : List Pat) : Prop := ∃ xs, w.ownsRow base 87 6 v l.length xs ∧ FlatAt (fun d => S d ∧ v.ownBlock ≠ some d) w l xs
theorem PatsOwn.nil (w : World) (base : Nat) (S : Nat → Prop) : PatsOwn w base S (.slice none 0 0) [] := ⟨[], World.ownsRow_nil _ _ _ _, rfl⟩
theorem owns_same {w w' : World} {base size n : Nat} {e : TypeId} {v : Value} {xs : List Value} (h : w.ownsRow base e size v n xs) (hh : ∀ g, v.ownBlock = some g → w'.heap[g]? = w.heap[g]?) : w'.ownsRow base e size v n xs := by
  refine ⟨h.1, ?_⟩
  rcases h.2 with h0 | ⟨g, cap, cur, rfl, h1, h2, h3⟩
  · exact .inl h0
  · exact .inr ⟨g, cap, cur, rfl, h1, by rw [hh g rfl]; exact h2, h3⟩
theorem PatsOwn.form {w : World} {base : Nat} {S : Nat → Prop} {v : Value} {l : List Pat} (h : PatsOwn w base S v l) : ∃ a c, v = .slice a l.length c := by
  obtain ⟨xs, h, _⟩ := h
  rcases h.2 with ⟨rfl, h0⟩ | ⟨g, cap, cur, rfl, _⟩
  · exact ⟨none, 0, by rw [h0]⟩
  · exact ⟨_, _, rfl⟩
theorem PatsOwn.but {b base : Nat} {w w' : World} {S : Nat → Prop} {v : Value} {l : List Pat} (h : PatsOwn w base S v l) (hk : KeptBut b w w') (hb : b < base) (hS : ¬ S b) : PatsOwn w' base S v l := by
  obtain ⟨xs, h1, h2⟩ := h
  exact ⟨xs, owns_same h1 (fun g hg => hk.2.2.2.2 g (h1.lt g hg).2 (by have := (h1.lt g hg).1; omega)), h2.mono (hk.holds (fun h => hS h.1)) (fun _ h => h)⟩
theorem PatsOwn.keep {base : Nat} {w w' : World} {S : Nat → Prop} {v : Value} {l : List Pat} (h : PatsOwn w base S v l) (hk : Kept w w') : PatsOwn w' base S v l := by
  obtain ⟨xs, h1, h2⟩ := h
  exact ⟨xs, owns_same h1 (fun g hg => hk.2.2.2.2 g (h1.lt g hg).2), h2.mono (hk.holds _) (fun _ h => h)⟩
theorem PatsOwn.lt {base : Nat} {w : World} {S : Nat → Prop} {v : Value} {l : List Pat} (h : PatsOwn w base S v l) : ∀ g, v.ownBlock = some g → base ≤ g ∧ g < w.heap.size := by
  obtain ⟨xs, h1, _⟩ := h
  exact h1.lt
/-- The list of one. -/
theorem PatsOwn.one {w : World} {base g : Nat} {S : Nat → Prop} {p : Pat} {u : Value} (h : BoxAt w g (.int .i64 (kind p.2)) (.int .i64 (from_ p.2)) (.int .i64 (to_ p.2)) (.int .i64 (min_ p.2)) (.int .i64 (max_ p.2)) u) (hg : base ≤ g) (hk : KidsAt (fun d => S d ∧ d ≠ g) w p.1 (kids p.2) u) :
    PatsOwn w base S (.slice (some ⟨g, 0, none⟩) 1 1) [p] := by
  refine ⟨cellsP p u, ⟨rfl, .inr ⟨g, 1, _, rfl, hg, h, Nat.le_refl _, by unfold maxLen; omega, rfl, rfl⟩⟩, ?_⟩
  exact one_flat (KidsAt.mono (fun _ _ _ _ h => h) (fun d hd => ⟨hd.1, fun e => hd.2 (by simp only [Value.ownBlock, Option.some.injEq] at e; exact e.symm)⟩) _ _ _ hk)
theorem row_cells {w : World} {g n : Nat} {cur : Array Value} {xs : List Value} {t : TypeId} (h : w.heap[g]? = some (.cells cur t (0, 0))) (hx : cur.toList.take n = xs) : ∀ j u, xs[j]? = some u → w.cell? ⟨g, 0 + j, none⟩ = some u := by
  intro j u hj
  rw [← hx, List.getElem?_take] at hj
  split at hj
  · unfold World.cell?
    rw [Nat.zero_add]
    simp only [h]
    simpa using hj
  · cases hj
theorem PatsOwn.kids {base m : Nat} {w : World} {S : Nat → Prop} {v : Value} {l : List Pat} (h : PatsOwn w base S v l) (hS : ∀ d, base ≤ d → S d) (hm : topL l ≤ m) (hl : l.length ≤ 17592186044416) : KidsAt S w m (kidsOf m l) v := by
  obtain ⟨xs, h1, h2⟩ := h
  rcases h1.2 with ⟨rfl, h0⟩ | ⟨g, cap, cur, rfl, hb, hg, hc, _, _, hx⟩
  · have : l = [] := List.length_eq_zero_iff.1 h0
    subst this
    exact kids_nil _ _ _ _ _ _ rfl
  · exact (h2.mono (S' := S) (fun _ _ _ _ h => h) (fun d h => h.1)).kids (row_cells hg hx) (hS g hb) hm hl hc
theorem PatsOwn.first {base : Nat} {w : World} {S : Nat → Prop} {v : Value} {p : Pat} {l : List Pat} (h : PatsOwn w base S v (p :: l)) : ∃ g cap u, v = .slice (some ⟨g, 0, none⟩) (l.length + 1) cap ∧ l.length + 1 ≤ cap ∧ (w.cell? ⟨g, 0, none⟩ = some (.int .i64 (kind p.2)) ∧ w.cell? ⟨g, 1, none⟩ = some (.int .i64 (from_ p.2)) ∧ w.cell? ⟨g, 2, none⟩ = some (.int .i64 (to_ p.2)) ∧ w.cell? ⟨g, 3, none⟩ = some (.int .i64 (min_ p.2)) ∧ w.cell? ⟨g, 4, none⟩ = some (.int .i64 (max_ p.2)) ∧ w.cell? ⟨g, 5, none⟩ = some u) ∧ KidsAt S w p.1 (Ex.kids p.2) u := by
  obtain ⟨xs, h1, h2⟩ := h
  rcases h1.2 with ⟨rfl, h0⟩ | ⟨g, cap, cur, rfl, hb, hg, hc, _, _, hx⟩
  · simp at h0
  · obtain ⟨u, a0, a1, a2, a3, a4, a5, hk⟩ := h2.at (i := 0) (p := p) rfl
    have hh := row_cells hg hx
    refine ⟨g, cap, u, rfl, hc, ⟨?_, ?_, ?_, ?_, ?_, ?_⟩, KidsAt.mono (fun _ _ _ _ h => h) (fun d h => h.1) _ _ _ hk⟩
    · exact hh _ _ a0
    · exact hh _ _ a1
    · exact hh _ _ a2
    · exact hh _ _ a3
    · exact hh _ _ a4
    · exact hh _ _ a5
/-- What an append leaves: all but the list's own block. -/
theorem KeptBut.grown {b base : Nat} {w0 w w' : World} {S : Nat → Prop} {v : Value} {l : List Pat} (h : KeptBut b w0 w) (ho : PatsOwn w base S v l) (hb : w0.heap.size ≤ base) (hg : w.grownBy w' v.ownBlock) : KeptBut b w0 w' :=
  ⟨hg.os.trans h.1, hg.tape.trans h.2.1, hg.output.trans h.2.2.1, Nat.le_trans h.2.2.2.1 hg.size, fun k hk hn => (hg.block k (Nat.lt_of_lt_of_le hk h.2.2.2.1) (fun e => by have := (ho.lt k e.symm).1; omega)).trans (h.2.2.2.2 k hk hn)⟩
end Ex
end Go.Proofs.YtooelfjceehmmaaDoor
namespace Go.Proofs.YtooelfjceehmmaaDoor
open Go.RowKit
attribute [local go_sem] Oper.semAt_some
namespace Ex

def byteV (xs : List Int) : List Value := xs.map (Value.int .u8)
theorem byteV_len (xs : List Int) : (byteV xs).length = xs.length := List.length_map ..
theorem byteV_app (xs ys : List Int) : byteV (xs ++ ys) = byteV xs ++ byteV ys := List.map_append
theorem byteV_one (xs : List Int) : ∀ u ∈ byteV xs, u.oneCell' = true := by
  intro u hu
  simp only [byteV, List.mem_map] at hu
  obtain ⟨x, _, rfl⟩ := hu
  rfl
/-- Bytes of the call's own. -/
def OutAt (w : World) (base : Nat) (v : Value) (xs : List Int) : Prop := w.ownsRow base 5 1 v xs.length (byteV xs)
/-- The row's block is the one that it was, or new. -/
def Own1 (w : World) (v v' : Value) : Prop := v'.ownBlock = v.ownBlock ∨ ∃ g, v'.ownBlock = some g ∧ w.heap.size ≤ g
theorem Own1.refl (w : World) (v : Value) : Own1 w v v := .inl rfl
theorem Own1.trans {w w1 : World} {v v1 v2 : Value} (h1 : Own1 w v v1) (h2 : Own1 w1 v1 v2) (hs : w.heap.size ≤ w1.heap.size) : Own1 w v v2 := by
  rcases h2 with h2 | ⟨g, hg, hl⟩
  · rcases h1 with h1 | ⟨g, hg, hl⟩
    · exact .inl (h2.trans h1)
    · exact .inr ⟨g, h2.trans hg, hl⟩
  · exact .inr ⟨g, hg, by omega⟩
theorem Own1.pre {w w1 : World} {v v1 : Value} (h : Own1 w1 v v1) (hs : w.heap.size ≤ w1.heap.size) : Own1 w v v1 := (Own1.refl w v).trans h hs
theorem OutAt.keep {w w' : World} {base : Nat} {v : Value} {xs : List Int} (h : OutAt w base v xs) (hk : Kept w w') : OutAt w' base v xs := owns_same h (fun g hg => hk.2.2.2.2 g (h.lt g hg).2)
theorem OutAt.form {w : World} {base : Nat} {v : Value} {xs : List Int} (h : OutAt w base v xs) : ∃ a c, v = .slice a xs.length c := by
  rcases h.2 with ⟨rfl, h0⟩ | ⟨g, cap, cur, rfl, _⟩
  · exact ⟨none, 0, by rw [h0]⟩
  · exact ⟨_, _, rfl⟩
theorem OutAt.nil (w : World) (base : Nat) : OutAt w base (.slice none 0 0) [] := World.ownsRow_nil _ _ _ _
theorem u8_info : (Tryd.prog.info? 5).map (fun i => (i.zero, i.size, i.bytes)) = some (some (.int .u8 0), 1, 1) := by kernel_rfl

/-- append of some bytes. -/
theorem wpl_out_bytes {ops : Array Oper} {rest : List Oper} {o : Oper} {a : Act} {Q : Exit → Act → World → Prop} (hgd : o.guard = none) (s x : Operand)
    (ho : o.op = .call { callee := .builtin .append, args := #[s, x], argTypes := #[162, 162] }) (W : World) (base : Nat) (v : Value) (xs : List Int) (n : Nat) (hn : xs.length = n) (hs : a.eval s = v) (hown : OutAt W base v xs)
    (lb : Nat) (ys : List Int) (m : Nat) (hm : ys.length = m) (hx : a.eval x = .slice (some ⟨lb, 0, none⟩) m m) (hc : ∀ (j : Nat) (y : Int), ys[j]? = some y → W.cell? ⟨lb, j, none⟩ = some (.int .u8 y)) (hpos : 0 < m) (hl : n + m ≤ 1000000000) (hbase : base ≤ W.heap.size)
    (h : ∀ g cap w', OutAt w' base (.slice (some ⟨g, 0, none⟩) (n + m) cap) (xs ++ ys) → W.grownBy w' v.ownBlock → Own1 W v (.slice (some ⟨g, 0, none⟩) (n + m) cap) → wpList Tryd.prog ops Q rest (a.put o.dst (.slice (some ⟨g, 0, none⟩) (n + m) cap)) w') : wpList Tryd.prog ops Q (o :: rest) a W := by
  obtain ⟨i0, hi, hz0, hz1, hz2⟩ := info_parts u8_info
  subst hn hm
  refine wpList_append_lies W hgd s x 162 ho base 5 i0 _ 1 1 Tryd.underlying162 hi hz0 hz1 hz2 rfl (by decide) v xs.length (byteV xs) hs hown ⟨lb, 0, none⟩ ys.length ys.length (byteV ys) hx (by rw [byteV_len]; omega) ?_ (byteV_one ys) hpos (by unfold maxLen; omega) (by omega) hbase W.heap.size rfl ?_
  · intro j u hj
    simp only [byteV, List.getElem?_map] at hj
    obtain ⟨y, hy, rfl⟩ := Option.map_eq_some_iff.1 hj
    rw [Addr.add_lit, Nat.zero_add]
    exact hc j y hy
  · intro g cap w' h3 h4 h5 _
    refine h g cap w' ?_ h4 ?_
    · show w'.ownsRow base 5 1 _ (xs ++ ys).length (byteV (xs ++ ys))
      rw [List.length_append, byteV_app]
      exact h3
    · rcases h5 with h5 | h5
      · exact .inl h5.symm
      · exact .inr ⟨g, rfl, by omega⟩
/-- A string's bytes as numbers. -/
def strI (s : ByteArray) : List Int := s.data.toList.map fun b => (b.toNat : Int)
theorem strI_cells (s : ByteArray) : Lib.strCells s = byteV (strI s) := by simp [Lib.strCells, byteV, strI]
end Ex
end Go.Proofs.YtooelfjceehmmaaDoor
