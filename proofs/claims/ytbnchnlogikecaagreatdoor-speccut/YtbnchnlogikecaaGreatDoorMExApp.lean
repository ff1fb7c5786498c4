import Derived.Test.YtbnchnlogikecaaGreatDoorMExRd6
import Derived.Deep.DeepMust
import Derived.OwnWalk
namespace Go.Proofs.YtbnchnlogikecaaGreatDoor
open Go.RowKit
attribute [local go_sem] Oper.semAt_some
namespace Ex

theorem expr_info : (Tryz.prog.info? 70).map (fun i => (i.zero, i.size, i.bytes)) = some (some (.agg #[.int .i64 0, .int .i64 0, .int .i64 0, .int .i64 0, .int .i64 0, .slice none 0 0]), 6, 64) := by kernel_rfl
theorem info_parts {P : Program} {e : TypeId} {z : Value} {s b : Nat} (h : (P.info? e).map (fun i => (i.zero, i.size, i.bytes)) = some (some z, s, b)) : ∃ i, P.info? e = some i ∧ i.zero = some z ∧ i.size = s ∧ i.bytes = b := by
  obtain ⟨i, hi, h2⟩ := Option.map_eq_some_iff.1 h
  simp only [Prod.mk.injEq] at h2
  exact ⟨i, hi, h2.1, h2.2.1, h2.2.2⟩
/-- A list of patterns of the call's own, at v; what they hold lies in S, and not in the list's own block. -/
def PatsOwn (w : World) (base : Nat) (S : Nat → Prop) (v : Value) (l : List Pat) : Prop := ∃ xs, w.ownsRow base 70 6 v l.length xs ∧ FlatAt (fun d => S d ∧ v.ownBlock ≠ some d) w l xs
theorem PatsOwn.nil (w : World) (base : Nat) (S : Nat → Prop) : PatsOwn w base S (.slice none 0 0) [] := ⟨[], World.ownsRow_nil _ _ _ _, rfl⟩
theorem owns_same {w w' : World} {base size n : Nat} {e : TypeId} {v : Value} {xs : List Value} (h : w.ownsRow base e size v n xs) (hh : ∀ g, v.ownBlock = some g → w'.heap[g]? = w.heap[g]?) : w'.ownsRow base e size v n xs := by
  refine ⟨h.1, ?_⟩
  rcases h.2 with h0 | ⟨g, cap, cur, rfl, h1, h2, h3⟩
  · exact .inl h0
  · exact .inr ⟨g, cap, cur, rfl, h1, by rw [hh g rfl]; exact h2, h3⟩
theorem PatsOwn.form {w : World} {base : Nat} {S : Nat → Prop} {v : Value} {l : List Pat} (h : PatsOwn w base S v l) : ∃ a c, v = .slice a l.length c := by
  obtain ⟨xs, h, _⟩ := h
  rcases h.2 with ⟨rfl, h0⟩ | ⟨g, cap, cur, rfl, _⟩
  · exact ⟨none, 0, by rw [h0]⟩
  · exact ⟨_, _, rfl⟩
theorem PatsOwn.but {b base : Nat} {w w' : World} {S : Nat → Prop} {v : Value} {l : List Pat} (h : PatsOwn w base S v l) (hk : KeptBut b w w') (hb : b < base) (hS : ¬ S b) : PatsOwn w' base S v l := by
  obtain ⟨xs, h1, h2⟩ := h
  exact ⟨xs, owns_same h1 (fun g hg => hk.2.2.2.2 g (h1.lt g hg).2 (by have := (h1.lt g hg).1; omega)), h2.mono (hk.holds (fun h => hS h.1)) (fun _ h => h)⟩
theorem PatsOwn.keep {base : Nat} {w w' : World} {S : Nat → Prop} {v : Value} {l : List Pat} (h : PatsOwn w base S v l) (hk : Kept w w') : PatsOwn w' base S v l := by
  obtain ⟨xs, h1, h2⟩ := h
  exact ⟨xs, owns_same h1 (fun g hg => hk.2.2.2.2 g (h1.lt g hg).2), h2.mono (hk.holds _) (fun _ h => h)⟩
theorem PatsOwn.lt {base : Nat} {w : World} {S : Nat → Prop} {v : Value} {l : List Pat} (h : PatsOwn w base S v l) : ∀ g, v.ownBlock = some g → base ≤ g ∧ g < w.heap.size := by
  obtain ⟨xs, h1, _⟩ := h
  exact h1.lt
/-- The list of one. -/
theorem PatsOwn.one {w : World} {base g : Nat} {S : Nat → Prop} {p : Pat} {u : Value} (h : BoxAt w g (.int .i64 (kind p.2)) (.int .i64 (from_ p.2)) (.int .i64 (to_ p.2)) (.int .i64 (min_ p.2)) (.int .i64 (max_ p.2)) u) (hg : base ≤ g) (hk : KidsAt (fun d => S d ∧ d ≠ g) w p.1 (kids p.2) u) :
    PatsOwn w base S (.slice (some ⟨g, 0, none⟩) 1 1) [p] := by
  refine ⟨cellsP p u, ⟨rfl, .inr ⟨g, 1, _, rfl, hg, h, Nat.le_refl _, by unfold maxLen; omega, rfl, rfl⟩⟩, ?_⟩
  exact one_flat (KidsAt.mono (fun _ _ _ _ h => h) (fun d hd => ⟨hd.1, fun e => hd.2 (by simp only [Value.ownBlock, Option.some.injEq] at e; exact e.symm)⟩) _ _ _ hk)
theorem row_cells {w : World} {g n : Nat} {cur : Array Value} {xs : List Value} {t : TypeId} (h : w.heap[g]? = some (.cells cur t (0, 0))) (hx : cur.toList.take n = xs) : ∀ j u, xs[j]? = some u → w.cell? ⟨g, 0 + j, none⟩ = some u := by
  intro j u hj
  rw [← hx, List.getElem?_take] at hj
  split at hj
  · unfold World.cell?
    rw [Nat.zero_add]
    simp only [h]
    simpa using hj
  · cases hj
theorem PatsOwn.kids {base m : Nat} {w : World} {S : Nat → Prop} {v : Value} {l : List Pat} (h : PatsOwn w base S v l) (hS : ∀ d, base ≤ d → S d) (hm : topL l ≤ m) (hl : l.length ≤ 17592186044416) : KidsAt S w m (kidsOf m l) v := by
  obtain ⟨xs, h1, h2⟩ := h
  rcases h1.2 with ⟨rfl, h0⟩ | ⟨g, cap, cur, rfl, hb, hg, hc, _, _, hx⟩
  · have : l = [] := List.length_eq_zero_iff.1 h0
    subst this
    exact kids_nil _ _ _ _ _ _ rfl
  · exact (h2.mono (S' := S) (fun _ _ _ _ h => h) (fun d h => h.1)).kids (row_cells hg hx) (hS g hb) hm hl hc
theorem PatsOwn.first {base : Nat} {w : World} {S : Nat → Prop} {v : Value} {p : Pat} {l : List Pat} (h : PatsOwn w base S v (p :: l)) : ∃ g cap u, v = .slice (some ⟨g, 0, none⟩) (l.length + 1) cap ∧ l.length + 1 ≤ cap ∧ (w.cell? ⟨g, 0, none⟩ = some (.int .i64 (kind p.2)) ∧ w.cell? ⟨g, 1, none⟩ = some (.int .i64 (from_ p.2)) ∧ w.cell? ⟨g, 2, none⟩ = some (.int .i64 (to_ p.2)) ∧ w.cell? ⟨g, 3, none⟩ = some (.int .i64 (min_ p.2)) ∧ w.cell? ⟨g, 4, none⟩ = some (.int .i64 (max_ p.2)) ∧ w.cell? ⟨g, 5, none⟩ = some u) ∧ KidsAt S w p.1 (Ex.kids p.2) u := by
  obtain ⟨xs, h1, h2⟩ := h
  rcases h1.2 with ⟨rfl, h0⟩ | ⟨g, cap, cur, rfl, hb, hg, hc, _, _, hx⟩
  · simp at h0
  · obtain ⟨u, a0, a1, a2, a3, a4, a5, hk⟩ := h2.at (i := 0) (p := p) rfl
    have hh := row_cells hg hx
    refine ⟨g, cap, u, rfl, hc, ⟨?_, ?_, ?_, ?_, ?_, ?_⟩, KidsAt.mono (fun _ _ _ _ h => h) (fun d h => h.1) _ _ _ hk⟩
    · exact hh _ _ a0
    · exact hh _ _ a1
    · exact hh _ _ a2
    · exact hh _ _ a3
    · exact hh _ _ a4
    · exact hh _ _ a5
/-- What an append leaves: all but the list's own block. -/
theorem KeptBut.grown {b base : Nat} {w0 w w' : World} {S : Nat → Prop} {v : Value} {l : List Pat} (h : KeptBut b w0 w) (ho : PatsOwn w base S v l) (hb : w0.heap.size ≤ base) (hg : w.grownBy w' v.ownBlock) : KeptBut b w0 w' :=
  ⟨hg.os.trans h.1, hg.tape.trans h.2.1, hg.output.trans h.2.2.1, Nat.le_trans h.2.2.2.1 hg.size, fun k hk hn => (hg.block k (Nat.lt_of_lt_of_le hk h.2.2.2.1) (fun e => by have := (ho.lt k e.symm).1; omega)).trans (h.2.2.2.2 k hk hn)⟩
theorem heap_grown {base k : Nat} {w w' : World} {S : Nat → Prop} {v : Value} {l : List Pat} (ho : PatsOwn w base S v l) (hg : w.grownBy w' v.ownBlock) (hk : k < base) (hl : k < w.heap.size) : w'.heap[k]? = w.heap[k]? :=
  hg.block k hl (fun e => by have := (ho.lt k e.symm).1; omega)
theorem wpl_append_pat {ops : Array Oper} {rest : List Oper} {o : Oper} {a : Act} {Q : Exit → Act → World → Prop} (hgd : o.guard = none) (s x : Operand)
    (ho : o.op = .call { callee := .builtin .append, args := #[s, x], argTypes := #[68, 68] }) (W : World) (base : Nat) (S : Nat → Prop) (v : Value) (l : List Pat) (n : Nat) (hn : l.length = n) (hs : a.eval s = v) (hown : PatsOwn W base S v l)
    (lb : Nat) (p : Pat) (u : Value) (hx : a.eval x = .slice (some ⟨lb, 0, none⟩) 1 1) (hbx : BoxAt W lb (.int .i64 (kind p.2)) (.int .i64 (from_ p.2)) (.int .i64 (to_ p.2)) (.int .i64 (min_ p.2)) (.int .i64 (max_ p.2)) u)
    (hk : KidsAt (fun d => S d ∧ v.ownBlock ≠ some d) W p.1 (kids p.2) u) (hl : l.length ≤ 100000) (hbase : base ≤ W.heap.size)
    (h : ∀ g cap w', PatsOwn w' base S (.slice (some ⟨g, 0, none⟩) (n + 1) cap) (l ++ [p]) → W.grownBy w' v.ownBlock → wpList Tryz.prog ops Q rest (a.put o.dst (.slice (some ⟨g, 0, none⟩) (n + 1) cap)) w') : wpList Tryz.prog ops Q (o :: rest) a W := by
  obtain ⟨i0, hi, hz0, hz1, hz2⟩ := info_parts expr_info
  obtain ⟨xs, h1, h2⟩ := hown
  subst hn
  obtain ⟨⟨c0, c1, c2, c3, c4, c5⟩, _⟩ := hbx.facts
  obtain ⟨au, lu, cu, hu⟩ : ∃ a l c, u = .slice a l c := by obtain ⟨a, c, h⟩ := hk.form; exact ⟨_, _, _, h⟩
  refine wpList_append_lies W hgd s x 68 ho base 70 i0 _ 6 64 Tryz.underlying68 hi hz0 hz1 hz2 rfl (by decide) v l.length xs hs h1 ⟨lb, 0, none⟩ 1 1 (cellsP p u) hx rfl ?_ ?_ (by decide) (by unfold maxLen; omega) (by omega) hbase W.heap.size rfl ?_
  · intro j y hj
    have hj6 : j < 6 := (List.getElem?_eq_some_iff.1 hj).1
    match j, hj6 with
    | 0, _ => exact c0.trans hj
    | 1, _ => exact c1.trans hj
    | 2, _ => exact c2.trans hj
    | 3, _ => exact c3.trans hj
    | 4, _ => exact c4.trans hj
    | 5, _ => exact c5.trans hj
  · intro y hy
    subst hu
    simp only [cellsP, List.mem_cons, List.not_mem_nil, or_false] at hy
    rcases hy with rfl | rfl | rfl | rfl | rfl | rfl <;> rfl
  · intro g cap w' h3 h4 h5 h6
    refine h g cap w' ⟨xs ++ cellsP p u, by rw [List.length_append, List.length_singleton]; exact h3, ?_⟩ h4
    have hflat := (h2.snoc hk).tight
    refine hflat.mono ?_ ?_
    · intro d o' v' hd hc
      exact h4.cell hc (fun e => hd.1.2 e.symm)
    · intro d hd
      refine ⟨hd.1.1, fun e => ?_⟩
      simp only [Value.ownBlock, Option.some.injEq] at e
      rcases h5 with h5 | h5
      · exact hd.1.2 (by rw [h5, e])
      · have := hd.2; omega

end Ex
end Go.Proofs.YtbnchnlogikecaaGreatDoor
namespace Go.Proofs.YtbnchnlogikecaaGreatDoor
open Go.RowKit
attribute [local go_sem] Oper.semAt_some
namespace Ex

/-- One pattern by itself, or a list of that kind. -/
def oneOf (k : Int) : List Pat → Pat
  | [p] => p
  | l => mkP k 0 0 0 0 l
/-- The members of a class behind the first one. -/
def classG (T : ByteArray) (y : Int) : Nat → List Pat → Int × Int × Int → List Pat × Int × Int × Int
  | 0, l, s => (l, s)
  | m + 1, l, s => if s.2.1 = 0 then (if peekP T s.1 = 93 then (l, s.1 + 1, s.2) else classG T y m (l ++ [(memberS T s y).1]) (memberS T s y).2) else (l, s)
def classL (T : ByteArray) (s : Int × Int × Int) : List Pat × Int × Int × Int := classG T s.1 4098 [(memberS T (s.1 + 1, s.2) s.1).1] (memberS T (s.1 + 1, s.2) s.1).2
def classS (T : ByteArray) (s : Int × Int × Int) : Pat × Int × Int × Int := (oneOf 3 (classL T s).1, (classL T s).2)

theorem failE_ne {e x : Int} (hx : x ≠ 0) : failE e x ≠ 0 := by unfold failE; split <;> assumption
theorem wrongC_ne (T : ByteArray) (k : Int) : wrongC T k ≠ 0 := by unfold wrongC; split <;> decide
theorem one_go {T : ByteArray} {s : Int × Int × Int} : s.1 < (oneS T s).2.1 ∨ (oneS T s).2.2.1 ≠ 0 := by
  unfold oneS
  split
  · left; show s.1 < s.1 + 1; omega
  · right; exact failE_ne (wrongC_ne _ _)
theorem memberE_ok {T : ByteArray} {s : Int × Int × Int} (h : OkS T s) : OkS T (memberE T s).2 ∧ s.1 ≤ (memberE T s).2.1 ∧ (s.1 < (memberE T s).2.1 ∨ (memberE T s).2.2.1 ≠ 0) := by
  have h1 := one_ok h
  have h2 := one_go (T := T) (s := s)
  unfold memberE
  split
  · rename_i hc
    have h3 := one_ok (take_ok (T := T) (s := (oneS T s).2) (c := 45) (by decide) hc)
    have h4 := h1.2
    have h5 := h3.2
    dsimp only at h5
    exact ⟨h3.1, by omega, Or.inl (by omega)⟩
  · exact ⟨h1.1, h1.2, h2⟩
theorem member_ok {T : ByteArray} {s : Int × Int × Int} {y : Int} (h : OkS T s) : OkS T (memberS T s y).2 ∧ s.1 ≤ (memberS T s y).2.1 ∧ (s.1 < (memberS T s y).2.1 ∨ (memberS T s y).2.2.1 ≠ 0) := by
  have h1 := memberE_ok h
  have e : (memberS T s y).2 = if (memberE T s).1 < (oneS T s).1 then failS T (memberE T s).2 22 y else (memberE T s).2 := rfl
  rw [e]
  split
  · exact ⟨fail_ok _ _ _ _, h.2, Or.inr (failE_ne (by decide))⟩
  · exact h1

theorem rangeP_inj {a b x y : Int} (h : rangeP a b = rangeP x y) : a = x ∧ b = y := ⟨congrArg (fun p : Pat => from_ p.2) h, congrArg (fun p : Pat => to_ p.2) h⟩
theorem box_moved {b o : Nat} {w w' : World} {v : Value} (h : KeptBut b ((w.setCell ⟨b, o, none⟩ v).alloc (.cells #[.int .i64 0, .int .i64 0, .int .i64 0, .int .i64 0, .int .i64 0, .slice none 0 0] 70)) w') (hb : b < w.heap.size) : BoxAt w' w.heap.size (.int .i64 0) (.int .i64 0) (.int .i64 0) (.int .i64 0) (.int .i64 0) (.slice none 0 0) := by
  have e : (w.setCell ⟨b, o, none⟩ v).heap.size = w.heap.size := by simp [World.setCell]
  have := box_kept h (by rw [e]; exact hb)
  rw [e] at this
  exact this

theorem PatsOwn.nonnil {base n cap : Nat} {w : World} {S : Nat → Prop} {a : Option Addr} {q : Pat} {l : List Pat} (h : PatsOwn w base S (.slice a n cap) (q :: l)) : ∃ g, a = some ⟨g, 0, none⟩ ∧ 1 ≤ cap := by
  obtain ⟨g, c, u, e, hc, _⟩ := h.first
  simp only [Value.slice.injEq] at e
  exact ⟨g, e.1, by omega⟩
theorem PatsOwn.one_facts {base n cap g : Nat} {w : World} {S : Nat → Prop} {q : Pat} {l : List Pat} (h : PatsOwn w base S (.slice (some ⟨g, 0, none⟩) n cap) (q :: l)) : ∃ u, (w.cell? ⟨g, 0, none⟩ = some (.int .i64 (kind q.2)) ∧ w.cell? ⟨g, 1, none⟩ = some (.int .i64 (from_ q.2)) ∧ w.cell? ⟨g, 2, none⟩ = some (.int .i64 (to_ q.2)) ∧ w.cell? ⟨g, 3, none⟩ = some (.int .i64 (min_ q.2)) ∧ w.cell? ⟨g, 4, none⟩ = some (.int .i64 (max_ q.2)) ∧ w.cell? ⟨g, 5, none⟩ = some u) ∧ KidsAt S w q.1 (Ex.kids q.2) u := by
  obtain ⟨g', c, u, e, _, hc, hk⟩ := h.first
  simp only [Value.slice.injEq, Option.some.injEq, Addr.mk.injEq] at e
  obtain ⟨⟨rfl, _⟩, _⟩ := e
  exact ⟨u, hc, hk⟩
/-- A loop that makes a list of patterns. -/
def ListR (b : Nat) (w : World) (T : ByteArray) (M : Nat → List Pat → Int × Int × Int → List Pat × Int × Int × Int) (l0 : List Pat) (s0 : Int × Int × Int) (B : Nat → Int → Int → Prop) (v : Value) (wr : World) : Prop :=
  ∃ (j : Nat) (l : List Pat) (k2 e2 f2 : Int), 0 ≤ k2 ∧ k2 ≤ (T.size : Int) ∧ l.length = l0.length + j ∧ B j k2 e2 ∧ KeptBut b w wr ∧ RAt wr b T k2 e2 f2 ∧
    BoxAt wr w.heap.size (.int .i64 0) (.int .i64 0) (.int .i64 0) (.int .i64 0) (.int .i64 0) (.slice none 0 0) ∧ PatsOwn wr (w.heap.size + 1) (fun d => w.heap.size < d) v l ∧ ∀ N, M (j + N) l0 s0 = M N l (k2, e2, f2)
def errOf (b : Nat) (w : World) : Int := intOf ((w.cell? ⟨b, 2, none⟩).getD (.int .i64 0))
theorem RAt.err {w : World} {b : Nat} {T : ByteArray} {k e f : Int} (h : RAt w b T k e f) : errOf b w = e := by
  unfold errOf; rw [h.cells.2.2.1]; rfl
def classB (k1 : Int) (j : Nat) (k2 e2 : Int) : Prop := k1 + (j : Int) ≤ k2 + (if e2 ≠ 0 then 1 else 0)
theorem oneOf_more {k : Int} {l : List Pat} (h : l.length ≠ 1) : oneOf k l = mkP k 0 0 0 0 l := by
  match l, h with
  | [], _ => rfl
  | [_], h => exact absurd rfl h
  | _ :: _ :: _, _ => rfl
theorem list_one {l : List Pat} (h : l.length = 1) : ∃ p, l = [p] := List.length_eq_one_iff.1 h
/-- The list as the kids of a pattern that is answered. -/
theorem end_list {w wr : World} {l : List Pat} {v : Value} {kd : Int} (ho : PatsOwn wr (w.heap.size + 1) (fun d => w.heap.size < d) v l) (hl : l.length ≠ 1) (hb : l.length ≤ 100000) :
    PGives (fun d => w.heap.size ≤ d) (oneOf kd l) (.returned (.agg #[.int .i64 kd, .int .i64 0, .int .i64 0, .int .i64 0, .int .i64 0, v])) ((((((wr.setCell ⟨w.heap.size, 0, none⟩ (.int .i64 kd)).setCell ⟨w.heap.size, 1, none⟩ (.int .i64 0)).setCell ⟨w.heap.size, 2, none⟩ (.int .i64 0)).setCell ⟨w.heap.size, 3, none⟩ (.int .i64 0)).setCell ⟨w.heap.size, 4, none⟩ (.int .i64 0)).setCell ⟨w.heap.size, 5, none⟩ v) := by
  rw [oneOf_more hl]
  exact ⟨_, rfl, v, rfl, KidsAt.mono (set6_holds (S := fun d => w.heap.size < d) (fun h => absurd h (by omega))) (fun d h => by omega) _ _ _ (ho.kids (fun d h => by omega) (Nat.le_refl _) (by omega))⟩
theorem end_one {w wr : World} {p : Pat} {u : Value} {kd : Int} {x0 x1 x2 x3 x4 x5 : Value} (hk : KidsAt (fun d => w.heap.size < d) wr p.1 (kids p.2) u) :
    PGives (fun d => w.heap.size ≤ d) (oneOf kd [p]) (.returned (.agg #[.int .i64 (kind p.2), .int .i64 (from_ p.2), .int .i64 (to_ p.2), .int .i64 (min_ p.2), .int .i64 (max_ p.2), u])) ((((((wr.setCell ⟨w.heap.size, 0, none⟩ x0).setCell ⟨w.heap.size, 1, none⟩ x1).setCell ⟨w.heap.size, 2, none⟩ x2).setCell ⟨w.heap.size, 3, none⟩ x3).setCell ⟨w.heap.size, 4, none⟩ x4).setCell ⟨w.heap.size, 5, none⟩ x5) :=
  ⟨_, rfl, u, rfl, KidsAt.mono (set6_holds (S := fun d => w.heap.size < d) (fun h => absurd h (by omega))) (fun d h => by omega) _ _ _ hk⟩

set_option linter.unusedSimpArgs false in
set_option maxRecDepth 100000 in
set_option maxHeartbeats 4000000 in
theorem class_is (T : ByteArray) (k e f : Int) (b : Nat) (w : World) (h : RAt w b T k e f) (h0 : 0 ≤ k) (h1 : k < T.size) (hT : T.size ≤ 4096) (hP : Plain T) :
    Calls Tryz.prog 142 #[.pointer (some ⟨b, 0, none⟩)] w fun r w' => PGives (fun d => w.heap.size ≤ d) (classS T (k, e, f)).1 r w' ∧ RGave b w T (classS T (k, e, f)).2 w' := by
  have HR := hide1 h
  have HP := hide1 hP
  have hb := h.lt
  obtain ⟨c0, c1, c2, c3, c4⟩ := h.cells
  obtain ⟨z0, z1, z2, z3, z4⟩ := h.free
  have gT : (T.size : Int) ≤ 4096 := by omega
  have ok0 : OkS T (k + 1, e, f) := ⟨by show 0 ≤ k + 1; omega, by show k + 1 ≤ _; omega⟩
  have hne := (hP (k + 1)).2
  obtain ⟨c, hcc⟩ : ∃ c, peekP T (k + 1) = c := ⟨_, rfl⟩
  rw [hcc] at hne
  have HC := hide1 hcc
  have HNB : Hid ((peekP T (k + 1) == 94) = false) := by show _ = _; rw [hcc]; simpa using hne
  have okm := member_ok (T := T) (s := (k + 1, e, f)) (y := k) ok0
  obtain ⟨⟨m, k1, e1, f1⟩, hm⟩ : ∃ x, memberS T (k + 1, e, f) k = x := ⟨_, rfl⟩
  have HS : Hid (classL T (k, e, f) = classG T k 4098 [m] (k1, e1, f1)) := by show classG T k 4098 [(memberS T (k + 1, e, f) k).1] (memberS T (k + 1, e, f) k).2 = _; rw [hm]
  have HM1 := hide1 (congrArg Prod.snd hm)
  obtain ⟨x, y, hxy⟩ : ∃ x y, m = rangeP x y := ⟨_, _, (congrArg Prod.fst hm).symm⟩
  have HM2 : Hid (rangeV (oneS T (k + 1, e, f)).1 (memberE T (k + 1, e, f)).1 = .agg #[.int .i64 1, .int .i64 x, .int .i64 y, .int .i64 0, .int .i64 0, .slice none 0 0]) := by
    have h2 : rangeP (oneS T (k + 1, e, f)).1 (memberE T (k + 1, e, f)).1 = rangeP x y := (congrArg Prod.fst hm).trans hxy
    have h3 := rangeP_inj h2
    show rangeV _ _ = rangeV x y
    rw [h3.1, h3.2]
  rw [hm] at okm
  obtain ⟨ok1, _⟩ := okm
  unfold OkS at ok0 ok1
  dsimp only at ok0 ok1
  clear h hP hcc hm
  go_enter Tryz.func142, Tryz.ntmps142
  go_wp2_with (first
    | (go_at_call 133; refine (take_is T (k + 1) e f 94 b _ ((HR.out.move _).keep ((Kept.refl _).alloc _ _)) ok0.1 ok0.2 hT).mono ?_; rintro r w7 ⟨rfl, hk7, hw7⟩; rw [HNB.out]; simp [takeK, HC.out, hne] at hw7; have HBZ := hide1 (box_moved hk7 hb); have HK1 := hide1 ((setCell_but _ _ _ _).trans (but_allocd hk7)); have HW1 := hide1 hw7; clear hk7 hw7)
    | (go_at_call 148; refine (member_is T (k + 1) e f k b _ (by exact HW1.out) ok0.1 ok0.2 hT HP.out).mono ?_; rintro r w8 ⟨rfl, hg⟩; rw [HM1.out] at hg; rw [HM2.out]; obtain ⟨_, hk8, hw8⟩ := hg; have HK2 := hide1 (HK1.out.trans hk8); have HW2 := hide1 hw8; have HBZ := hide1 (HBZ.out.but hk8 (by omega)); clear hk8 hw8))
  obtain ⟨_, hxy⟩ := (⟨trivial, hxy⟩ : True ∧ m = rangeP x y)
  go_loopw [5] (fun v wr => ListR b w T (classG T k) [m] (k1, e1, f1) (classB k1) v wr) (fun _ wr => 2 * (T.size - placeOf b wr) + (if errOf b wr = 0 then 1 else 0))
  case atStart =>
    refine ⟨0, [m], k1, e1, f1, ok1.1, ok1.2, rfl, ?_, HK2.out.trans (((Kept.refl _).alloc _ _).but b), HW2.out.keep ((Kept.refl _).alloc _ _), HBZ.out.keep ((Kept.refl _).alloc _ _), ?_, fun N => by rw [Nat.zero_add]⟩
    · unfold classB; split <;> omega
    · subst hxy
      exact PatsOwn.one (u := .slice none 0 0) (BoxAt.new _ _ _ _ _ _ _) (by have := HBZ.out.lt; omega) (kids_nil _ _ _ _ _ _ rfl)
  case round =>
    clear c0 c1 c2 c3 c4 z0 z1 z2 z3 z4 hxy
    obtain ⟨j, l, k2, e2, f2, hk0, hk2, hl, hB, hKW, hW, hBZ, hOW, hM⟩ := hrel
    obtain ⟨av, cv, rfl⟩ := hOW.form
    obtain ⟨c0, c1, c2, c3, c4⟩ := hW.cells
    have HKW := hide1 hKW
    have HRr := hide1 hW
    have HW := hide1 hW
    have HBZ := hide1 hBZ
    have HOW := hide1 hOW
    have HM := hide1 hM
    have HK := hide1 (but_refl b wr)
    have hsw := hBZ.lt
    have hj : j ≤ 4097 := by unfold classB at hB; split at hB <;> omega
    have hl2 : l.length = j + 1 := by simp at hl; omega
    have HL2 := hide1 hl2
    have hl3 : l.length ≤ 4098 := by omega
    have HB := hide1 hB
    clear hKW hW hBZ hOW hM hl hB hl2
    by_cases he : e2 = 0
    · by_cases hd : peekP T k2 = 93
      · have HTK : Hid (takeK T k2 93 = k2 + 1) := by show _ = _; rw [takeK, if_pos hd]
        have HTB : Hid ((peekP T k2 == 93) = true) := by show _ = _; rw [hd]; rfl
        have hlt := (peek_lt (T := T) (k := k2) (by rw [hd]; decide)).2
        have HE : Hid (classS T (k, e, f) = (oneOf 3 l, k2 + 1, e2, f2)) := by
          show (oneOf 3 (classL T (k, e, f)).1, (classL T (k, e, f)).2) = _
          rw [HS.out, show 4098 = j + (4097 - j + 1) by omega, HM.out]
          simp [classG, he, hd]
        clear hd
        by_cases hl1 : l.length = 1
        · obtain ⟨q, rfl⟩ := list_one hl1
          obtain ⟨g, hgv, hcv⟩ := HOW.out.nonnil
          subst hgv
          have hcv2 : (1 : Int) ≤ (cv : Int) := by omega
          clear hl1 hcv HL2 hl3
          go_wp2_with (first
            | (go_at_call 133; refine (take_is T k2 _ f2 93 b _ (by exact HW.out) hk0 hk2 hT).mono ?_; rintro r w7 ⟨rfl, hk7, hw7⟩; rw [HTB.out]; rw [HTK.out] at hw7; have HK := hide1 (HK.out.trans hk7); have HW := hide1 hw7; have HBZ := hide1 (HBZ.out.but hk7 (by omega)); have HOW := hide1 (HOW.out.but hk7 (by omega) (by omega)); obtain ⟨u, ⟨m0, m1, m2, m3, m4, m5⟩, hu⟩ := HOW.out.one_facts; have HU := hide1 hu; obtain ⟨ua, uc, rfl⟩ := hu.form; clear hu; obtain ⟨⟨p0, p1, p2, p3, p4, p5⟩, x0, x1, x2, x3, x4, x5⟩ := HBZ.out.facts;  clear hk7 hw7))
          (try simp only [Exit.inBlock, Exit.then])
          refine bodyPost_ret (box_returns rfl _ _ w.heap.size _ _ _ _ _ _ rfl (BoxAt.set HBZ.out)) rfl ?_
          rw [HE.out]
          refine ⟨end_one (kd := 3) HU.out, ⟨by show 0 ≤ k2 + 1; omega, by show k2 + 1 ≤ _; omega⟩, fin_but (HKW.out.trans HK.out) (by omega), HW.out.fin (by omega)⟩
        · have HL1 := hide1 hl1
          have hl1a : ¬ (l.length : Int) = 1 := by omega
          have hl1b : ¬ (l.length : Int) = 0 := by have := HL2.out; omega
          clear hl1
          go_wp2_with (first
            | (go_at_call 133; refine (take_is T k2 _ f2 93 b _ (by exact HW.out) hk0 hk2 hT).mono ?_; rintro r w7 ⟨rfl, hk7, hw7⟩; rw [HTB.out]; rw [HTK.out] at hw7; have HK := hide1 (HK.out.trans hk7); have HW := hide1 hw7; have HBZ := hide1 (HBZ.out.but hk7 (by omega)); have HOW := hide1 (HOW.out.but hk7 (by omega) (by omega)); obtain ⟨⟨p0, p1, p2, p3, p4, p5⟩, x0, x1, x2, x3, x4, x5⟩ := HBZ.out.facts;  clear hk7 hw7))
          (try simp only [Exit.inBlock, Exit.then])
          refine bodyPost_ret (box_returns rfl _ _ w.heap.size _ _ _ _ _ _ rfl (BoxAt.set HBZ.out)) rfl ?_
          rw [HE.out]
          refine ⟨end_list (kd := 3) HOW.out HL1.out (by omega), ⟨by show 0 ≤ k2 + 1; omega, by show k2 + 1 ≤ _; omega⟩, fin_but (HKW.out.trans HK.out) (by omega), HW.out.fin (by omega)⟩
      · have HTK : Hid (takeK T k2 93 = k2) := by show _ = _; rw [takeK, if_neg hd]
        have HTB : Hid ((peekP T k2 == 93) = false) := by show _ = _; simpa using hd
        have okm := member_ok (T := T) (s := (k2, e2, f2)) (y := k) ⟨hk0, hk2⟩
        have HST : Hid (∀ N, classG T k (N + 1) l (k2, e2, f2) = classG T k N (l ++ [(memberS T (k2, e2, f2) k).1]) (memberS T (k2, e2, f2) k).2) := fun N => by simp [classG, he, hd]
        obtain ⟨⟨m3, k3, e3, f3⟩, hm⟩ : ∃ x, memberS T (k2, e2, f2) k = x := ⟨_, rfl⟩
        rw [hm] at okm HST
        have HM1 := hide1 (congrArg Prod.snd hm)
        obtain ⟨x, y, hxy⟩ : ∃ x y, m3 = rangeP x y := ⟨_, _, (congrArg Prod.fst hm).symm⟩
        have HM2 : Hid (rangeV (oneS T (k2, e2, f2)).1 (memberE T (k2, e2, f2)).1 = .agg #[.int .i64 1, .int .i64 x, .int .i64 y, .int .i64 0, .int .i64 0, .slice none 0 0]) := by
          have h2 : rangeP (oneS T (k2, e2, f2)).1 (memberE T (k2, e2, f2)).1 = rangeP x y := (congrArg Prod.fst hm).trans hxy
          have h3 := rangeP_inj h2
          show rangeV _ _ = rangeV x y
          rw [h3.1, h3.2]
        obtain ⟨ok3, hge3, hgo3⟩ := okm
        unfold OkS at ok3
        dsimp only at ok3 hge3 hgo3 HST
        subst hxy
        subst he
        clear hm hd
        go_wp2_with (first
          | (go_at_call 133; refine (take_is T k2 _ f2 93 b _ (by exact HW.out) hk0 hk2 hT).mono ?_; rintro r w7 ⟨rfl, hk7, hw7⟩; rw [HTB.out]; rw [HTK.out] at hw7; have HK := hide1 (HK.out.trans hk7); have HW := hide1 hw7; have HBZ := hide1 (HBZ.out.but hk7 (by omega)); have HOW := hide1 (HOW.out.but hk7 (by omega) (by omega));  clear hk7 hw7)
          | (go_at_call 148; refine (member_is T k2 _ f2 k b _ (by exact HW.out) hk0 hk2 hT HP.out).mono ?_; rintro r w8 ⟨rfl, hg⟩; rw [HM1.out] at hg; rw [HM2.out]; obtain ⟨_, hk8, hw8⟩ := hg; have HK := hide1 (HK.out.trans hk8); have HW := hide1 hw8; have HBZ := hide1 (HBZ.out.but hk8 (by omega)); have HOW := hide1 (HOW.out.but hk8 (by omega) (by omega)); clear hk8 hw8)
          | (at_builtin; go_must (refine wpl_append_pat rfl _ _ rfl _ (w.heap.size + 1) (fun d => w.heap.size < d) _ l l.length rfl (by rfl) (HOW.out.keep ((Kept.refl _).alloc _ _)) _ (rangeP x y) (.slice none 0 0) (by rfl) (BoxAt.new _ _ _ _ _ _ _) (kids_nil _ _ _ _ _ _ rfl) (by omega) (by have := HBZ.out.lt; simp; omega) ?_; intro g9 c9 w9 ho9 hg9; have HK := hide1 (KeptBut.grown (HKW.out.trans (HK.out.trans (((Kept.refl _).alloc _ _).but b))) (HOW.out.keep ((Kept.refl _).alloc _ _)) (by omega) hg9); have HW := hide1 (show RAt w9 b T _ _ _ from (heap_grown (HOW.out.keep ((Kept.refl _).alloc _ _)) hg9 (by omega) (by have := HW.out.lt; simp; omega)).trans (HW.out.keep ((Kept.refl _).alloc _ _))); have HBZ := hide1 (show BoxAt w9 _ _ _ _ _ _ _ from (heap_grown (HOW.out.keep ((Kept.refl _).alloc _ _)) hg9 (by omega) (by have := HBZ.out.lt; simp; omega)).trans (HBZ.out.keep ((Kept.refl _).alloc _ _))); have HOW := hide1 ho9; clear ho9 hg9)))
        go_roundw
        case rel =>
          refine ⟨j + 1, l ++ [rangeP x y], k3, e3, f3, ok3.1, ok3.2, by have := HL2.out; simp; omega, ?_, HK.out, HW.out, HBZ.out, HOW.out, fun N => ?_⟩
          · have h := HB.out
            unfold classB at h ⊢
            simp at h
            split <;> omega
          · rw [show j + 1 + N = j + (N + 1) by omega, HM.out, HST.out]
        case measure =>
          rw [HW.out.place, HRr.out.place, HW.out.err, HRr.out.err]
          simp
          split <;> omega
    · have HE : Hid (classS T (k, e, f) = (oneOf 3 l, k2, e2, f2)) := by
        show (oneOf 3 (classL T (k, e, f)).1, (classL T (k, e, f)).2) = _
        have e1 : ∀ N, classG T k N l (k2, e2, f2) = (l, k2, e2, f2) := fun N => by cases N <;> simp [classG, he]
        rw [HS.out, show 4098 = j + (4098 - j) by omega, HM.out, e1]
      by_cases hl1 : l.length = 1
      · obtain ⟨q, rfl⟩ := list_one hl1
        obtain ⟨g, hgv, hcv⟩ := HOW.out.nonnil
        subst hgv
        have hcv2 : (1 : Int) ≤ (cv : Int) := by omega
        clear hl1 hcv HL2 hl3
        obtain ⟨u, ⟨m0, m1, m2, m3, m4, m5⟩, hu⟩ := HOW.out.one_facts; have HU := hide1 hu; obtain ⟨ua, uc, rfl⟩ := hu.form; clear hu
        obtain ⟨⟨p0, p1, p2, p3, p4, p5⟩, x0, x1, x2, x3, x4, x5⟩ := HBZ.out.facts
        go_wp2_with fail
        (try simp only [Exit.inBlock, Exit.then])
        refine bodyPost_ret (box_returns rfl _ _ w.heap.size _ _ _ _ _ _ rfl (BoxAt.set HBZ.out)) rfl ?_
        rw [HE.out]
        refine ⟨end_one (kd := 3) HU.out, ⟨by show 0 ≤ k2; omega, by show k2 ≤ _; omega⟩, fin_but (HKW.out.trans HK.out) (by omega), HW.out.fin (by omega)⟩
      · have HL1 := hide1 hl1
        have hl1a : ¬ (l.length : Int) = 1 := by omega
        have hl1b : ¬ (l.length : Int) = 0 := by have := HL2.out; omega
        clear hl1
        obtain ⟨⟨p0, p1, p2, p3, p4, p5⟩, x0, x1, x2, x3, x4, x5⟩ := HBZ.out.facts
        go_wp2_with fail
        (try simp only [Exit.inBlock, Exit.then])
        refine bodyPost_ret (box_returns rfl _ _ w.heap.size _ _ _ _ _ _ rfl (BoxAt.set HBZ.out)) rfl ?_
        rw [HE.out]
        refine ⟨end_list (kd := 3) HOW.out HL1.out (by omega), ⟨by show 0 ≤ k2; omega, by show k2 ≤ _; omega⟩, fin_but (HKW.out.trans HK.out) (by omega), HW.out.fin (by omega)⟩

end Ex
end Go.Proofs.YtbnchnlogikecaaGreatDoor
