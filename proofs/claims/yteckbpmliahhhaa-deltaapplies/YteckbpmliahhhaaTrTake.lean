import Derived.Test.YteckbpmliahhhaaTrOwn
import Derived.Deep.AppendLies
import Derived.Laws.MakeOwn
import Derived.OwnWalk
namespace Go.Proofs.Yteckbpmliahhhaa
open Go.RowKit
attribute [local go_sem] Oper.semAt_some
namespace Ex
namespace Tr

theorem kid_info : (Try.prog.info? 100).map (fun i => (i.zero, i.size, i.bytes)) = some (some (.agg #[.pointer none, .int .i64 0]), 2, 16) := by kernel_rfl
theorem info_parts {P : Program} {e : TypeId} {z : Value} {s b : Nat} (h : (P.info? e).map (fun i => (i.zero, i.size, i.bytes)) = some (some z, s, b)) : ∃ i, P.info? e = some i ∧ i.zero = some z ∧ i.size = s ∧ i.bytes = b := by
  obtain ⟨i, hi, h2⟩ := Option.map_eq_some_iff.1 h
  simp only [Prod.mk.injEq] at h2
  exact ⟨i, hi, h2.1, h2.2.1, h2.2.2⟩
/-- Pairs of a block and a number, as cells. -/
def flatK (l : List (Nat × Nat)) : List Value := l.flatMap fun q => [.pointer (some ⟨q.1, 0, none⟩), .int .i64 (q.2 : Int)]
theorem flatK_len (l : List (Nat × Nat)) : (flatK l).length = l.length * 2 := by
  induction l with
  | nil => rfl
  | cons q l ih => unfold flatK at ih ⊢; simp only [List.flatMap_cons, List.length_append, ih, List.length_cons, List.length_nil]; omega
theorem flatK_app (l : List (Nat × Nat)) (q : Nat × Nat) : flatK (l ++ [q]) = flatK l ++ [.pointer (some ⟨q.1, 0, none⟩), .int .i64 (q.2 : Int)] := by unfold flatK; simp
theorem flatK_at : ∀ (l : List (Nat × Nat)) (i : Nat) (q : Nat × Nat), l[i]? = some q → (flatK l)[i * 2]? = some (.pointer (some ⟨q.1, 0, none⟩)) ∧ (flatK l)[i * 2 + 1]? = some (.int .i64 (q.2 : Int))
  | [], i, q, h => by simp at h
  | p :: l, 0, q, h => by
    simp only [List.getElem?_cons_zero, Option.some.injEq] at h
    subst h
    exact ⟨rfl, rfl⟩
  | p :: l, i + 1, q, h => by
    have := flatK_at l i q (by simpa using h)
    have e : flatK (p :: l) = (.pointer (some ⟨p.1, 0, none⟩)) :: (.int .i64 (p.2 : Int)) :: flatK l := rfl
    rw [e, show (i + 1) * 2 = i * 2 + 2 by omega]
    exact this
/-- A list of children under construction, of the call's own. -/
def KOwn (w : World) (base : Nat) (kv : Value) (l : List (Nat × Nat)) : Prop := w.ownsRow base 100 2 kv l.length (flatK l)
theorem KOwn.form {w : World} {base : Nat} {kv : Value} {l : List (Nat × Nat)} (h : KOwn w base kv l) : ∃ a c, kv = .slice a l.length c := by
  rcases h.2 with ⟨rfl, h0⟩ | ⟨g, cap, cur, rfl, _⟩
  · exact ⟨none, 0, by rw [h0]⟩
  · exact ⟨_, _, rfl⟩
theorem heap_alloc_old (w : World) (o : Obj) {k : Nat} (h : k < w.heap.size) : (w.alloc o).heap[k]? = w.heap[k]? := Below.heap_alloc _ _ _ h
theorem cell_alloc_old (w : World) (o : Obj) {k j : Nat} (h : k < w.heap.size) : (w.alloc o).cell? ⟨k, j, none⟩ = w.cell? ⟨k, j, none⟩ := World.cell?_of_block (w := w) (a := ⟨k, j, none⟩) (heap_alloc_old w o h)
theorem alloc_le (w : World) (o : Obj) : w.heap.size ≤ (w.alloc o).heap.size := by simp
theorem owns_same {w w' : World} {base size n : Nat} {e : TypeId} {v : Value} {xs : List Value} (h : w.ownsRow base e size v n xs) (hh : ∀ g, v.ownBlock = some g → w'.heap[g]? = w.heap[g]?) : w'.ownsRow base e size v n xs := by
  refine ⟨h.1, ?_⟩
  rcases h.2 with h0 | ⟨g, cap, cur, rfl, h1, h2, h3⟩
  · exact .inl h0
  · exact .inr ⟨g, cap, cur, rfl, h1, by rw [hh g rfl]; exact h2, h3⟩
theorem row_cells {w : World} {g n : Nat} {cur : Array Value} {xs : List Value} {t : TypeId} (h : w.heap[g]? = some (.cells cur t (0, 0))) (hx : cur.toList.take n = xs) : ∀ j u, xs[j]? = some u → w.cell? ⟨g, j, none⟩ = some u := by
  intro j u hj
  rw [← hx, List.getElem?_take] at hj
  split at hj
  · unfold World.cell?
    simp only [h]
    simpa using hj
  · cases hj
/-- What was made is a row of children. -/
theorem KOwn.row {w : World} {base B : Nat} {kv : Value} {l : List (Nat × Nat)} (h : KOwn w base kv l) (hl : l.length ≤ 4194304) (hB : ∀ g, kv.ownBlock = some g → g < B) : KidRow B w kv l := by
  rcases h.2 with ⟨rfl, h0⟩ | ⟨g, cap, cur, rfl, hb, hg, hc, _, _, hx⟩
  · have : l = [] := List.length_eq_zero_iff.1 h0
    subst this
    exact ⟨none, 0, rfl, Nat.le_refl _, by simp, Or.inl rfl⟩
  · refine ⟨_, cap, rfl, hc, hl, Or.inr ⟨g, rfl, hB g rfl, fun i q hq => ?_⟩⟩
    have hr := row_cells hg hx
    exact ⟨hr _ _ (flatK_at l i q hq).1, hr _ _ (flatK_at l i q hq).2⟩
/-- A node under construction. -/
def RawAt (w : World) (b : Nat) (kd n : Int) (kv : Value) (wd lf sz : Nat) (fl : Bool) : Prop := w.heap[b]? = some (.cells #[.pointer none, .int .i64 0, .int .i64 kd, .int .i64 n, .int .i64 0, .int .i64 0, .int .i64 0, .int .i64 0, kv, .int .i64 (wd : Int), .int .i64 (lf : Int), .int .i64 (sz : Int), .bool fl] 88 (0, 0))
theorem RawAt.lt {w : World} {b : Nat} {kd n : Int} {kv : Value} {wd lf sz : Nat} {fl : Bool} (h : RawAt w b kd n kv wd lf sz fl) : b < w.heap.size := (Array.getElem?_eq_some_iff.1 h).1
theorem RawAt.cells {w : World} {b : Nat} {kd n : Int} {kv : Value} {wd lf sz : Nat} {fl : Bool} (h : RawAt w b kd n kv wd lf sz fl) : w.cell? ⟨b, 8, none⟩ = some kv ∧ w.cell? ⟨b, 9, none⟩ = some (.int .i64 (wd : Int)) ∧ w.cell? ⟨b, 10, none⟩ = some (.int .i64 (lf : Int)) ∧ w.cell? ⟨b, 11, none⟩ = some (.int .i64 (sz : Int)) ∧ w.cell? ⟨b, 12, none⟩ = some (.bool fl) ∧
    w.frozen? ⟨b, 8, none⟩ = false ∧ w.frozen? ⟨b, 9, none⟩ = false ∧ w.frozen? ⟨b, 10, none⟩ = false ∧ w.frozen? ⟨b, 11, none⟩ = false ∧ w.frozen? ⟨b, 12, none⟩ = false := by
  unfold RawAt at h
  refine ⟨?_, ?_, ?_, ?_, ?_, ?_, ?_, ?_, ?_, ?_⟩ <;> simp [World.cell?, World.frozen?, h]
section
variable {w : World} {b : Nat} {kd n : Int} {kv : Value} {wd lf sz : Nat} {fl : Bool}
theorem RawAt.setK (h : RawAt w b kd n kv wd lf sz fl) (v : Value) : RawAt (w.setCell ⟨b, 8, none⟩ v) b kd n v wd lf sz fl := by
  have hl := h.lt
  unfold RawAt at h ⊢
  have he := Option.some.inj ((Array.getElem?_eq_getElem hl).symm.trans h)
  simp [World.setCell, Array.getElem_modify, hl, he]
theorem RawAt.setW (h : RawAt w b kd n kv wd lf sz fl) (v : Nat) : RawAt (w.setCell ⟨b, 9, none⟩ (.int .i64 (v : Int))).drew b kd n kv v lf sz fl := by
  show RawAt (w.setCell ⟨b, 9, none⟩ (.int .i64 (v : Int))) b _ _ _ _ _ _ _
  have hl := h.lt
  unfold RawAt at h ⊢
  have he := Option.some.inj ((Array.getElem?_eq_getElem hl).symm.trans h)
  simp [World.setCell, Array.getElem_modify, hl, he]
theorem RawAt.setL (h : RawAt w b kd n kv wd lf sz fl) (v : Nat) : RawAt (w.setCell ⟨b, 10, none⟩ (.int .i64 (v : Int))).drew b kd n kv wd v sz fl := by
  show RawAt (w.setCell ⟨b, 10, none⟩ (.int .i64 (v : Int))) b _ _ _ _ _ _ _
  have hl := h.lt
  unfold RawAt at h ⊢
  have he := Option.some.inj ((Array.getElem?_eq_getElem hl).symm.trans h)
  simp [World.setCell, Array.getElem_modify, hl, he]
theorem RawAt.setS (h : RawAt w b kd n kv wd lf sz fl) (v : Nat) : RawAt (w.setCell ⟨b, 11, none⟩ (.int .i64 (v : Int))).drew b kd n kv wd lf v fl := by
  show RawAt (w.setCell ⟨b, 11, none⟩ (.int .i64 (v : Int))) b _ _ _ _ _ _ _
  have hl := h.lt
  unfold RawAt at h ⊢
  have he := Option.some.inj ((Array.getElem?_eq_getElem hl).symm.trans h)
  simp [World.setCell, Array.getElem_modify, hl, he]
theorem RawAt.setF (h : RawAt w b kd n kv wd lf sz fl) (v : Bool) : RawAt (w.setCell ⟨b, 12, none⟩ (.bool v)) b kd n kv wd lf sz v := by
  have hl := h.lt
  unfold RawAt at h ⊢
  have he := Option.some.inj ((Array.getElem?_eq_getElem hl).symm.trans h)
  simp [World.setCell, Array.getElem_modify, hl, he]
end
/-- What taking a child leaves: all but the node's block and its list's. -/
def TK (b : Nat) (g : Option Nat) (w w' : World) : Prop := w'.os = w.os ∧ w'.tape = w.tape ∧ w'.output = w.output ∧ w.heap.size ≤ w'.heap.size ∧ ∀ d, d < w.heap.size → d ≠ b → some d ≠ g → w'.heap[d]? = w.heap[d]?
theorem TK.but {b : Nat} {g : Option Nat} {u v w : World} (h : TK b g u v) (k : KeptBut b v w) : TK b g u w :=
  ⟨k.1.trans h.1, k.2.1.trans h.2.1, k.2.2.1.trans h.2.2.1, Nat.le_trans h.2.2.2.1 k.2.2.2.1, fun d h1 h2 h3 => (k.2.2.2.2 d (Nat.lt_of_lt_of_le h1 h.2.2.2.1) h2).trans (h.2.2.2.2 d h1 h2 h3)⟩
/-- The node under construction with its list; its list lies in g or in a block from H on. -/
def TakeE (w : World) (base b : Nat) (kd n : Int) (wd lf sz : Nat) (fl : Bool) (l : List (Nat × Nat)) (g : Option Nat) (H : Nat) : Prop := ∃ kv, RawAt w b kd n kv wd lf sz fl ∧ KOwn w base kv l ∧ (kv.ownBlock = g ∨ ∃ h, kv.ownBlock = some h ∧ H ≤ h)
def TkS (B base b k : Nat) (g0 : Option Nat) (l : List (Nat × Nat)) (x : Nd) (kv : Value) (w W : World) : Prop := KOwn W base kv l ∧ TK b g0 w W ∧ NodeAt B W k x
theorem TkS.set {B base b k : Nat} {g0 : Option Nat} {l : List (Nat × Nat)} {x : Nd} {kv : Value} {w W : World} (h : TkS B base b k g0 l x kv w W) (hb : b < base) (hB : B ≤ b) (o : Nat) (v : Value) : TkS B base b k g0 l x kv w (W.setCell ⟨b, o, none⟩ v).drew := by
  have hk : KeptBut b W (W.setCell ⟨b, o, none⟩ v).drew := (setCell_but W b o v).trans ((drew_kept _).tbut b)
  have hs : ∀ d, d ≠ b → (W.setCell ⟨b, o, none⟩ v).drew.heap[d]? = W.heap[d]? := fun d hd => Below.heap_setCell _ _ _ _ hd
  exact ⟨owns_same h.1 (fun d hd => hs d (by have := (h.1.lt d hd).1; omega)), h.2.1.but hk, h.2.2.kb ⟨hk.2.2.2.1, fun d hd => hs d (by omega)⟩⟩
theorem TkS.set0 {B base b k : Nat} {g0 : Option Nat} {l : List (Nat × Nat)} {x : Nd} {kv : Value} {w W : World} (h : TkS B base b k g0 l x kv w W) (hb : b < base) (hB : B ≤ b) (o : Nat) (v : Value) : TkS B base b k g0 l x kv w (W.setCell ⟨b, o, none⟩ v) := by
  have hk : KeptBut b W (W.setCell ⟨b, o, none⟩ v) := setCell_but W b o v
  have hs : ∀ d, d ≠ b → (W.setCell ⟨b, o, none⟩ v).heap[d]? = W.heap[d]? := fun d hd => Below.heap_setCell _ _ _ _ hd
  exact ⟨owns_same h.1 (fun d hd => hs d (by have := (h.1.lt d hd).1; omega)), h.2.1.but hk, h.2.2.kb ⟨hk.2.2.2.1, fun d hd => hs d (by omega)⟩⟩
theorem step_kid {ops : Array Oper} {o : Oper} {a : Act} {K : Act → World → Prop} {Q : Exit → Act → World → Prop} {E : Prop} (hgd : o.guard = none) (s x : Operand) (ho : o.op = .call { callee := .builtin .append, args := #[s, x], argTypes := #[86, 86] }) (w : World)
    (base : Nat) (v : Value) (l : List (Nat × Nat)) (m : Nat) (hm : l.length = m) (hs : a.eval s = v) (hown : KOwn w base v l) (lb k wd : Nat) (hx : a.eval x = .slice (some ⟨lb, 0, none⟩) 1 1) (hbx : w.heap[lb]? = some (.cells #[.pointer (some ⟨k, 0, none⟩), .int .i64 (wd : Int)] 100 (0, 0))) (hl : l.length ≤ 4194304) (hbase : base ≤ w.heap.size)
    (h : ∀ g cap w', KOwn w' base (.slice (some ⟨g, 0, none⟩) (m + 1) cap) (l ++ [(k, wd)]) → w.grownBy w' v.ownBlock → (v.ownBlock = some g ∨ g = w.heap.size) → g < w'.heap.size → K (a.put o.dst (.slice (some ⟨g, 0, none⟩) (m + 1) cap)) w') :
    if Region.wanted o (yielded ops a.tmps) = true then Oper.wp Try.prog o a w K Q else E := by
  obtain ⟨i0, hi, hz0, hz1, hz2⟩ := info_parts kid_info
  subst hm
  refine step_append_lies w hgd s x 86 ho base 100 i0 _ 2 16 Try.underlying86 hi hz0 hz1 hz2 rfl (by decide) v l.length (flatK l) hs hown ⟨lb, 0, none⟩ 1 1 [.pointer (some ⟨k, 0, none⟩), .int .i64 (wd : Int)] hx rfl ?_ ?_ (by decide) (by unfold maxLen; omega) (by omega) hbase w.heap.size rfl ?_
  · intro j y hj
    have hj2 : j < 2 := (List.getElem?_eq_some_iff.1 hj).1
    match j, hj2 with
    | 0, _ => rw [← hj]; simp [World.cell?, Addr.add, hbx]
    | 1, _ => rw [← hj]; simp [World.cell?, Addr.add, hbx]
  · intro u hu
    simp only [List.mem_cons, List.not_mem_nil, or_false] at hu
    rcases hu with rfl | rfl <;> rfl
  · intro g cap w' h1 h2 h3 h4
    refine h g cap w' ?_ h2 h3 h4
    unfold KOwn
    rw [flatK_app, List.length_append]
    exact h1

set_option linter.unusedSimpArgs false in
set_option maxRecDepth 100000 in
set_option maxHeartbeats 4000000 in
theorem take_is (B base b k : Nat) (kd n : Int) (kv : Value) (wd lf sz : Nat) (fl : Bool) (l : List (Nat × Nat)) (x : Nd) (w : World) (hr : RawAt w b kd n kv wd lf sz fl) (ho : KOwn w base kv l) (hx : NodeAt B w k x) (hb : b < base) (hB : B ≤ b) (hbase : base ≤ w.heap.size) (hl : l.length < 4194304)
    (g0 : wd ≤ 2305843009213693952) (g1 : lf ≤ 2305843009213693952) (g2 : sz ≤ 2305843009213693952) (g3 : x.width ≤ 2305843009213693952) (g4 : x.leafs ≤ 2305843009213693952) (g5 : x.size ≤ 2305843009213693952) :
    Calls Try.prog 34 #[.pointer (some ⟨b, 0, none⟩), .pointer (some ⟨k, 0, none⟩)] w fun e w' => e = .returned (.tuple #[]) ∧ TakeE w' base b kd n (wd + x.width) (lf + x.leafs) (sz + x.size) (fl || x.failed) (l ++ [(k, wd)]) kv.ownBlock w.heap.size ∧ TK b kv.ownBlock w w' := by
  obtain ⟨c8, c9, c10, c11, c12, z8, z9, z10, z11, z12⟩ := hr.cells
  have hbl := hr.lt
  have HR := hide1 hr
  have HO := hide1 ho
  have HX := hide1 hx
  obtain ⟨ka, kc, rfl⟩ := ho.form
  obtain ⟨m, hm⟩ : ∃ m, l.length = m := ⟨_, rfl⟩
  have HM := hide1 hm
  rw [hm] at c8 HR HO hl
  rw [hm]
  clear hr ho hx hm
  go_enter Try.func34, Try.ntmps34
  go_upto_region 0 with fail
  refine wp_region_held_drew (S := fun w' => w'.cell? ⟨b, 9, none⟩ = some (.int .i64 (wd : Int))) (by kernel_rfl) c9 (fun hHeld => ?_)
  refine wpAnyH_take (i := 0) (v := .pointer (some ⟨b, 0, none⟩)) rfl (by kernel_rfl) (by kernel_rfl) (by kernel_rfl) (fun _ _ _ h => h) (Or.inl ⟨by rfl, fun w' hSw => ?_⟩) (by with_reducible assumption) ?_
  · clear hSw
    go_simp
  try simp only [Act.put, List.setIfInBounds_toArray, List.set_cons_zero, List.set_cons_succ]
  refine wpAnyH_take (i := 1) (v := .pointer (some ⟨b, 0, none⟩)) rfl (by kernel_rfl) (by kernel_rfl) (by kernel_rfl) (fun _ _ _ h => h) (Or.inl ⟨by rfl, fun w' hSw => ?_⟩) (by with_reducible assumption) ?_
  · clear hSw
    go_simp
  try simp only [Act.put, List.setIfInBounds_toArray, List.set_cons_zero, List.set_cons_succ]
  refine wpAnyH_take (i := 2) (v := .pointer (some ⟨b, 0, none⟩)) rfl (by kernel_rfl) (by kernel_rfl) (by kernel_rfl) (fun _ _ _ h => h) (Or.inl ⟨by rfl, fun w' hSw => ?_⟩) (by with_reducible assumption) ?_
  · clear hSw
    go_simp
  try simp only [Act.put, List.setIfInBounds_toArray, List.set_cons_zero, List.set_cons_succ]
  refine wpAnyH_take (i := 3) (v := .pointer (some ⟨b, 8, none⟩)) rfl (by kernel_rfl) (by kernel_rfl) (by kernel_rfl) (fun _ _ _ h => h) (Or.inl ⟨by rfl, fun w' hSw => ?_⟩) (by with_reducible assumption) ?_
  · clear hSw
    go_simp
  try simp only [Act.put, List.setIfInBounds_toArray, List.set_cons_zero, List.set_cons_succ]
  refine wpAnyH_take (i := 5) (v := .pointer (some ⟨k, 0, none⟩)) rfl (by kernel_rfl) (by kernel_rfl) (by kernel_rfl) (fun _ _ _ h => h) (Or.inl ⟨by rfl, fun w' hSw => ?_⟩) (by with_reducible assumption) ?_
  · clear hSw
    go_simp
  try simp only [Act.put, List.setIfInBounds_toArray, List.set_cons_zero, List.set_cons_succ]
  refine wpAnyH_take (i := 6) (v := .pointer (some ⟨b, 0, none⟩)) rfl (by kernel_rfl) (by kernel_rfl) (by kernel_rfl) (fun _ _ _ h => h) (Or.inl ⟨by rfl, fun w' hSw => ?_⟩) (by with_reducible assumption) ?_
  · clear hSw
    go_simp
  try simp only [Act.put, List.setIfInBounds_toArray, List.set_cons_zero, List.set_cons_succ]
  refine wpAnyH_take (i := 7) (v := .pointer (some ⟨b, 0, none⟩)) rfl (by kernel_rfl) (by kernel_rfl) (by kernel_rfl) (fun _ _ _ h => h) (Or.inl ⟨by rfl, fun w' hSw => ?_⟩) (by with_reducible assumption) ?_
  · clear hSw
    go_simp
  try simp only [Act.put, List.setIfInBounds_toArray, List.set_cons_zero, List.set_cons_succ]
  refine wpAnyH_take (i := 8) (v := .pointer (some ⟨b, 9, none⟩)) rfl (by kernel_rfl) (by kernel_rfl) (by kernel_rfl) (fun _ _ _ h => h) (Or.inl ⟨by rfl, fun w' hSw => ?_⟩) (by with_reducible assumption) ?_
  · clear hSw
    go_simp
  try simp only [Act.put, List.setIfInBounds_toArray, List.set_cons_zero, List.set_cons_succ]
  refine wpAnyH_take (i := 9) (v := .int .i64 (wd : Int)) rfl (by kernel_rfl) (by kernel_rfl) (by kernel_rfl) (fun _ _ _ h => h) (Or.inl ⟨by rfl, fun w' hSw => ?_⟩) (by with_reducible assumption) ?_
  · have q9 := hSw
    clear hSw
    dsimp only at q9
    go_simp
  try simp only [Act.put, List.setIfInBounds_toArray, List.set_cons_zero, List.set_cons_succ]
  refine wpAnyH_take (i := 10) (v := .agg #[.pointer (some ⟨k, 0, none⟩), .int .i64 (wd : Int)]) rfl (by kernel_rfl) (by kernel_rfl) (by kernel_rfl) (fun _ _ _ h => h) (Or.inl ⟨by rfl, fun w' hSw => ?_⟩) (by with_reducible assumption) ?_
  · clear hSw
    go_simp
  try simp only [Act.put, List.setIfInBounds_toArray, List.set_cons_zero, List.set_cons_succ]
  refine wpAnyH_ready (rs := [4, 11]) (by kernel_rfl) (by simp) ?_
  refine AllReadyH.cons (i := 4) rfl (fun K hK => ?_) (AllReadyH.cons (i := 11) rfl (fun K hK => ?_) AllReadyH.nil)
  · go_simp
    refine hK.out _ _ c9 (fun hHeld2 => ?_)
    clear hK K
    try simp only [Act.put, List.setIfInBounds_toArray, List.set_cons_zero, List.set_cons_succ]
    refine wpAnyH_ready (rs := [11]) (by kernel_rfl) (by simp) ?_
    refine AllReadyH.cons (i := 11) rfl (fun K hK => ?_) AllReadyH.nil
    go_simp
    refine hK.out _ _ (by exact (cell_alloc_old w _ hbl).trans c9) (fun hHeld3 => ?_)
    clear hK K
    try simp only [Act.put, List.setIfInBounds_toArray, List.set_cons_zero, List.set_cons_succ]
    refine wpAnyH_ready (rs := [12]) (by kernel_rfl) (by simp) ?_
    refine AllReadyH.cons (i := 12) rfl (fun K hK => ?_) AllReadyH.nil
    refine step_kid rfl _ _ rfl _ base _ l m HM.out (by rfl) (owns_same HO.out (fun d hd => heap_alloc_old w _ (HO.out.lt d hd).2)) w.heap.size k wd (by rfl) (World.alloc_heap_new w _) (by have := HM.out; omega) (by exact Nat.le_trans hbase (alloc_le w _)) ?_
    intro g9 c9' w9 ho9 hg9 hor9 hlt9
    have hb9 := hg9.block b (by simp; omega) (fun e => by have := (HO.out.lt b e.symm).1; omega)
    have hb9' : w9.heap[b]? = w.heap[b]? := hb9.trans (heap_alloc_old w _ hbl)
    have hr9 : RawAt w9 b kd n (.slice ka m kc) wd lf sz fl := hb9'.trans HR.out
    refine hK.out _ _ (hr9.cells.2.1) (fun hHeld9 => ?_)
    clear hK K
    try simp only [Act.put, List.setIfInBounds_toArray, List.set_cons_zero, List.set_cons_succ]
    refine wpAnyH_take (i := 13) (v := .pointer (some ⟨b, 0, none⟩)) rfl (by kernel_rfl) (by kernel_rfl) (by kernel_rfl) (fun _ _ _ h => h) (Or.inl ⟨by rfl, fun w' hSw => ?_⟩) (by with_reducible assumption) ?_
    · clear hSw
      go_simp
    try simp only [Act.put, List.setIfInBounds_toArray, List.set_cons_zero, List.set_cons_succ]
    refine wpAnyH_take (i := 14) (v := .pointer (some ⟨b, 8, none⟩)) rfl (by kernel_rfl) (by kernel_rfl) (by kernel_rfl) (fun _ _ _ h => h) (Or.inl ⟨by rfl, fun w' hSw => ?_⟩) (by with_reducible assumption) ?_
    · clear hSw
      go_simp
    try simp only [Act.put, List.setIfInBounds_toArray, List.set_cons_zero, List.set_cons_succ]
    refine wpAnyH_ready (rs := [15]) (by kernel_rfl) (by simp) ?_
    refine AllReadyH.cons (i := 15) rfl (fun K hK => ?_) AllReadyH.nil
    obtain ⟨y8, y9, y10, y11, y12, v8, v9, v10, v11, v12⟩ := hr9.cells
    have hbl9 := hr9.lt
    have HRA := hide1 (hr9.setK (.slice (some ⟨g9, 0, none⟩) (m + 1) c9'))
    have HOA : Hid (KOwn (w9.setCell ⟨b, 8, none⟩ (.slice (some ⟨g9, 0, none⟩) (m + 1) c9')) base (.slice (some ⟨g9, 0, none⟩) (m + 1) c9') (l ++ [(k, wd)])) := owns_same ho9 (fun d hd => Below.heap_setCell _ _ _ _ (show d ≠ b by have := (ho9.lt d hd).1; omega))
    have HTA : Hid (TK b (Value.slice ka m kc).ownBlock w (w9.setCell ⟨b, 8, none⟩ (.slice (some ⟨g9, 0, none⟩) (m + 1) c9'))) := TK.but ⟨hg9.os, hg9.tape, hg9.output, Nat.le_trans (by simp) hg9.size, fun d h1 h2 h3 => (hg9.block d (by simp; omega) h3).trans (heap_alloc_old w _ h1)⟩ (setCell_but _ _ _ _)
    have HGA : Hid ((Value.slice (some ⟨g9, 0, none⟩) (m + 1) c9').ownBlock = (Value.slice ka m kc).ownBlock ∨ ∃ h, (Value.slice (some ⟨g9, 0, none⟩) (m + 1) c9').ownBlock = some h ∧ w.heap.size ≤ h) := by
      rcases hor9 with h | h
      · exact Or.inl h.symm
      · exact Or.inr ⟨g9, rfl, by rw [h]; simp⟩
    clear ho9 hg9 hor9 hb9 hb9' hr9
    go_simp
    refine hK.out _ _ (HRA.out.cells.2.1) (fun hHeld10 => ?_)
    clear hK K
    try simp only [Act.put, List.setIfInBounds_toArray, List.set_cons_zero, List.set_cons_succ]
    refine wpAnyH_done (by kernel_rfl) ?_ _
    generalize hW9 : w9.setCell ⟨b, 8, none⟩ (.slice (some ⟨g9, 0, none⟩) (m + 1) c9') = W9 at *
    clear hW9 hHeld hHeld2 hHeld3 hHeld9 hHeld10 y8 y9 y10 y11 y12 v8 v9 v10 v11 v12 hbl9 hlt9 c8 c9 c10 c11 c12 z8 z9 z10 z11 z12
    have HXA : Hid (NodeAt B W9 k x) := HX.out.kb ⟨HTA.out.2.2.2.1, fun d hd => HTA.out.2.2.2.2 d (by omega) (by omega) (fun e => by have := (HO.out.lt d e.symm).1; omega)⟩
    have hne : k ≠ b := by have := HX.out.1; omega
    have HSA : Hid (TkS B base b k (Value.slice ka m kc).ownBlock (l ++ [(k, wd)]) x (.slice (some ⟨g9, 0, none⟩) (m + 1) c9') w W9) := ⟨HOA.out, HTA.out, HXA.out⟩
    have i0 : (wd : Int) ≤ 2305843009213693952 := by omega
    have i1 : (lf : Int) ≤ 2305843009213693952 := by omega
    have i2 : (sz : Int) ≤ 2305843009213693952 := by omega
    have i3 : (x.width : Int) ≤ 2305843009213693952 := by omega
    have i4 : (x.leafs : Int) ≤ 2305843009213693952 := by omega
    have i5 : (x.size : Int) ≤ 2305843009213693952 := by omega
    clear g0 g1 g2 g3 g4 g5 HOA HTA HXA HO HX HR
    obtain ⟨y8, y9, y10, y11, y12, v8, v9, v10, v11, v12⟩ := HRA.out.cells
    obtain ⟨kv2, _, _, _, _, _, _, _, _, _, _, _, p9, p10, p11, p12⟩ := HSA.out.2.2.cells
    have hbl9 := HRA.out.lt
    go_upto_region 1 with fail
    go_region
    have HRB := hide1 (HRA.out.setW (wd + x.width))
    have HSB := hide1 (HSA.out.set hb hB 9 (.int .i64 ((wd + x.width : Nat) : Int)))
    rw [show ((wd : Int) + (x.width : Int)) = ((wd + x.width : Nat) : Int) by omega]
    clear y8 y9 y10 y11 y12 v8 v9 v10 v11 v12 p9 p10 p11 p12 hbl9
    generalize (W9.setCell ⟨b, 9, none⟩ (.int .i64 ((wd + x.width : Nat) : Int))).drew = W10 at *
    clear HRA HSA
    obtain ⟨y8, y9, y10, y11, y12, v8, v9, v10, v11, v12⟩ := HRB.out.cells
    obtain ⟨kv2, _, _, _, _, _, _, _, _, _, _, _, p9, p10, p11, p12⟩ := HSB.out.2.2.cells
    have hbl9 := HRB.out.lt
    go_upto_region 2 with fail
    go_region
    have HRC := hide1 (HRB.out.setL (lf + x.leafs))
    have HSC := hide1 (HSB.out.set hb hB 10 (.int .i64 ((lf + x.leafs : Nat) : Int)))
    rw [show ((lf : Int) + (x.leafs : Int)) = ((lf + x.leafs : Nat) : Int) by omega]
    clear y8 y9 y10 y11 y12 v8 v9 v10 v11 v12 p9 p10 p11 p12 hbl9
    generalize (W10.setCell ⟨b, 10, none⟩ (.int .i64 ((lf + x.leafs : Nat) : Int))).drew = W11 at *
    clear HRB HSB
    obtain ⟨y8, y9, y10, y11, y12, v8, v9, v10, v11, v12⟩ := HRC.out.cells
    obtain ⟨kv2, _, _, _, _, _, _, _, _, _, _, _, p9, p10, p11, p12⟩ := HSC.out.2.2.cells
    have hbl9 := HRC.out.lt
    go_upto_region 3 with fail
    go_region
    have HRD := hide1 (HRC.out.setS (sz + x.size))
    have HSD := hide1 (HSC.out.set hb hB 11 (.int .i64 ((sz + x.size : Nat) : Int)))
    rw [show ((sz : Int) + (x.size : Int)) = ((sz + x.size : Nat) : Int) by omega]
    clear y8 y9 y10 y11 y12 v8 v9 v10 v11 v12 p9 p10 p11 p12 hbl9
    generalize (W11.setCell ⟨b, 11, none⟩ (.int .i64 ((sz + x.size : Nat) : Int))).drew = W12 at *
    clear HRC HSC
    obtain ⟨y8, y9, y10, y11, y12, v8, v9, v10, v11, v12⟩ := HRD.out.cells
    obtain ⟨kv2, _, _, _, _, _, _, _, _, _, _, _, p9, p10, p11, p12⟩ := HSD.out.2.2.cells
    have hbl9 := HRD.out.lt
    cases fl with
    | true =>
      go_wp2_with fail
      go_end0
      have hq := HSD.out.set0 hb hB 12 (.bool true)
      exact ⟨rfl, ⟨_, HRD.out.setF true, hq.1, HGA.out⟩, hq.2.1⟩
    | false =>
      go_wp2_with fail
      go_end0
      have hq := HSD.out.set0 hb hB 12 (.bool x.failed)
      exact ⟨rfl, ⟨_, HRD.out.setF x.failed, hq.1, HGA.out⟩, hq.2.1⟩
  · go_simp
    refine hK.out _ _ (by exact (cell_alloc_old w _ hbl).trans c9) (fun hHeld2 => ?_)
    clear hK K
    try simp only [Act.put, List.setIfInBounds_toArray, List.set_cons_zero, List.set_cons_succ]
    refine wpAnyH_ready (rs := [4]) (by kernel_rfl) (by simp) ?_
    refine AllReadyH.cons (i := 4) rfl (fun K hK => ?_) AllReadyH.nil
    have c8' : (w.alloc (.cells #[.pointer (some ⟨k, 0, none⟩), .int .i64 (wd : Int)] 100)).cell? ⟨b, 8, none⟩ = some (Value.slice ka m kc) := (cell_alloc_old w _ hbl).trans c8
    go_simp
    refine hK.out _ _ (by exact (cell_alloc_old w _ hbl).trans c9) (fun hHeld3 => ?_)
    clear hK K c8'
    try simp only [Act.put, List.setIfInBounds_toArray, List.set_cons_zero, List.set_cons_succ]
    refine wpAnyH_ready (rs := [12]) (by kernel_rfl) (by simp) ?_
    refine AllReadyH.cons (i := 12) rfl (fun K hK => ?_) AllReadyH.nil
    refine step_kid rfl _ _ rfl _ base _ l m HM.out (by rfl) (owns_same HO.out (fun d hd => heap_alloc_old w _ (HO.out.lt d hd).2)) w.heap.size k wd (by rfl) (World.alloc_heap_new w _) (by have := HM.out; omega) (by exact Nat.le_trans hbase (alloc_le w _)) ?_
    intro g9 c9' w9 ho9 hg9 hor9 hlt9
    have hb9 := hg9.block b (by simp; omega) (fun e => by have := (HO.out.lt b e.symm).1; omega)
    have hb9' : w9.heap[b]? = w.heap[b]? := hb9.trans (heap_alloc_old w _ hbl)
    have hr9 : RawAt w9 b kd n (.slice ka m kc) wd lf sz fl := hb9'.trans HR.out
    refine hK.out _ _ (hr9.cells.2.1) (fun hHeld9 => ?_)
    clear hK K
    try simp only [Act.put, List.setIfInBounds_toArray, List.set_cons_zero, List.set_cons_succ]
    refine wpAnyH_take (i := 13) (v := .pointer (some ⟨b, 0, none⟩)) rfl (by kernel_rfl) (by kernel_rfl) (by kernel_rfl) (fun _ _ _ h => h) (Or.inl ⟨by rfl, fun w' hSw => ?_⟩) (by with_reducible assumption) ?_
    · clear hSw
      go_simp
    try simp only [Act.put, List.setIfInBounds_toArray, List.set_cons_zero, List.set_cons_succ]
    refine wpAnyH_take (i := 14) (v := .pointer (some ⟨b, 8, none⟩)) rfl (by kernel_rfl) (by kernel_rfl) (by kernel_rfl) (fun _ _ _ h => h) (Or.inl ⟨by rfl, fun w' hSw => ?_⟩) (by with_reducible assumption) ?_
    · clear hSw
      go_simp
    try simp only [Act.put, List.setIfInBounds_toArray, List.set_cons_zero, List.set_cons_succ]
    refine wpAnyH_ready (rs := [15]) (by kernel_rfl) (by simp) ?_
    refine AllReadyH.cons (i := 15) rfl (fun K hK => ?_) AllReadyH.nil
    obtain ⟨y8, y9, y10, y11, y12, v8, v9, v10, v11, v12⟩ := hr9.cells
    have hbl9 := hr9.lt
    have HRA := hide1 (hr9.setK (.slice (some ⟨g9, 0, none⟩) (m + 1) c9'))
    have HOA : Hid (KOwn (w9.setCell ⟨b, 8, none⟩ (.slice (some ⟨g9, 0, none⟩) (m + 1) c9')) base (.slice (some ⟨g9, 0, none⟩) (m + 1) c9') (l ++ [(k, wd)])) := owns_same ho9 (fun d hd => Below.heap_setCell _ _ _ _ (show d ≠ b by have := (ho9.lt d hd).1; omega))
    have HTA : Hid (TK b (Value.slice ka m kc).ownBlock w (w9.setCell ⟨b, 8, none⟩ (.slice (some ⟨g9, 0, none⟩) (m + 1) c9'))) := TK.but ⟨hg9.os, hg9.tape, hg9.output, Nat.le_trans (by simp) hg9.size, fun d h1 h2 h3 => (hg9.block d (by simp; omega) h3).trans (heap_alloc_old w _ h1)⟩ (setCell_but _ _ _ _)
    have HGA : Hid ((Value.slice (some ⟨g9, 0, none⟩) (m + 1) c9').ownBlock = (Value.slice ka m kc).ownBlock ∨ ∃ h, (Value.slice (some ⟨g9, 0, none⟩) (m + 1) c9').ownBlock = some h ∧ w.heap.size ≤ h) := by
      rcases hor9 with h | h
      · exact Or.inl h.symm
      · exact Or.inr ⟨g9, rfl, by rw [h]; simp⟩
    clear ho9 hg9 hor9 hb9 hb9' hr9
    go_simp
    refine hK.out _ _ (HRA.out.cells.2.1) (fun hHeld10 => ?_)
    clear hK K
    try simp only [Act.put, List.setIfInBounds_toArray, List.set_cons_zero, List.set_cons_succ]
    refine wpAnyH_done (by kernel_rfl) ?_ _
    generalize hW9 : w9.setCell ⟨b, 8, none⟩ (.slice (some ⟨g9, 0, none⟩) (m + 1) c9') = W9 at *
    clear hW9 hHeld hHeld2 hHeld3 hHeld9 hHeld10 y8 y9 y10 y11 y12 v8 v9 v10 v11 v12 hbl9 hlt9 c8 c9 c10 c11 c12 z8 z9 z10 z11 z12
    have HXA : Hid (NodeAt B W9 k x) := HX.out.kb ⟨HTA.out.2.2.2.1, fun d hd => HTA.out.2.2.2.2 d (by omega) (by omega) (fun e => by have := (HO.out.lt d e.symm).1; omega)⟩
    have hne : k ≠ b := by have := HX.out.1; omega
    have HSA : Hid (TkS B base b k (Value.slice ka m kc).ownBlock (l ++ [(k, wd)]) x (.slice (some ⟨g9, 0, none⟩) (m + 1) c9') w W9) := ⟨HOA.out, HTA.out, HXA.out⟩
    have i0 : (wd : Int) ≤ 2305843009213693952 := by omega
    have i1 : (lf : Int) ≤ 2305843009213693952 := by omega
    have i2 : (sz : Int) ≤ 2305843009213693952 := by omega
    have i3 : (x.width : Int) ≤ 2305843009213693952 := by omega
    have i4 : (x.leafs : Int) ≤ 2305843009213693952 := by omega
    have i5 : (x.size : Int) ≤ 2305843009213693952 := by omega
    clear g0 g1 g2 g3 g4 g5 HOA HTA HXA HO HX HR
    obtain ⟨y8, y9, y10, y11, y12, v8, v9, v10, v11, v12⟩ := HRA.out.cells
    obtain ⟨kv2, _, _, _, _, _, _, _, _, _, _, _, p9, p10, p11, p12⟩ := HSA.out.2.2.cells
    have hbl9 := HRA.out.lt
    go_upto_region 1 with fail
    go_region
    have HRB := hide1 (HRA.out.setW (wd + x.width))
    have HSB := hide1 (HSA.out.set hb hB 9 (.int .i64 ((wd + x.width : Nat) : Int)))
    rw [show ((wd : Int) + (x.width : Int)) = ((wd + x.width : Nat) : Int) by omega]
    clear y8 y9 y10 y11 y12 v8 v9 v10 v11 v12 p9 p10 p11 p12 hbl9
    generalize (W9.setCell ⟨b, 9, none⟩ (.int .i64 ((wd + x.width : Nat) : Int))).drew = W10 at *
    clear HRA HSA
    obtain ⟨y8, y9, y10, y11, y12, v8, v9, v10, v11, v12⟩ := HRB.out.cells
    obtain ⟨kv2, _, _, _, _, _, _, _, _, _, _, _, p9, p10, p11, p12⟩ := HSB.out.2.2.cells
    have hbl9 := HRB.out.lt
    go_upto_region 2 with fail
    go_region
    have HRC := hide1 (HRB.out.setL (lf + x.leafs))
    have HSC := hide1 (HSB.out.set hb hB 10 (.int .i64 ((lf + x.leafs : Nat) : Int)))
    rw [show ((lf : Int) + (x.leafs : Int)) = ((lf + x.leafs : Nat) : Int) by omega]
    clear y8 y9 y10 y11 y12 v8 v9 v10 v11 v12 p9 p10 p11 p12 hbl9
    generalize (W10.setCell ⟨b, 10, none⟩ (.int .i64 ((lf + x.leafs : Nat) : Int))).drew = W11 at *
    clear HRB HSB
    obtain ⟨y8, y9, y10, y11, y12, v8, v9, v10, v11, v12⟩ := HRC.out.cells
    obtain ⟨kv2, _, _, _, _, _, _, _, _, _, _, _, p9, p10, p11, p12⟩ := HSC.out.2.2.cells
    have hbl9 := HRC.out.lt
    go_upto_region 3 with fail
    go_region
    have HRD := hide1 (HRC.out.setS (sz + x.size))
    have HSD := hide1 (HSC.out.set hb hB 11 (.int .i64 ((sz + x.size : Nat) : Int)))
    rw [show ((sz : Int) + (x.size : Int)) = ((sz + x.size : Nat) : Int) by omega]
    clear y8 y9 y10 y11 y12 v8 v9 v10 v11 v12 p9 p10 p11 p12 hbl9
    generalize (W11.setCell ⟨b, 11, none⟩ (.int .i64 ((sz + x.size : Nat) : Int))).drew = W12 at *
    clear HRC HSC
    obtain ⟨y8, y9, y10, y11, y12, v8, v9, v10, v11, v12⟩ := HRD.out.cells
    obtain ⟨kv2, _, _, _, _, _, _, _, _, _, _, _, p9, p10, p11, p12⟩ := HSD.out.2.2.cells
    have hbl9 := HRD.out.lt
    cases fl with
    | true =>
      go_wp2_with fail
      go_end0
      have hq := HSD.out.set0 hb hB 12 (.bool true)
      exact ⟨rfl, ⟨_, HRD.out.setF true, hq.1, HGA.out⟩, hq.2.1⟩
    | false =>
      go_wp2_with fail
      go_end0
      have hq := HSD.out.set0 hb hB 12 (.bool x.failed)
      exact ⟨rfl, ⟨_, HRD.out.setF x.failed, hq.1, HGA.out⟩, hq.2.1⟩

end Tr
end Ex
end Go.Proofs.Yteckbpmliahhhaa

