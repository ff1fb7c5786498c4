import Derived.Test.YteckbpmliahhhaaTrRows
import Derived.Deep.AppendLies
namespace Go.Proofs.Yteckbpmliahhhaa
open Go.RowKit
attribute [local go_sem] Oper.semAt_some
namespace Ex
namespace Tr

/-- A kind of element of lists: its type, the list's type, its cells, its bytes, what its cells are. -/
structure ElK (α : Type) where
  T : TypeId
  TT : TypeId
  sz : Nat
  by_ : Nat
  z : Value
  enc : α → List Value
  pos : 0 < sz
  info : (Try.prog.info? T).map (fun i => (i.zero, i.size, i.bytes)) = some (some z, sz, by_)
  zs : z.cells.size = sz
  und : Try.prog.underlying TT = some (.slice T)
  len : ∀ x, (enc x).length = sz
  one : ∀ x, ∀ u ∈ enc x, u.oneCell' = true
section
variable {α : Type} (E : ElK α)
def flatE (l : List α) : List Value := l.flatMap E.enc
theorem flatE_app (l : List α) (q : α) : flatE E (l ++ [q]) = flatE E l ++ E.enc q := by unfold flatE; simp
/-- A list of the call's own. -/
def LO (w : World) (base : Nat) (v : Value) (l : List α) : Prop := w.ownsRow base E.T E.sz v l.length (flatE E l)
variable {E}
theorem LO.nil (w : World) (base : Nat) : LO E w base (.slice none 0 0) [] := World.ownsRow_nil _ _ _ _
theorem LO.form {w : World} {base : Nat} {v : Value} {l : List α} (h : LO E w base v l) : ∃ a c, v = .slice a l.length c := by
  rcases h.2 with ⟨rfl, h0⟩ | ⟨g, cap, cur, rfl, _⟩
  · exact ⟨none, 0, by rw [h0]⟩
  · exact ⟨_, _, rfl⟩
theorem LO.lt' {w : World} {base : Nat} {v : Value} {l : List α} (h : LO E w base v l) : ∀ g, v.ownBlock = some g → base ≤ g ∧ g < w.heap.size := fun g hg => World.ownsRow.lt h g hg
theorem LO.same {w w' : World} {base : Nat} {v : Value} {l : List α} (h : LO E w base v l) (he : ∀ d, v.ownBlock = some d → w'.heap[d]? = w.heap[d]?) : LO E w' base v l := owns_same h he
theorem LO.keep {w w' : World} {base : Nat} {v : Value} {l : List α} (h : LO E w base v l) (hk : Kept w w') : LO E w' base v l := h.same (fun d hd => hk.2.2.2.2 d (h.lt' d hd).2)
/-- append of one element, that lies in a block of its own. -/
theorem lo_run {w : World} {base : Nat} {v : Value} {l : List α} (h : LO E w base v l) (ty : TypeId) {lb : Nat} {q : α} (hbx : w.heap[lb]? = some (.cells (E.enc q).toArray E.T (0, 0))) (hl : (l.length + 1) * E.by_ ≤ 140737488355328) (hl2 : l.length + 1 ≤ maxLen) (hbase : base ≤ w.heap.size) :
    ∃ g cap w', (Builtin.append_ #[E.TT, E.TT] ty #[v, .slice (some ⟨lb, 0, none⟩) 1 1]).run Try.prog w = .ok (.slice (some ⟨g, 0, none⟩) (l.length + 1) cap) w' ∧ LO E w' base (.slice (some ⟨g, 0, none⟩) (l.length + 1) cap) (l ++ [q]) ∧ w.grownBy w' v.ownBlock ∧ (v.ownBlock = some g ∨ g = w.heap.size) ∧ g < w'.heap.size := by
  obtain ⟨i0, hi, hz0, hz1, hz2⟩ := info_parts E.info
  obtain ⟨g, cap, w', hr, h2, h3, h4, h5⟩ := run_append_lies (P := Try.prog) w E.TT ty base E.T i0 _ E.sz E.by_ E.und hi hz0 hz1 hz2 E.zs E.pos v l.length (flatE E l) h ⟨lb, 0, none⟩ 1 1 (E.enc q) (by rw [E.len, Nat.one_mul]) (fun j y hj => by
    have e : w.cell? ⟨lb, j, none⟩ = (E.enc q)[j]? := by simp [World.cell?, hbx]
    simp only [Addr.add, Nat.zero_add]
    split
    · rename_i h0
      subst h0
      rw [e, hj]
    · rw [e, hj]) (E.one q) (by decide) hl2 hl hbase w.heap.size rfl
  refine ⟨g, cap, w', hr, ?_, h3, h4, h5⟩
  unfold LO
  rw [flatE_app, List.length_append]
  exact h2
section
variable {F : Fence} {nF : Nat} {w : World} {ops : Array Oper} {rest : List Oper} {o : Oper} {a : Act} {Q : Exit → Act → World → Prop}
theorem wplIn_lo (hgd : o.guard = none) (s x : Operand) (ho : o.op = .call { callee := .builtin .append, args := #[s, x], argTypes := #[E.TT, E.TT] }) (base : Nat) (v : Value) (l : List α) (m : Nat) (hm : l.length = m) (hs : a.eval s = v) (hown : LO E w base v l) (lb : Nat) (q : α) (hx : a.eval x = .slice (some ⟨lb, 0, none⟩) 1 1) (hbx : w.heap[lb]? = some (.cells (E.enc q).toArray E.T (0, 0))) (hl : (m + 1) * E.by_ ≤ 140737488355328) (hl2 : m + 1 ≤ maxLen) (hbase : base ≤ w.heap.size)
    (h : ∀ g cap w', LO E w' base (.slice (some ⟨g, 0, none⟩) (m + 1) cap) (l ++ [q]) → w.grownBy w' v.ownBlock → (v.ownBlock = some g ∨ g = w.heap.size) → g < w'.heap.size → wpListIn F nF Try.prog ops Q rest (a.put o.dst (.slice (some ⟨g, 0, none⟩) (m + 1) cap)) w') : wpListIn F nF Try.prog ops Q (o :: rest) a w := by
  subst hm
  obtain ⟨g, cap, w', hr, h2, h3, h4, h5⟩ := lo_run hown o.type hbx hl hl2 hbase
  refine wpListIn_plain hgd fun K hK => ?_
  unfold Oper.wpIn
  refine ⟨by simp [Oper.about, ho, resolve, Target.leads, Sem.run_pure], ?_⟩
  rw [Oper.semAt_plain F _ _ (by rw [ho]; intro c hc'; cases hc')]
  simp [execOp, ho, resolve, invoke, builtin, hs, hx, hr, Result.andThen]
  exact hK _ _ (h g cap w' h2 h3 h4 h5)
theorem wpl_lo (hgd : o.guard = none) (s x : Operand) (ho : o.op = .call { callee := .builtin .append, args := #[s, x], argTypes := #[E.TT, E.TT] }) (base : Nat) (v : Value) (l : List α) (m : Nat) (hm : l.length = m) (hs : a.eval s = v) (hown : LO E w base v l) (lb : Nat) (q : α) (hx : a.eval x = .slice (some ⟨lb, 0, none⟩) 1 1) (hbx : w.heap[lb]? = some (.cells (E.enc q).toArray E.T (0, 0))) (hl : (m + 1) * E.by_ ≤ 140737488355328) (hl2 : m + 1 ≤ maxLen) (hbase : base ≤ w.heap.size)
    (h : ∀ g cap w', LO E w' base (.slice (some ⟨g, 0, none⟩) (m + 1) cap) (l ++ [q]) → w.grownBy w' v.ownBlock → (v.ownBlock = some g ∨ g = w.heap.size) → g < w'.heap.size → wpList Try.prog ops Q rest (a.put o.dst (.slice (some ⟨g, 0, none⟩) (m + 1) cap)) w') : wpList Try.prog ops Q (o :: rest) a w := by
  subst hm
  obtain ⟨g, cap, w', hr, h2, h3, h4, h5⟩ := lo_run hown o.type hbx hl hl2 hbase
  refine wpList_plain hgd fun K hK => ?_
  unfold Oper.wp
  simp [execOp, ho, resolve, invoke, builtin, hs, hx, hr, Result.andThen]
  exact hK _ _ (h g cap w' h2 h3 h4 h5)
/-- The same at a step of a region that draws its order. -/
theorem step_lo {K : Act → World → Prop} {EE : Prop} (hgd : o.guard = none) (s x : Operand) (ho : o.op = .call { callee := .builtin .append, args := #[s, x], argTypes := #[E.TT, E.TT] }) (base : Nat) (v : Value) (l : List α) (m : Nat) (hm : l.length = m) (hs : a.eval s = v) (hown : LO E w base v l) (lb : Nat) (q : α) (hx : a.eval x = .slice (some ⟨lb, 0, none⟩) 1 1) (hbx : w.heap[lb]? = some (.cells (E.enc q).toArray E.T (0, 0))) (hl : (m + 1) * E.by_ ≤ 140737488355328) (hl2 : m + 1 ≤ maxLen) (hbase : base ≤ w.heap.size)
    (h : ∀ g cap w', LO E w' base (.slice (some ⟨g, 0, none⟩) (m + 1) cap) (l ++ [q]) → w.grownBy w' v.ownBlock → (v.ownBlock = some g ∨ g = w.heap.size) → g < w'.heap.size → K (a.put o.dst (.slice (some ⟨g, 0, none⟩) (m + 1) cap)) w') :
    if Region.wanted o (yielded ops a.tmps) = true then Oper.wp Try.prog o a w K Q else EE := by
  subst hm
  have hw : Region.wanted o (yielded ops a.tmps) = true := by simp [Region.wanted, hgd]
  rw [if_pos hw]
  obtain ⟨g, cap, w', hr, h2, h3, h4, h5⟩ := lo_run hown o.type hbx hl hl2 hbase
  unfold Oper.wp
  simp [execOp, ho, resolve, invoke, builtin, hs, hx, hr, Result.andThen]
  exact h g cap w' h2 h3 h4 h5
end
/-- Where an element's cells lie. -/
theorem LO.cell {w : World} {base g n cap : Nat} {l : List α} (h : LO E w base (.slice (some ⟨g, 0, none⟩) n cap) l) {i j : Nat} {x : α} {u : Value} (hx : l[i]? = some x) (hu : (E.enc x)[j]? = some u) : w.cell? ⟨g, i * E.sz + j, none⟩ = some u := by
  rcases h.2 with ⟨h0, _⟩ | ⟨g', cap', cur, he, _, hg, hc, hlen, _, hxs⟩
  · cases h0
  · have hj : j < E.sz := by rw [← E.len x]; exact (List.getElem?_eq_some_iff.1 hu).1
    have key : ∀ (l : List α) (i : Nat), l[i]? = some x → (flatE E l)[i * E.sz + j]? = some u := fun l => by
      induction l with
      | nil => intro i hi; simp at hi
      | cons y l ih =>
        intro i hi
        have e : flatE E (y :: l) = E.enc y ++ flatE E l := by unfold flatE; simp
        cases i with
        | zero =>
          simp only [List.getElem?_cons_zero, Option.some.injEq] at hi
          subst hi
          rw [e, Nat.zero_mul, Nat.zero_add, List.getElem?_append_left (by rw [E.len]; exact hj), hu]
        | succ i =>
          simp only [List.getElem?_cons_succ] at hi
          rw [e, List.getElem?_append_right (by rw [E.len, Nat.add_mul]; omega), E.len, ← ih i hi]
          congr 1
          rw [Nat.add_mul]
          omega
    injection he with he1
    injection he1 with he2
    injection he2 with he3
    subst he3
    have := row_cells hg hxs (i * E.sz + j) u (key l i hx)
    exact this
end

end Tr
end Ex
end Go.Proofs.Yteckbpmliahhhaa
namespace Go.Proofs.Yteckbpmliahhhaa
open Go.RowKit
attribute [local go_sem] Oper.semAt_some
namespace Ex
namespace Tr

/-- An edit: where, how many bytes less, and where its bytes lie. -/
structure EdX where
  at_ : Int
  del : Int
  ba : Option Addr
  n : Nat
  bc : Nat
def encEd (e : EdX) : List Value := [.int .i64 e.at_, .int .i64 e.del, .slice e.ba e.n e.bc]
theorem encEd_one (x : EdX) : ∀ u ∈ encEd x, u.oneCell' = true := fun u hu => by
  unfold encEd at hu
  simp only [List.mem_cons, List.not_mem_nil, or_false] at hu
  rcases hu with rfl | rfl | rfl <;> rfl
/-- Lists of edits. -/
def edE : ElK EdX := { T := 80, TT := 81, sz := 3, by_ := 40, z := .agg #[.int .i64 0, .int .i64 0, .slice none 0 0], enc := encEd, pos := by decide, info := by kernel_rfl, zs := rfl, und := Try.underlying81, len := fun _ => rfl, one := encEd_one }
/-- A list of edits that can be read. -/
def EdRd (w : World) (v : Value) (l : List EdX) : Prop := ∃ a cap, v = .slice a l.length cap ∧ l.length ≤ cap ∧ ∀ i e, l[i]? = some e → ∃ g o, a = some ⟨g, o, none⟩ ∧ w.cell? ⟨g, o + i * 3, none⟩ = some (.int .i64 e.at_) ∧ w.cell? ⟨g, o + i * 3 + 1, none⟩ = some (.int .i64 e.del) ∧ w.cell? ⟨g, o + i * 3 + 2, none⟩ = some (.slice e.ba e.n e.bc)
theorem EdRd.keep {w w' : World} {v : Value} {l : List EdX} (h : EdRd w v l) (hk : Kept w w') : EdRd w' v l := by
  obtain ⟨a, cap, h1, h2, h3⟩ := h
  refine ⟨a, cap, h1, h2, fun i e he => ?_⟩
  obtain ⟨g, o, h4, h5, h6, h7⟩ := h3 i e he
  exact ⟨g, o, h4, grown_cell hk h5, grown_cell hk h6, grown_cell hk h7⟩
theorem LO.edRd {w : World} {base : Nat} {v : Value} {l : List EdX} (h : LO edE w base v l) : EdRd w v l := by
  rcases h.2 with ⟨rfl, h0⟩ | ⟨g, cap, cur, rfl, hb, hg, hc, _⟩
  · have : l = [] := List.length_eq_zero_iff.1 h0
    subst this
    exact ⟨none, 0, rfl, Nat.le_refl _, fun i e he => by simp at he⟩
  · refine ⟨some ⟨g, 0, none⟩, cap, rfl, hc, fun i e he => ⟨g, 0, rfl, ?_, ?_, ?_⟩⟩
    · have := LO.cell h (i := i) (j := 0) (x := e) he rfl
      rw [Nat.zero_add]; exact this
    · have := LO.cell h (i := i) (j := 1) (x := e) he rfl
      rw [Nat.zero_add]; exact this
    · have := LO.cell h (i := i) (j := 2) (x := e) he rfl
      rw [Nat.zero_add]; exact this
def sizedB (e : EdX) : Bool := decide (0 ≤ e.at_) && decide (e.at_ ≤ 262144) && decide (0 ≤ e.del) && decide (e.del ≤ 262144) && decide ((e.n : Int) ≤ 262144)
def movedP (p bias : Int) (e : EdX) : Int := if p < e.at_ then p else if e.at_ + e.del < p then p - e.del + (e.n : Int) else if bias < 0 then e.at_ else e.at_ + (e.n : Int)
/-- Move, edit by edit. -/
def moveL (bias : Int) : List EdX → Int → Int × Int
  | [], p => (p, 0)
  | e :: l, p => if sizedB e = true then (if 262144 < movedP p bias e then (0, 151) else moveL bias l (movedP p bias e)) else (0, 1)
def moveP (p bias : Int) (l : List EdX) : Int × Int := if p < 0 ∨ 262144 < p then (0, 151) else if 4096 < l.length then (0, 2) else moveL bias l p

section
variable (at_ del : Int) (ba : Option Addr) (n bc : Nat) (w : World)
set_option linter.unusedSimpArgs false
set_option maxRecDepth 100000
set_option maxHeartbeats 4000000
theorem sized_is : Calls Try.prog 41 #[.agg #[.int .i64 at_, .int .i64 del, .slice ba n bc]] w fun e w' => e = .returned (.bool (sizedB ⟨at_, del, ba, n, bc⟩)) ∧ Kept w w' := by
  have hk : Kept w (w.alloc (.cells #[.int .i64 at_, .int .i64 del, .slice ba n bc] 80)) := (Kept.refl w).alloc _ _
  have HK := hide1 hk
  clear hk
  unfold sizedB
  by_cases h1 : 0 ≤ at_
  · by_cases h2 : at_ ≤ 262144
    · by_cases h3 : 0 ≤ del
      · by_cases h4 : del ≤ 262144
        · by_cases h5 : (n : Int) ≤ 262144
          · go_enter Try.func41, Try.ntmps41
            go_wp2_with fail
            go_ret
            exact ⟨by simp [h1, h2, h3, h4, h5], HK.out⟩
          · go_enter Try.func41, Try.ntmps41
            go_wp2_with fail
            go_ret
            exact ⟨by simp; omega, HK.out⟩
        · go_enter Try.func41, Try.ntmps41
          go_wp2_with fail
          go_ret
          exact ⟨by simp; omega, HK.out⟩
      · go_enter Try.func41, Try.ntmps41
        go_wp2_with fail
        go_ret
        exact ⟨by simp; omega, HK.out⟩
    · go_enter Try.func41, Try.ntmps41
      go_wp2_with fail
      go_ret
      exact ⟨by simp; omega, HK.out⟩
  · go_enter Try.func41, Try.ntmps41
    go_wp2_with fail
    go_ret
    exact ⟨by simp; omega, HK.out⟩
theorem moved_is (p bias : Int) (hs : sizedB ⟨at_, del, ba, n, bc⟩ = true) (h0 : 0 ≤ p) (hp : p ≤ 262144) : Calls Try.prog 42 #[.int .i64 p, .int .i64 bias, .agg #[.int .i64 at_, .int .i64 del, .slice ba n bc]] w fun e w' => e = .returned (.int .i64 (movedP p bias ⟨at_, del, ba, n, bc⟩)) ∧ Kept w w' := by
  have hk : Kept w (w.alloc (.cells #[.int .i64 at_, .int .i64 del, .slice ba n bc] 80)) := (Kept.refl w).alloc _ _
  have HK := hide1 hk
  unfold sizedB at hs
  simp only [Bool.and_eq_true, decide_eq_true_eq] at hs
  obtain ⟨⟨⟨⟨a1, a2⟩, a3⟩, a4⟩, a5⟩ := hs
  clear hk
  unfold movedP
  by_cases h1 : p < at_
  · go_enter Try.func42, Try.ntmps42
    go_wp2_with fail
    go_ret
    exact ⟨rfl, HK.out⟩
  · by_cases h2 : at_ + del < p
    · go_enter Try.func42, Try.ntmps42
      go_wp2_with fail
      go_ret
      exact ⟨rfl, HK.out⟩
    · by_cases h3 : bias < 0
      · go_enter Try.func42, Try.ntmps42
        go_wp2_with fail
        go_ret
        exact ⟨rfl, HK.out⟩
      · go_enter Try.func42, Try.ntmps42
        go_wp2_with fail
        go_ret
        exact ⟨rfl, HK.out⟩
end
theorem moved_low {p bias : Int} {e : EdX} (hs : sizedB e = true) (h0 : 0 ≤ p) : 0 ≤ movedP p bias e := by
  unfold sizedB at hs
  simp only [Bool.and_eq_true, decide_eq_true_eq] at hs
  unfold movedP
  split
  · exact h0
  · split
    · omega
    · split <;> omega
set_option linter.unusedSimpArgs false in
set_option maxRecDepth 100000 in
set_option maxHeartbeats 4000000 in
theorem moveD_is (p bias : Int) (v : Value) (l : List EdX) (w : World) (hl : EdRd w v l) (hlen : l.length ≤ 4611686018427387904) :
    Calls Try.prog 28 #[.int .i64 p, .int .i64 bias, v] w fun e w' => e = .returned (.tuple #[.int .i64 (moveP p bias l).1, .int .i64 (moveP p bias l).2]) ∧ Kept w w' := by
  obtain ⟨m, hm⟩ : ∃ m, l.length = m := ⟨_, rfl⟩
  obtain ⟨va, vc, rfl⟩ : ∃ a c, v = .slice a m c := by obtain ⟨a, c, h, _⟩ := hl; exact ⟨a, c, by rw [← hm]; exact h⟩
  have hcap : m ≤ vc := by obtain ⟨a, c, h, h2, _⟩ := hl; injection h with _ _ h3; subst h3; rw [← hm]; exact h2
  have HL := hide1 hl
  have HM := hide1 hm
  have hmI : (m : Int) ≤ 4611686018427387904 := by omega
  have hcI : (m : Int) ≤ (vc : Int) := by omega
  clear hl hlen hcap
  unfold moveP
  by_cases h1 : p < 0
  · rw [if_pos (Or.inl h1)]
    clear hm
    go_enter Try.func28, Try.ntmps28
    go_wp2_with fail
    go_ret2
    exact ⟨rfl, Kept.refl w⟩
  · by_cases h2 : 262144 < p
    · rw [if_pos (Or.inr h2)]
      clear hm
      go_enter Try.func28, Try.ntmps28
      go_wp2_with fail
      go_ret2
      exact ⟨rfl, Kept.refl w⟩
    · rw [if_neg (by omega)]
      by_cases h3 : (4096 : Int) < (m : Int)
      · rw [if_pos (by omega)]
        clear hm
        go_enter Try.func28, Try.ntmps28
        go_wp2_with fail
        go_ret2
        exact ⟨rfl, Kept.refl w⟩
      · rw [if_neg (by omega)]
        obtain ⟨rs, hrs⟩ : ∃ rs, moveL bias l p = rs := ⟨_, rfl⟩
        rw [hrs]
        have HRS := hide1 hrs
        clear hm hrs
        go_enter Try.func28, Try.ntmps28
        go_wp2_with fail
        go_loopw [0, 21] (fun v0 v21 wr => ∃ (q : Int) (j : Nat), v0 = .int .i64 q ∧ v21 = .int .i64 (j : Int) ∧ j ≤ m ∧ 0 ≤ q ∧ q ≤ 262144 ∧ Hid (moveL bias (l.drop j) q = rs ∧ Kept w wr)) (fun _ v21 _ => m - (intOf v21).toNat)
        case atStart => exact ⟨p, 0, rfl, rfl, Nat.zero_le _, by omega, by omega, by rw [List.drop_zero]; exact HRS.out, Kept.refl w⟩
        case round =>
          obtain ⟨q, j, rfl, rfl, hj, hq0, hq1, hI⟩ := hrel
          clear h1 h2
          by_cases hjm : j < m
          · obtain ⟨⟨at_, del, ba, n, bc⟩, he⟩ : ∃ e, l[j]? = some e := ⟨_, List.getElem?_eq_getElem (by rw [HM.out]; exact hjm)⟩
            obtain ⟨a', cap', hv', _, hrd⟩ := HL.out.keep hI.out.2
            obtain ⟨g, o, rfl, r0, r1, r2⟩ := hrd j _ he
            injection hv' with hv1 hv2 hv3
            subst hv1
            dsimp only at r0 r1 r2
            have hd : l.drop j = ⟨at_, del, ba, n, bc⟩ :: l.drop (j + 1) := by
              have h9 := List.getElem?_eq_some_iff.1 he
              rw [List.drop_eq_getElem_cons h9.1, h9.2]
            have hst := hI.out.1
            rw [hd, moveL] at hst
            have HST := hide1 hst
            have HKR := hide1 hI.out.2
            have hjI : (j : Int) < (m : Int) := by omega
            clear hv2 hv3 hrd he hd hst hI
            by_cases hs : sizedB ⟨at_, del, ba, n, bc⟩ = true
            · have HSZ : Hid (∀ w, Calls Try.prog 41 #[.agg #[.int .i64 at_, .int .i64 del, .slice ba n bc]] w fun e w' => e = .returned (.bool true) ∧ Kept w w') := fun w => by have := sized_is at_ del ba n bc w; rw [hs] at this; exact this
              obtain ⟨p2, hp2⟩ : ∃ p2, movedP q bias ⟨at_, del, ba, n, bc⟩ = p2 := ⟨_, rfl⟩
              have HMV : Hid (∀ w, Calls Try.prog 42 #[.int .i64 q, .int .i64 bias, .agg #[.int .i64 at_, .int .i64 del, .slice ba n bc]] w fun e w' => e = .returned (.int .i64 p2) ∧ Kept w w') := fun w => by rw [← hp2]; exact moved_is at_ del ba n bc w q bias hs hq0 hq1
              have hlow : 0 ≤ p2 := by rw [← hp2]; exact moved_low hs hq0
              rw [if_pos hs, hp2] at HST
              have HBX : Hid (∀ w', Kept (wr.alloc (.cells #[.int .i64 at_, .int .i64 del, .slice ba n bc] 80)) w' → w'.cell? ⟨wr.heap.size, 0, none⟩ = some (.int .i64 at_) ∧ w'.cell? ⟨wr.heap.size, 1, none⟩ = some (.int .i64 del) ∧ w'.cell? ⟨wr.heap.size, 2, none⟩ = some (.slice ba n bc)) := fun w' hk => by
                have hb := (hk.2.2.2.2 wr.heap.size (by simp)).trans (World.alloc_heap_new wr _)
                refine ⟨?_, ?_, ?_⟩ <;> simp [World.cell?, hb]
              clear hs hp2
              by_cases hbig : 262144 < p2
              · rw [if_pos hbig] at HST
                go_wp2_with (first
                  | (go_at_call 41; refine (HSZ.out _).mono ?_; rintro e w4 ⟨rfl, hk4⟩; have HK4 := hide1 hk4; obtain ⟨x0, x1, x2⟩ := HBX.out w4 hk4; clear hk4)
                  | (go_at_call 42; refine (HMV.out _).mono ?_; rintro e w5 ⟨rfl, hk5⟩; have HK5 := hide1 hk5; clear hk5))
                go_ret2
                exact ⟨by rw [← HST.out]; rfl, gtrans HKR.out (gtrans ((Kept.refl wr).alloc _ _) (gtrans HK4.out HK5.out))⟩
              · rw [if_neg hbig] at HST
                go_wp2_with (first
                  | (go_at_call 41; refine (HSZ.out _).mono ?_; rintro e w4 ⟨rfl, hk4⟩; have HK4 := hide1 hk4; obtain ⟨x0, x1, x2⟩ := HBX.out w4 hk4; clear hk4)
                  | (go_at_call 42; refine (HMV.out _).mono ?_; rintro e w5 ⟨rfl, hk5⟩; have HK5 := hide1 hk5; clear hk5))
                go_roundw
                case rel => exact ⟨p2, j + 1, rfl, by simp, by omega, hlow, by omega, HST.out, gtrans HKR.out (gtrans ((Kept.refl wr).alloc _ _) (gtrans HK4.out HK5.out))⟩
                case measure => simp [intOf]; omega
            · have HSZ : Hid (∀ w, Calls Try.prog 41 #[.agg #[.int .i64 at_, .int .i64 del, .slice ba n bc]] w fun e w' => e = .returned (.bool false) ∧ Kept w w') := fun w => by have := sized_is at_ del ba n bc w; rw [Bool.eq_false_iff.2 hs] at this; exact this
              rw [if_neg hs] at HST
              clear hs
              go_wp2_with (go_at_call 41; refine (HSZ.out _).mono ?_; rintro e w4 ⟨rfl, hk4⟩; have HK4 := hide1 hk4; clear hk4)
              go_ret2
              exact ⟨by rw [← HST.out]; rfl, gtrans HKR.out (gtrans ((Kept.refl wr).alloc _ _) HK4.out)⟩
          · have hjm' : (m : Int) ≤ (j : Int) := by omega
            have hst := hI.out.1
            rw [List.drop_eq_nil_of_le (by rw [HM.out]; omega), moveL] at hst
            have HST := hide1 hst
            have HKR := hide1 hI.out.2
            have hjb : ¬ ((j : Int) < (m : Int)) := by omega
            clear hst hI hjm
            go_wp2_with fail
            go_ret2
            exact ⟨by rw [← HST.out]; rfl, HKR.out⟩

end Tr
end Ex
end Go.Proofs.Yteckbpmliahhhaa
