import Derived.Test.YthjagnnbhpfpoabTabScript
namespace Go.Proofs.Ythjagnnbhpfpoab
open Go.RowKit
attribute [local go_sem] Oper.semAt_some
namespace Rope

theorem int_info : (Try.prog.info? 3).map (fun i => (i.zero, i.size, i.bytes)) = some (some (.int .i64 0), 1, 8) := by kernel_rfl
def intsV (zs : List Int) : List Value := zs.map (Value.int .i64)
theorem intsV_len (zs : List Int) : (intsV zs).length = zs.length := List.length_map ..
theorem intsV_one (zs : List Int) : ∀ u ∈ intsV zs, u.oneCell' = true := by
  intro u hu
  simp only [intsV, List.mem_map] at hu
  obtain ⟨x, _, rfl⟩ := hu
  rfl
/-- A row of ints of the call's own. -/
def IntsOwn (w : World) (base : Nat) (v : Value) (zs : List Int) : Prop := w.ownsRow base 3 1 v zs.length (intsV zs)
/-- A row of ints that came in. -/
def IntsAt (w : World) (n0 : Nat) (v : Value) (zs : List Int) : Prop :=
  (zs = [] ∧ ∃ a cap, v = .slice a 0 cap) ∨ ∃ c o cap, v = .slice (some ⟨c, o, none⟩) zs.length cap ∧ c < n0 ∧ ∀ j x, zs[j]? = some x → w.cell? ⟨c, o + j, none⟩ = some (.int .i64 x)
theorem IntsAt.form {w : World} {n0 : Nat} {v : Value} {zs : List Int} (h : IntsAt w n0 v zs) : ∃ a cap, v = .slice a zs.length cap := by
  rcases h with ⟨rfl, a, cap, rfl⟩ | ⟨c, o, cap, rfl, _⟩
  · exact ⟨_, _, rfl⟩
  · exact ⟨_, _, rfl⟩
theorem IntsAt.low {w w' : World} {n0 : Nat} {v : Value} {zs : List Int} (h : IntsAt w n0 v zs) (hb : Below n0 w w') : IntsAt w' n0 v zs := by
  rcases h with h | ⟨c, o, cap, h1, h2, h3⟩
  · exact .inl h
  · exact .inr ⟨c, o, cap, h1, h2, fun j x hx => low_cell hb h2 (h3 j x hx)⟩
theorem ints_new (w : World) (base : Nat) (hb : base ≤ w.heap.size) : IntsOwn (w.alloc (.cells #[] 3)) base (.slice (some ⟨w.heap.size, 0, none⟩) 0 0) [] :=
  ⟨rfl, .inr ⟨w.heap.size, 0, #[], rfl, hb, heap_alloc_new w _, Nat.le_refl _, by unfold maxLen; omega, rfl, rfl⟩⟩
theorem IntsOwn.kept {w w' : World} {base : Nat} {v : Value} {zs : List Int} (h : IntsOwn w base v zs) (hk : Kept w w') : IntsOwn w' base v zs := owns_same h (fun g hg => hk.2.2.2.2 g (owns_lt h g hg))
theorem IntsOwn.at {w : World} {base k : Nat} {v : Value} {zs : List Int} {x : Int} (h : IntsOwn w base v zs) (hx : zs[k]? = some x) : ∃ g c, v = .slice (some ⟨g, 0, none⟩) zs.length c ∧ zs.length ≤ c ∧ w.cell? ⟨g, k, none⟩ = some (.int .i64 x) := by
  have hp : (intsV zs)[k]? = some (.int .i64 x) := by simp [intsV, hx]
  obtain ⟨g, c, e, _, hc, hcell⟩ := owns_at h hp
  exact ⟨g, c, e, hc, hcell⟩
theorem run_ints_zero (w : World) (base : Nat) (v : Value) (zs : List Int) (hown : IntsOwn w base v zs) (a : Option Addr) (cap : Nat) (ty : TypeId) :
    (Builtin.append_ #[23, 23] ty #[v, .slice a 0 cap]).run Try.prog w = .ok v w := by
  obtain ⟨i0, hi, hz0, hz1, hz2⟩ := info_parts int_info
  have ht : Try.prog.underlying 23 = some (.slice 3) := Try.underlying23
  rcases hown.2 with ⟨rfl, h0⟩ | ⟨g, c, cur, rfl, _, _, hnc, _⟩
  · cases a <;> simp [Builtin.append_, run_underlying ht, sizeOf, typeInfo, hi, Builtin.lenOf, Builtin.firstCells, loadCells, loadCellsFrom, Result.andThen]
  · cases a <;> simp [Builtin.append_, run_underlying ht, sizeOf, typeInfo, hi, Builtin.lenOf, Builtin.firstCells, hnc, storeCells, loadCells, loadCellsFrom, Result.andThen]

theorem wpl_append_ints {ops : Array Oper} {rest : List Oper} {o : Oper} {a : Act} {Q : Exit → Act → World → Prop} (hgd : o.guard = none) (s x : Operand)
    (ho : o.op = .call { callee := .builtin .append, args := #[s, x], argTypes := #[23, 23] }) (w : World) (base : Nat) (v : Value) (zs : List Int) (hs : a.eval s = v) (hown : IntsOwn w base v zs)
    (n0 : Nat) (xv : Value) (ys : List Int) (hx : a.eval x = xv) (hv : IntsAt w n0 xv ys) (hn : zs.length + ys.length ≤ 17592186044416) (hbase : base ≤ w.heap.size) (m : Nat) (hm : zs.length + ys.length = m)
    (h : ∀ b' cap' w', IntsOwn w' base (.slice b' m cap') (zs ++ ys) → w.grownBy w' v.ownBlock → wpList Try.prog ops Q rest (a.put o.dst (.slice b' m cap')) w') : wpList Try.prog ops Q (o :: rest) a w := by
  have zero : ∀ a' cap', xv = .slice a' 0 cap' → ys = [] → wpList Try.prog ops Q (o :: rest) a w := by
    rintro a' cap' rfl rfl
    have hr := run_ints_zero w base v zs hown a' cap' o.type
    obtain ⟨b', c', rfl⟩ := owns_form hown
    have h' := h b' c' w (by rw [List.append_nil]; simp at hm; subst hm; exact hown) (grown_refl w _)
    simp at hm
    subst hm
    exact Lib.wpList_append_run w hgd s x _ _ ho _ _ hs hx _ w hr h'
  rcases hv with ⟨rfl, a', cap', rfl⟩ | ⟨c, o', cap, rfl, _, hc⟩
  · exact zero a' cap' rfl rfl
  · by_cases hy : ys = []
    · subst hy; exact zero _ _ rfl rfl
    · obtain ⟨i0, hi, hz0, hz1, hz2⟩ := info_parts int_info
      have hpos := List.length_pos_iff.2 hy
      refine wpList_append_lies w hgd s x 23 ho base 3 i0 (.int .i64 0) 1 8 Try.underlying23 hi hz0 hz1 hz2 rfl (by decide) v zs.length (intsV zs) hs hown ⟨c, o', none⟩ ys.length cap (intsV ys) hx
        (by rw [intsV_len]; omega) (fun j u hu => ?_) (intsV_one ys) hpos (by unfold maxLen; omega) (by omega) hbase w.heap.size rfl ?_
      · rw [Addr.add_mid]
        simp only [intsV, List.getElem?_map, Option.map_eq_some_iff] at hu
        obtain ⟨x, hx, rfl⟩ := hu
        exact hc j x hx
      · intro g cap1 w1 hown1 hgrow _ _
        have ho2 : IntsOwn w1 base (.slice (some ⟨g, 0, none⟩) m cap1) (zs ++ ys) := by
          unfold IntsOwn
          rw [List.length_append, show intsV (zs ++ ys) = intsV zs ++ intsV ys from List.map_append, ← hm]; exact hown1
        have := h _ cap1 w1 ho2 hgrow
        rw [← hm] at this
        exact this
theorem Kept.ints {w0 w w' : World} {base : Nat} {v : Value} {zs : List Int} (h : Kept w0 w) (ho : IntsOwn w base v zs) (hb : w0.heap.size ≤ base) (hg : w.grownBy w' v.ownBlock) : Kept w0 w' :=
  h.grown hg (fun k hk => Nat.le_trans hb (owns_base ho k hk))

theorem two_lit (w : World) (x y : Int) (n0 : Nat) (hn : w.heap.size < n0) : IntsAt (w.alloc (.cells #[.int .i64 x, .int .i64 y] 3)) n0 (.slice (some ⟨w.heap.size, 0, none⟩) 2 2) [x, y] := by
  refine .inr ⟨w.heap.size, 0, 2, rfl, hn, fun j z hz => ?_⟩
  match j with
  | 0 => simp at hz; subst hz; exact box_cell rfl 0 _ rfl
  | 1 => simp at hz; subst hz; exact box_cell rfl 1 _ rfl
  | j + 2 => simp at hz

end Rope
end Go.Proofs.Ythjagnnbhpfpoab
