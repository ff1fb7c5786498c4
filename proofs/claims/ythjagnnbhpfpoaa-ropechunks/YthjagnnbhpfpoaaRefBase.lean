import Derived.Test.YthjagnnbhpfpoaaRopeConcat
namespace Go.Proofs.Ythjagnnbhpfpoaa
open Go.RowKit
attribute [local go_sem] Oper.semAt_some
namespace Rope

theorem grown_refl (w : World) (row : Option Nat) : w.grownBy w row := ⟨rfl, rfl, rfl, Nat.le_refl _, fun _ _ _ => rfl⟩
theorem own_nil (w : World) (base : Nat) : Own w base (.slice none 0 0) [] := World.ownsRow_nil w base _ _
theorem own_form {w : World} {base : Nat} {v : Value} {bs : List Int} (h : Own w base v bs) : ∃ b c, v = .slice b bs.length c := by
  rcases h.2 with ⟨rfl, h0⟩ | ⟨g, c, cur, rfl, _⟩
  · exact ⟨none, 0, by rw [h0]⟩
  · exact ⟨_, _, rfl⟩

theorem run_append_zero (w : World) (base : Nat) (v : Value) (bs : List Int) (hown : Own w base v bs) (a : Option Addr) (cap : Nat) (ty : TypeId) :
    (Builtin.append_ #[22, 22] ty #[v, .slice a 0 cap]).run Try.prog w = .ok v w := by
  obtain ⟨i0, hi, hz0, hz1, hz2⟩ := info_parts u8_info
  have ht : Try.prog.underlying 22 = some (.slice 5) := Try.underlying22
  rcases hown.2 with ⟨rfl, h0⟩ | ⟨g, c, cur, rfl, _, _, hnc, _⟩
  · cases a <;> simp [Builtin.append_, run_underlying ht, sizeOf, typeInfo, hi, Builtin.lenOf, Builtin.firstCells, loadCells, loadCellsFrom, Result.andThen]
  · cases a <;> simp [Builtin.append_, run_underlying ht, sizeOf, typeInfo, hi, Builtin.lenOf, Builtin.firstCells, hnc, storeCells, loadCells, loadCellsFrom, Result.andThen]

/-- Bytes appended to a list of the call's own, whatever they are. -/
theorem wpl_append_list {ops : Array Oper} {rest : List Oper} {o : Oper} {a : Act} {Q : Exit → Act → World → Prop} (hgd : o.guard = none) (s x : Operand)
    (ho : o.op = .call { callee := .builtin .append, args := #[s, x], argTypes := #[22, 22] }) (w : World) (base : Nat) (v : Value) (bs : List Int) (hs : a.eval s = v) (hown : Own w base v bs)
    (S : Nat → Prop) (xv : Value) (ys : List Int) (hx : a.eval x = xv) (hv : ListAt S w xv ys) (hn : bs.length + ys.length ≤ 1000000000) (hbase : base ≤ w.heap.size) (m : Nat) (hm : bs.length + ys.length = m)
    (h : ∀ b' cap' w', Own w' base (.slice b' m cap') (bs ++ ys) → w.grownBy w' v.ownBlock → wpList Try.prog ops Q rest (a.put o.dst (.slice b' m cap')) w') : wpList Try.prog ops Q (o :: rest) a w := by
  rw [← List.length_append] at hm
  subst hm
  have zero : ∀ a' cap', xv = .slice a' 0 cap' → ys = [] → wpList Try.prog ops Q (o :: rest) a w := by
    rintro a' cap' rfl rfl
    have hr := run_append_zero w base v bs hown a' cap' o.type
    obtain ⟨b', c', rfl⟩ := own_form hown
    have h' := h b' c' w (by rw [List.append_nil]; exact hown) (grown_refl w _)
    rw [List.append_nil] at h'
    exact Lib.wpList_append_run w hgd s x _ _ ho _ _ hs hx _ w hr h'
  rcases hv with ⟨rfl, a', cap', rfl⟩ | ⟨c, o', cap, rfl, hle, _, hc, _⟩
  · exact zero a' cap' rfl rfl
  · by_cases hy : ys = []
    · subst hy; exact zero _ _ rfl rfl
    · exact wpl_append_bytes hgd s x ho w base v bs hs hown c o' cap ys hx hc (List.length_pos_iff.2 hy) hn hbase (fun g cap w' h1 h2 _ => h _ _ w' h1 h2)

/-- A part of a list. -/
theorem slice_list {S : Nat → Prop} {w : World} {a : Option Addr} {n cap : Nat} {bs : List Int} (h : ListAt S w (.slice a n cap) bs) (i k : Nat) (hik : i ≤ k) (hk : k ≤ n) :
    ∃ b c, (∀ w', (Instr.sliceAt 22 (.slice a n cap) (some (.int .i64 i)) (some (.int .i64 k)) none).run Try.prog w' = .ok (.slice b (k - i) c) w') ∧ ListAt S w (.slice b (k - i) c) ((bs.take k).drop i) := by
  have ht : Try.prog.underlying 22 = some (.slice (Try.prog.elem 22)) := by kernel_rfl
  have hcap : k ≤ cap := by
    rcases h with ⟨rfl, a', cap', he⟩ | ⟨c, o, cap', he, h1, _⟩
    · simp only [Value.slice.injEq] at he; omega
    · simp only [Value.slice.injEq] at he; omega
  have hsz : ∀ w', (sizeOf (Try.prog.elem 22)).run Try.prog w' = .ok 1 w' := fun w' => by kernel_rfl
  refine ⟨if cap = i then a else a.map (·.add (i * 1)), cap - i, fun w' => ?_, ?_⟩
  · rw [run_sliceAt_slice (P := Try.prog) (h := ht), run_slice_lh (P := Try.prog) (ht := ht) (h0 := by omega) (h1 := by omega) (h2 := by omega), hsz w']
    simp [Result.andThen, sliced]
  · rcases h with ⟨rfl, a', cap', he⟩ | ⟨c, o, cap', he, h1, h2, h3, h4⟩
    · simp only [Value.slice.injEq] at he
      obtain rfl : k = 0 := by omega
      exact .inl ⟨by simp, _, _, by rw [Nat.zero_sub]⟩
    · simp only [Value.slice.injEq] at he
      obtain ⟨rfl, rfl, rfl⟩ := he
      by_cases hki : k = i
      · subst hki
        refine .inl ⟨List.drop_eq_nil_of_le (by rw [List.length_take]; omega), _, _, by rw [Nat.sub_self]⟩
      · have hne : cap ≠ i := by omega
        refine .inr ⟨c, o + i, cap - i, ?_, ?_, h2, fun j x hx => ?_, (h4.take k).drop i⟩
        · have : ((bs.take k).drop i).length = k - i := by simp; omega
          rw [this, if_neg hne, Nat.mul_one]
          show Value.slice (some ((⟨c, o, none⟩ : Addr).add i)) _ _ = _
          rw [Addr.add_mid]
        · have : ((bs.take k).drop i).length = k - i := by simp; omega
          rw [this]; omega
        · rw [List.getElem?_drop, List.getElem?_take] at hx
          split at hx
          · rw [Nat.add_assoc]; exact h3 (i + j) x hx
          · cases hx

theorem slice_front {S : Nat → Prop} {w : World} {a : Option Addr} {n cap : Nat} {bs : List Int} (h : ListAt S w (.slice a n cap) bs) (k : Nat) (hk : k ≤ n) :
    ∃ b c, (∀ w', (Instr.sliceAt 22 (.slice a n cap) none (some (.int .i64 k)) none).run Try.prog w' = .ok (.slice b k c) w') ∧ ListAt S w (.slice b k c) (bs.take k) := by
  obtain ⟨b, c, h1, h2⟩ := slice_list h 0 k (Nat.zero_le _) hk
  refine ⟨b, c, fun w' => ?_, h2⟩
  have ht : Try.prog.underlying 22 = some (.slice (Try.prog.elem 22)) := by kernel_rfl
  have hcap : k ≤ cap := by
    rcases h with ⟨rfl, a', cap', he⟩ | ⟨c, o, cap', he, h1, _⟩
    · simp only [Value.slice.injEq] at he; omega
    · simp only [Value.slice.injEq] at he; omega
  have := h1 w'
  rw [run_sliceAt_slice (P := Try.prog) (h := ht), run_slice_lh (P := Try.prog) (ht := ht) (h0 := by omega) (h1 := by omega) (h2 := by omega)] at this
  rw [run_sliceAt_slice (P := Try.prog) (h := ht), run_slice_h (P := Try.prog) (ht := ht) (h0 := by omega) (h2 := by omega)]
  exact this
theorem slice_rest {S : Nat → Prop} {w : World} {a : Option Addr} {n cap : Nat} {bs : List Int} (h : ListAt S w (.slice a n cap) bs) (i : Nat) (hi : i ≤ n) :
    ∃ b c, (∀ w', (Instr.sliceAt 22 (.slice a n cap) (some (.int .i64 i)) none none).run Try.prog w' = .ok (.slice b (n - i) c) w') ∧ ListAt S w (.slice b (n - i) c) (bs.drop i) := by
  obtain ⟨b, c, h1, h2⟩ := slice_list h i n hi (Nat.le_refl _)
  have hn : n = bs.length ∧ n ≤ cap := by
    rcases h with ⟨rfl, a', cap', he⟩ | ⟨c, o, cap', he, h1, _⟩
    · simp only [Value.slice.injEq] at he; simp; omega
    · simp only [Value.slice.injEq] at he; omega
  rw [List.take_of_length_le (by omega)] at h2
  refine ⟨b, c, fun w' => ?_, h2⟩
  have ht : Try.prog.underlying 22 = some (.slice (Try.prog.elem 22)) := by kernel_rfl
  have := h1 w'
  rw [run_sliceAt_slice (P := Try.prog) (h := ht), run_slice_lh (P := Try.prog) (ht := ht) (h0 := by omega) (h1 := by omega) (h2 := by omega), Int.toNat_natCast, Int.toNat_natCast] at this
  rw [run_sliceAt_slice (P := Try.prog) (h := ht), run_slice_l (P := Try.prog) (ht := ht) (h0 := by omega) (h1 := by omega), Int.toNat_natCast]
  exact this

/-- A rope of the document. -/
def RefAt (S : Nat → Prop) (w : World) (r : Value) (xs : List Int) : Prop :=
  ∃ b v, r = .pointer (some ⟨b, 0, none⟩) ∧ S b ∧ w.cell? ⟨b, 0, none⟩ = some v ∧ ListAt S w v xs ∧ xs.length ≤ 16777216

end Rope
end Go.Proofs.Ythjagnnbhpfpoaa
