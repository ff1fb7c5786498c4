import Derived.Test.YthjagnnbhpfpoaaRopeTell
import Derived.Deep.AppendLies
import Derived.Deep.DeepMust
namespace Go.Proofs.Ythjagnnbhpfpoaa
open Go.RowKit
namespace Rope

theorem u8_info : (Try.prog.info? 5).map (fun i => (i.zero, i.size, i.bytes)) = some (some (.int .u8 0), 1, 1) := by kernel_rfl

def bytesV (bs : List Int) : List Value := bs.map (Value.int .u8)
theorem bytesV_len (bs : List Int) : (bytesV bs).length = bs.length := List.length_map ..
theorem bytesV_at (bs : List Int) (j : Nat) (x : Int) (h : bs[j]? = some x) : (bytesV bs)[j]? = some (.int .u8 x) := by simp [bytesV, h]
theorem bytesV_one (bs : List Int) : ∀ u ∈ bytesV bs, u.oneCell' = true := by
  intro u hu
  simp only [bytesV, List.mem_map] at hu
  obtain ⟨x, _, rfl⟩ := hu
  rfl

/-- v is a list of bytes in memory of its own, made since the heap had base blocks. -/
def Own (w : World) (base : Nat) (v : Value) (bs : List Int) : Prop := w.ownsRow base 5 1 v bs.length (bytesV bs)

theorem Own.slice {w : World} {base : Nat} {v : Value} {bs : List Int} (h : Own w base v bs) (hb : bs ≠ []) (hby : Byt bs) : SliceAt (fun b => base ≤ b) w v bs := by
  obtain ⟨h1, h2⟩ := h
  rcases h2 with ⟨_, h2⟩ | ⟨g, cap, cur, rfl, h3, h4, h5, h6, h7, h8⟩
  · exact absurd (List.length_eq_zero_iff.1 h2) hb
  · refine ⟨g, 0, cap, rfl, h5, h3, fun j x hx => ?_, hby⟩
    have e : (cur.toList.take (bs.length * 1))[j]? = some (.int .u8 x) := by rw [h8]; exact bytesV_at bs j x hx
    have hj : j < bs.length := by
      rcases Nat.lt_or_ge j bs.length with h | h
      · exact h
      · rw [List.getElem?_eq_none h] at hx; cases hx
    rw [List.getElem?_take, if_pos (by omega)] at e
    unfold World.cell?
    simp [h4]
    simpa using e

/-- The cells of a slice as append asks for them. -/
theorem SliceAt.news {w : World} {c o : Nat} {bs : List Int} (h : ∀ j x, bs[j]? = some x → w.cell? ⟨c, o + j, none⟩ = some (.int .u8 x)) :
    ∀ j u, (bytesV bs)[j]? = some u → w.cell? ((⟨c, o, none⟩ : Addr).add j) = some u := by
  intro j u hu
  rw [Addr.add_mid]
  simp only [bytesV, List.getElem?_map, Option.map_eq_some_iff] at hu
  obtain ⟨x, hx, rfl⟩ := hu
  exact h j x hx

theorem own_new (w : World) : (w.alloc (.cells #[] 5)).ownsRow w.heap.size 5 1 (.slice (some ⟨w.heap.size, 0, none⟩) 0 0) 0 [] :=
  ⟨rfl, .inr ⟨w.heap.size, 0, #[], rfl, Nat.le_refl _, by show (w.heap.push _)[w.heap.size]? = _; simp, Nat.le_refl _, by unfold maxLen; omega, rfl, rfl⟩⟩

theorem slice_nil (a : Addr) (l c : Nat) (w : World) : (binOp .eql 22 (.slice (some a) l c) (.slice none 0 0)).run Try.prog w = .ok (.bool false) w := by kernel_rfl

set_option maxRecDepth 100000 in
set_option maxHeartbeats 1000000 in
theorem clone_any (S : Nat → Prop) (v : Value) (bs : List Int) (w : World) (hv : SliceAt S w v bs) (hb : bs ≠ []) (hn : bs.length ≤ 100000000) :
    Calls Try.prog 50 #[v] w fun e w' => ∃ g cap, e = .returned (.slice (some ⟨g, 0, none⟩) bs.length cap) ∧ Kept w w' ∧ Own w' w.heap.size (.slice (some ⟨g, 0, none⟩) bs.length cap) bs ∧ w.heap.size ≤ g := by
  obtain ⟨c, o, cap, rfl, hcap, hS, hc, _⟩ := hv
  have hlt : c < w.heap.size := by
    cases bs with
    | nil => exact absurd rfl hb
    | cons x r => exact World.block_lt_of_cell? w _ (hc 0 x rfl)
  have hpos : 0 < bs.length := List.length_pos_iff.2 hb
  have HC : Hid (∀ j x, bs[j]? = some x → w.cell? ⟨c, o + j, none⟩ = some (.int .u8 x)) := hc
  clear hc
  have hnil := slice_nil
  have HI := info_parts u8_info
  have how := own_new w
  have hnews : ∀ j u, (bytesV bs)[j]? = some u → (w.alloc (.cells #[] 5)).cell? ((⟨c, o, none⟩ : Addr).add j) = some u :=
    SliceAt.news (fun j x hx => grown_cell ((Kept.refl w).alloc _ _) (HC j x hx))
  have HN : Hid (∀ j u, (bytesV bs)[j]? = some u → (w.alloc (.cells #[] 5)).cell? ((⟨c, o, none⟩ : Addr).add j) = some u) := hnews
  clear hnews
  go_enter Try.func50, Try.ntmps50
  go_wp2_with (at_builtin; go_must (obtain ⟨i0, hi, hz0, hz1, hz2⟩ := HI; refine wpList_append_lies _ rfl _ _ 22 (by rfl) w.heap.size 5 i0 (.int .u8 0) 1 1 Try.underlying22 hi hz0 hz1 hz2 rfl (by decide) _ 0 [] (by rfl) how ⟨c, o, none⟩ bs.length cap (bytesV bs) (by rfl) (by rw [bytesV_len]; omega) HN.out (bytesV_one bs) hpos (by unfold maxLen; omega) (by omega) (by simp) (w.heap.size + 1) (by simp) ?_; intro g cap1 w1 hown1 hgrow hat hlt1; clear hi hz0 hz1 hz2))
  go_ret
  refine ⟨g, cap1, rfl, Kept.of (((Below.refl _ w).alloc (Nat.le_refl _) _).grown hgrow (by simp) ?_), ?_, ?_⟩
  · intro k e
    simp only [Value.ownBlock, Option.some.injEq] at e
    omega
  · simpa [Own] using hown1
  · rcases hat with h | h
    · simp only [Value.ownBlock, Option.some.injEq] at h; omega
    · omega
theorem Own.kept {w w1 : World} {base : Nat} {v : Value} {bs : List Int} (h : Own w base v bs) (hk : Kept w w1) : Own w1 base v bs := by
  obtain ⟨h1, h2⟩ := h
  refine ⟨h1, ?_⟩
  rcases h2 with h2 | ⟨g, cap, cur, h3, h4, h5, h6⟩
  · exact .inl h2
  · refine .inr ⟨g, cap, cur, h3, h4, ?_, h6⟩
    have hlt : g < w.heap.size := by
      rcases Nat.lt_or_ge g w.heap.size with h | h
      · exact h
      · rw [Array.getElem?_eq_none h] at h5; cases h5
    rw [hk.below.block g hlt]; exact h5

theorem Own.low {w : World} {base base' : Nat} {v : Value} {bs : List Int} (h : Own w base v bs) (hb : base' ≤ base) : Own w base' v bs := by
  obtain ⟨h1, h2⟩ := h
  refine ⟨h1, ?_⟩
  rcases h2 with h2 | ⟨g, cap, cur, h3, h4, h5⟩
  · exact .inl h2
  · exact .inr ⟨g, cap, cur, h3, Nat.le_trans hb h4, h5⟩

theorem Own.base {w : World} {base : Nat} {v : Value} {bs : List Int} (h : Own w base v bs) : ∀ k, v.ownBlock = some k → base ≤ k := by
  intro k hk
  rcases h.2 with ⟨rfl, _⟩ | ⟨g, cap, cur, rfl, h3, _⟩
  · cases hk
  · simp only [Value.ownBlock, Option.some.injEq] at hk
    omega

theorem Kept.grown {w0 w w' : World} {row : Option Nat} (h : Kept w0 w) (hg : w.grownBy w' row) (hr : ∀ k, row = some k → w0.heap.size ≤ k) : Kept w0 w' :=
  Kept.of (h.below.grown hg h.size hr)

/-- Bytes appended to a list of the call's own. -/
theorem wpl_append_bytes {ops : Array Oper} {rest : List Oper} {o : Oper} {a : Act} {Q : Exit → Act → World → Prop} (hgd : o.guard = none) (s x : Operand)
    (ho : o.op = .call { callee := .builtin .append, args := #[s, x], argTypes := #[22, 22] }) (w : World) (base : Nat) (v : Value) (bs : List Int) (hs : a.eval s = v) (hown : Own w base v bs)
    (c o' cap : Nat) (ys : List Int) (hx : a.eval x = .slice (some ⟨c, o', none⟩) ys.length cap) (hc : ∀ j x, ys[j]? = some x → w.cell? ⟨c, o' + j, none⟩ = some (.int .u8 x))
    (ny : 0 < ys.length) (hn : bs.length + ys.length ≤ 1000000000) (hbase : base ≤ w.heap.size)
    (h : ∀ g cap w', Own w' base (.slice (some ⟨g, 0, none⟩) (bs ++ ys).length cap) (bs ++ ys) → w.grownBy w' v.ownBlock → base ≤ g →
      wpList Try.prog ops Q rest (a.put o.dst (.slice (some ⟨g, 0, none⟩) (bs ++ ys).length cap)) w') : wpList Try.prog ops Q (o :: rest) a w := by
  obtain ⟨i0, hi, hz0, hz1, hz2⟩ := info_parts u8_info
  refine wpList_append_lies w hgd s x 22 ho base 5 i0 (.int .u8 0) 1 1 Try.underlying22 hi hz0 hz1 hz2 rfl (by decide) v bs.length (bytesV bs) hs hown ⟨c, o', none⟩ ys.length cap (bytesV ys) hx
    (by rw [bytesV_len]; omega) (SliceAt.news hc) (bytesV_one ys) ny (by unfold maxLen; omega) (by omega) hbase w.heap.size rfl ?_
  intro g cap1 w1 hown1 hgrow hat hlt1
  have e : (bs ++ ys).length = bs.length + ys.length := List.length_append
  have e2 : bytesV (bs ++ ys) = bytesV bs ++ bytesV ys := List.map_append
  have ho2 : Own w1 base (.slice (some ⟨g, 0, none⟩) (bs ++ ys).length cap1) (bs ++ ys) := by unfold Own; rw [e, e2]; exact hown1
  have := h g cap1 w1 ho2 hgrow (ho2.base g rfl)
  rw [e] at this
  exact this

end Rope
end Go.Proofs.Ythjagnnbhpfpoaa
