import Derived.Test.YthpampfbmpdmoaaMTrC8
import Derived.Test.YthpampfbmpdmoaaMTrB1
import Derived.Test.YthpampfbmpdmoaaMTrB4
import Derived.Test.YthpampfbmpdmoaaMTrR1
namespace Go.Proofs.Ythpampfbmpdmoaa
open Go.RowKit
attribute [local go_sem] Oper.semAt_some
namespace Ex
namespace Tr
namespace Bk

section
variable {w w' : World}
theorem flatR_flat (l : List Nd) : flatR l = (l.map rowL).flatten := by
  unfold flatR
  rw [List.flatMap_def]
theorem rowL_six {l : List Nd} : ∀ x ∈ l.map rowL, x.length = 6 := by
  intro x hx
  obtain ⟨y, _, rfl⟩ := List.mem_map.1 hx
  rfl
/-- A list of rows in a block of its own. -/
structure RowsG (w0 w : World) (L : List Nd) (g cap : Nat) (E : List (List Value)) : Prop where
  row : RowE 88 6 w g E
  len : E.length = cap
  le : L.length ≤ cap
  max : cap ≤ maxLen
  is : E.take L.length = L.map rowL
  lo : w0.heap.size ≤ g
theorem owns_rowsG {base g n cap : Nat} {L : List Nd} (h : w.ownsRow base 88 6 (.slice (some ⟨g, 0, none⟩) n cap) n (flatR L)) (hn : n = L.length) {w0 : World} (hb : w0.heap.size ≤ base) : ∃ E, RowsG w0 w L g cap E := by
  subst hn
  obtain ⟨E, h1, h2, h3, h4, h5, h6⟩ := owns_rowE h
  have hE : ∀ x ∈ E, x.length = 6 := by obtain ⟨_, _, _, h⟩ := h1; exact h
  refine ⟨E, h1, h2, h4, h6, ?_, Nat.le_trans hb h5⟩
  exact flat_inj (sz := 6) (by decide) _ _ (fun x hx => hE x (List.mem_of_mem_take hx)) rowL_six (by rw [h3, flatR_flat])
theorem RowsG.rd {w0 : World} {L : List Nd} {g cap : Nat} {E : List (List Value)} (h : RowsG w0 w L g cap E) (hl : L.length ≤ 4194304) : RowsRd w (.slice (some ⟨g, 0, none⟩) L.length cap) L := by
  refine ⟨_, cap, rfl, hl, fun i x hx => ⟨g, rfl, fun j u hu => ?_⟩⟩
  have hi := (List.getElem?_eq_some_iff.1 hx).1
  have hE : E[i]? = some (rowL x) := by
    have h1 : (E.take L.length)[i]? = some (rowL x) := by rw [h.is, List.getElem?_map, hx]; rfl
    rwa [List.getElem?_take, if_pos hi] at h1
  exact h.row.cell (by decide) hE hu
theorem RowsG.same {w0 : World} {L : List Nd} {g cap : Nat} {E : List (List Value)} (h : RowsG w0 w L g cap E) (hh : w'.heap[g]? = w.heap[g]?) : RowsG w0 w' L g cap E := ⟨h.row.same hh, h.len, h.le, h.max, h.is, h.lo⟩
/-- Rows' answer. -/
def RowsR (L : List Nd) (w : World) (e : Ending) (w' : World) : Prop := ∃ g cap E, e = .returned (.slice (some ⟨g, 0, none⟩) L.length cap) ∧ RowsG w w' L g cap E ∧ Kept w w'
theorem rowsG_is {R : Nat → Prop} {N : Nat → Nd} {B b : Nat} (hF : Forest R N B w) (hb : R b) (hB : B ≤ w.heap.size) : Calls Try.prog 14 #[.pointer (some ⟨b, 0, none⟩)] w (RowsR ((wl N (N b).size [b] 0).map fun q => N q.2) w) := by
  refine (rowsF_is R N B b w hF hb hB).mono ?_
  rintro e w' ⟨⟨v, rfl, ho⟩, hk⟩
  have hlen : ((wl N (N b).size [b] 0).map fun q => N q.2).length = (N b).size := by
    rw [List.length_map]
    exact wl_length hF _ [b] 0 (fun p hp => by rw [List.mem_singleton.1 hp]; exact hb) (by simp [sizeS])
  have hpos := (hF b hb).2.1.1
  rcases ho.2 with ⟨_, h0⟩ | ⟨g, cap, cur, rfl, hr⟩
  · omega
  · obtain ⟨E, hE⟩ := owns_rowsG (w0 := w) (L := (wl N (N b).size [b] 0).map fun q => N q.2) (by exact ⟨ho.1, Or.inr ⟨g, cap, cur, rfl, hr⟩⟩) rfl (Nat.le_refl _)
    exact ⟨g, cap, E, rfl, hE, hk⟩
/-- A path in a block of its own. -/
structure PathG (w0 w : World) (p : List Nat) (g cap : Nat) (E : List (List Value)) : Prop where
  row : RowE 3 1 w g E
  len : E.length = cap
  le : p.length ≤ cap
  max : cap ≤ maxLen
  rd : PathRd w (.slice (some ⟨g, 0, none⟩) p.length cap) p
  small : p.length ≤ 4194304
  lo : w0.heap.size ≤ g
theorem PathG.same {w0 : World} {p : List Nat} {g cap : Nat} {E : List (List Value)} (h : PathG w0 w p g cap E) (hh : w'.heap[g]? = w.heap[g]?) : PathG w0 w' p g cap E := by
  refine ⟨h.row.same hh, h.len, h.le, h.max, ?_, h.small, h.lo⟩
  rcases h.rd with ⟨e, _⟩ | ⟨g', c', cur, e, h1, h2, h3, h4⟩
  · cases e
  · have e1 : g = g' := by
      injection e with e _ _
      injection e with e
      injection e with e
    subst e1
    exact Or.inr ⟨g, c', cur, e, h1, h2, hh.trans h3, h4⟩
def PathR (p : List Nat) (w : World) (e : Ending) (w' : World) : Prop := ∃ g cap E, e = .returned (.slice (some ⟨g, 0, none⟩) p.length cap) ∧ PathG w w' p g cap E ∧ Kept w w'
theorem pathG_is {Z : Nat → Prop} {W : World} {C : Nat} {wy : List (Nat × Nat × Nat)} (h : CurZ Z W w C wy) (hne : wy ≠ []) (hl : wy.length ≤ 4194304) : Calls Try.prog 13 #[.pointer (some ⟨C, 0, none⟩)] w (PathR (pathW wy) w) := by
  cases wy with
  | nil => exact absurd rfl hne
  | cons q ys =>
    have hyl : ys.length ≤ 4194304 := by simp at hl; omega
    obtain ⟨h1, h2, h3, wv, h4, h5, h6⟩ := h
    refine (pathS_is C _ wv q ys w h4 h5 hyl).mono ?_
    rintro e w' ⟨⟨g, c, rfl, ho⟩, hk⟩
    have hpw : pathW (q :: ys) = ys.map fun q => q.2.2 := rfl
    have hlen : (ys.map fun q => q.2.2).length = ys.length := by simp
    rw [hpw]
    have ho' : w'.ownsRow w.heap.size 3 1 (.slice (some ⟨g, 0, none⟩) ys.length c) ys.length (flatI (ys.map fun q => q.2.2)) := by
      have := ho
      unfold IOwn at this
      rwa [hlen] at this
    obtain ⟨E, e1, e2, e3, e4, e5, e6⟩ := owns_rowE ho'
    refine ⟨g, c, E, by rw [hlen], ⟨e1, e2, by rw [hlen]; exact e4, e6, ?_, by rw [hlen]; exact hyl, e5⟩, hk⟩
    have := ho.path (by rw [hlen]; exact hyl)
    rw [hlen]
    exact this
end
/-- The lists' values. -/
def valsI (its : Its) : List Value := its.map fun x => .slice (some ⟨x.1, 0, none⟩) x.2.1 x.2.2
/-- Lists that were kept in a list. -/
structure Lists (K : GrK) (w : World) (base : Nat) (sv : Value) (its : Its) : Prop where
  bag : ∃ C0, Bag K w its C0
  lone : Lone its
  spine : w.ownsRow base K.TT 1 sv its.length (valsI its)
  small : its.length ≤ 100
  lo : ∀ (i b n c : Nat), its[i]? = some (b, n, c) → base ≤ b
/-- Their blocks. -/
def LB (sv : Value) (its : Its) (k : Nat) : Prop := sv.ownBlock = some k ∨ ∃ i b n c : Nat, its[i]? = some (b, n, c) ∧ k = b
section
variable {K : GrK} {w w' : World} {base : Nat} {sv : Value} {its : Its}
theorem Lists.nil (K : GrK) (w : World) (base : Nat) : Lists K w base (.slice none 0 0) [] := ⟨⟨fun _ => [], fun t b n c h => by simp at h⟩, fun t t' b n c n' c' h => by simp at h, World.ownsRow_nil _ _ _ _, by simp, fun i b n c h => by simp at h⟩
theorem LB_nil (k : Nat) : ¬ LB (.slice none 0 0) [] k := by
  rintro (h | ⟨i, b, n, c, h, _⟩)
  · simp [Value.ownBlock] at h
  · simp at h
theorem Lists.lt (h : Lists K w base sv its) {k : Nat} (hk : LB sv its k) : base ≤ k ∧ k < w.heap.size := by
  obtain ⟨C0, hb⟩ := h.bag
  rcases hk with hk | ⟨i, b, n, c, hi, rfl⟩
  · exact World.ownsRow.lt h.spine k hk
  · exact ⟨h.lo i k n c hi, (hb i k n c hi).1.lt⟩
theorem Lists.kx (h : Lists K w base sv its) (hk : KX (LB sv its) w w') : Lists K w' base sv its := by
  obtain ⟨C0, hb⟩ := h.bag
  exact ⟨⟨C0, fun t b n c ht => ⟨(hb t b n c ht).1.same (hk.2 b (Or.inr ⟨t, b, n, c, ht, rfl⟩)), (hb t b n c ht).2⟩⟩, h.lone, owns_same h.spine (fun d hd => hk.2 d (Or.inl hd)), h.small, h.lo⟩
theorem Lists.spineTy (h : Lists K w base sv its) {k : Nat} (hk : sv.ownBlock = some k) : ∃ cur, w.heap[k]? = some (.cells cur K.TT (0, 0)) := by
  rcases h.spine.2 with ⟨rfl, _⟩ | ⟨g', c2, cu, rfl, _, h2, _⟩
  · simp [Value.ownBlock] at hk
  · have e2 : g' = k := by injection hk
    subst e2
    exact ⟨cu, h2⟩
theorem Lists.ty (h : Lists K w base sv its) {k : Nat} (hk : LB sv its k) : (∃ cur, w.heap[k]? = some (.cells cur K.TT (0, 0))) ∨ ∃ cur, w.heap[k]? = some (.cells cur K.T (0, 0)) := by
  rcases hk with hk | ⟨i, b, n, c, hi, rfl⟩
  · exact Or.inl (h.spineTy hk)
  · obtain ⟨C0, hb⟩ := h.bag
    obtain ⟨cur, h1, _⟩ := (hb i k n c hi).1
    exact Or.inr ⟨cur, h1⟩
theorem Lists.keep (h : Lists K w base sv its) (hk : Kept w w') : Lists K w' base sv its := h.kx ⟨hk.size, fun k hl => hk.2.2.2.2 k (h.lt hl).2⟩
theorem valsI_snoc (its : Its) (b n c : Nat) : valsI (its ++ [(b, n, c)]) = valsI its ++ [.slice (some ⟨b, 0, none⟩) n c] := by simp [valsI]
theorem Lists.spineNe (h : Lists K w base sv its) {b : Nat} {E : List (List Value)} (hr : RowE K.T K.sz w b E) : sv.ownBlock ≠ some b := fun e => by
  obtain ⟨cur, h1, _⟩ := hr
  rcases h.spine.2 with ⟨rfl, _⟩ | ⟨g', c2, cu, rfl, _, h2, _⟩
  · simp [Value.ownBlock] at e
  · have e2 : g' = b := by injection e
    subst e2
    rw [h1] at h2
    injection h2 with h2
    injection h2 with _ h2 _
    exact K.ne h2
theorem bag_add {C0 : Nat → List (List Value)} (hbag : Bag K w its C0) {b n c : Nat} {E : List (List Value)} (hr : RowE K.T K.sz w b E) (hl : E.length = c) (hn : n ≤ c) (hn4 : n ≤ 4194304) (hm : c ≤ maxLen) : Bag K w (its ++ [(b, n, c)]) (upd C0 its.length E) := by
  intro t b' n' c' ht
  rcases snoc_some ht with ht | ⟨rfl, e⟩
  · have htl := (List.getElem?_eq_some_iff.1 ht).1
    rw [upd_other (by omega)]
    exact hbag t b' n' c' ht
  · simp only [Prod.mk.injEq] at e
    obtain ⟨rfl, rfl, rfl⟩ := e
    rw [upd_same]
    exact ⟨hr, hl, hn, hn4, hm⟩
theorem lone_add (h : Lone its) {b n c : Nat} (hnew : ∀ (i n' c' : Nat), its[i]? = some (b, n', c') → False) : Lone (its ++ [(b, n, c)]) := by
  intro t t' b' n1 c1 n2 c2 ht ht'
  rcases snoc_some ht with ht | ⟨e1, e2⟩
  · rcases snoc_some ht' with ht' | ⟨e3, e4⟩
    · exact h t t' b' n1 c1 n2 c2 ht ht'
    · simp only [Prod.mk.injEq] at e4
      rw [e4.1] at ht
      exact (hnew t n1 c1 ht).elim
  · simp only [Prod.mk.injEq] at e2
    rcases snoc_some ht' with ht' | ⟨e3, _⟩
    · rw [e2.1] at ht'
      exact (hnew t' n2 c2 ht').elim
    · omega
/-- More lists. -/
theorem Lists.ext (h : Lists K w base sv its) {its' : Its} (hb : ∃ C0, Bag K w its' C0) (hl : Lone its') (hs : its'.length ≤ 100) (hlo : ∀ (i b n c : Nat), its'[i]? = some (b, n, c) → base ≤ b) {g cap m : Nat} (hm : its'.length = m)
    (ho : w'.ownsRow base K.TT 1 (.slice (some ⟨g, 0, none⟩) m cap) m (valsI its')) (hk : ∀ k, k < w.heap.size → sv.ownBlock ≠ some k → w'.heap[k]? = w.heap[k]?) : Lists K w' base (.slice (some ⟨g, 0, none⟩) m cap) its' := by
  subst hm
  obtain ⟨C0, hbag⟩ := hb
  exact ⟨⟨C0, fun t b n c ht => ⟨(hbag t b n c ht).1.same (hk b (hbag t b n c ht).1.lt (h.spineNe (hbag t b n c ht).1)), (hbag t b n c ht).2⟩⟩, hl, ho, hs, hlo⟩
theorem LB_add {b n c g cap m k : Nat} (h : LB (.slice (some ⟨g, 0, none⟩) m cap) (its ++ [(b, n, c)]) k) : k = g ∨ k = b ∨ LB sv its k := by
  rcases h with h | ⟨i, b', n', c', hi, rfl⟩
  · left
    have : g = k := by injection h
    exact this.symm
  · rcases snoc_some hi with hi | ⟨_, e⟩
    · exact Or.inr (Or.inr (Or.inr ⟨i, k, n', c', hi, rfl⟩))
    · simp only [Prod.mk.injEq] at e
      exact Or.inr (Or.inl e.1)
/-- What Grown asks. -/
theorem Lists.heads (h : Lists K w base sv its) (hpos : its ≠ []) : ∃ g cap C0, sv = .slice (some ⟨g, 0, none⟩) its.length cap ∧ Bag K w its C0 ∧ Heads w g its := by
  obtain ⟨C0, hbag⟩ := h.bag
  have hl : 0 < its.length := List.length_pos_iff.2 hpos
  rcases h.spine.2 with ⟨_, h0⟩ | ⟨g, cap, cur, rfl, hr⟩
  · omega
  · refine ⟨g, cap, C0, rfl, hbag, fun t b n c ht => ?_⟩
    have hv : (valsI its)[t]? = some (.slice (some ⟨b, 0, none⟩) n c) := by unfold valsI; rw [List.getElem?_map, ht]; rfl
    obtain ⟨g', c', e, _, _, hc⟩ := owns_at h.spine hv
    simp only [Value.slice.injEq, Option.some.injEq, Addr.mk.injEq] at e
    obtain ⟨⟨rfl, _⟩, _, _⟩ := e
    refine ⟨hc, fun e => ?_⟩
    obtain ⟨cu, h1, _⟩ := (hbag t b n c ht).1
    rw [e, hr.2.1] at h1
    injection h1 with h1
    injection h1 with _ h1 _
    exact K.ne h1.symm
end
/-- A cursor's pair that was left alone. -/
theorem _root_.Go.Proofs.Ythpampfbmpdmoaa.Ex.Tr.Mid.stayA {A : Nat → Prop} {W w w' : World} {C cb d : Nat} {wy : List (Nat × Nat × Nat)} {p : List Nat} (h : Mid (fun k => k < w.heap.size ∧ ¬ A k) W w w C cb d wy p) (hk : KX A w w') (hW : Kept W w') : Mid (fun k => k < w'.heap.size ∧ ¬ A k) W w' w' C cb d wy p := by
  obtain ⟨g1, g2, g3, ⟨pv, g4, g5, g9⟩, _, _, _⟩ := h
  have hcl := g4.cells.2.2.2
  have hcb : A cb := by
    by_cases h : A cb
    · exact h
    · exact absurd ⟨hcl, h⟩ g3
  have hpA : ∀ g, pv.ownBlock = some g → A g := fun g hg => by
    have hpl : g < w.heap.size := by
      rcases g5 with ⟨rfl, _⟩ | ⟨g', cap, cur, rfl, _, _, hc, _⟩
      · simp [Value.ownBlock] at hg
      · have e : g' = g := by injection hg
        subst e
        exact (Array.getElem?_eq_some_iff.1 hc).1
    by_cases h : A g
    · exact h
    · exact absurd ⟨hpl, h⟩ (g9 g hg)
  have hCl := g1.ltC
  obtain ⟨q1, q2, q3, wv, q4, q5, q6⟩ := g1
  have hin : ∀ k, k < w.heap.size → ¬ ((k < w.heap.size ∧ ¬ A k) ∨ k = cb) → A k := fun k hk hn => by
    by_cases h : A k
    · exact h
    · exact absurd (Or.inl ⟨hk, h⟩) hn
  refine ⟨⟨hW, q2, ?_, wv, (hk.2 C (hin C hCl q3)).trans q4, owns_same q5 (fun k hd => hk.2 k (hin k (World.ownsRow.lt q5 k hd).2 (q6 k hd).2)), fun k hd => ⟨(q6 k hd).1, ?_⟩⟩, g2, fun h => h.2 hcb, ⟨pv, (hk.2 cb hcb).trans g4, ?_, fun g hg hz => hz.2 (hpA g hg)⟩, ⟨Nat.le_refl _, fun _ _ => rfl⟩, IntK.refl _, fun k hk => hk.1⟩
  · rintro (h | h)
    · exact h.2 (hin C hCl q3)
    · exact q3 (Or.inr h)
  · rintro (h | h)
    · exact h.2 (hin k (World.ownsRow.lt q5 k hd).2 (q6 k hd).2)
    · exact (q6 k hd).2 (Or.inr h)
  · rcases g5 with h | ⟨g', cap, cur, rfl, h1, h2, hc, h4⟩
    · exact Or.inl h
    · exact Or.inr ⟨g', cap, cur, rfl, h1, h2, (hk.2 g' (hpA g' rfl)).trans hc, h4⟩

end Bk
end Tr
end Ex
end Go.Proofs.Ythpampfbmpdmoaa
namespace Go.Proofs.Ythpampfbmpdmoaa
open Go.RowKit
attribute [local go_sem] Oper.semAt_some
namespace Ex
namespace Tr
namespace Bk

/-- All rows are appended to a list that is empty. -/
theorem wpl_want {ops : Array Oper} {rest : List Oper} {o : Oper} {a : Act} {Q : Exit → Act → World → Prop} (hgd : o.guard = none) (s x : Operand) (ho : o.op = .call { callee := .builtin .append, args := #[s, x], argTypes := #[63, 63] }) (w : World) (e0 : Nat) (hs : a.eval s = .slice (some ⟨e0, 0, none⟩) 0 0) (he : w.heap[e0]? = some (.cells #[] 88 (0, 0)))
    {w0 : World} {L : List Nd} {g cap n : Nat} {E : List (List Value)} (hR : RowsG w0 w L g cap E) (hn : L.length = n) (hx : a.eval x = .slice (some ⟨g, 0, none⟩) n cap) (hpos : 0 < n) (hl : n ≤ 4194304) {wb : World} (hb : wb.heap.size ≤ e0) (hbw : wb.heap.size ≤ w.heap.size)
    (h : ∀ g' cap' E' w', RowsG wb w' L g' cap' E' → (∀ k, k < w.heap.size → k ≠ e0 → w'.heap[k]? = w.heap[k]?) → w.heap.size ≤ w'.heap.size → w'.os = w.os → w'.tape = w.tape → w'.output = w.output → wpList Try.prog ops Q rest (a.put o.dst (.slice (some ⟨g', 0, none⟩) n cap')) w') : wpList Try.prog ops Q (o :: rest) a w := by
  obtain ⟨i0, hi, hz0, hz1, hz2⟩ := info_parts rowt_info
  subst hn
  have hE : ∀ x ∈ E, x.length = 6 := by obtain ⟨_, _, _, h⟩ := hR.row; exact h
  have hfl : (E.take L.length).flatten = flatR L := by rw [hR.is, flatR_flat]
  refine wpList_append_lies w hgd s x 63 ho wb.heap.size 88 i0 _ 6 48 Try.underlying63 hi hz0 hz1 hz2 rfl (by decide) (.slice (some ⟨e0, 0, none⟩) 0 0) 0 [] hs ⟨rfl, Or.inr ⟨e0, 0, #[], rfl, hb, he, Nat.le_refl _, by unfold maxLen; omega, rfl, rfl⟩⟩ ⟨g, 0, none⟩ L.length cap (flatR L) hx (flatR_len L) ?_ ?_ hpos (by unfold maxLen; omega) (by omega) hbw w.heap.size rfl ?_
  · intro j u hu
    rw [Addr.add_mid, Nat.zero_add]
    obtain ⟨cur, c1, c2, _⟩ := hR.row
    have hj : j < L.length * 6 := by have := (List.getElem?_eq_some_iff.1 hu).1; rw [flatR_len] at this; exact this
    rw [← hfl, flat_take E L.length hE, List.getElem?_take, if_pos hj, ← c2] at hu
    simp only [World.cell?, c1]
    simpa using hu
  · intro u hu
    unfold flatR at hu
    obtain ⟨y, _, hy⟩ := List.mem_flatMap.1 hu
    unfold rowL at hy
    simp only [List.mem_cons, List.not_mem_nil, or_false] at hy
    rcases hy with rfl | rfl | rfl | rfl | rfl | rfl <;> rfl
  · intro g' cap' w' h1 h2 h3 h4
    rw [Nat.zero_add] at h1 ⊢
    rw [List.nil_append] at h1
    obtain ⟨E', hE'⟩ := owns_rowsG (w0 := wb) h1 rfl (Nat.le_refl _)
    exact h g' cap' E' w' hE' (fun k hk hne => h2.block k hk (fun e => hne (by simp only [Value.ownBlock, Option.some.injEq] at e; exact e))) h2.size h2.os h2.tape h2.output
/-- Two lists are appended at once. -/
theorem two_add {ops : Array Oper} {rest : List Oper} {o : Oper} {a : Act} {Q : Exit → Act → World → Prop} (hgd : o.guard = none) (s x : Operand)
    (ho : o.op = .call { callee := .builtin .append, args := #[s, x], argTypes := #[66, 66] }) (w W : World) (hW : Kept w W) (n0 : Nat) (vP : Value) (n : Nat) (ps : List Value) (hs : a.eval s = vP) (hown : w.ownsRow n0 40 1 vP n ps)
    (q q' : Option Addr) (k cq k' cq' : Nat) (lb : Nat) (hx : a.eval x = .slice (some ⟨lb, 0, none⟩) 2 2) (hc : W.heap[lb]? = some (.cells #[.slice q k cq, .slice q' k' cq'] 40 (0, 0))) (hn : n ≤ 2000000000) (hb : n0 ≤ w.heap.size)
    (h : ∀ g cap w', w'.ownsRow n0 40 1 (.slice (some ⟨g, 0, none⟩) (n + 2) cap) (n + 2) (ps ++ [.slice q k cq, .slice q' k' cq']) → W.grownBy w' vP.ownBlock → (vP.ownBlock = some g ∨ g = W.heap.size) → g < w'.heap.size → wpList Try.prog ops Q rest (a.put o.dst (.slice (some ⟨g, 0, none⟩) (n + 2) cap)) w') : wpList Try.prog ops Q (o :: rest) a W := by
  obtain ⟨i0, hi, hz0, hz1, hz2⟩ := info_parts intst_info
  have hown' : W.ownsRow n0 40 1 vP n ps := owns_same hown (fun g hg => hW.2.2.2.2 g (owns_lt hown g hg))
  refine wpList_append_lies W hgd s x 66 ho n0 40 i0 (.slice none 0 0) 1 24 Try.underlying66 hi hz0 hz1 hz2 rfl (by decide) vP n ps hs hown' ⟨lb, 0, none⟩ 2 2 [.slice q k cq, .slice q' k' cq'] hx rfl ?_ (by intro u hu; simp at hu; rcases hu with rfl | rfl <;> rfl) (by decide) (by unfold maxLen; omega) (by omega) (Nat.le_trans hb hW.size) W.heap.size rfl
    (fun g cap w' h1 h2 h3 h4 => h g cap w' h1 h2 h3 h4)
  intro j y hj
  have hj2 : j < 2 := (List.getElem?_eq_some_iff.1 hj).1
  match j, hj2 with
  | 0, _ => rw [← hj]; simp [World.cell?, Addr.add, hc]
  | 1, _ => rw [← hj]; simp [World.cell?, Addr.add, hc]
theorem Lists.grownI {w : World} {base : Nat} {sv : Value} {its : Its} (h : Lists KI w base sv its) : Calls Try.prog 17 #[sv] w fun e w' => e = .returned (.bool true) ∧ KeptBag its w w' := by
  by_cases h0 : its = []
  · subst h0
    rcases h.spine.2 with ⟨rfl, _⟩ | ⟨g, cap, cur, rfl, _⟩
    · refine (grown_ints_nil w).mono ?_
      rintro e w' ⟨rfl, rfl⟩
      exact ⟨rfl, KeptBag.refl _ _⟩
    · exact grown_ints [] g 0 cap (fun _ => []) w rfl (by omega) (fun t b n c ht => by simp at ht) h.lone (fun t b n c ht => by simp at ht)
  · obtain ⟨g, cap, C0, rfl, hb, hh⟩ := h.heads h0
    exact grown_ints its g its.length cap C0 w rfl (by have := h.small; omega) hb h.lone hh
theorem Lists.grownR {w : World} {base : Nat} {sv : Value} {its : Its} (h : Lists KR w base sv its) (h0 : its ≠ []) : Calls Try.prog 16 #[sv] w fun e w' => e = .returned (.bool true) ∧ KeptBag its w w' := by
  obtain ⟨g, cap, C0, rfl, hb, hh⟩ := h.heads h0
  exact grown_rows its g its.length cap C0 w rfl (by have := h.small; omega) hb h.lone hh
section
variable {P : List Nat} {N : Nat → Nd} {X : Nat → Rd} {Q : List Nat} {B : Nat} {W w w' : World} {C cb d b gw cw : Nat} {Ew : List (List Value)} {L : List Nd} {rv pv : Value} {ri pi : Its}
/-- While rows are handed out. -/
def Bk1 (W w : World) (C b gw cw : Nat) (Ew : List (List Value)) (L : List Nd) (rv : Value) (ri : Its) : Prop :=
  ∃ A : Nat → Prop, CurZ (fun k => ¬ A k) W w C [(b, 0, 0)] ∧ (∀ k, A k → k < w.heap.size) ∧ RowsG W w L gw cw Ew ∧ ¬ A gw ∧ Lists KR w W.heap.size rv ri ∧ (∀ k, LB rv ri k → ¬ A k) ∧ ¬ LB rv ri gw
theorem Bk1.kept (h : Bk1 W w C b gw cw Ew L rv ri) : Kept W w := by
  obtain ⟨_, h, _⟩ := h
  exact h.1
theorem Bk1.keep (h : Bk1 W w C b gw cw Ew L rv ri) (hk : Kept w w') : Bk1 W w' C b gw cw Ew L rv ri := by
  obtain ⟨A, h1, h2, h3, h4, h5, h6, h7⟩ := h
  exact ⟨A, h1.keep hk, fun k hA => Nat.lt_of_lt_of_le (h2 k hA) hk.size, h3.same (hk.2.2.2.2 gw h3.row.lt), h4, h5.keep hk, h6, h7⟩
theorem Bk1.wantG (h : Bk1 W w C b gw cw Ew L rv ri) : RowsG W w L gw cw Ew := by
  obtain ⟨A, h1, h2, h3, h4, h5, h6, h7⟩ := h
  exact h3
theorem Bk1.spine (h : Bk1 W w C b gw cw Ew L rv ri) {k : Nat} (hk : ri.length = k) (hw : Kept w w') : w'.ownsRow W.heap.size 63 1 rv k (valsI ri) := by
  subst hk
  obtain ⟨A, h1, h2, h3, h4, h5, h6, h7⟩ := h
  exact (h5.keep hw).spine
/-- One list of rows more. -/
theorem Bk1.add (h : Bk1 W w C b gw cw Ew L rv ri) {ga ca : Nat} {Ea : List (List Value)} {u0 wA w7 : World} (hk0 : Kept w u0) (hR : RowsG w u0 L ga ca Ea) (hk1 : Kept u0 wA) (hl4 : L.length ≤ 4194304) (hs : ri.length < 100) {g7 c7 m : Nat} (hm : ri.length = m)
    (ho : w7.ownsRow W.heap.size 63 1 (.slice (some ⟨g7, 0, none⟩) (m + 1) c7) (m + 1) (valsI ri ++ [.slice (some ⟨ga, 0, none⟩) L.length ca])) (hg : wA.grownBy w7 rv.ownBlock) (hgg : rv.ownBlock = some g7 ∨ g7 = wA.heap.size) :
    Bk1 W w7 C b gw cw Ew L (.slice (some ⟨g7, 0, none⟩) (m + 1) c7) (ri ++ [(ga, L.length, ca)]) := by
  subst hm
  have hold : ∀ k, LB rv ri k → k < w.heap.size := fun k hk => by obtain ⟨_, _, _, _, _, h5, _⟩ := h; exact (h5.lt hk).2
  have hAold : ∃ A : Nat → Prop, (∀ k, A k → k < w.heap.size) ∧ CurZ (fun k => ¬ A k) W wA C [(b, 0, 0)] ∧ RowsG W wA L gw cw Ew ∧ ¬ A gw ∧ Lists KR wA W.heap.size rv ri ∧ (∀ k, LB rv ri k → ¬ A k) ∧ ¬ LB rv ri gw ∧ gw < w.heap.size := by
    have hk := gtrans hk0 hk1
    obtain ⟨A, h1, h2, h3, h4, h5, h6, h7⟩ := h
    exact ⟨A, h2, h1.keep hk, h3.same (hk.2.2.2.2 gw h3.row.lt), h4, h5.keep hk, h6, h7, h3.row.lt⟩
  obtain ⟨A, a2, a1, a3, a4, a5, a6, a7, a8⟩ := hAold
  have hsz := (gtrans hk0 hk1).size
  have hRA := hR.same (hk1.2.2.2.2 ga hR.row.lt)
  have hlo := hR.lo
  have hWw : W.heap.size ≤ w.heap.size := by obtain ⟨_, h1, _⟩ := h; exact h1.1.size
  have hblk : ∀ k, k < wA.heap.size → rv.ownBlock ≠ some k → w7.heap[k]? = wA.heap[k]? := fun k hk hne => hg.block k hk (fun e => hne e.symm)
  have hown : ∀ k, rv.ownBlock = some k → W.heap.size ≤ k ∧ k < w.heap.size ∧ ¬ A k := fun k hk => ⟨(World.ownsRow.lt a5.spine k hk).1, hold k (Or.inl hk), a6 k (Or.inl hk)⟩
  have hg7 : ¬ A g7 := by
    rcases hgg with e | e
    · exact (hown g7 e).2.2
    · intro hA
      have := a2 g7 hA
      omega
  have hWk : Kept W w7 := ⟨hg.os.trans a1.1.1, hg.tape.trans a1.1.2.1, hg.output.trans a1.1.2.2.1, Nat.le_trans a1.1.size hg.size, fun k hk => (hblk k (by omega) (fun e => by have := (hown k e).1; omega)).trans (a1.1.2.2.2.2 k hk)⟩
  have hLs : Lists KR w7 W.heap.size (.slice (some ⟨g7, 0, none⟩) (ri.length + 1) c7) (ri ++ [(ga, L.length, ca)]) := by
    obtain ⟨C0, hbag⟩ := a5.bag
    refine a5.ext ⟨_, bag_add hbag (hRA.row : RowE KR.T KR.sz wA ga Ea) hRA.len hRA.le hl4 hRA.max⟩ (lone_add a5.lone (fun i n' c' hi => ?_)) (by simp; omega) (fun i b' n' c' hi => ?_) (by simp) (by rw [valsI_snoc]; exact ho) hblk
    · have := hold ga (Or.inr ⟨i, ga, n', c', hi, rfl⟩)
      omega
    · rcases snoc_some hi with hi | ⟨_, e⟩
      · exact a5.lo i b' n' c' hi
      · simp only [Prod.mk.injEq] at e
        omega
  refine ⟨A, ?_, fun k hA => by have := a2 k hA; have := hg.size; omega, a3.same (hblk gw (by omega) (fun e => a7 (Or.inl e))), a4, hLs, fun k hk => ?_, fun hk => ?_⟩
  · obtain ⟨q1, q2, q3, wv, q4, q5, q6⟩ := a1
    have hnot : ∀ k, ¬ ¬ A k → rv.ownBlock ≠ some k := fun k hA e => hA (hown k e).2.2
    exact ⟨hWk, q2, q3, wv, (hblk C q4.lt (hnot C q3)).trans q4, owns_same q5 (fun k hd => hblk k (World.ownsRow.lt q5 k hd).2 (hnot k (q6 k hd).2)), q6⟩
  · rcases LB_add (sv := rv) hk with rfl | rfl | hk
    · exact hg7
    · intro hA
      have := a2 k hA
      omega
    · exact a6 k hk
  · rcases LB_add (sv := rv) hk with e | e | hk
    · rcases hgg with e2 | e2
      · exact a7 (Or.inl (by rw [e]; exact e2))
      · omega
    · omega
    · exact a7 hk
/-- While paths are handed out. -/
def BkI (P : List Nat) (N : Nat → Nd) (X : Nat → Rd) (W w : World) (C cb d gw cw : Nat) (Ew : List (List Value)) (L : List Nd) (rv : Value) (ri : Its) (pv : Value) (pi : Its) : Prop :=
  ∃ (A : Nat → Prop) (wy : List (Nat × Nat × Nat)), PathOk (fun b => b ∈ P) N (btw P X d) wy ∧ Mid (fun k => k < w.heap.size ∧ ¬ A k) W w w C cb d wy (pathW wy) ∧ (∀ k, A k → k < w.heap.size) ∧ RowsG W w L gw cw Ew ∧ ¬ A gw ∧ Lists KR w W.heap.size rv ri ∧ (∀ k, LB rv ri k → ¬ A k) ∧ ¬ LB rv ri gw ∧ Lists KI w W.heap.size pv pi ∧ (∀ k, LB pv pi k → ¬ A k)
theorem BkI.kept (h : BkI P N X W w C cb d gw cw Ew L rv ri pv pi) : Kept W w := by
  obtain ⟨_, _, _, h, _⟩ := h
  exact h.kept
/-- The document's cursor is made. -/
theorem Bk1.begin (h : Bk1 W w C b gw cw Ew L rv ri) (hbt : btw P X d = b) (hb : b ∈ P) : BkI P N X W (w.alloc (.cells #[.pointer (some ⟨d, 0, none⟩), .slice none 0 0] 42)) C w.heap.size d gw cw Ew L rv ri (.slice none 0 0) [] := by
  have hk : Kept w (w.alloc (.cells #[.pointer (some ⟨d, 0, none⟩), .slice none 0 0] 42)) := (Kept.refl w).alloc _ _
  have hs : (w.alloc (.cells #[.pointer (some ⟨d, 0, none⟩), .slice none 0 0] 42)).heap.size = w.heap.size + 1 := by simp
  have hWs := h.kept.size
  obtain ⟨A, h1, h2, h3, h4, h5, h6, h7⟩ := h
  refine ⟨fun k => A k ∨ k = w.heap.size, [(b, 0, 0)], by rw [hbt]; exact path_one hb, ⟨h1.more hk ?_, hWs, fun h => h.2 (Or.inr rfl), ⟨_, World.alloc_heap_new w _, PathRd.nil _, fun g hg => by simp [Value.ownBlock] at hg⟩, ⟨Nat.le_refl _, fun _ _ => rfl⟩, IntK.refl _, fun k hk => hk.1⟩, ?_, h3.same (hk.2.2.2.2 gw h3.row.lt), ?_, h5.keep hk, ?_, h7, Lists.nil _ _ _, fun k hk => absurd hk (LB_nil k)⟩
  · rintro k (h | h)
    · exact Or.inl fun hA => h.2 (Or.inl hA)
    · exact Or.inr (Or.inr (by omega))
  · rintro k (hA | rfl)
    · have := h2 k hA
      omega
    · omega
  · rintro (hA | e)
    · exact h4 hA
    · have := h3.row.lt
      omega
  · rintro k hk (hA | e)
    · exact h6 k hk hA
    · have := (h5.lt hk).2
      omega
theorem BkI.keep (h : BkI P N X W w C cb d gw cw Ew L rv ri pv pi) (hk : Kept w w') : BkI P N X W w' C cb d gw cw Ew L rv ri pv pi := by
  obtain ⟨A, wy, h1, h2, h3, h4, h5, h6, h7, h8, h9, h10⟩ := h
  exact ⟨A, wy, h1, h2.stayA ⟨hk.size, fun k hA => hk.2.2.2.2 k (h3 k hA)⟩ (gtrans h2.kept hk), fun k hA => Nat.lt_of_lt_of_le (h3 k hA) hk.size, h4.same (hk.2.2.2.2 gw h4.row.lt), h5, h6.keep hk, h7, h8, h9.keep hk, h10⟩
theorem BkI.moved (h : BkI P N X W w C cb d gw cw Ew L rv ri pv pi) (hG : Grd P Q N X B W d) (wh k a : Int) (ha1 : -9223372036854775808 ≤ a) (ha2 : a ≤ 9223372036854775807) : Calls Try.prog 8 #[.pointer (some ⟨C, 0, none⟩), .pointer (some ⟨cb, 0, none⟩), .agg #[.int .i64 wh, .int .i64 k, .int .i64 a]] w fun e w' => e = .returned (.bool true) ∧ BkI P N X W w' C cb d gw cw Ew L rv ri pv pi := by
  obtain ⟨A, wy, h1, h2, h3, h4, h5, h6, h7, h8, h9, h10⟩ := h
  refine (moved_is hG h1 h2 wh k a ha1 ha2).mono ?_
  rintro e w' ⟨rfl, wy', g1, g2⟩
  have hKX := g2.2.2.2.2.1
  have hs := hKX.1
  obtain ⟨q1, q2, q3, ⟨pv', q4, q5, q9⟩, q6, q7, q8⟩ := g2
  have hz : ∀ k, (k < w'.heap.size ∧ ¬ (A k ∨ (w.heap.size ≤ k ∧ k < w'.heap.size))) → k < w.heap.size ∧ ¬ A k := by
    rintro k ⟨k1, k2⟩
    refine ⟨?_, fun h => k2 (Or.inl h)⟩
    rcases Nat.lt_or_ge k w.heap.size with h | h
    · exact h
    · exact absurd (Or.inr ⟨h, k1⟩) k2
  have hout : ∀ k, k < w.heap.size → ¬ A k → ¬ (A k ∨ (w.heap.size ≤ k ∧ k < w'.heap.size)) := fun k hk hA h => h.elim hA (fun h => by omega)
  refine ⟨rfl, fun k => A k ∨ (w.heap.size ≤ k ∧ k < w'.heap.size), wy', g1, ⟨q1.less fun k hk => hk.elim (fun h => Or.inl (hz k h)) Or.inr, q2, fun h => q3 (hz _ h), ⟨pv', q4, q5, fun g hg h => q9 g hg (hz _ h)⟩, ⟨Nat.le_refl _, fun _ _ => rfl⟩, IntK.refl _, fun k hk => hk.1⟩, ?_, h4.same (hKX.2 gw ⟨h4.row.lt, h5⟩), hout gw h4.row.lt h5, h6.kx ⟨hs, fun k hk => hKX.2 k ⟨(h6.lt hk).2, h7 k hk⟩⟩, fun k hk => hout k (h6.lt hk).2 (h7 k hk), h8, h9.kx ⟨hs, fun k hk => hKX.2 k ⟨(h9.lt hk).2, h10 k hk⟩⟩, fun k hk => hout k (h9.lt hk).2 (h10 k hk)⟩
  rintro k (hA | hA)
  · have := h3 k hA
    omega
  · exact hA.2
/-- What both cursors tell of their path. -/
theorem BkI.paths (h : BkI P N X W w C cb d gw cw Ew L rv ri pv pi) (hG : Grd P Q N X B W d) : ∃ (p : List Nat) (qv : Value), w.cell? ⟨cb, 1, none⟩ = some qv ∧ PathRd w qv p ∧ cb < w.heap.size ∧ ∀ V, Kept w V → Calls Try.prog 13 #[.pointer (some ⟨C, 0, none⟩)] V (PathR p V) := by
  obtain ⟨A, wy, h1, h2, h3, h4, h5, h6, h7, h8, h9, h10⟩ := h
  obtain ⟨qv, g1, g2, _⟩ := h2.2.2.2.1
  have hl := hG.len h1
  exact ⟨_, qv, g1.cells.2.1, g2, g1.cells.2.2.2, fun V hV => pathG_is (h2.1.keep hV) hl.2 hl.1⟩
theorem BkI.spineP (h : BkI P N X W w C cb d gw cw Ew L rv ri pv pi) {k : Nat} (hk : pi.length = k) (hw : Kept w w') : w'.ownsRow W.heap.size 40 1 pv k (valsI pi) := by
  subst hk
  obtain ⟨A, wy, h1, h2, h3, h4, h5, h6, h7, h8, h9, h10⟩ := h
  exact (h9.keep hw).spine
/-- Two paths more. -/
theorem BkI.add (h : BkI P N X W w C cb d gw cw Ew L rv ri pv pi) {p : List Nat} {g1 c1 g2 c2 : Nat} {E1 E2 : List (List Value)} {u1 u2 wA w7 : World} (k0 : Kept w u1) (hp1 : PathG w u1 p g1 c1 E1) (k1 : Kept u1 u2) (hp2 : PathG u1 u2 p g2 c2 E2) (k2 : Kept u2 wA) (hs : pi.length + 2 ≤ 100) {g7 c7 m : Nat} (hm : pi.length = m)
    (ho : w7.ownsRow W.heap.size 40 1 (.slice (some ⟨g7, 0, none⟩) (m + 2) c7) (m + 2) (valsI pi ++ [.slice (some ⟨g1, 0, none⟩) p.length c1, .slice (some ⟨g2, 0, none⟩) p.length c2])) (hg : wA.grownBy w7 pv.ownBlock) (hgg : pv.ownBlock = some g7 ∨ g7 = wA.heap.size) :
    BkI P N X W w7 C cb d gw cw Ew L rv ri (.slice (some ⟨g7, 0, none⟩) (m + 2) c7) (pi ++ [(g1, p.length, c1)] ++ [(g2, p.length, c2)]) := by
  subst hm
  have hkA := gtrans k0 (gtrans k1 k2)
  have hsz := hkA.size
  have hs1 := k0.size
  have hs2 := k1.size
  have l1 := hp1.row.lt
  have l2 := hp2.row.lt
  have lo1 := hp1.lo
  have lo2 := hp2.lo
  have hp1A := hp1.same ((gtrans k1 k2).2.2.2.2 g1 l1)
  have hp2A := hp2.same (k2.2.2.2.2 g2 l2)
  have hWw : W.heap.size ≤ w.heap.size := h.kept.size
  obtain ⟨A, wy, h1, h2, h3, h4, h5, h6, h7, h8, h9, h10⟩ := h
  have hlt9 : ∀ k, LB pv pi k → k < w.heap.size := fun k hk => (h9.lt hk).2
  have hWA : Kept W wA := gtrans h2.kept hkA
  have m2 := h2.stayA ⟨hsz, fun k hA => hkA.2.2.2.2 k (h3 k hA)⟩ hWA
  have m4 := h4.same (hkA.2.2.2.2 gw h4.row.lt)
  have m6 := h6.keep hkA
  have m9 := h9.keep hkA
  have hblk : ∀ k, k < wA.heap.size → pv.ownBlock ≠ some k → w7.heap[k]? = wA.heap[k]? := fun k hk hne => hg.block k hk (fun e => hne e.symm)
  have hown : ∀ k, pv.ownBlock = some k → W.heap.size ≤ k ∧ k < w.heap.size ∧ ¬ A k := fun k hk => ⟨(World.ownsRow.lt h9.spine k hk).1, hlt9 k (Or.inl hk), h10 k (Or.inl hk)⟩
  have hty : ∀ k, pv.ownBlock = some k → ∃ cur, wA.heap[k]? = some (.cells cur 40 (0, 0)) := fun k hk => m9.spineTy hk
  have hg7 : ¬ A g7 := by
    rcases hgg with e | e
    · exact (hown g7 e).2.2
    · intro hA
      have := h3 g7 hA
      omega
  have hWk : Kept W w7 := ⟨hg.os.trans hWA.1, hg.tape.trans hWA.2.1, hg.output.trans hWA.2.2.1, Nat.le_trans hWA.size hg.size, fun k hk => (hblk k (by omega) (fun e => by have := (hown k e).1; omega)).trans (hWA.2.2.2.2 k hk)⟩
  have hgw : pv.ownBlock ≠ some gw := fun e => by
    obtain ⟨cur, hc⟩ := hty gw e
    obtain ⟨cu, hc2, _⟩ := m4.row
    rw [hc] at hc2
    simp at hc2
  have hri : ∀ k, LB rv ri k → pv.ownBlock ≠ some k := fun k hk e => by
    obtain ⟨cur, hc⟩ := hty k e
    rcases m6.ty hk with ⟨cu, hc2⟩ | ⟨cu, hc2⟩
    · rw [hc] at hc2
      simp [KR] at hc2
    · rw [hc] at hc2
      simp [KR] at hc2
  have hLs : Lists KI w7 W.heap.size (.slice (some ⟨g7, 0, none⟩) (pi.length + 2) c7) (pi ++ [(g1, p.length, c1)] ++ [(g2, p.length, c2)]) := by
    obtain ⟨C0, hbag⟩ := m9.bag
    refine m9.ext ⟨_, bag_add (bag_add hbag (hp1A.row : RowE KI.T KI.sz wA g1 E1) hp1A.len hp1A.le hp1A.small hp1A.max) (hp2A.row : RowE KI.T KI.sz wA g2 E2) hp2A.len hp2A.le hp2A.small hp2A.max⟩ (lone_add (lone_add m9.lone (fun i n' c' hi => ?_)) (fun i n' c' hi => ?_)) (by simp; omega) (fun i b' n' c' hi => ?_) (by simp) (by rw [valsI_snoc, valsI_snoc, List.append_assoc]; exact ho) hblk
    · have := hlt9 g1 (Or.inr ⟨i, g1, n', c', hi, rfl⟩)
      omega
    · rcases snoc_some hi with hi | ⟨_, e⟩
      · have := hlt9 g2 (Or.inr ⟨i, g2, n', c', hi, rfl⟩)
        omega
      · simp only [Prod.mk.injEq] at e
        omega
    · rcases snoc_some hi with hi | ⟨_, e⟩
      · rcases snoc_some hi with hi | ⟨_, e⟩
        · exact m9.lo i b' n' c' hi
        · simp only [Prod.mk.injEq] at e
          omega
      · simp only [Prod.mk.injEq] at e
        omega
  refine ⟨A, wy, h1, m2.stayA ⟨hg.size, fun k hA => hblk k (by have := h3 k hA; omega) (fun e => (hown k e).2.2 hA)⟩ hWk, fun k hA => by have := h3 k hA; have := hg.size; omega, m4.same (hblk gw (by have := h4.row.lt; omega) hgw), h5, m6.kx ⟨hg.size, fun k hk => hblk k (m6.lt hk).2 (hri k hk)⟩, h7, h8, hLs, fun k hk => ?_⟩
  rcases hk with hk | ⟨i, b', n', c', hi, rfl⟩
  · have e : g7 = k := by injection hk
    rw [← e]
    exact hg7
  · rcases snoc_some hi with hi | ⟨_, e⟩
    · rcases snoc_some hi with hi | ⟨_, e⟩
      · exact h10 k (Or.inr ⟨i, k, n', c', hi, rfl⟩)
      · simp only [Prod.mk.injEq] at e
        intro hA
        have := h3 k hA
        omega
    · simp only [Prod.mk.injEq] at e
      intro hA
      have := h3 k hA
      omega
/-- Behind the end of the moves: what both Grown leave alone. -/
theorem BkI.finish (h : BkI P N X W w C cb d gw cw Ew L rv ri pv pi) (hG : Grd P Q N X B W d) : ∃ p : List Nat, (∀ V, Kept w V → Calls Try.prog 13 #[.pointer (some ⟨C, 0, none⟩)] V (PathR p V)) ∧ ∀ u2, Kept w u2 → Lists KR u2 W.heap.size rv ri ∧ ∀ u3, KeptBag ri u2 u3 → Lists KI u3 W.heap.size pv pi ∧ ∀ u4, KeptBag pi u3 u4 →
    Kept W u4 ∧ RowsG W u4 L gw cw Ew ∧ (∃ qv, u4.cell? ⟨cb, 1, none⟩ = some qv ∧ PathRd u4 qv p) ∧ cb < u4.heap.size ∧ (∀ V, Kept u4 V → Calls Try.prog 13 #[.pointer (some ⟨C, 0, none⟩)] V (PathR p V)) ∧ ∀ k, w.heap.size ≤ k → k < u2.heap.size → u4.heap[k]? = u2.heap[k]? := by
  obtain ⟨A, wy, h1, h2, h3, h4, h5, h6, h7, h8, h9, h10⟩ := h
  have hl := hG.len h1
  refine ⟨pathW wy, fun V hV => pathG_is (h2.1.keep hV) hl.2 hl.1, fun u2 hk2 => ?_⟩
  have m2 := h2.stayA ⟨hk2.size, fun k hA => hk2.2.2.2.2 k (h3 k hA)⟩ (gtrans h2.kept hk2)
  have m4 := h4.same (hk2.2.2.2.2 gw h4.row.lt)
  have m6 := h6.keep hk2
  have m9 := h9.keep hk2
  have hs2 := hk2.size
  refine ⟨m6, fun u3 hk => ?_⟩
  have hW := m2.kept
  have hbk : ∀ k, k < u2.heap.size → ¬ LB rv ri k → u3.heap[k]? = u2.heap[k]? := fun k hl hn => hk.2.2.2.2 k hl (fun t b n c ht e => hn (Or.inr ⟨t, b, n, c, ht, e⟩))
  have hWk : Kept W u3 := ⟨hk.1.trans hW.1, hk.2.1.trans hW.2.1, hk.2.2.1.trans hW.2.2.1, Nat.le_trans hW.size hk.2.2.2.1, fun k hl => (hbk k (Nat.lt_of_lt_of_le hl hW.size) (fun hL => by have := (m6.lt hL).1; omega)).trans (hW.2.2.2.2 k hl)⟩
  have hpi : ∀ k, LB pv pi k → ∀ t b n c, ri[t]? = some (b, n, c) → k ≠ b := fun k hL t b n c ht e => by
    subst e
    obtain ⟨C0, hbag⟩ := m6.bag
    obtain ⟨cu, hc2, _⟩ := (hbag t k n c ht).1
    rcases m9.ty hL with ⟨cur, hc⟩ | ⟨cur, hc⟩
    · rw [hc2] at hc
      simp [KI, KR] at hc
    · rw [hc2] at hc
      simp [KI, KR] at hc
  have n9 : Lists KI u3 W.heap.size pv pi := m9.kx ⟨hk.2.2.2.1, fun k hL => hk.2.2.2.2 k (m9.lt hL).2 (hpi k hL)⟩
  have n4 := m4.same (hbk gw m4.row.lt h8)
  have n2 := m2.stayA ⟨hk.2.2.2.1, fun k hA => hbk k (by have := h3 k hA; omega) (fun hL => h7 k hL hA)⟩ hWk
  refine ⟨n9, fun u4 hq => ?_⟩
  have hbq : ∀ k, k < u3.heap.size → ¬ LB pv pi k → u4.heap[k]? = u3.heap[k]? := fun k hl hn => hq.2.2.2.2 k hl (fun t b n c ht e => hn (Or.inr ⟨t, b, n, c, ht, e⟩))
  have hWq : Kept W u4 := ⟨hq.1.trans hWk.1, hq.2.1.trans hWk.2.1, hq.2.2.1.trans hWk.2.2.1, Nat.le_trans hWk.size hq.2.2.2.1, fun k hl => (hbq k (Nat.lt_of_lt_of_le hl hWk.size) (fun hL => by have := (n9.lt hL).1; omega)).trans (hWk.2.2.2.2 k hl)⟩
  have hs3 := hk.2.2.2.1
  have hs4 := hq.2.2.2.1
  have q2 := n2.stayA ⟨hs4, fun k hA => hbq k (by have := h3 k hA; omega) (fun hL => h10 k hL hA)⟩ hWq
  have hgw : ∀ t b n c, pi[t]? = some (b, n, c) → gw ≠ b := fun t b n c ht e => by
    subst e
    obtain ⟨C0, hbag⟩ := n9.bag
    obtain ⟨cu, hc2, _⟩ := (hbag t gw n c ht).1
    obtain ⟨cur, hc, _⟩ := n4.row
    rw [hc2] at hc
    simp [KI] at hc
  obtain ⟨qv, g1, g2, _⟩ := q2.2.2.2.1
  refine ⟨hWq, n4.same (hq.2.2.2.2 gw n4.row.lt hgw), ⟨qv, g1.cells.2.1, g2⟩, g1.cells.2.2.2, fun V hV => pathG_is (q2.1.keep hV) hl.2 hl.1, fun k hk1 hk2' => ?_⟩
  rw [hbq k (by omega) (fun hL => by have := (h9.lt hL).2; omega), hbk k hk2' (fun hL => by have := (h6.lt hL).2; omega)]
end

end Bk
end Tr
end Ex
end Go.Proofs.Ythpampfbmpdmoaa
