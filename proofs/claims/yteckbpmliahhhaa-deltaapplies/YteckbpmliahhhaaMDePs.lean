import Derived.Test.YteckbpmliahhhaaMDeOn
import Derived.Test.YteckbpmliahhhaaMTrK1
import Derived.Sort.CutIn
import Derived.Sort.QuietIn
namespace Go.Proofs.Yteckbpmliahhhaa
open Go.RowKit Go.Maps
attribute [local go_sem] Oper.semAt_some
namespace Ex
namespace Tr
theorem wide_depth : Fence.wide.depth = none := rfl
attribute [local simp] wide_fn wide_depth

theorem IMap.look {w : World} {b n : Nat} {f : Int → Option Int} (h : IMap w b n f) {k : Int} (hk : fits k) : (Instr.lookup 114 (.map (some b)) (.int .i64 k) true).run Try.prog w = .ok (.tuple #[.int .i64 ((f k).getD 0), .bool (f k).isSome]) w := by
  obtain ⟨D, h1, h2⟩ := h
  obtain ⟨v, ps, hrun, hv⟩ := h1.look_ok i_key Try.underlying114 (i_zero w) (zd := liI 0) (zp := []) (plainElem_int Try.underlying3 (by decide)) (fits_key hk)
  rw [(h2 k hk).1] at hrun
  rw [(h2 k hk).2] at hv
  have e : ((f k).map liI).getD (liI 0) = liI ((f k).getD 0) := by cases f k <;> rfl
  rw [e] at hv
  obtain ⟨c', rfl, hc', _⟩ := plainElem_int_inv Try.underlying3 hv
  simp only [liI, Prod.mk.injEq, DataW.lit.injEq, Lit.int.injEq, true_and] at hc'
  rw [← hc'.1] at hrun
  rw [hrun]
  simp
/-- Where the leaf of that place begins. -/
def beg (N : Nat → Nd) (b j : Nat) : Nat := wsum N ((lvs N b).take j)
def withS (N : Nat → Nd) (b : Nat) (h : Hk) : Hk × (Nat × Nat) := (h, (beg N b h.into, beg N b h.upto))
def encH (x : Hk × (Nat × Nat)) : Array Value := #[.agg #[.int .i64 (x.1.fr : Int), .int .i64 (x.1.to_ : Int), .int .i64 (x.1.into : Int), .int .i64 (x.1.upto : Int)], .agg #[.int .i64 (x.2.1 : Int), .int .i64 (x.2.2 : Int)]]
def hunksL (N : Nat → Nd) (a b : Nat) : List Hk := hks (numL N (lvs N a)).length (numL N (lvs N b)).length (pairsL (numL N (lvs N a)) (numL N (lvs N b))) 0 0
def HBox (w : World) (hb : Nat) (f t i u : Int) : Prop := w.heap[hb]? = some (.cells #[.int .i64 f, .int .i64 t, .int .i64 i, .int .i64 u] 83 (0, 0))
def SBox (w : World) (sb : Nat) (f t : Int) : Prop := w.heap[sb]? = some (.cells #[.int .i64 f, .int .i64 t] 118 (0, 0))
theorem HBox.cells {w : World} {hb : Nat} {f t i u : Int} (h : HBox w hb f t i u) : w.cell? ⟨hb, 0, none⟩ = some (.int .i64 f) ∧ w.cell? ⟨hb, 1, none⟩ = some (.int .i64 t) ∧ w.cell? ⟨hb, 2, none⟩ = some (.int .i64 i) ∧ w.cell? ⟨hb, 3, none⟩ = some (.int .i64 u) ∧ w.frozen? ⟨hb, 0, none⟩ = false ∧ w.frozen? ⟨hb, 1, none⟩ = false ∧ w.frozen? ⟨hb, 2, none⟩ = false ∧ w.frozen? ⟨hb, 3, none⟩ = false := by
  unfold HBox at h
  refine ⟨?_, ?_, ?_, ?_, ?_, ?_, ?_, ?_⟩ <;> simp [World.cell?, World.frozen?, h]
theorem SBox.cells {w : World} {sb : Nat} {f t : Int} (h : SBox w sb f t) : w.cell? ⟨sb, 0, none⟩ = some (.int .i64 f) ∧ w.cell? ⟨sb, 1, none⟩ = some (.int .i64 t) ∧ w.frozen? ⟨sb, 0, none⟩ = false ∧ w.frozen? ⟨sb, 1, none⟩ = false := by
  unfold SBox at h
  refine ⟨?_, ?_, ?_, ?_⟩ <;> simp [World.cell?, World.frozen?, h]
theorem HBox.set1 {w : World} {hb : Nat} {f t i u : Int} (h : HBox w hb f t i u) (v : Int) : HBox (w.setCell ⟨hb, 1, none⟩ (.int .i64 v)) hb f v i u := by
  unfold HBox at h ⊢
  have hl := (Array.getElem?_eq_some_iff.1 h).1
  have he := Option.some.inj ((Array.getElem?_eq_getElem hl).symm.trans h)
  simp [World.setCell, Array.getElem_modify, hl, he]
theorem HBox.set3 {w : World} {hb : Nat} {f t i u : Int} (h : HBox w hb f t i u) (v : Int) : HBox (w.setCell ⟨hb, 3, none⟩ (.int .i64 v)) hb f t i v := by
  unfold HBox at h ⊢
  have hl := (Array.getElem?_eq_some_iff.1 h).1
  have he := Option.some.inj ((Array.getElem?_eq_getElem hl).symm.trans h)
  simp [World.setCell, Array.getElem_modify, hl, he]
theorem SBox.set1 {w : World} {sb : Nat} {f t : Int} (h : SBox w sb f t) (v : Int) : SBox (w.setCell ⟨sb, 1, none⟩ (.int .i64 v)) sb f v := by
  unfold SBox at h ⊢
  have hl := (Array.getElem?_eq_some_iff.1 h).1
  have he := Option.some.inj ((Array.getElem?_eq_getElem hl).symm.trans h)
  simp [World.setCell, Array.getElem_modify, hl, he]
/-- The blocks that the iterator has made, and which it may write. -/
def TP (T : Nat → Prop) (yb hb sb br : Nat) (k : Nat) : Prop := T k ∨ k = yb ∨ k = hb ∨ k = sb ∨ k = br
/-- All blocks but those of a set lie as they lay. -/
def KT (S : Nat → Prop) (u v : World) : Prop := v.os = u.os ∧ v.tape = u.tape ∧ v.output = u.output ∧ u.heap.size ≤ v.heap.size ∧ ∀ k, k < u.heap.size → ¬ S k → v.heap[k]? = u.heap[k]?
theorem KT.step {S : Nat → Prop} {u v : World} (h : KT S u v) : StepW S S u v := ⟨h.1, h.2.1, h.2.2.1, h.2.2.2.1, h.2.2.2.2, fun _ hb => Or.inl hb⟩
theorem KT.trans {S : Nat → Prop} {u v w : World} (h : KT S u v) (k : KT S v w) : KT S u w := ⟨k.1.trans h.1, k.2.1.trans h.2.1, k.2.2.1.trans h.2.2.1, Nat.le_trans h.2.2.2.1 k.2.2.2.1, fun d hd h1 => (k.2.2.2.2 d (Nat.lt_of_lt_of_le hd h.2.2.2.1) h1).trans (h.2.2.2.2 d hd h1)⟩
theorem _root_.Go.Proofs.Yteckbpmliahhhaa.Ex.Kept.kt (S : Nat → Prop) {u v : World} (h : Kept u v) : KT S u v := ⟨h.1, h.2.1, h.2.2.1, h.2.2.2.1, fun k hk _ => h.2.2.2.2 k hk⟩
theorem KeptBut.kt {S : Nat → Prop} {b : Nat} {u v : World} (h : KeptBut b u v) (hb : S b) : KT S u v := ⟨h.1, h.2.1, h.2.2.1, h.2.2.2.1, fun k hk hn => h.2.2.2.2 k hk (fun e => hn (e ▸ hb))⟩
/-- While the second tree's leaves are gone through. -/
def PsI (N : Nat → Nd) (a b : Nat) (X : Nat → Prop) (l : Nat) (J : (Nat → Prop) → List (Hk × (Nat × Nat)) → World → Prop) (W0 : World) (yb hb sb br H : Nat) (T : Nat → Prop) (pre : List (Nat × Nat)) (W : World) : Prop :=
  (∀ k, T k → H ≤ k) ∧ H ≤ W.heap.size ∧ KX X W0 W ∧ W.heap[yb]? = some (.cells #[.func (.yield l) #[] #[]] 116 (0, 0)) ∧ W.heap[br]? = some (.cells #[.pointer (some ⟨b, 0, none⟩)] 43 (0, 0)) ∧
  ∃ (f i : Nat) (Q : List (Nat × Nat)) (dn : List Hk), PartI (numL N (lvs N a)) (numL N (lvs N b)) pre.length f i Q dn ∧ HBox W hb f f i pre.length ∧ SBox W sb (beg N b i) (beg N b pre.length) ∧ J (TP T yb hb sb br) (dn.map (withS N b)) W
theorem PsI.stable {N : Nat → Nd} {a b : Nat} {X : Nat → Prop} {l : Nat} {J : (Nat → Prop) → List (Hk × (Nat × Nat)) → World → Prop} {W0 : World} {yb hb sb br H : Nat} (hJ : StableW J) (h1 : yb < H) (h2 : hb < H) (h3 : sb < H) (h4 : br < H) (hX : ∀ k, X k → k < H) : StableW (PsI N a b X l J W0 yb hb sb br H) := by
  rintro T T' s A A' ⟨g1, g2, g3, g4, g5, f, i, Q, dn, g6, g7, g8, g9⟩ hs
  have hn : ∀ k, k < H → ¬ T k := fun k hk h => by have := g1 k h; omega
  have hst : ∀ k, k < H → A'.heap[k]? = A.heap[k]? := fun k hk => hs.2.2.2.2.1 k (by omega) (hn k hk)
  refine ⟨fun k hk => ?_, Nat.le_trans g2 hs.2.2.2.1, ⟨Nat.le_trans g3.1 hs.2.2.2.1, fun k hk => (hst k (hX k hk)).trans (g3.2 k hk)⟩, (hst yb h1).trans g4, (hst br h4).trans g5, f, i, Q, dn, g6, (hst hb h2).trans g7, (hst sb h3).trans g8, hJ _ _ _ _ _ g9 ⟨hs.1, hs.2.1, hs.2.2.1, hs.2.2.2.1, fun k hk hr => hs.2.2.2.2.1 k hk (fun e => hr (Or.inl e)), fun d hd => ?_⟩⟩
  · rcases hs.2.2.2.2.2 k hk with h | h
    · exact g1 k h
    · omega
  · rcases hd with hd | hd
    · rcases hs.2.2.2.2.2 d hd with h | h
      · exact Or.inl (Or.inl h)
      · exact Or.inr h
    · exact Or.inl (Or.inr hd)
def PsX (Jx : (Nat → Prop) → List (Hk × (Nat × Nat)) → World → Prop) (xs : List (Hk × (Nat × Nat))) (yb hb sb br H : Nat) (c : Code) (T : Nat → Prop) (_ : List (Nat × Nat)) (W : World) : Prop :=
  c = .ret ∧ (∀ k, T k → H ≤ k) ∧ H ≤ W.heap.size ∧ ∃ p, p <+: xs ∧ Jx (TP T yb hb sb br) p W
theorem PsX.stable {Jx : (Nat → Prop) → List (Hk × (Nat × Nat)) → World → Prop} {xs : List (Hk × (Nat × Nat))} {yb hb sb br H : Nat} (hJ : StableW Jx) (c : Code) : StableW (PsX Jx xs yb hb sb br H c) := by
  rintro T T' s A A' ⟨g0, g1, g2, p, hp, g3⟩ hs
  refine ⟨g0, fun k hk => ?_, Nat.le_trans g2 hs.2.2.2.1, p, hp, hJ _ _ _ _ _ g3 ⟨hs.1, hs.2.1, hs.2.2.1, hs.2.2.2.1, fun k hk hr => hs.2.2.2.2.1 k hk (fun e => hr (Or.inl e)), fun d hd => ?_⟩⟩
  · rcases hs.2.2.2.2.2 k hk with h | h
    · exact g1 k h
    · omega
  · rcases hd with hd | hd
    · rcases hs.2.2.2.2.2 d hd with h | h
      · exact Or.inl (Or.inl h)
      · exact Or.inr h
    · exact Or.inl (Or.inr hd)
theorem but2 (g : Nat) (w : World) (x0 x1 : Value) : KeptBut g w ((w.setCell ⟨g, 0, none⟩ x0).setCell ⟨g, 1, none⟩ x1) := (setCell_but w g 0 x0).trans (setCell_but _ g 1 x1)
theorem set2 {w : World} {g : Nat} {y0 y1 : Value} {t : TypeId} (h : w.heap[g]? = some (.cells #[y0, y1] t (0, 0))) (x0 x1 : Value) : ((w.setCell ⟨g, 0, none⟩ x0).setCell ⟨g, 1, none⟩ x1).heap[g]? = some (.cells #[x0, x1] t (0, 0)) := by
  have hl := (Array.getElem?_eq_some_iff.1 h).1
  have he := Option.some.inj ((Array.getElem?_eq_getElem hl).symm.trans h)
  simp [World.setCell, Array.getElem_modify, hl, he]
theorem KT.mono {S S' : Nat → Prop} {u v : World} (h : KT S u v) (hs : ∀ k, S k → S' k) : KT S' u v := ⟨h.1, h.2.1, h.2.2.1, h.2.2.2.1, fun k hk hn => h.2.2.2.2 k hk (fun e => hn (hs k e))⟩
/-- A round's end. -/
theorem ps_norm {N : Nat → Nd} {a b B ab bb pb mb l : Nat} {J : (Nat → Prop) → List (Hk × (Nat × Nat)) → World → Prop} {Ix : Code → (Nat → Prop) → List (Nat × Nat) → World → Prop} {W0 V V' : World} {yb hb sb br H pl f i : Nat} {T : Nat → Prop} {pre' : List (Nat × Nat)} {Q : List (Nat × Nat)} {dn : List Hk} {ac : Act}
    (g1 : ∀ k, T k → H ≤ k) (g2 : H ≤ V.heap.size) (g3 : KX (pX B ab bb pb mb) W0 V) (g4 : V.heap[yb]? = some (.cells #[.func (.yield l) #[] #[]] 116 (0, 0))) (g5 : V.heap[br]? = some (.cells #[.pointer (some ⟨b, 0, none⟩)] 43 (0, 0)))
    (hkeep : ∀ k, (T k ∨ k = yb ∨ k = br) → V'.heap[k]? = V.heap[k]?) (hs : V.heap.size ≤ V'.heap.size) (hX : KX (pX B ab bb pb mb) V V') (hP : PartI (numL N (lvs N a)) (numL N (lvs N b)) (pl + 1) f i Q dn) (hH : HBox V' hb f f i ((pl : Int) + 1)) (hS : SBox V' sb (beg N b i) (beg N b (pl + 1))) (hJ : J (TP T yb hb sb br) (dn.map (withS N b)) V') (hl : pre'.length = pl + 1) :
    postX T (KX fun k => k < B ∨ k = br) (PsI N a b (pX B ab bb pb mb) l J W0 yb hb sb br H) Ix pre' V .normal ac V' := by
  refine ⟨hs, fun k hk => hkeep k (Or.inl hk), ⟨hs, fun k hk => ?_⟩, g1, Nat.le_trans g2 hs, g3.trans hX, (hkeep yb (Or.inr (Or.inl rfl))).trans g4, (hkeep br (Or.inr (Or.inr rfl))).trans g5, f, i, Q, dn, ?_, ?_, ?_, hJ⟩
  · rcases hk with hk | rfl
    · exact hX.2 k (Or.inl hk)
    · exact hkeep k (Or.inr (Or.inr rfl))
  · rw [hl]; exact hP
  · rw [hl]; exact hH
  · rw [hl]; exact hS
theorem beg_step (N : Nat → Nd) (b : Nat) {pre : List (Nat × Nat)} {x : Nat × Nat} (h : (pre ++ [x]) <+: lvs N b) : beg N b pre.length = wsum N pre ∧ beg N b (pre.length + 1) = wsum N pre + (N x.2).width := by
  obtain ⟨t, ht⟩ := h
  unfold beg
  rw [← ht]
  constructor
  · rw [List.append_assoc, List.take_left]
  · rw [show pre.length + 1 = (pre ++ [x]).length by simp, List.take_left, wsum_snoc]
theorem wsum_le {R : Nat → Prop} {N : Nat → Nd} (hok : ∀ b, R b → NdOk (N b) ∧ (N b).size = 1 + sizeS N ((N b).kids.map Prod.fst) ∧ ((N b).kind = 1 → (N b).kids = [])) : ∀ (l : List (Nat × Nat)), (∀ q ∈ l, R q.2 ∧ (N q.2).kind = 1) → wsum N l ≤ l.length * 524288
  | [], _ => Nat.zero_le _
  | q :: l, h => by
    have ih := wsum_le hok l (fun r hr => h r (List.mem_cons_of_mem _ hr))
    obtain ⟨h1, h2⟩ := h q List.mem_cons_self
    obtain ⟨h3, h4, h5⟩ := hok q.2 h1
    rw [h5 h2] at h4
    have h6 := h3.2.2.1
    rw [h4] at h6
    simp only [sizeS, List.map_nil, List.sum_nil] at h6
    simp only [wsum, List.map_cons, List.sum_cons, List.length_cons, Nat.add_mul] at ih ⊢
    omega

set_option linter.unusedSimpArgs false in
set_option maxRecDepth 100000 in
set_option maxHeartbeats 8000000 in
theorem parts_seq (n : Nat) (hn : 3 ≤ n) (R : Nat → Prop) (N : Nat → Nd) (B a b ab bb pb mb no : Nat) (w : World) (hF : Forest R N B w) (hL : LeafSum N R) (hN : NumOk R N) (ha : R a) (hb : R b) (hB : B ≤ w.heap.size) (hP : PBox w a b ab bb pb mb no (pairF (numL N (lvs N a)) (numL N (lvs N b)))) :
    SeqX Fence.wide n Try.prog 46 #[.pointer (some ⟨bb, 0, none⟩), .pointer (some ⟨pb, 0, none⟩), .pointer (some ⟨ab, 0, none⟩)] encH (KX (pX B ab bb pb mb)) ((hunksL N a b).map (withS N b)) w := by
  intro l J Jx W hK hsz hJ hJx hY h0
  have hPW := hP.kx hK
  have hFW : Forest R N B W := hF.kb ⟨hsz, fun k hk => hK.2 k (Or.inl hk)⟩
  have HF := hide1 hFW
  have HPW := hide1 hPW
  have HJ := hide1 hJ
  have HJX := hide1 hJx
  have HY := hide1 hY
  have H0 := hide1 h0
  have HA := hide1 ha
  have HB := hide1 hb
  have HN := hide1 hN
  have HL := hide1 hL
  have hBW : B ≤ W.heap.size := Nat.le_trans hB hsz
  have hlt := hPW.lt
  obtain ⟨cb, _⟩ := one_cell hPW.2.1
  clear hF hP hK hsz hJ hJx hY h0 hPW hFW ha hb hN hL hB
  refine callsIn_of_wp_marks Try.func46 rfl trivial ?_ rfl
  simp only [Try.ntmps46, List.size_toArray, List.length_cons, List.length_nil, Nat.reduceAdd, Nat.reduceSub, Array.replicate_succ, Array.replicate_zero, List.push_toArray, List.append_toArray, List.nil_append, List.cons_append]
  refine (wpIn_wide (n := n)).2 ?_
  have cb2 : ((((W.alloc (.cells #[.func (.yield l) #[] #[]] 116)).alloc (.cells #[.int .i64 0, .int .i64 0, .int .i64 0, .int .i64 0] 83))).alloc (.cells #[.int .i64 0, .int .i64 0] 118)).cell? ⟨bb, 0, none⟩ = some (.pointer (some ⟨b, 0, none⟩)) :=
    (cell_alloc_old _ _ (by simp; omega)).trans ((cell_alloc_old _ _ (by simp; omega)).trans ((cell_alloc_old W _ (by omega)).trans cb))
  go_wp2_with (go_at_call 47; refine (leaves_is _ _).mono ?_; rintro e w4 ⟨rfl, hw4⟩; have HW4 := hide1 hw4; clear hw4)
  obtain ⟨yb, hyb⟩ : ∃ yb, W.heap.size = yb := ⟨_, rfl⟩
  obtain ⟨hb, hhb⟩ : ∃ hb, yb + 1 = hb := ⟨_, rfl⟩
  obtain ⟨sb, hsb⟩ : ∃ sb, hb + 1 = sb := ⟨_, rfl⟩
  obtain ⟨br, hbr⟩ : ∃ br, sb + 1 = br := ⟨_, rfl⟩
  have hw4 := HW4.out
  rw [hyb, hhb, hsb, hbr]
  obtain ⟨wa, ea⟩ : ∃ wa, W.alloc (.cells #[.func (.yield l) #[] #[]] 116) = wa := ⟨_, rfl⟩
  obtain ⟨wb, eb⟩ : ∃ wb, wa.alloc (.cells #[.int .i64 0, .int .i64 0, .int .i64 0, .int .i64 0] 83) = wb := ⟨_, rfl⟩
  obtain ⟨wc, ec⟩ : ∃ wc, wb.alloc (.cells #[.int .i64 0, .int .i64 0] 118) = wc := ⟨_, rfl⟩
  rw [ea, eb, ec] at hw4
  have hsa : wa.heap.size = hb := by rw [← ea, World.size_alloc, hyb, hhb]
  have hsb' : wb.heap.size = sb := by rw [← eb, World.size_alloc, hsa, hsb]
  have hsc : wc.heap.size = br := by rw [← ec, World.size_alloc, hsb', hbr]
  have hs4 : w4.heap.size = br + 1 := by rw [hw4, World.size_alloc, hsc]
  have hka : Kept W wa := by rw [← ea]; exact (Kept.refl W).alloc _ _
  have hkb : Kept wa wb := by rw [← eb]; exact (Kept.refl wa).alloc _ _
  have hkc : Kept wb wc := by rw [← ec]; exact (Kept.refl wb).alloc _ _
  have hk4 : Kept wc w4 := by rw [hw4]; exact (Kept.refl wc).alloc _ _
  have hkW : Kept W w4 := gtrans hka (gtrans hkb (gtrans hkc hk4))
  have hy4 : w4.heap[yb]? = some (.cells #[.func (.yield l) #[] #[]] 116 (0, 0)) := ((gtrans hkb (gtrans hkc hk4)).2.2.2.2 yb (by omega)).trans (by rw [← ea, ← hyb]; exact World.alloc_heap_new W _)
  have hh4 : HBox w4 hb 0 0 0 0 := ((gtrans hkc hk4).2.2.2.2 hb (by omega)).trans (by rw [← eb, ← hsa]; exact World.alloc_heap_new wa _)
  have hs4' : SBox w4 sb 0 0 := (hk4.2.2.2.2 sb (by omega)).trans (by rw [← ec, ← hsb']; exact World.alloc_heap_new wb _)
  have hb4 : w4.heap[br]? = some (.cells #[.pointer (some ⟨b, 0, none⟩)] 43 (0, 0)) := by rw [hw4, ← hsc]; exact World.alloc_heap_new wc _
  have hF4 : Forest R N B w4 := HF.out.kb (hkW.kb hBW)
  have hXlt : ∀ k, pX B ab bb pb mb k → k < W.heap.size := fun k hk => by rcases hk with h | rfl | rfl | rfl | rfl <;> omega
  have hI0 : PsI N a b (pX B ab bb pb mb) l J W yb hb sb br (br + 1) (fun _ => False) [] w4 := by
    refine ⟨fun _ h => h.elim, by omega, ⟨hkW.size, fun k hk => hkW.2.2.2.2 k (hXlt k hk)⟩, hy4, hb4, 0, 0, _, [], partI_start _ _, hh4, hs4', ?_⟩
    refine HJ.out _ _ _ _ _ H0.out ⟨hkW.1, hkW.2.1, hkW.2.2.1, hkW.size, fun k hk _ => hkW.2.2.2.2 k hk, fun d hd => Or.inr ?_⟩
    rcases hd with hd | hd
    · exact hd.elim
    · omega
  have hseq := (leaves_seq (n - 1) (by omega) R N B br b w4 hF4 HB.out (by omega) (by omega) (by simp [World.cell?, hb4])).x
  have HI0 := hide1 hI0
  have HSEQ := hide1 hseq
  have HE : Hid (W.heap.size = yb ∧ yb + 1 = hb ∧ hb + 1 = sb ∧ sb + 1 = br ∧ w4.heap.size = br + 1 ∧ B ≤ yb ∧ ab < yb ∧ bb < yb ∧ pb < yb ∧ mb < yb) := ⟨hyb, hhb, hsb, hbr, hs4, by omega, by omega, by omega, by omega, by omega⟩
  clear hF4 hI0 hseq hb4 hs4' hh4 hy4 hkW hk4 hkc hkb hka hs4 hsc hsb' hsa hw4 ec eb ea hbr hsb hhb hyb HW4 cb cb2 hlt hBW hXlt
  refine (wpIn_wide (n := n)).1 ?_
  refine range_X rfl (by omega) (gf := 53) (lb := #[.pointer (some ⟨br, 0, none⟩)]) rfl trivial (enters_of Try.func53 (by kernel_rfl) rfl) HSEQ.out ?kp KX.trans (fun _ => rfl)
    (PsI N a b (pX B ab bb pb mb) l J W yb hb sb br (br + 1)) (PsX Jx ((hunksL N a b).map (withS N b)) yb hb sb br (br + 1)) (PsI.stable HJ.out (by have := HE.out; omega) (by have := HE.out; omega) (by have := HE.out; omega) (by omega) (fun k hk => by have := HE.out; rcases hk with h | rfl | rfl | rfl | rfl <;> omega)) (PsX.stable HJX.out) HI0.out
    (fun x => { tmps := #[Value.func (.yield l) #[] #[], Value.pointer (some ⟨bb, 0, none⟩), Value.pointer (some ⟨pb, 0, none⟩), Value.pointer (some ⟨ab, 0, none⟩), Value.pointer (some ⟨yb, 0, none⟩), Value.pointer (some ⟨hb, 0, none⟩), Value.pointer (some ⟨sb, 0, none⟩), Value.int .i64 (x.1 : Int), Value.pointer (some ⟨x.2, 0, none⟩), undef, undef, undef, Value.pointer (some ⟨b, 0, none⟩), Value.func (.func 53) #[] #[.pointer (some ⟨br, 0, none⟩)], Value.int .i64 (x.1 : Int), Value.pointer (some ⟨x.2, 0, none⟩), undef, undef, undef, undef, undef, undef, undef, undef, undef, undef, undef, undef, undef, undef, undef, undef, undef, undef, undef, undef, undef, undef, undef, undef, undef, undef, undef, undef, undef, undef, undef, undef, undef, undef, undef, undef, undef, undef, undef, undef, undef, undef, undef, undef, undef, undef, undef, undef, undef, undef, undef, undef, undef], defers := [] })
    ?assign ?body ?done ?stop
  case kp => exact fun A A' h1 h2 h3 => ⟨h2, fun k hk => h3 k (by have := HE.out; omega)⟩
  case assign =>
    intro l x W K hK
    have HK := hide1 hK
    clear hK
    dsimp only [encW]
    gi_wp2
    exact HK.out
  case body =>
    rintro T pre x V hI hpre hTb hT0 hT1 hsz hloop
    obtain ⟨at9, c9⟩ := x
    obtain ⟨g1, g2, g3, g4, g5, f, i, Q, dn, g6, g7, g8, g9⟩ := hI
    have hE := HE.out
    have hpre' : (pre ++ [(at9, c9)]) <+: lvs N b := hpre
    have hxm : (at9, c9) ∈ lvs N b := hpre'.subset (by simp)
    obtain ⟨hRx, hkx⟩ := lvs_mem HF.out HB.out hxm
    have hFV : Forest R N B V := HF.out.kb ⟨g3.1, fun k hk => g3.2 k (Or.inl hk)⟩
    have hNW : NodeAt B V c9 (N c9) := (hFV c9 hRx).1
    have hPV := HPW.out.kx g3
    have hat : at9 = wsum N pre := by
      have h1 := (leaves_ok hFV HL.out (N b).size [b] 0 (fun p hp => by rw [List.mem_singleton.1 hp]; exact HB.out) (by simp [sizeS])).2
      obtain ⟨t, ht⟩ := hpre'
      have h2 : LvOk N (pre ++ [(at9, c9)] ++ t) 0 (0 + widthS N [b]) := by rw [ht]; exact h1
      have := h2.at pre (at9, c9) t 0 _
      simpa using this
    obtain ⟨hb1, hb2⟩ := beg_step N b hpre'
    obtain ⟨pl, hpl⟩ : ∃ pl, pre.length = pl := ⟨_, rfl⟩
    have hlen : pl < 4194304 := by
      have h1 := hpre'.length_le
      have h2 := lvs_len HF.out HB.out
      simp only [List.length_append, List.length_cons, List.length_nil] at h1
      omega
    have hwle := wsum_le (fun d hd => ⟨(hFV d hd).2.1, (hFV d hd).2.2.2.2, (hFV d hd).2.2.1⟩) (pre ++ [(at9, c9)]) (fun q hq => lvs_mem HF.out HB.out (hpre'.subset hq))
    rw [wsum_snoc, List.length_append] at hwle
    obtain ⟨wd, hwd⟩ : ∃ wd, (N c9).width = wd := ⟨_, rfl⟩
    have hwid := width_is hNW
    have hnum : ∀ q, Calls Try.prog 14 #[.pointer (some ⟨c9, 0, none⟩)] (V.drewN q) fun e w' => e = .returned (.int .i64 ((N c9).num : Int)) ∧ ∃ m, w' = V.drewN m := fun q => (number_is (hNW.keep (drewN_kept V q))).mono fun _ _ h => ⟨h.1, q, h.2⟩
    obtain ⟨nm, hnm⟩ : ∃ nm : Int, ((N c9).num : Int) = nm := ⟨_, rfl⟩
    have hfit : fits nm := by have := HN.out c9 hRx; unfold fits; omega
    have hmj : (numL N (lvs N b))[pl]? = some nm := by
      obtain ⟨t, ht⟩ := hpre'
      unfold numL
      rw [← ht, ← hpl, ← hnm]
      simp
    rw [hwd] at hwid hb2 hwle
    rw [hnm] at hnum
    rw [hpl] at g6 g7 g8 hb1 hb2 hwle
    have hfi : f ≤ 4194304 := by have h1 := g6.2.2.1; have h2 := lvs_len HF.out HA.out; unfold numL at h1; rw [List.length_map] at h1; omega
    have hii : i ≤ pl := g6.2.1
    have hatI : (at9 : Int) ≤ 2199023255552 := by simp at hwle; omega
    have hwdI : (wd : Int) ≤ 2199023255552 := by simp at hwle; omega
    have hplI : (pl : Int) ≤ 4194304 := by omega
    obtain ⟨cp, _⟩ := one_cell hPV.2.2.1
    obtain ⟨oF, hoF⟩ : ∃ oF, pairF (numL N (lvs N a)) (numL N (lvs N b)) nm = oF := ⟨_, rfl⟩
    have hloo : ∀ q, (Instr.lookup 114 (.map (some mb)) (.int .i64 nm) true).run Try.prog (V.drewN q) = .ok (.tuple #[.int .i64 (oF.getD 0), .bool oF.isSome]) (V.drewN q) := fun q => by rw [← hoF]; exact IMap.look (hPV.2.2.2.1.same ((drewN_kept V q).2.2.2.2 mb hPV.lt.2.2.2)) hfit
    obtain ⟨y0, _⟩ := one_cell g4
    have HWID := hide1 hwid
    have HNUM := hide1 hnum
    have HLOO := hide1 hloo
    have HG1 := hide1 g1
    have HG2 := hide1 g2
    have HG3 := hide1 g3
    have HG4 := hide1 g4
    have HG5 := hide1 g5
    have HG6 := hide1 g6
    have HG7 := hide1 g7
    have HG8 := hide1 g8
    have HG9 := hide1 g9
    have HPV := hide1 hPV
    have HPL := hide1 hpl
    have HAT : Hid (beg N b pl = at9 ∧ beg N b (pl + 1) = at9 + wd) := ⟨by rw [hb1, hat], by rw [hb2, hat]⟩
    have HMJ := hide1 hmj
    have HOF := hide1 hoF
    have HT : Hid (∀ k, T k → k < V.heap.size) := fun k hk => (hTb k hk).2
    have hfI : (f : Int) ≤ 4194304 := by omega
    have hiI : (i : Int) ≤ 4194304 := by omega
    clear g1 g2 g3 g4 g5 g6 g7 g8 g9 hpre hpre' hxm hRx hkx hFV hNW hPV hat hb1 hb2 hpl hlen hwle hwd hwid hnum hnm hmj hfi hii hoF hloo hTb hT0 hT1 hsz hloop hE
    cases oF with
    | none =>
      have hlook : ∀ q, (Instr.lookup 114 (.map (some mb)) (.int .i64 nm) true).run Try.prog (V.drewN q) = .ok (.tuple #[.int .i64 0, .bool false]) (V.drewN q) := HLOO.out
      gi_wp2_with (gi_at_call 48; refine (CallsIn.inRound _ (callsIn_wide.2 HWID.out)).mono ?_; rintro e w5 ⟨rfl, hw5⟩; have hw5 := hw5.symm; subst hw5)
      refine region_quiet_round (by kernel_rfl) (by kernel_rfl) (by kernel_rfl) ?_
      repeat (gi_big_quiet_step ((gi_at_call 14; exact callsIn_wide.2 (HNUM.out _))))
      refine wpQuietIn_nil ?_
      intro _ hw'
      obtain ⟨nq, hw''⟩ := hw'
      subst hw''
      obtain ⟨wy, hwy⟩ : ∃ wy, V.drewN nq = wy := ⟨_, rfl⟩
      have HKY : Hid (Kept V wy) := by rw [← hwy]; exact drewN_kept _ _
      rw [hwy]
      have HHY : Hid (HBox wy hb f f i pl) := (HKY.out.2.2.2.2 hb (Array.getElem?_eq_some_iff.1 HG7.out).1).trans HG7.out
      have HSY : Hid (SBox wy sb (beg N b i) (beg N b pl)) := (HKY.out.2.2.2.2 sb (Array.getElem?_eq_some_iff.1 HG8.out).1).trans HG8.out
      obtain ⟨_, _, _, h3, _, _, _, f3⟩ := HHY.out.cells
      obtain ⟨_, s1, _, e1⟩ := HSY.out.cells
      clear hlook hwy cp y0
      gi_wp2_with fail
      have hE := HE.out
      have hat := HAT.out
      have hk : KT (fun k => k = hb ∨ k = sb) V ((wy.setCell ⟨hb, 3, none⟩ (.int .i64 ((pl : Int) + 1))).setCell ⟨sb, 1, none⟩ (.int .i64 ((at9 : Int) + (wd : Int)))) :=
        (HKY.out.kt _).trans ((KeptBut.kt (setCell_but wy hb 3 _) (Or.inl rfl)).trans (KeptBut.kt (setCell_but _ sb 1 _) (Or.inr rfl)))
      have h2 := HG2.out
      refine ps_norm HG1.out HG2.out HG3.out HG4.out HG5.out (fun k hk' => ?_) hk.2.2.2.1 ⟨hk.2.2.2.1, fun k hk' => ?_⟩ (partI_skip HG6.out HMJ.out HOF.out) ?_ ?_ (HJ.out _ _ _ _ _ HG9.out (hk.mono (fun k h => ?_)).step) (by rw [List.length_append, HPL.out]; rfl)
      · have hl : k < V.heap.size := by rcases hk' with h | rfl | rfl; exact HT.out k h; omega; omega
        have hn : k ≠ hb ∧ k ≠ sb := by rcases hk' with h | rfl | rfl; have := HG1.out k h; omega; omega; omega
        exact hk.2.2.2.2 k hl (fun e => by omega)
      · have hl : k < yb := by rcases hk' with h | rfl | rfl | rfl | rfl <;> omega
        exact hk.2.2.2.2 k (by omega) (fun e => by omega)
      · have h3 := HHY.out.set3 ((pl : Int) + 1)
        exact (Below.heap_setCell _ _ _ _ (show hb ≠ sb by omega)).trans h3
      · have h3 : SBox (wy.setCell ⟨hb, 3, none⟩ (.int .i64 ((pl : Int) + 1))) sb (beg N b i) (beg N b pl) := (Below.heap_setCell _ _ _ _ (show sb ≠ hb by omega)).trans HSY.out
        rw [hat.2]
        exact h3.set1 _
      · rcases h with rfl | rfl
        · exact Or.inr (Or.inr (Or.inl rfl))
        · exact Or.inr (Or.inr (Or.inr (Or.inl rfl)))
    | some c =>
      have hlook : ∀ q, (Instr.lookup 114 (.map (some mb)) (.int .i64 nm) true).run Try.prog (V.drewN q) = .ok (.tuple #[.int .i64 c, .bool true]) (V.drewN q) := HLOO.out
      obtain ⟨a9, Q', hc9, ha9, hQ9, hP9⟩ := partI_take HG6.out HMJ.out HOF.out
      subst hc9
      have ha9I : (a9 : Int) ≤ 4194304 := by have h2 := lvs_len HF.out HA.out; unfold numL at ha9; rw [List.length_map] at ha9; omega
      have HP9 := hide1 hP9
      clear hP9 hQ9 ha9
      gi_wp2_with (gi_at_call 48; refine (CallsIn.inRound _ (callsIn_wide.2 HWID.out)).mono ?_; rintro e w5 ⟨rfl, hw5⟩; have hw5 := hw5.symm; subst hw5)
      refine region_quiet_round (by kernel_rfl) (by kernel_rfl) (by kernel_rfl) ?_
      repeat (gi_big_quiet_step ((gi_at_call 14; exact callsIn_wide.2 (HNUM.out _))))
      refine wpQuietIn_nil ?_
      intro _ hw'
      obtain ⟨nq, hw''⟩ := hw'
      subst hw''
      obtain ⟨wy, hwy⟩ : ∃ wy, V.drewN nq = wy := ⟨_, rfl⟩
      have HKY : Hid (Kept V wy) := by rw [← hwy]; exact drewN_kept _ _
      rw [hwy]
      have HHY : Hid (HBox wy hb f f i pl) := (HKY.out.2.2.2.2 hb (Array.getElem?_eq_some_iff.1 HG7.out).1).trans HG7.out
      have HSY : Hid (SBox wy sb (beg N b i) (beg N b pl)) := (HKY.out.2.2.2.2 sb (Array.getElem?_eq_some_iff.1 HG8.out).1).trans HG8.out
      obtain ⟨_, _, _, _, _, f1, _, _⟩ := HHY.out.cells
      obtain ⟨k0, k1, k2, k3, l0, l1, l2, l3⟩ := (HHY.out.set1 (a9 : Int)).cells
      have HK5 : Hid (KT (fun k => k = hb) V (wy.setCell ⟨hb, 1, none⟩ (.int .i64 (a9 : Int)))) := (HKY.out.kt _).trans (KeptBut.kt (setCell_but wy hb 1 _) rfl)
      have HH5 := hide1 (HHY.out.set1 (a9 : Int))
      clear hlook hwy cp y0
      by_cases hsm : f < a9 ∨ i < pl
      · have HSM : Hid (∀ w, Calls Try.prog 49 #[.agg #[.int .i64 (f : Int), .int .i64 (a9 : Int), .int .i64 (i : Int), .int .i64 (pl : Int)]] w fun e w' => e = .returned (.bool true) ∧ Kept w w') := fun w => (some_is _ _ _ _ w).mono fun e w' h => ⟨by rw [h.1]; unfold someB; rcases hsm with h1 | h1 <;> simp [h1], h.2⟩
        rw [if_pos hsm] at HP9
        gi_wp2_with (gi_at_call 49
                     refine (CallsIn.inRound _ (callsIn_wide.2 (HSM.out _))).mono ?_
                     rintro e w6 ⟨rfl, hk6⟩
                     have HK6 : Hid (KT (fun k => k = hb) V w6) := HK5.out.trans (hk6.kt _)
                     have HH6 : Hid (HBox w6 hb f a9 i pl) := (hk6.2.2.2.2 hb (Array.getElem?_eq_some_iff.1 HH5.out).1).trans HH5.out
                     have HS6 : Hid (SBox w6 sb (beg N b i) (beg N b pl)) := (HK6.out.2.2.2.2 sb (Array.getElem?_eq_some_iff.1 HG8.out).1 (by have := HE.out; omega)).trans HG8.out
                     have HY6 : Hid (w6.heap[yb]? = some (.cells #[.func (.yield l) #[] #[]] 116 (0, 0))) := (HK6.out.2.2.2.2 yb (Array.getElem?_eq_some_iff.1 HG4.out).1 (by have := HE.out; omega)).trans HG4.out
                     obtain ⟨m0, m1, m2, m3, _⟩ := HH6.out.cells
                     obtain ⟨n0, n1, _⟩ := HS6.out.cells
                     obtain ⟨y6, _⟩ := one_cell HY6.out
                     obtain ⟨fn, tm, asg, bod, hy, hR⟩ := HY.out (TP T yb hb sb br) (dn.map (withS N b)) (withS N b ⟨f, a9, i, pl⟩) w6 (HJ.out _ _ _ _ _ HG9.out (HK6.out.mono (fun k h => by subst h; exact Or.inr (Or.inr (Or.inl rfl)))).step)
                       (by have h9 := HP9.out.2.2.2.2.2; unfold hunksL; rw [h9, List.map_append, List.map_append]; exact ⟨_, rfl⟩)
                       (fun k hk => by have hE := HE.out; have h2 := HG2.out; have h6 := HK6.out.2.2.2.1; rcases hk with hk | hk
                                       · have := HG1.out k hk; have := HT.out k hk; omega
                                       · omega)
                     have HR := hide1 hR
                     dsimp only [encH, withS] at hy
                     clear hR hk6)
        refine (roundX HR.out).mono ?_
        rintro e W3 (⟨rfl, hJ3, hK3, hs3, hT3⟩ | ⟨rfl, hx3, hs3, hT3⟩)
        · have HT3 := hide1 hT3
          have HJ3 := hide1 hJ3
          have HK3 := hide1 hK3
          have HS3 := hide1 hs3
          replace HH6 : Hid (HBox W3 hb f a9 i pl) := (hT3 hb (Or.inr (Or.inr (Or.inl rfl)))).trans HH6.out
          replace HS6 : Hid (SBox W3 sb (beg N b i) (beg N b pl)) := (hT3 sb (Or.inr (Or.inr (Or.inr (Or.inl rfl))))).trans HS6.out
          obtain ⟨o0, o1, o2, o3, p0, p1, p2, p3⟩ := HH6.out.cells
          obtain ⟨q0, q1, r0, r1⟩ := HS6.out.cells
          clear hy hT3 hJ3 hK3 hs3 m0 m1 m2 m3 n0 n1 y6 k0 k1 k2 k3 q0 q1 r0 r1
          gi_upto_region 13 with fail
          obtain ⟨w7, hw7⟩ : ∃ w7, (((W3.setCell ⟨hb, 0, none⟩ (.int .i64 ((a9 : Int) + 1))).setCell ⟨hb, 1, none⟩ (.int .i64 ((a9 : Int) + 1))).setCell ⟨hb, 2, none⟩ (.int .i64 ((pl : Int) + 1))).setCell ⟨hb, 3, none⟩ (.int .i64 ((pl : Int) + 1)) = w7 := ⟨_, rfl⟩
          have HK7 : Hid (KeptBut hb W3 w7) := by rw [← hw7]; exact but4 hb W3 _ _ _ _
          have HH7 : Hid (HBox w7 hb ((a9 : Int) + 1) ((a9 : Int) + 1) ((pl : Int) + 1) ((pl : Int) + 1)) := by rw [← hw7]; exact set4 HH6.out _ _ _ _
          have HS7 : Hid (SBox w7 sb (beg N b i) (beg N b pl)) := (HK7.out.2.2.2.2 sb (Array.getElem?_eq_some_iff.1 HS6.out).1 (by have := HE.out; omega)).trans HS6.out
          rw [hw7]
          obtain ⟨q0, q1, r0, r1⟩ := HS7.out.cells
          clear hw7 o0 o1 o2 o3 p0 p1 p2 p3
          gi_wp2_with fail
          have hE := HE.out
          have hat := HAT.out
          have h2 := HG2.out
          have h6 := HK6.out.2.2.2.1
          have hkf : KT (fun k => k = hb ∨ k = sb) W3 ((w7.setCell ⟨sb, 0, none⟩ (.int .i64 ((at9 : Int) + (wd : Int)))).setCell ⟨sb, 1, none⟩ (.int .i64 ((at9 : Int) + (wd : Int)))) := (KeptBut.kt HK7.out (Or.inl rfl)).trans (KeptBut.kt (but2 sb w7 _ _) (Or.inr rfl))
          have hhf : HBox ((w7.setCell ⟨sb, 0, none⟩ (.int .i64 ((at9 : Int) + (wd : Int)))).setCell ⟨sb, 1, none⟩ (.int .i64 ((at9 : Int) + (wd : Int)))) hb ((a9 + 1 : Nat) : Int) ((a9 + 1 : Nat) : Int) ((pl + 1 : Nat) : Int) ((pl : Int) + 1) := by
            refine (Below.heap_setCell _ _ _ _ (show hb ≠ sb by omega)).trans ((Below.heap_setCell _ _ _ _ (show hb ≠ sb by omega)).trans ?_)
            have := HH7.out
            unfold HBox at this
            rw [this]
            simp
          have hsf : SBox ((w7.setCell ⟨sb, 0, none⟩ (.int .i64 ((at9 : Int) + (wd : Int)))).setCell ⟨sb, 1, none⟩ (.int .i64 ((at9 : Int) + (wd : Int)))) sb (beg N b (pl + 1)) (beg N b (pl + 1)) := by
            rw [hat.2]
            exact set2 HS7.out _ _
          have hTPk : ∀ k, k = hb ∨ k = sb → TP T yb hb sb br k := fun k h => by
            rcases h with rfl | rfl
            · exact Or.inr (Or.inr (Or.inl rfl))
            · exact Or.inr (Or.inr (Or.inr (Or.inl rfl)))
          have hs3 := HS3.out
          refine ps_norm HG1.out HG2.out HG3.out HG4.out HG5.out (fun k hk' => ?_) (by have := hkf.2.2.2.1; omega) ⟨by have := hkf.2.2.2.1; omega, fun k hk' => ?_⟩ HP9.out hhf hsf (HJ.out _ _ _ _ _ (by rw [List.map_append]; exact HJ3.out) (hkf.mono hTPk).step) (by rw [List.length_append, HPL.out]; rfl)
          · have hl : k < V.heap.size := by rcases hk' with h | rfl | rfl; exact HT.out k h; omega; omega
            have hn : k ≠ hb ∧ k ≠ sb := by rcases hk' with h | rfl | rfl; have := HG1.out k h; omega; omega; omega
            have ht : TP T yb hb sb br k := by rcases hk' with h | rfl | rfl; exact Or.inl h; exact Or.inr (Or.inl rfl); exact Or.inr (Or.inr (Or.inr (Or.inr rfl)))
            exact (hkf.2.2.2.2 k (by omega) (fun e => by omega)).trans ((HT3.out k ht).trans (HK6.out.2.2.2.2 k hl (fun e => by omega)))
          · have hl : k < yb := by rcases hk' with h | rfl | rfl | rfl | rfl <;> omega
            exact (hkf.2.2.2.2 k (by omega) (fun e => by omega)).trans ((HK3.out.2 k hk').trans (HK6.out.2.2.2.2 k (by omega) (fun e => by omega)))
        · have HT3 := hide1 hT3
          have HX3 := hide1 hx3
          have HS3 := hide1 hs3
          clear hy hT3 hx3 hs3 m0 m1 m2 m3 n0 n1 y6 k0 k1 k2 k3
          gi_wp2_with fail
          have hE := HE.out
          have h2 := HG2.out
          have hs3 := HS3.out
          have h6 := HK6.out.2.2.2.1
          refine ⟨by omega, fun k hk => ?_, rfl, HG1.out, by omega, _, ?_, HX3.out⟩
          · have := HG1.out k hk
            exact (HT3.out k (Or.inl hk)).trans (HK6.out.2.2.2.2 k (HT.out k hk) (fun e => by omega))
          · have h9 := HP9.out.2.2.2.2.2
            unfold hunksL
            rw [h9, List.map_append, List.map_append]
            exact ⟨_, rfl⟩
      · have HSM : Hid (∀ w, Calls Try.prog 49 #[.agg #[.int .i64 (f : Int), .int .i64 (a9 : Int), .int .i64 (i : Int), .int .i64 (pl : Int)]] w fun e w' => e = .returned (.bool false) ∧ Kept w w') := fun w => (some_is _ _ _ _ w).mono fun e w' h => ⟨by rw [h.1]; unfold someB; simp [show ¬ f < a9 by omega, show ¬ i < pl by omega], h.2⟩
        rw [if_neg hsm, List.append_nil] at HP9
        gi_upto_region 13 with ((gi_at_call 49
                                 refine (CallsIn.inRound _ (callsIn_wide.2 (HSM.out _))).mono ?_
                                 rintro e w6 ⟨rfl, hk6⟩
                                 have HK6 : Hid (KT (fun k => k = hb) V w6) := HK5.out.trans (hk6.kt _)
                                 have HH6 : Hid (HBox w6 hb f a9 i pl) := (hk6.2.2.2.2 hb (Array.getElem?_eq_some_iff.1 HH5.out).1).trans HH5.out
                                 have HS6 : Hid (SBox w6 sb (beg N b i) (beg N b pl)) := (HK6.out.2.2.2.2 sb (Array.getElem?_eq_some_iff.1 HG8.out).1 (by have := HE.out; omega)).trans HG8.out
                                 obtain ⟨o0, o1, o2, o3, p0, p1, p2, p3⟩ := HH6.out.cells
                                 skip
                                 clear hk6 k0 k1 k2 k3))
        obtain ⟨w7, hw7⟩ : ∃ w7, (((w6.setCell ⟨hb, 0, none⟩ (.int .i64 ((a9 : Int) + 1))).setCell ⟨hb, 1, none⟩ (.int .i64 ((a9 : Int) + 1))).setCell ⟨hb, 2, none⟩ (.int .i64 ((pl : Int) + 1))).setCell ⟨hb, 3, none⟩ (.int .i64 ((pl : Int) + 1)) = w7 := ⟨_, rfl⟩
        have HK7 : Hid (KeptBut hb w6 w7) := by rw [← hw7]; exact but4 hb w6 _ _ _ _
        have HH7 : Hid (HBox w7 hb ((a9 : Int) + 1) ((a9 : Int) + 1) ((pl : Int) + 1) ((pl : Int) + 1)) := by rw [← hw7]; exact set4 HH6.out _ _ _ _
        have HS7 : Hid (SBox w7 sb (beg N b i) (beg N b pl)) := (HK7.out.2.2.2.2 sb (Array.getElem?_eq_some_iff.1 HS6.out).1 (by have := HE.out; omega)).trans HS6.out
        rw [hw7]
        obtain ⟨q0, q1, r0, r1⟩ := HS7.out.cells
        clear hw7 o0 o1 o2 o3 p0 p1 p2 p3
        gi_wp2_with fail
        have hE := HE.out
        have hat := HAT.out
        have h2 := HG2.out
        have h6 := HK6.out.2.2.2.1
        have hkf : KT (fun k => k = hb ∨ k = sb) w6 ((w7.setCell ⟨sb, 0, none⟩ (.int .i64 ((at9 : Int) + (wd : Int)))).setCell ⟨sb, 1, none⟩ (.int .i64 ((at9 : Int) + (wd : Int)))) := (KeptBut.kt HK7.out (Or.inl rfl)).trans (KeptBut.kt (but2 sb w7 _ _) (Or.inr rfl))
        have hhf : HBox ((w7.setCell ⟨sb, 0, none⟩ (.int .i64 ((at9 : Int) + (wd : Int)))).setCell ⟨sb, 1, none⟩ (.int .i64 ((at9 : Int) + (wd : Int)))) hb ((a9 + 1 : Nat) : Int) ((a9 + 1 : Nat) : Int) ((pl + 1 : Nat) : Int) ((pl : Int) + 1) := by
          refine (Below.heap_setCell _ _ _ _ (show hb ≠ sb by omega)).trans ((Below.heap_setCell _ _ _ _ (show hb ≠ sb by omega)).trans ?_)
          have := HH7.out
          unfold HBox at this
          rw [this]
          simp
        have hsf : SBox ((w7.setCell ⟨sb, 0, none⟩ (.int .i64 ((at9 : Int) + (wd : Int)))).setCell ⟨sb, 1, none⟩ (.int .i64 ((at9 : Int) + (wd : Int)))) sb (beg N b (pl + 1)) (beg N b (pl + 1)) := by
          rw [hat.2]
          exact set2 HS7.out _ _
        have hTPk : ∀ k, k = hb ∨ k = sb → TP T yb hb sb br k := fun k h => by
          rcases h with rfl | rfl
          · exact Or.inr (Or.inr (Or.inl rfl))
          · exact Or.inr (Or.inr (Or.inr (Or.inl rfl)))
        refine ps_norm HG1.out HG2.out HG3.out HG4.out HG5.out (fun k hk' => ?_) (by have := hkf.2.2.2.1; omega) ⟨by have := hkf.2.2.2.1; omega, fun k hk' => ?_⟩ HP9.out hhf hsf (HJ.out _ _ _ _ _ HG9.out (((HK6.out.mono (fun k h => by subst h; exact Or.inl rfl)).trans hkf).mono hTPk).step) (by rw [List.length_append, HPL.out]; rfl)
        · have hl : k < V.heap.size := by rcases hk' with h | rfl | rfl; exact HT.out k h; omega; omega
          have hn : k ≠ hb ∧ k ≠ sb := by rcases hk' with h | rfl | rfl; have := HG1.out k h; omega; omega; omega
          exact (hkf.2.2.2.2 k (by omega) (fun e => by omega)).trans (HK6.out.2.2.2.2 k hl (fun e => by omega))
        · have hl : k < yb := by rcases hk' with h | rfl | rfl | rfl | rfl <;> omega
          exact (hkf.2.2.2.2 k (by omega) (fun e => by omega)).trans (HK6.out.2.2.2.2 k (by omega) (fun e => by omega))
  case done =>
    rintro T V hI hdef hTb hT0 hT1
    obtain ⟨g1, g2, g3, g4, g5, f, i, Q, dn, g6, g7, g8, g9⟩ := hI
    have hE := HE.out
    obtain ⟨M, hM⟩ : ∃ M, ((wl N (N b).size [b] 0).filter (leafB N)).length = M := ⟨_, rfl⟩
    have hM2 : (numL N (lvs N b)).length = M := by unfold numL; rw [List.length_map]; exact hM
    have hM4 : M ≤ 4194304 := by have := lvs_len HF.out HB.out; unfold lvs at this; omega
    rw [hM] at g6 g7 g8
    have hFV : Forest R N B V := HF.out.kb ⟨g3.1, fun k hk => g3.2 k (Or.inl hk)⟩
    have hPV := HPW.out.kx g3
    have hNA := (hFV a HA.out).1
    obtain ⟨L, hL⟩ : ∃ L, (N a).leafs = L := ⟨_, rfl⟩
    have hL2 : (numL N (lvs N a)).length = L := by
      have h1 := (leaves_ok hFV HL.out (N a).size [a] 0 (fun p hp => by rw [List.mem_singleton.1 hp]; exact HA.out) (by simp [sizeS])).1
      unfold numL lvs
      rw [List.length_map, h1, ← hL]
      simp [leafS]
    have hL4 : L ≤ 4194304 := by have := lvs_len HF.out HA.out; unfold numL at hL2; rw [List.length_map] at hL2; omega
    have hlf := leafs_is hNA
    rw [hL] at hlf
    obtain ⟨ca, _⟩ := one_cell hPV.1
    obtain ⟨h0, h1, h2, h3, f0, f1, f2, f3⟩ := HBox.cells g7
    obtain ⟨k0, k1, k2, k3, _⟩ := (HBox.set1 g7 (L : Int)).cells
    have HK5 : Hid (KT (fun k => k = hb) V (V.setCell ⟨hb, 1, none⟩ (.int .i64 (L : Int)))) := KeptBut.kt (setCell_but V hb 1 _) rfl
    have HH5 := hide1 (HBox.set1 g7 (L : Int))
    have hend : hunksL N a b = dn ++ if f < L ∨ i < M then [⟨f, L, i, M⟩] else [] := by
      unfold hunksL
      have h9 := partI_end (by rw [hM2]; exact g6)
      rw [hL2, hM2] at h9 ⊢
      exact h9
    have HEND := hide1 hend
    have HLF := hide1 hlf
    have HG1 := hide1 g1
    have HG2 := hide1 g2
    have HG4 := hide1 g4
    have HG8 := hide1 g8
    have HG9 := hide1 g9
    have HTB := hide1 hTb
    have HT0 := hide1 hT0
    have HDEF := hide1 hdef
    have hLI : (L : Int) ≤ 4194304 := by omega
    have hMI : (M : Int) ≤ 4194304 := by omega
    clear g1 g2 g3 g4 g5 g6 g7 g8 g9 hFV hPV hNA hL2 hM2 hM hL hlf hE hend hTb hT0 hT1 hdef h0 h2 h3 f0 f2 f3
    have HTP : Hid (∀ V' : World, V.heap.size ≤ V'.heap.size → ∀ k, TP T yb hb sb br k → W.heap.size ≤ k ∧ k < V'.heap.size) := fun V' hs k hk => by
      have hE := HE.out
      have h2 := HG2.out
      rcases hk with hk | hk
      · have := HTB.out k hk
        omega
      · omega
    by_cases hsm : f < L ∨ i < M
    · have HSM : Hid (∀ w, Calls Try.prog 49 #[.agg #[.int .i64 (f : Int), .int .i64 (L : Int), .int .i64 (i : Int), .int .i64 (M : Int)]] w fun e w' => e = .returned (.bool true) ∧ Kept w w') := fun w => (some_is _ _ _ _ w).mono fun e w' h => ⟨by rw [h.1]; unfold someB; rcases hsm with h1 | h1 <;> simp [h1], h.2⟩
      rw [if_pos hsm] at HEND
      go_upto_region 16 with ((first
        | (go_at_call 50; refine HLF.out.mono ?_; rintro e w5 ⟨rfl, hw5⟩; have hw5 := hw5.symm; subst hw5)
        | (go_at_call 49; refine (HSM.out _).mono ?_; rintro e w6 ⟨rfl, hk6⟩; have HK6 : Hid (KT (fun k => k = hb) V w6) := HK5.out.trans (hk6.kt _); have HH6 : Hid (HBox w6 hb f L i M) := (hk6.2.2.2.2 hb (Array.getElem?_eq_some_iff.1 HH5.out).1).trans HH5.out; clear hk6)))
      have HS6 : Hid (SBox w6 sb (beg N b i) (beg N b M)) := (HK6.out.2.2.2.2 sb (Array.getElem?_eq_some_iff.1 HG8.out).1 (by have := HE.out; omega)).trans HG8.out
      have HY6 : Hid (w6.heap[yb]? = some (.cells #[.func (.yield l) #[] #[]] 116 (0, 0))) := (HK6.out.2.2.2.2 yb (Array.getElem?_eq_some_iff.1 HG4.out).1 (by have := HE.out; omega)).trans HG4.out
      have HD6 : Hid (w6.heap[w4.heap.size]? = some (.deferred (some []))) := (HK6.out.2.2.2.2 _ (Array.getElem?_eq_some_iff.1 HDEF.out).1 (by have := HE.out; omega)).trans HDEF.out
      obtain ⟨m0, m1, m2, m3, _⟩ := HH6.out.cells
      obtain ⟨n0, n1, _⟩ := HS6.out.cells
      obtain ⟨y6, _⟩ := one_cell HY6.out
      obtain ⟨fn, tm, asg, bod, hy, hR⟩ := HY.out (TP T yb hb sb br) (dn.map (withS N b)) (withS N b ⟨f, L, i, M⟩) w6 (HJ.out _ _ _ _ _ HG9.out (HK6.out.mono (fun k h => by subst h; exact Or.inr (Or.inr (Or.inl rfl)))).step)
        (by rw [HEND.out, List.map_append]; exact List.prefix_refl _) (HTP.out w6 HK6.out.2.2.2.1)
      have HR := hide1 hR
      dsimp only [encH, withS] at hy
      clear hR k0 k1 k2 k3
      refine (wpIn_wide (n := n)).1 ?_
      gi_wp2_with fail
      refine (roundY HR.out).mono ?_
      rintro e W3 (⟨rfl, hJ3, hK3, hs3, hT3⟩ | ⟨rfl, hx3, hs3, hT3⟩)
      · have HT3 := hide1 hT3
        have HJ3 := hide1 hJ3
        have HS3 := hide1 hs3
        have HD3 : Hid (W3.heap[w4.heap.size]? = some (.deferred (some []))) := (hT3 _ (Or.inl HT0.out)).trans HD6.out
        clear hy hT3 hJ3 hK3 hs3 m0 m1 m2 m3 n0 n1 y6
        gi_wp2_with fail
        refine ⟨by simp, .inl ⟨_, _, rfl, run_takeDeferred HD3.out, ?_⟩⟩
        refine ⟨_, results_none rfl _ _ _, ⟨_, rfl⟩, Or.inl ⟨TP T yb hb sb br, ?_, ?_⟩⟩
        · rw [HEND.out, List.map_append]
          exact HJ.out _ _ _ _ _ HJ3.out (StepW.put _ (Or.inl HT0.out))
        · exact HTP.out _ (by have := HK6.out.2.2.2.1; have := HS3.out; simp; omega)
      · have HX3 := hide1 hx3
        have HS3 := hide1 hs3
        have HD3 : Hid (W3.heap[w4.heap.size]? = some (.deferred (some []))) := (hT3 _ (Or.inl HT0.out)).trans HD6.out
        clear hy hT3 hx3 hs3 m0 m1 m2 m3 n0 n1 y6
        gi_wp2_with fail
        refine ⟨by simp, .inl ⟨_, _, rfl, run_takeDeferred HD3.out, ?_⟩⟩
        refine ⟨_, results_none rfl _ _ _, ⟨_, rfl⟩, Or.inr ⟨TP T yb hb sb br, _, ?_, HJX.out _ _ _ _ _ HX3.out (StepW.put _ (Or.inl HT0.out)), ?_⟩⟩
        · rw [HEND.out, List.map_append]
          exact List.prefix_refl _
        · exact HTP.out _ (by have := HK6.out.2.2.2.1; have := HS3.out; simp; omega)
    · have HSM : Hid (∀ w, Calls Try.prog 49 #[.agg #[.int .i64 (f : Int), .int .i64 (L : Int), .int .i64 (i : Int), .int .i64 (M : Int)]] w fun e w' => e = .returned (.bool false) ∧ Kept w w') := fun w => (some_is _ _ _ _ w).mono fun e w' h => ⟨by rw [h.1]; unfold someB; simp [show ¬ f < L by omega, show ¬ i < M by omega], h.2⟩
      rw [if_neg hsm, List.append_nil] at HEND
      go_wp2_with (first
        | (go_at_call 50; refine HLF.out.mono ?_; rintro e w5 ⟨rfl, hw5⟩; have hw5 := hw5.symm; subst hw5)
        | (go_at_call 49; refine (HSM.out _).mono ?_; rintro e w6 ⟨rfl, hk6⟩; have HK6 : Hid (KT (fun k => k = hb) V w6) := HK5.out.trans (hk6.kt _); clear hk6))
      have hd6 : w6.heap[w4.heap.size]? = some (.deferred (some [])) := (HK6.out.2.2.2.2 _ (Array.getElem?_eq_some_iff.1 HDEF.out).1 (by have := HE.out; omega)).trans HDEF.out
      refine ⟨by simp, .inl ⟨_, _, rfl, run_takeDeferred hd6, ?_⟩⟩
      refine ⟨_, results_none rfl _ _ _, ⟨_, rfl⟩, Or.inl ⟨TP T yb hb sb br, ?_, ?_⟩⟩
      · rw [HEND.out]
        exact HJ.out _ _ _ _ _ (HJ.out _ _ _ _ _ HG9.out (HK6.out.mono (fun k h => by subst h; exact Or.inr (Or.inr (Or.inl rfl)))).step) (StepW.put _ (Or.inl HT0.out))
      · exact HTP.out _ (by have := HK6.out.2.2.2.1; simp; omega)
  case stop =>
    rintro T c pre V hpre ⟨rfl, g1, g2, p, hp, hx⟩ hdef hTb hT0 hT1
    have HX := hide1 hx
    have HDEF := hide1 hdef
    gi_wp2_with fail
    refine ⟨by simp, .inl ⟨_, _, rfl, run_takeDeferred HDEF.out, ?_⟩⟩
    refine ⟨_, results_none rfl _ _ _, ⟨_, rfl⟩, Or.inr ⟨TP T yb hb sb br, p, hp, HJX.out _ _ _ _ _ HX.out (StepW.put _ (Or.inl hT0)), fun k hk => ?_⟩⟩
    have hE := HE.out
    rcases hk with hk | hk
    · have := hTb k hk
      simp
      omega
    · simp
      omega

end Tr
end Ex
end Go.Proofs.Yteckbpmliahhhaa
