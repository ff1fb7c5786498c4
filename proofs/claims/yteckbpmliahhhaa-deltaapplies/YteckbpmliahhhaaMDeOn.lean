import Derived.Test.YteckbpmliahhhaaMDeMp
import Derived.Test.YteckbpmliahhhaaMTrR9
import Derived.Test.YteckbpmliahhhaaMDeSx
namespace Go.Proofs.Yteckbpmliahhhaa
open Go.RowKit Go.Maps
attribute [local go_sem] Oper.semAt_some
namespace Ex
namespace Tr
attribute [local simp] wide_fn

/-- A tree's leaves: where they begin, and their blocks. -/
def lvs (N : Nat → Nd) (b : Nat) : List (Nat × Nat) := (wl N (N b).size [b] 0).filter (leafB N)
/-- Their numbers. -/
def numL (N : Nat → Nd) (l : List (Nat × Nat)) : List Int := l.map fun q => ((N q.2).num : Int)
theorem numL_snoc (N : Nat → Nd) (l : List (Nat × Nat)) (q : Nat × Nat) : numL N (l ++ [q]) = numL N l ++ [((N q.2).num : Int)] := by simp [numL]
theorem lvs_mem {R : Nat → Prop} {N : Nat → Nd} {B : Nat} {w : World} (hF : Forest R N B w) {b : Nat} (hb : R b) {q : Nat × Nat} (hq : q ∈ lvs N b) : R q.2 ∧ (N q.2).kind = 1 := by
  have h := List.mem_filter.1 hq
  refine ⟨wl_mem (fun b hb => (hF b hb).2.2.2.1) _ _ _ (fun p hp => by rw [List.mem_singleton.1 hp]; exact hb) _ h.1, ?_⟩
  have := h.2
  unfold leafB at this
  simpa using this
theorem lvs_len {R : Nat → Prop} {N : Nat → Nd} {B : Nat} {w : World} (hF : Forest R N B w) {b : Nat} (hb : R b) : (lvs N b).length ≤ 4194304 := by
  have h1 := List.length_filter_le (leafB N) (wl N (N b).size [b] 0)
  have h2 := wl_len N (N b).size [b] 0
  have h3 := (hF b hb).2.1.2.1
  unfold lvs
  omega
/-- Numbers are small. -/
def NumOk (R : Nat → Prop) (N : Nat → Nd) : Prop := ∀ b, R b → ((N b).num : Int) ≤ 9223372036854775807
theorem K2.refl (a b : Nat) (w : World) : K2 a b w w := ⟨rfl, rfl, rfl, Nat.le_refl _, fun _ _ _ _ => rfl⟩
theorem K2.trans {a b : Nat} {u v w : World} (h : K2 a b u v) (k : K2 a b v w) : K2 a b u w := ⟨k.1.trans h.1, k.2.1.trans h.2.1, k.2.2.1.trans h.2.2.1, Nat.le_trans h.2.2.2.1 k.2.2.2.1, fun d hd h1 h2 => (k.2.2.2.2 d (Nat.lt_of_lt_of_le hd h.2.2.2.1) h1 h2).trans (h.2.2.2.2 d hd h1 h2)⟩
theorem KeptBut.k2a {a : Nat} (b : Nat) {u v : World} (h : KeptBut a u v) : K2 a b u v := ⟨h.1, h.2.1, h.2.2.1, h.2.2.2.1, fun d hd h1 _ => h.2.2.2.2 d hd h1⟩
theorem KeptBut.k2b {b : Nat} (a : Nat) {u v : World} (h : KeptBut b u v) : K2 a b u v := ⟨h.1, h.2.1, h.2.2.1, h.2.2.2.1, fun d hd _ h2 => h.2.2.2.2 d hd h2⟩
/-- A cell of one value that is written. -/
theorem set_one {w : World} {g : Nat} {y : Value} {t : TypeId} (h : w.heap[g]? = some (.cells #[y] t (0, 0))) (x : Value) : (w.setCell ⟨g, 0, none⟩ x).heap[g]? = some (.cells #[x] t (0, 0)) := by
  have hl := (Array.getElem?_eq_some_iff.1 h).1
  have he := Option.some.inj ((Array.getElem?_eq_getElem hl).symm.trans h)
  simp [World.setCell, Array.getElem_modify, hl, he]
theorem one_cell {w : World} {g : Nat} {y : Value} {t : TypeId} (h : w.heap[g]? = some (.cells #[y] t (0, 0))) : w.cell? ⟨g, 0, none⟩ = some y ∧ w.frozen? ⟨g, 0, none⟩ = false := by
  refine ⟨?_, ?_⟩ <;> simp [World.cell?, World.frozen?, h]
/-- While the first loop of 'once' goes on. -/
def OnI (N : Nat → Nd) (w3 : World) (nb mb : Nat) (T : Nat → Prop) (pre : List (Nat × Nat)) (W : World) : Prop :=
  (∀ k, T k → w3.heap.size ≤ k) ∧ K2 nb mb w3 W ∧ W.heap[nb]? = some (.cells #[.int .i64 (pre.length : Int)] 3 (0, 0)) ∧ IMap W mb pre.length (accF (numL N pre))
theorem OnI.stable {N : Nat → Nd} {w3 : World} {nb mb : Nat} (ha : nb < w3.heap.size) (hl : mb < w3.heap.size) : StableW (OnI N w3 nb mb) := by
  rintro T T' s A A' ⟨g1, g2, g3, g4⟩ hs
  have hn : ∀ k, k < w3.heap.size → ¬ T k := fun k hk h => by have := g1 k h; omega
  refine ⟨fun k hk => ?_, ⟨hs.1.trans g2.1, hs.2.1.trans g2.2.1, hs.2.2.1.trans g2.2.2.1, Nat.le_trans g2.2.2.2.1 hs.2.2.2.1, fun k h1 h2 h3 => (hs.2.2.2.2.1 k (Nat.lt_of_lt_of_le h1 g2.2.2.2.1) (hn k h1)).trans (g2.2.2.2.2 k h1 h2 h3)⟩, (hs.2.2.2.2.1 nb (Nat.lt_of_lt_of_le ha g2.2.2.2.1) (hn nb ha)).trans g3, g4.same (hs.2.2.2.2.1 mb (Nat.lt_of_lt_of_le hl g2.2.2.2.1) (hn mb hl))⟩
  rcases hs.2.2.2.2.2 k hk with h | h
  · exact g1 k h
  · exact Nat.le_trans g2.2.2.2.1 h.1
/-- A round's end. -/
theorem on_fin {N : Nat → Nd} {w3 W w5 : World} {nb mb B br : Nat} {T : Nat → Prop} {pre : List (Nat × Nat)} {x : Nat × Nat} {v : Int} (hnm : nb ≠ mb) (hB : B ≤ mb) (hB2 : B ≤ nb) (h1 : br ≠ nb) (h2 : br ≠ mb) (hw3 : nb < w3.heap.size) (hw4 : mb < w3.heap.size) (hbr : br < w3.heap.size) (h : OnI N w3 nb mb T pre W) (hT : ∀ k, T k → k < W.heap.size)
    (hm : IMap w5 mb (pre.length + 1) (fun y => if y = ((N x.2).num : Int) then some v else accF (numL N pre) y)) (hk : KeptBut mb W w5) (hv : v = if ((N x.2).num : Int) ∈ numL N pre then -1 else ((pre.length : Nat) : Int)) :
    W.heap.size ≤ (w5.setCell ⟨nb, 0, none⟩ (.int .i64 ((pre.length : Int) + 1))).heap.size ∧ (∀ k, T k → (w5.setCell ⟨nb, 0, none⟩ (.int .i64 ((pre.length : Int) + 1))).heap[k]? = W.heap[k]?) ∧ KX (fun k => k < B ∨ k = br) W (w5.setCell ⟨nb, 0, none⟩ (.int .i64 ((pre.length : Int) + 1))) ∧ OnI N w3 nb mb T (pre ++ [x]) (w5.setCell ⟨nb, 0, none⟩ (.int .i64 ((pre.length : Int) + 1))) := by
  obtain ⟨g1, g2, g3, g4⟩ := h
  have hk2 := (setCell_but w5 nb 0 (.int .i64 ((pre.length : Int) + 1)))
  have hK : K2 nb mb W (w5.setCell ⟨nb, 0, none⟩ (.int .i64 ((pre.length : Int) + 1))) := (hk.k2b nb).trans (hk2.k2a mb)
  have h7 := g2.2.2.2.1
  have hnb5 : w5.heap[nb]? = some (.cells #[.int .i64 (pre.length : Int)] 3 (0, 0)) := (hk.2.2.2.2 nb (by omega) hnm).trans g3
  refine ⟨hK.2.2.2.1, fun k hk => ?_, ⟨hK.2.2.2.1, fun k hk => ?_⟩, g1, g2.trans hK, ?_, ?_⟩
  · have := g1 k hk
    exact hK.2.2.2.2 k (hT k hk) (by omega) (by omega)
  · refine hK.2.2.2.2 k ?_ ?_ ?_ <;> rcases hk with hk | rfl <;> omega
  · rw [set_one hnb5]
    simp
  · have he : (w5.setCell ⟨nb, 0, none⟩ (.int .i64 ((pre.length : Int) + 1))).heap[mb]? = w5.heap[mb]? := Below.heap_setCell _ _ _ _ (fun e => hnm e.symm)
    have h8 : (pre ++ [x]).length = pre.length + 1 := by simp
    rw [h8, numL_snoc]
    refine (hm.same he).ext (fun y _ => ?_)
    rw [acc_snoc]
    have hlen : (numL N pre).length = pre.length := by simp [numL]
    rw [hlen]
    by_cases e : y = ((N x.2).num : Int)
    · rw [if_pos e, if_pos e, hv]
      split <;> rfl
    · rw [if_neg e, if_neg e]

/-- A map that is ranged over. -/
def RMap (w : World) (b r n : Nat) (f : Int → Option Int) (left : Lit → Bool) (cn : Nat) : Prop :=
  ∃ D : DataW Unit, w.ranges Try.prog 3 (plainElem Try.prog 3) b r n D left cn ∧ ∀ x, fits x → Maps.has D (.int .i64 x) = (f x).isSome ∧ ∀ zd, D.atKey (.int .i64 x) zd = ((f x).map liI).getD zd
/-- What is left while what stands twice is struck. -/
def strF (l : List Int) (left : Lit → Bool) (y : Int) : Option Int := if accF l y = some (-1) ∧ left (.int .i64 y) = false then none else accF l y
theorem str_at {xs : List Int} {left : Lit → Bool} {D : DataW Unit} {x c : Int} (h : ∀ zd : DataW Unit, D.atKey (.int .i64 x) zd = ((strF xs left x).map liI).getD zd) (hat : ∀ zd : DataW Unit, D.atKey (.int .i64 x) zd = .lit (.int .i64 c)) : strF xs left x = some c := by
  have h1 := (h .nil).symm.trans (hat .nil)
  cases hs : strF xs left x with
  | none => rw [hs] at h1; cases h1
  | some d =>
    rw [hs] at h1
    simp only [liI, Option.map_some, Option.getD_some, DataW.lit.injEq, Lit.int.injEq, true_and] at h1
    rw [h1]
def leftN (left : Lit → Bool) (x : Int) : Lit → Bool := fun z => left z && !z.sameKey (.int .i64 x)
theorem leftN_self (left : Lit → Bool) (x : Int) : leftN left x (.int .i64 x) = false := by
  unfold leftN
  rw [WideAt.sameKey_self (show WideAt.IsKeyLit (.int .i64 x) from trivial)]
  simp
theorem leftN_other (left : Lit → Bool) {x y : Int} (h : y ≠ x) : leftN left x (.int .i64 y) = left (.int .i64 y) := by
  unfold leftN
  rw [sameKey_ne (kI_ne h)]
  simp
theorem str_struck {xs : List Int} {left : Lit → Bool} {x : Int} (hl : left (.int .i64 x) = true) (h : strF xs left x = some (-1)) (y : Int) : strF xs (leftN left x) y = if y = x then none else strF xs left y := by
  by_cases e : y = x
  · subst e
    unfold strF at h ⊢
    rw [if_neg (fun c => by rw [hl] at c; exact absurd c.2 (by decide))] at h
    rw [if_pos ⟨h, leftN_self _ _⟩, if_pos rfl]
  · unfold strF
    rw [if_neg e, leftN_other left e]
theorem str_stays {xs : List Int} {left : Lit → Bool} {x c : Int} (hl : left (.int .i64 x) = true) (h : strF xs left x = some c) (hc : c ≠ -1) (y : Int) : strF xs (leftN left x) y = strF xs left y := by
  by_cases e : y = x
  · subst e
    have h1 : accF xs y = some c := by
      unfold strF at h
      rw [if_neg (fun c => by rw [hl] at c; exact absurd c.2 (by decide))] at h
      exact h
    unfold strF
    rw [if_neg (fun k => hc (by rw [h1] at k; exact Option.some.inj k.1)), if_neg (fun k => hc (by rw [h1] at k; exact Option.some.inj k.1))]
  · unfold strF
    rw [leftN_other left e]

set_option linter.unusedSimpArgs false in
set_option maxRecDepth 100000 in
set_option maxHeartbeats 4000000 in
theorem once_is (R : Nat → Prop) (N : Nat → Nd) (B b : Nat) (w : World) (hF : Forest R N B w) (hN : NumOk R N) (hb : R b) (hB : B ≤ w.heap.size) :
    Calls Try.prog 52 #[.pointer (some ⟨b, 0, none⟩)] w fun e w' => ∃ mb n, e = .returned (.map (some mb)) ∧ w.heap.size ≤ mb ∧ n ≤ 4194304 ∧ IMap w' mb n (onceF (numL N (lvs N b))) ∧ Kept w w' := by
  have HF := hide1 hF
  have HB := hide1 hb
  have HN := hide1 hN
  have hmm := @run_makeMap Try.prog
  obtain ⟨xs, hxs⟩ : ∃ xs, numL N (lvs N b) = xs := ⟨_, rfl⟩
  rw [hxs]
  have HXS := hide1 hxs
  clear hF hb hN hxs
  refine (callsIn_wide (n := 3)).1 ?_
  refine callsIn_of_wp_marks Try.func52 rfl trivial ?_ rfl
  simp only [Try.ntmps52, List.size_toArray, List.length_cons, List.length_nil, Nat.reduceAdd, Nat.reduceSub, Array.replicate_succ, Array.replicate_zero, List.push_toArray, List.append_toArray, List.nil_append, List.cons_append]
  refine (wpIn_wide (n := 3)).2 ?_
  go_wp2_with (go_at_call 47; refine (leaves_is _ _).mono ?_; rintro e w3 ⟨rfl, hw3⟩; have HW3 := hide1 hw3; clear hw3)
  obtain ⟨mb, hmb⟩ : ∃ mb, w.heap.size = mb := ⟨_, rfl⟩
  obtain ⟨pb, hpb⟩ : ∃ pb, mb + 1 = pb := ⟨_, rfl⟩
  obtain ⟨nb, hnb⟩ : ∃ nb, pb + 1 = nb := ⟨_, rfl⟩
  obtain ⟨br, hbr⟩ : ∃ br, nb + 1 = br := ⟨_, rfl⟩
  have hw3 := HW3.out
  rw [hmb] at hw3
  rw [hmb, hpb, hnb, hbr]
  obtain ⟨wa, ha⟩ : ∃ wa, w.alloc (Obj.map #[] 0) = wa := ⟨_, rfl⟩
  obtain ⟨wb, hb⟩ : ∃ wb, wa.alloc (Obj.cells #[Value.map (some mb)] 114) = wb := ⟨_, rfl⟩
  obtain ⟨wc, hc⟩ : ∃ wc, wb.alloc (Obj.cells #[Value.int IntKind.i64 0] 3) = wc := ⟨_, rfl⟩
  rw [ha, hb, hc] at hw3
  have hsa : wa.heap.size = pb := by rw [← ha, World.size_alloc, hmb, hpb]
  have hsb : wb.heap.size = nb := by rw [← hb, World.size_alloc, hsa, hnb]
  have hsc : wc.heap.size = br := by rw [← hc, World.size_alloc, hsb, hbr]
  have hs3 : w3.heap.size = br + 1 := by rw [hw3, World.size_alloc, hsc]
  have hka : Kept w wa := by rw [← ha]; exact ⟨rfl, rfl, rfl, by simp, fun k hk => Below.heap_alloc _ _ _ hk⟩
  have hkb : Kept wa wb := by rw [← hb]; exact (Kept.refl wa).alloc _ _
  have hkc : Kept wb wc := by rw [← hc]; exact (Kept.refl wb).alloc _ _
  have hk3 : Kept wc w3 := by rw [hw3]; exact (Kept.refl wc).alloc _ _
  have hma : wa.ownsMap Try.prog 3 (plainElem (H := Unit) Try.prog 3) mb 0 (.map []) := by rw [← ha, ← hmb]; exact World.ownsMap_made _ _ _ _
  have hpb3 : w3.heap[pb]? = some (.cells #[.map (some mb)] 114 (0, 0)) := ((gtrans hkc hk3).2.2.2.2 pb (by omega)).trans (by rw [← hb, ← hsa]; exact World.alloc_heap_new wa _)
  have hnb3 : w3.heap[nb]? = some (.cells #[.int .i64 0] 3 (0, 0)) := (hk3.2.2.2.2 nb (by omega)).trans (by rw [← hc, ← hsb]; exact World.alloc_heap_new wb _)
  have hbr3 : w3.heap[br]? = some (.cells #[.pointer (some ⟨b, 0, none⟩)] 43 (0, 0)) := by rw [hw3, ← hsc]; exact World.alloc_heap_new wc _
  have hkw : Kept w w3 := gtrans hka (gtrans hkb (gtrans hkc hk3))
  have hm3 : IMap w3 mb 0 (accF (numL N [])) := MapG.ext (MapG.same (MapG.made hma) ((gtrans hkb (gtrans hkc hk3)).2.2.2.2 mb (by omega))) (fun x _ => rfl)
  have hF3 : Forest R N B w3 := HF.out.kb (hkw.kb hB)
  have hI0 : OnI N w3 nb mb (fun _ => False) [] w3 := ⟨fun _ h => h.elim, K2.refl _ _ _, hnb3, hm3⟩
  have hseq := leaves_seq 2 (by omega) R N B br b w3 hF3 HB.out (by omega) (by omega) (by simp [World.cell?, hbr3])
  have HF3 := hide1 hF3
  have HI0 := hide1 hI0
  have HSEQ := hide1 hseq
  have HPB := hide1 hpb3
  have HKW := hide1 hkw
  have HE : Hid (w.heap.size = mb ∧ mb + 1 = pb ∧ pb + 1 = nb ∧ nb + 1 = br ∧ w3.heap.size = br + 1 ∧ B ≤ mb) := ⟨hmb, hpb, hnb, hbr, hs3, by omega⟩
  clear hF3 hI0 hseq hpb3 hkw hm3 hbr3 hnb3 hma hk3 hkc hkb hka hs3 hsc hsb hsa hw3 hc hb ha hbr hnb hpb hmb HW3 hmm hB
  refine (wpIn_wide (n := 3)).1 ?_
  refine range_W rfl (by omega) (gf := 53) (lb := #[.pointer (some ⟨br, 0, none⟩)]) rfl trivial (enters_of Try.func53 (by kernel_rfl) rfl) HSEQ.out ?kp KX.trans (fun _ => rfl)
    (OnI N w3 nb mb) (fun _ _ _ => False) (OnI.stable (by have := HE.out; omega) (by have := HE.out; omega)) (fun _ _ _ _ _ h => h.elim) HI0.out
    (fun x => { tmps := #[Value.pointer (some ⟨b, 0, none⟩), undef, Value.map none, Value.pointer (some ⟨pb, 0, none⟩), Value.pointer (some ⟨nb, 0, none⟩), undef, Value.pointer (some ⟨x.2, 0, none⟩), undef, undef, undef, undef, undef, Value.map (some mb), Value.pointer (some ⟨b, 0, none⟩), Value.func (.func 53) #[] #[.pointer (some ⟨br, 0, none⟩)], Value.int .i64 (x.1 : Int), Value.pointer (some ⟨x.2, 0, none⟩), undef, undef, undef, undef, undef, undef, undef, undef, undef, undef, undef, undef, undef, undef, undef, undef, undef, undef, undef, undef, undef, undef, undef, undef, undef, undef, undef, undef], defers := [] })
    ?assign ?body ?done (fun _ _ _ _ _ _ h => h.elim)
  case kp => exact fun A A' h1 h2 h3 => ⟨h2, fun k hk => h3 k (by have := HE.out; omega)⟩
  case assign =>
    intro l x W K hK
    have HK := hide1 hK
    clear hK
    dsimp only [encW]
    gi_wp2
    exact HK.out
  case body =>
    rintro T pre x W hI hpre hTb hT0 hT1 hsz hloop
    have hxm : x ∈ lvs N b := hpre.subset (by simp)
    have hRx := (lvs_mem HF3.out HB.out hxm).1
    have hE := HE.out
    obtain ⟨g1, g2, g3, g4⟩ := hI
    have hNW : NodeAt B W x.2 (N x.2) := (HF3.out x.2 hRx).1.kb ⟨g2.2.2.2.1, fun k hk => g2.2.2.2.2 k (by omega) (by omega) (by omega)⟩
    have hpbW := (g2.2.2.2.2 pb (by omega) (by omega) (by omega)).trans HPB.out
    obtain ⟨c3, _⟩ := one_cell hpbW
    obtain ⟨c4, f4⟩ := one_cell g3
    obtain ⟨pl, hpl⟩ : ∃ pl, pre.length = pl := ⟨_, rfl⟩
    obtain ⟨nm, hnm⟩ : ∃ nm : Int, ((N x.2).num : Int) = nm := ⟨_, rfl⟩
    have hfit : fits nm := by have := HN.out x.2 hRx; unfold fits; omega
    have hlen : pl < 4194304 := by
      have h1 := hpre.length_le
      have h2 := lvs_len HF3.out HB.out
      simp only [List.length_append, List.length_cons, List.length_nil] at h1
      unfold lvs at h2
      omega
    have hnum := number_is hNW
    rw [hnm] at hnum
    rw [hpl] at c4
    have HNUM := hide1 hnum
    have HI := hide1 (show OnI N w3 nb mb T pre W from ⟨g1, g2, g3, g4⟩)
    rw [hpl] at g4
    have HM := hide1 g4
    have HT : Hid (∀ k, T k → k < W.heap.size) := fun k hk => (hTb k hk).2
    have HPL := hide1 hpl
    have HNM := hide1 hnm
    have hplI : (pl : Int) ≤ 4194304 := by omega
    have hNb : nb ≠ mb := by omega
    have hPb : pb ≠ mb := by omega
    have HSW : Hid (nb < W.heap.size ∧ pb < W.heap.size) := ⟨(Array.getElem?_eq_some_iff.1 g3).1, (Array.getElem?_eq_some_iff.1 hpbW).1⟩
    have HG3 := hide1 g3
    have HPW := hide1 hpbW
    clear g1 g2 g3 g4 hpre hTb hT0 hT1 hsz hloop hxm hRx hNW hpbW hnum hnm hpl hE
    by_cases hmet : nm ∈ numL N pre
    · have ha1 : (accF (numL N pre) nm).isSome = true := by rw [acc_some]; simpa using hmet
      obtain ⟨c, hc⟩ : ∃ c, (accF (numL N pre) nm).getD 0 = c := ⟨_, rfl⟩
      have HA := hide1 ha1
      have HC := hide1 hc
      clear ha1 hc
      gi_wp2_with (first
        | (gi_at_call 14; refine (CallsIn.inRound _ (callsIn_wide.2 HNUM.out)).mono ?_; rintro e w4 ⟨rfl, hw4⟩; have hw4 := hw4.symm; subst hw4)
        | (gi_at_lookup; refine iIn_look rfl _ _ rfl mb pl (accF (numL N pre)) rfl HM.out nm rfl hfit true HA.out c HC.out ?_)
        | (gi_at_mapUpdate; refine iIn_put rfl _ _ _ rfl mb pl (accF (numL N pre)) rfl HM.out (by unfold maxLen; omega) nm rfl hfit (-1) rfl (by unfold fits; omega) ?_; intro w5 hm5 hk5 hs5; have HM5 := hide1 hm5; have HK5 := hide1 hk5; obtain ⟨c5, f5⟩ := one_cell ((hk5.2.2.2.2 nb HSW.out.1 hNb).trans HG3.out); rw [HPL.out] at c5; clear hm5 hk5 hs5))
      have hE := HE.out
      have hp := HPL.out
      have hn := HNM.out
      subst hp hn
      exact on_fin (v := -1) (by omega) (by omega) (by omega) (by omega) (by omega) (by omega) (by omega) (by omega) HI.out HT.out HM5.out HK5.out (by rw [if_pos hmet])
    · have ha1 : (accF (numL N pre) nm).isSome = false := by rw [acc_some]; simpa using hmet
      obtain ⟨c, hc⟩ : ∃ c, (accF (numL N pre) nm).getD 0 = c := ⟨_, rfl⟩
      have HA := hide1 ha1
      have HC := hide1 hc
      clear ha1 hc
      gi_wp2_with (first
        | (gi_at_call 14; refine (CallsIn.inRound _ (callsIn_wide.2 HNUM.out)).mono ?_; rintro e w4 ⟨rfl, hw4⟩; have hw4 := hw4.symm; subst hw4)
        | (gi_at_lookup; refine iIn_look rfl _ _ rfl mb pl (accF (numL N pre)) rfl HM.out nm rfl hfit false HA.out c HC.out ?_)
        | (gi_at_mapUpdate; refine iIn_put rfl _ _ _ rfl mb pl (accF (numL N pre)) rfl HM.out (by unfold maxLen; omega) nm rfl hfit (pl : Int) rfl (by unfold fits; omega) ?_; intro w5 hm5 hk5 hs5; have HM5 := hide1 hm5; have HK5 := hide1 hk5; obtain ⟨c5, f5⟩ := one_cell ((hk5.2.2.2.2 nb HSW.out.1 hNb).trans HG3.out); rw [HPL.out] at c5; clear hm5 hk5 hs5))
      have hE := HE.out
      have hp := HPL.out
      have hn := HNM.out
      subst hp hn
      exact on_fin (v := (pre.length : Int)) (by omega) (by omega) (by omega) (by omega) (by omega) (by omega) (by omega) (by omega) HI.out HT.out HM5.out HK5.out (by rw [if_neg hmet])
  case done =>
    rintro D T W hD hI hdef hTb hT0 hT1
    have hE := HE.out
    obtain ⟨g1, g2, g3, g4⟩ := hI
    have hkW : Kept w W := ⟨g2.1.trans HKW.out.1, g2.2.1.trans HKW.out.2.1, g2.2.2.1.trans HKW.out.2.2.1, Nat.le_trans HKW.out.2.2.2.1 g2.2.2.2.1, fun k hk => (g2.2.2.2.2 k (by omega) (by omega) (by omega)).trans (HKW.out.2.2.2.2 k hk)⟩
    have hpbW := (g2.2.2.2.2 pb (by omega) (by omega) (by omega)).trans HPB.out
    have hpbl := (Array.getElem?_eq_some_iff.1 hpbW).1
    have hdl := (Array.getElem?_eq_some_iff.1 hdef).1
    obtain ⟨c3, _⟩ := one_cell hpbW
    obtain ⟨n, hn⟩ : ∃ n, (lvs N b).length = n := ⟨_, rfl⟩
    have hn4 : n ≤ 4194304 := by rw [← hn]; exact lvs_len HF3.out HB.out
    have g4' : IMap W mb n (accF xs) := by rw [← hn, ← HXS.out]; exact g4
    obtain ⟨D0, ho, hD0⟩ := g4'
    have HO := hide1 ho
    have HD0 := hide1 hD0
    have HKW2 := hide1 hkW
    have HPBW := hide1 hpbW
    have HDEF := hide1 hdef
    have HLT : Hid (mb < W.heap.size ∧ pb < W.heap.size ∧ D < W.heap.size ∧ br + 1 ≤ D) := ⟨ho.lt, hpbl, hdl, by omega⟩
    clear g1 g2 g3 g4 hkW hpbW hdef hTb hT0 hT1 ho hD0 hn hD hE hpbl hdl
    go_wp2_with (at_range; refine wpList_range_own _ rfl _ 114 rfl 3 3 i_key Try.underlying114 _ mb n _ rfl HO.out ?_; intro w6 hrg0 hg0 hs0)
    have HR0 : Hid (∃ left cn, RMap w6 mb W.heap.size n (strF xs left) left cn ∧ Kept w w6 ∧ w6.heap[pb]? = some (.cells #[.map (some mb)] 114 (0, 0)) ∧ w6.heap[D]? = some (.deferred (some []))) := by
      have hl := HLT.out
      refine ⟨_, _, ⟨D0, hrg0, fun x hx => ?_⟩, ?_, (hg0.block pb hl.2.1 (by simp)).trans HPBW.out, (hg0.block D hl.2.2.1 (by simp)).trans HDEF.out⟩
      · have e : strF xs (Maps.has D0) x = accF xs x := by
          unfold strF
          by_cases h1 : accF xs x = some (-1)
          · rw [if_neg (fun h => by have := (HD0.out x hx).1; rw [h1] at this; simp [h.2] at this)]
          · rw [if_neg (fun h => h1 h.1)]
        rw [e]
        have h2 := HD0.out x hx
        exact ⟨by rw [h2.1]; simp, h2.2⟩
      · exact gtrans HKW2.out ⟨hg0.os, hg0.tape, hg0.output, hg0.size, fun k hk => hg0.block k hk (by simp)⟩
    obtain ⟨rr, hrr⟩ : ∃ rr, W.heap.size = rr := ⟨_, rfl⟩
    rw [hrr] at HR0
    rw [hrr]
    have HRR : Hid (mb < rr ∧ pb < rr ∧ D < rr ∧ br + 1 ≤ D) := by have := HLT.out; rw [hrr] at this; exact this
    clear hrg0 hg0 hs0 HO HD0 HKW2 HPBW HDEF HLT hrr c3
    go_loopw [10] (fun _ wr => Hid (∃ left cn, RMap wr mb rr n (strF xs left) left cn ∧ Kept w wr ∧ wr.heap[pb]? = some (.cells #[.map (some mb)] 114 (0, 0)) ∧ wr.heap[D]? = some (.deferred (some []))))
      (fun _ wr => wr.rangeLeft mb rr)
    case atStart => exact HR0
    case round =>
      obtain ⟨left, cn, ⟨D1, hrg, hD1⟩, hk1, hp1, hd1⟩ := hrel.out
      have HRG := hide1 hrg
      have HD1 := hide1 hD1
      have HK1 := hide1 hk1
      have HP1 := hide1 hp1
      have HDF := hide1 hd1
      obtain ⟨c3, _⟩ := one_cell hp1
      clear hrel HR0 hD1 hk1 hp1 hd1
      go_wp2_with (at_next; refine wpList_next_ranges_ii _ rfl _ rfl 3 3 .i64 .i64 i_key Try.underlying3 Try.underlying3 mb rr n _ _ _ rfl HRG.out ?_ ?_)
      · intro _ hl0
        have HM1 : Hid (IMap wr mb n (onceF xs)) := ⟨D1, HRG.out.owns, fun x hx => by
          have h1 := HD1.out x hx
          have e : strF xs left x = onceF xs x := by
            rw [once_of_acc]
            unfold strF
            rw [hl0]
            simp
          rw [e] at h1
          exact ⟨by rw [h1.1]; simp, h1.2⟩⟩
        clear hl0
        go_wp2_with fail
        refine ⟨by simp, .inl ⟨_, _, rfl, run_takeDeferred HDF.out, ?_⟩⟩
        have hE := HE.out
        have hr := HRR.out
        exact ⟨_, results_tmp rfl _ _ _, mb, n, rfl, by omega, hn4, HM1.out.same (World.putObj_heap_other (by omega)), HK1.out.put (by omega) _⟩
      · intro x c w1 cnt1 hwx hwc hlx hat hrg1 hlt hg1 hs1 hen
        have hfx := wf_fits hwx
        have hst := str_at (HD1.out x hfx).2 hat
        have hr := HRR.out
        have hk1 : Kept w w1 := by
          have hk := HK1.out
          have hE := HE.out
          exact ⟨hg1.os.trans hk.1, hg1.tape.trans hk.2.1, hg1.output.trans hk.2.2.1, Nat.le_trans hk.2.2.2.1 hg1.size, fun k hk' => (hg1.block k (Nat.lt_of_lt_of_le hk' hk.2.2.2.1) (by simp; omega)).trans (hk.2.2.2.2 k hk')⟩
        have hp1 := (hg1.block pb (Array.getElem?_eq_some_iff.1 HP1.out).1 (by simp; omega)).trans HP1.out
        have hd1 := (hg1.block D (Array.getElem?_eq_some_iff.1 HDF.out).1 (by simp; omega)).trans HDF.out
        obtain ⟨c3', _⟩ := one_cell hp1
        have HRG1 := hide1 hrg1
        have HST := hide1 hst
        have HK2 := hide1 hk1
        have HP2 := hide1 hp1
        have HD2 := hide1 hd1
        have HLX := hide1 hlx
        have HLT := hide1 hlt
        have HWX := hide1 hwx
        have HFX := hide1 hfx
        clear hrg1 hst hk1 hp1 hd1 hlx hlt hwx hwc hat hg1 hs1 hr hfx c3 hrg
        by_cases hc : c = -1
        · subst hc
          go_wp2_with (at_delete; refine wpList_delete_ranges _ rfl _ _ 114 3 rfl 3 i_key Try.underlying114 _ mb rr n _ _ _ rfl HRG1.out _ _ rfl (keyOf_int_mk Try.underlying3 HWX.out) ?_; intro w2 cnt2 hrg2 hle hturn; have HRG2 := hide1 hrg2; have HLE := hide1 hle; have HTN := hide1 hturn; clear hrg2 hle hturn; go_frame)
          have hrg2 := HRG2.out
          rw [strike_twice] at hrg2
          go_roundw
          case rel =>
            have hE := HE.out
            have hr := HRR.out
            have hg := HTN.out.grown
            have hk := HK2.out
            refine ⟨leftN left x, cnt2, ⟨D1.del (.int .i64 x), hrg2, fun y hy => ?_⟩, ⟨hg.os.trans hk.1, hg.tape.trans hk.2.1, hg.output.trans hk.2.2.1, Nat.le_trans hk.2.2.2.1 hg.size, fun k hk' => (hg.block k (Nat.lt_of_lt_of_le hk' hk.2.2.2.1) (by simp; omega)).trans (hk.2.2.2.2 k hk')⟩, (hg.block pb (Array.getElem?_eq_some_iff.1 HP2.out).1 (by simp; omega)).trans HP2.out, (hg.block D (Array.getElem?_eq_some_iff.1 HD2.out).1 (by simp; omega)).trans HD2.out⟩
            rw [str_struck HLX.out HST.out]
            by_cases e : y = x
            · subst e
              rw [if_pos rfl]
              exact ⟨has_del_same, fun zd => atKey_del_same zd⟩
            · rw [if_neg e]
              exact ⟨by rw [has_del_other (kI_ne e)]; exact (HD1.out y hy).1, fun zd => by rw [atKey_del_other (kI_ne e)]; exact (HD1.out y hy).2 zd⟩
          case measure =>
            have h1 := HLT.out
            have h2 := HLE.out
            rw [hrg2.left_eq, HRG.out.left_eq]
            omega
        · have hcb : (c == -1) = false := by simpa using hc
          go_wp2_with fail
          go_roundw
          case rel =>
            refine ⟨leftN left x, cnt1, ⟨D1, HRG1.out, fun y hy => ?_⟩, HK2.out, HP2.out, HD2.out⟩
            rw [str_stays HLX.out HST.out hc]
            exact HD1.out y hy
          case measure =>
            rw [HRG1.out.left_eq, HRG.out.left_eq]
            exact HLT.out

end Tr
end Ex
end Go.Proofs.Yteckbpmliahhhaa
namespace Go.Proofs.Yteckbpmliahhhaa
open Go.RowKit Go.Maps
attribute [local go_sem] Oper.semAt_some
namespace Ex
namespace Tr
attribute [local simp] wide_fn

theorem onceN_lt {l : List Int} {y : Int} {p : Nat} (h : onceN l y = some p) : p < l.length := (List.getElem?_eq_some_iff.1 (onceN_at h).1).1
/-- While 'counting' goes on. -/
def CoI (N : Nat → Nd) (l m : List Int) (w5 : World) (nb mb n : Nat) (T : Nat → Prop) (pre : List (Nat × Nat)) (W : World) : Prop :=
  (∀ k, T k → w5.heap.size ≤ k) ∧ K2 nb mb w5 W ∧ ∃ (nx : Nat) (P : List (Nat × Nat)), nx ≤ 4194304 ∧ W.heap[nb]? = some (.cells #[.int .i64 (nx : Int)] 3 (0, 0)) ∧ IMap W mb n (cntF l (numL N pre) P) ∧ CntI l m (numL N pre) nx P
theorem CoI.stable {N : Nat → Nd} {l m : List Int} {w5 : World} {nb mb n : Nat} (ha : nb < w5.heap.size) (hl : mb < w5.heap.size) : StableW (CoI N l m w5 nb mb n) := by
  rintro T T' s A A' ⟨g1, g2, nx, P, g0, g3, g4, g5⟩ hs
  have hn : ∀ k, k < w5.heap.size → ¬ T k := fun k hk h => by have := g1 k h; omega
  refine ⟨fun k hk => ?_, ⟨hs.1.trans g2.1, hs.2.1.trans g2.2.1, hs.2.2.1.trans g2.2.2.1, Nat.le_trans g2.2.2.2.1 hs.2.2.2.1, fun k h1 h2 h3 => (hs.2.2.2.2.1 k (Nat.lt_of_lt_of_le h1 g2.2.2.2.1) (hn k h1)).trans (g2.2.2.2.2 k h1 h2 h3)⟩, nx, P, g0, (hs.2.2.2.2.1 nb (Nat.lt_of_lt_of_le ha g2.2.2.2.1) (hn nb ha)).trans g3, g4.same (hs.2.2.2.2.1 mb (Nat.lt_of_lt_of_le hl g2.2.2.2.1) (hn mb hl)), g5⟩
  rcases hs.2.2.2.2.2 k hk with h | h
  · exact g1 k h
  · exact Nat.le_trans g2.2.2.2.1 h.1
/-- What a round may turn. -/
theorem co_fin {w5 W W' : World} {nb mb B br : Nat} {T : Nat → Prop} (hB : B ≤ mb) (hB2 : B ≤ nb) (h1 : br ≠ nb) (h2 : br ≠ mb) (hnb : nb < w5.heap.size) (hmb : mb < w5.heap.size) (hbr : br < w5.heap.size) (g1 : ∀ k, T k → w5.heap.size ≤ k) (hs : w5.heap.size ≤ W.heap.size) (hT : ∀ k, T k → k < W.heap.size) (hK : K2 nb mb W W') :
    W.heap.size ≤ W'.heap.size ∧ (∀ k, T k → W'.heap[k]? = W.heap[k]?) ∧ KX (fun k => k < B ∨ k = br) W W' := by
  refine ⟨hK.2.2.2.1, fun k hk => ?_, ⟨hK.2.2.2.1, fun k hk => ?_⟩⟩
  · have := g1 k hk
    exact hK.2.2.2.2 k (hT k hk) (by omega) (by omega)
  · refine hK.2.2.2.2 k ?_ ?_ ?_ <;> rcases hk with hk | rfl <;> omega

set_option linter.unusedSimpArgs false in
set_option maxRecDepth 100000 in
set_option maxHeartbeats 4000000 in
theorem counting_is (R : Nat → Prop) (N : Nat → Nd) (B a b : Nat) (w : World) (hF : Forest R N B w) (hN : NumOk R N) (ha : R a) (hb : R b) (hB : B ≤ w.heap.size) :
    Calls Try.prog 45 #[.pointer (some ⟨a, 0, none⟩), .pointer (some ⟨b, 0, none⟩)] w fun e w' => ∃ mb n, e = .returned (.map (some mb)) ∧ w.heap.size ≤ mb ∧ n ≤ 4194304 ∧ IMap w' mb n (pairF (numL N (lvs N a)) (numL N (lvs N b))) ∧ Kept w w' := by
  have HF := hide1 hF
  have HA := hide1 ha
  have HB := hide1 hb
  have HN := hide1 hN
  obtain ⟨l, hl⟩ : ∃ l, numL N (lvs N a) = l := ⟨_, rfl⟩
  obtain ⟨m, hm⟩ : ∃ m, numL N (lvs N b) = m := ⟨_, rfl⟩
  rw [hl, hm]
  have HL := hide1 hl
  have HM := hide1 hm
  have hml : m.length ≤ 4194304 := by rw [← hm]; unfold numL; rw [List.length_map]; exact lvs_len hF hb
  clear hF hb hN hl hm ha
  refine (callsIn_wide (n := 3)).1 ?_
  refine callsIn_of_wp_marks Try.func45 rfl trivial ?_ rfl
  simp only [Try.ntmps45, List.size_toArray, List.length_cons, List.length_nil, Nat.reduceAdd, Nat.reduceSub, Array.replicate_succ, Array.replicate_zero, List.push_toArray, List.append_toArray, List.nil_append, List.cons_append]
  refine (wpIn_wide (n := 3)).2 ?_
  go_wp2_with (first
    | (have _g := HK1; clear _g; go_at_call 52; refine (once_is R N B b _ (HF.out.kb (HK1.out.kb hB)) HN.out HB.out (Nat.le_trans hB HK1.out.size)).mono ?_; rintro e w2 ⟨mo, no, rfl, hmo, hno, ho2, hk2⟩; have HO2 := hide1 ho2; have HK2 := hide1 hk2; have HMO := hide1 hmo; clear ho2 hk2 hmo)
    | (go_at_call 52; refine (once_is R N B a _ HF.out HN.out HA.out hB).mono ?_; rintro e w1 ⟨mb, n, rfl, hmb, hn, ho1, hk1⟩; have HO1 := hide1 ho1; have HK1 := hide1 hk1; have HMB := hide1 hmb; clear ho1 hk1 hmb)
    | (go_at_call 47; refine (leaves_is _ _).mono ?_; rintro e w5 ⟨rfl, hw5⟩; have HW5 := hide1 hw5; clear hw5))
  obtain ⟨cb, hcb⟩ : ∃ cb, w2.heap.size = cb := ⟨_, rfl⟩
  obtain ⟨ob, hob⟩ : ∃ ob, cb + 1 = ob := ⟨_, rfl⟩
  obtain ⟨nb, hnb⟩ : ∃ nb, ob + 1 = nb := ⟨_, rfl⟩
  obtain ⟨br, hbr⟩ : ∃ br, nb + 1 = br := ⟨_, rfl⟩
  have hw5 := HW5.out
  rw [hcb, hob, hnb, hbr]
  obtain ⟨wa, ea⟩ : ∃ wa, w2.alloc (.cells #[.map (some mb)] 114) = wa := ⟨_, rfl⟩
  obtain ⟨wb, eb⟩ : ∃ wb, wa.alloc (.cells #[.map (some mo)] 114) = wb := ⟨_, rfl⟩
  obtain ⟨wc, ec⟩ : ∃ wc, wb.alloc (.cells #[.int .i64 0] 3) = wc := ⟨_, rfl⟩
  rw [ea, eb, ec] at hw5
  have hsa : wa.heap.size = ob := by rw [← ea, World.size_alloc, hcb, hob]
  have hsb : wb.heap.size = nb := by rw [← eb, World.size_alloc, hsa, hnb]
  have hsc : wc.heap.size = br := by rw [← ec, World.size_alloc, hsb, hbr]
  have hs5 : w5.heap.size = br + 1 := by rw [hw5, World.size_alloc, hsc]
  have hka : Kept w2 wa := by rw [← ea]; exact (Kept.refl w2).alloc _ _
  have hkb : Kept wa wb := by rw [← eb]; exact (Kept.refl wa).alloc _ _
  have hkc : Kept wb wc := by rw [← ec]; exact (Kept.refl wb).alloc _ _
  have hk5 : Kept wc w5 := by rw [hw5]; exact (Kept.refl wc).alloc _ _
  have hk25 : Kept w2 w5 := gtrans hka (gtrans hkb (gtrans hkc hk5))
  have hcb5 : w5.heap[cb]? = some (.cells #[.map (some mb)] 114 (0, 0)) := ((gtrans hkb (gtrans hkc hk5)).2.2.2.2 cb (by omega)).trans (by rw [← ea, ← hcb]; exact World.alloc_heap_new w2 _)
  have hob5 : w5.heap[ob]? = some (.cells #[.map (some mo)] 114 (0, 0)) := ((gtrans hkc hk5).2.2.2.2 ob (by omega)).trans (by rw [← eb, ← hsa]; exact World.alloc_heap_new wa _)
  have hnb5 : w5.heap[nb]? = some (.cells #[.int .i64 0] 3 (0, 0)) := (hk5.2.2.2.2 nb (by omega)).trans (by rw [← ec, ← hsb]; exact World.alloc_heap_new wb _)
  have hbr5 : w5.heap[br]? = some (.cells #[.pointer (some ⟨a, 0, none⟩)] 43 (0, 0)) := by rw [hw5, ← hsc]; exact World.alloc_heap_new wc _
  have hmb1 := HO1.out.lt
  have hmo2 := HO2.out.lt
  have hkw : Kept w w5 := gtrans HK1.out (gtrans HK2.out hk25)
  have hs12 := HK2.out.size
  have h1m := HMB.out
  have h2m := HMO.out
  have hm5 : IMap w5 mb n (cntF l (numL N []) []) := (HO1.out.same ((gtrans HK2.out hk25).2.2.2.2 mb hmb1)).ext (fun x _ => by rw [HL.out]; rfl)
  have ho5 : IMap w5 mo no (onceF m) := (HO2.out.same (hk25.2.2.2.2 mo hmo2)).ext (fun x _ => by rw [HM.out])
  have hF5 : Forest R N B w5 := HF.out.kb (hkw.kb hB)
  have hI0 : CoI N l m w5 nb mb n (fun _ => False) [] w5 := ⟨fun _ h => h.elim, K2.refl _ _ _, 0, [], by omega, hnb5, hm5, cntI_start l m⟩
  have hseq := leaves_seq 2 (by omega) R N B br a w5 hF5 HA.out (by omega) (by omega) (by simp [World.cell?, hbr5])
  have HF5 := hide1 hF5
  have HI0 := hide1 hI0
  have HSEQ := hide1 hseq
  have HCB := hide1 hcb5
  have HOB := hide1 hob5
  have HO5 := hide1 ho5
  have HKW := hide1 hkw
  have HE : Hid (w.heap.size ≤ mb ∧ mb < mo ∧ mo < cb ∧ cb + 1 = ob ∧ ob + 1 = nb ∧ nb + 1 = br ∧ w5.heap.size = br + 1 ∧ B ≤ mb) := ⟨h1m, by omega, by omega, hob, hnb, hbr, hs5, by omega⟩
  clear hF5 hI0 hseq hcb5 hob5 ho5 hkw hm5 hbr5 hnb5 hk5 hkc hkb hka hk25 hs5 hsc hsb hsa hw5 ec eb ea hbr hnb hob hcb HW5 hB hmb1 hmo2 hs12 h1m h2m HO1 HO2 HK1 HK2 HMB HMO
  refine (wpIn_wide (n := 3)).1 ?_
  refine range_W rfl (by omega) (gf := 53) (lb := #[.pointer (some ⟨br, 0, none⟩)]) rfl trivial (enters_of Try.func53 (by kernel_rfl) rfl) HSEQ.out ?kp KX.trans (fun _ => rfl)
    (CoI N l m w5 nb mb n) (fun _ _ _ => False) (CoI.stable (by have := HE.out; omega) (by have := HE.out; omega)) (fun _ _ _ _ _ h => h.elim) HI0.out
    (fun x => { tmps := #[Value.pointer (some ⟨a, 0, none⟩), Value.pointer (some ⟨b, 0, none⟩), undef, undef, Value.map none, Value.pointer (some ⟨cb, 0, none⟩), Value.pointer (some ⟨ob, 0, none⟩), Value.pointer (some ⟨nb, 0, none⟩), undef, Value.pointer (some ⟨x.2, 0, none⟩), undef, undef, undef, undef, undef, Value.pointer (some ⟨a, 0, none⟩), Value.map (some mb), Value.pointer (some ⟨b, 0, none⟩), Value.map (some mo), Value.pointer (some ⟨a, 0, none⟩), Value.func (.func 53) #[] #[.pointer (some ⟨br, 0, none⟩)], Value.int .i64 (x.1 : Int), Value.pointer (some ⟨x.2, 0, none⟩), undef, undef, undef, undef, undef, undef, undef, undef, undef, undef, undef, undef, undef, undef, undef, undef, undef, undef, undef, undef, undef, undef, undef, undef, undef, undef, undef, undef], defers := [] })
    ?assign ?body ?done (fun _ _ _ _ _ _ h => h.elim)
  case kp => exact fun A A' h1 h2 h3 => ⟨h2, fun k hk => h3 k (by have := HE.out; omega)⟩
  case assign =>
    intro l x W K hK
    have HK := hide1 hK
    clear hK
    dsimp only [encW]
    gi_wp2
    exact HK.out
  case body =>
    rintro T pre x W hI hpre hTb hT0 hT1 hsz hloop
    have hxm : x ∈ lvs N a := hpre.subset (by simp)
    have hRx := (lvs_mem HF5.out HA.out hxm).1
    have hE := HE.out
    obtain ⟨g1, g2, nx, P, g0, g3, g4, g5⟩ := hI
    have hNW : NodeAt B W x.2 (N x.2) := (HF5.out x.2 hRx).1.kb ⟨g2.2.2.2.1, fun k hk => g2.2.2.2.2 k (by omega) (by omega) (by omega)⟩
    have hcbW := (g2.2.2.2.2 cb (by omega) (by omega) (by omega)).trans HCB.out
    have hobW := (g2.2.2.2.2 ob (by omega) (by omega) (by omega)).trans HOB.out
    have hoW : IMap W mo no (onceF m) := HO5.out.same (g2.2.2.2.2 mo (by omega) (by omega) (by omega))
    obtain ⟨c3, _⟩ := one_cell hcbW
    obtain ⟨c5, _⟩ := one_cell hobW
    obtain ⟨c4, f4⟩ := one_cell g3
    obtain ⟨nm, hnm⟩ : ∃ nm : Int, ((N x.2).num : Int) = nm := ⟨_, rfl⟩
    have hfit : fits nm := by have := HN.out x.2 hRx; unfold fits; omega
    have hnum := number_is hNW
    rw [hnm] at hnum
    have hpx : (numL N pre ++ [nm]) <+: l := by
      rw [← HL.out, ← hnm, ← numL_snoc]
      exact hpre.map _
    have hsn : numL N (pre ++ [x]) = numL N pre ++ [nm] := by rw [numL_snoc, hnm]
    have h1s : ((cntF l (numL N pre) P nm).isSome) = (onceN l nm).isSome := cntF_at g5 hpx
    have HNUM := hide1 hnum
    have HG5 := hide1 g5
    have HG1 := hide1 g1
    have HG2 := hide1 g2
    have HG3 := hide1 g3
    have HM4 := hide1 g4
    have HO := hide1 hoW
    have HPX := hide1 hpx
    have HSN := hide1 hsn
    have HT : Hid (∀ k, T k → k < W.heap.size) := fun k hk => (hTb k hk).2
    have hnxI : (nx : Int) ≤ 4194304 := by omega
    have hNb : nb ≠ mb := by omega
    clear g1 g2 g3 g4 g5 hpre hTb hT0 hT1 hsz hloop hxm hRx hNW hcbW hobW hoW hnum hnm hpx hsn hE g0
    by_cases hall : (onceN l nm).isSome ∧ (onceN m nm).isSome ∧ nx ≤ (onceN m nm).getD 0
    · obtain ⟨h1, h2, h3⟩ := hall
      obtain ⟨j, hj⟩ := Option.isSome_iff_exists.1 h1
      obtain ⟨p, hp⟩ := Option.isSome_iff_exists.1 h2
      have hpm := onceN_lt hp
      rw [hp, Option.getD_some] at h3
      have e1 : (cntF l (numL N pre) P nm).isSome = true := h1s.trans h1
      have e2 : (onceF m nm).isSome = true := by unfold onceF; rw [hp]; rfl
      have e3 : (onceF m nm).getD 0 = (p : Int) := by unfold onceF; rw [hp]; rfl
      obtain ⟨c, hc⟩ : ∃ c, (cntF l (numL N pre) P nm).getD 0 = c := ⟨_, rfl⟩
      have E1 := hide1 e1
      have E2 := hide1 e2
      have E3 := hide1 e3
      have HC := hide1 hc
      have HJ := hide1 hj
      have HP := hide1 hp
      have H3 := hide1 h3
      have h4 : (nx : Int) ≤ (p : Int) := by omega
      have h5 : (p : Int) ≤ 4194303 := by omega
      clear e1 e2 e3 hc hj hp h1 h2 h3 h1s
      gi_wp2_with (first
        | (gi_at_call 14; refine (CallsIn.inRound _ (callsIn_wide.2 HNUM.out)).mono ?_; rintro e w4 ⟨rfl, hw4⟩; have hw4 := hw4.symm; subst hw4)
        | (have _g := HL1; clear _g; gi_at_lookup; refine iIn_look rfl _ _ rfl mo no (onceF m) rfl HO.out nm rfl hfit true E2.out p E3.out ?_)
        | (gi_at_lookup; refine iIn_look rfl _ _ rfl mb n (cntF l (numL N pre) P) rfl HM4.out nm rfl hfit true E1.out c HC.out ?_; have HL1 : Hid True := trivial))
      have hE := HE.out
      have hk := (setCell_but W nb 0 (.int .i64 ((p : Int) + 1))).k2a mb
      obtain ⟨q1, q2, q3⟩ := co_fin (W' := W.setCell ⟨nb, 0, none⟩ (.int .i64 ((p : Int) + 1))) (B := B) (br := br) (by omega) (by omega) (by omega) (by omega) (by omega) (by omega) (by omega) HG1.out HG2.out.2.2.2.1 HT.out hk
      obtain ⟨r1, r2⟩ := cntI_yes HG5.out HPX.out HJ.out HP.out H3.out
      refine ⟨q1, q2, q3, HG1.out, HG2.out.trans hk, p + 1, P ++ [((numL N pre).length, p)], by omega, ?_, ?_, ?_⟩
      · rw [set_one HG3.out]
        simp
      · rw [HSN.out]
        exact (HM4.out.same (Below.heap_setCell _ _ _ _ (fun e => hNb e.symm))).ext (fun y _ => (r2 y).symm)
      · rw [HSN.out]
        exact r1
    · obtain ⟨bs, hbs⟩ : ∃ bs, (cntF l (numL N pre) P nm).isSome = bs := ⟨_, rfl⟩
      obtain ⟨bo, hbo⟩ : ∃ bo, (onceF m nm).isSome = bo := ⟨_, rfl⟩
      obtain ⟨c, hc⟩ : ∃ c, (cntF l (numL N pre) P nm).getD 0 = c := ⟨_, rfl⟩
      obtain ⟨p, hp⟩ : ∃ p, (onceN m nm).getD 0 = p := ⟨_, rfl⟩
      have e3 : (onceF m nm).getD 0 = (p : Int) := by rw [← hp]; unfold onceF; cases onceN m nm <;> rfl
      have e2 : (onceN m nm).isSome = bo := by rw [← hbo]; unfold onceF; cases onceN m nm <;> rfl
      have HALL := hide1 hall
      have HFAL : Hid (bs = true → bo = true → ¬ (nx : Int) ≤ (p : Int)) := fun h1 h2 h3 => hall ⟨by rw [← h1s, hbs, h1], by rw [e2, h2], by rw [hp]; omega⟩
      have E1 := hide1 hbs
      have E2 := hide1 hbo
      have E3 := hide1 e3
      have HC := hide1 hc
      have HFIN : Hid (∀ w6, IMap w6 mb n (fun y => if y = nm then none else cntF l (numL N pre) P y) → KeptBut mb W w6 → postW T (KX fun k => k < B ∨ k = br) (CoI N l m w5 nb mb n) (fun _ _ _ => False) (pre ++ [x]) W .normal { tmps := #[], defers := [] } w6) := fun w6 hm6 hk6 => by
        have hE := HE.out
        obtain ⟨q1, q2, q3⟩ := co_fin (W' := w6) (B := B) (br := br) (by omega) (by omega) (by omega) (by omega) (by omega) (by omega) (by omega) HG1.out HG2.out.2.2.2.1 HT.out (hk6.k2b nb)
        obtain ⟨r1, r2⟩ := cntI_no HG5.out HPX.out HALL.out
        refine ⟨q1, q2, q3, HG1.out, HG2.out.trans (hk6.k2b nb), nx, P, by omega, ?_, ?_, ?_⟩
        · exact (hk6.2.2.2.2 nb (Array.getElem?_eq_some_iff.1 HG3.out).1 hNb).trans HG3.out
        · rw [HSN.out]
          exact hm6.ext (fun y _ => (r2 y).symm)
        · rw [HSN.out]
          exact r1
      clear hbs hbo hc hp e3 e2 h1s hall
      have hcase : (bs = false) ∨ (bs = true ∧ bo = false) ∨ (bs = true ∧ bo = true ∧ ¬ (nx : Int) ≤ (p : Int)) := by
        cases bs
        · exact Or.inl rfl
        · cases bo
          · exact Or.inr (Or.inl ⟨rfl, rfl⟩)
          · exact Or.inr (Or.inr ⟨rfl, rfl, HFAL.out rfl rfl⟩)
      rcases hcase with rfl | ⟨rfl, rfl⟩ | ⟨rfl, rfl, hlt⟩
      · gi_wp2_with (first
          | (gi_at_call 14; refine (CallsIn.inRound _ (callsIn_wide.2 HNUM.out)).mono ?_; rintro e w4 ⟨rfl, hw4⟩; have hw4 := hw4.symm; subst hw4)
          | (have _g := HL1; clear _g; gi_at_lookup; refine iIn_look rfl _ _ rfl mo no (onceF m) rfl HO.out nm rfl hfit bo E2.out p E3.out ?_)
          | (gi_at_lookup; refine iIn_look rfl _ _ rfl mb n (cntF l (numL N pre) P) rfl HM4.out nm rfl hfit false E1.out c HC.out ?_; have HL1 : Hid True := trivial)
          | (gi_at_delete; refine iIn_del rfl _ _ rfl mb n (cntF l (numL N pre) P) rfl HM4.out nm rfl hfit ?_; intro w6 hm6 hk6 hs6; have HF6 := hide1 (HFIN.out w6 hm6 hk6); clear hm6 hk6 hs6))
        exact HF6.out
      · gi_wp2_with (first
          | (gi_at_call 14; refine (CallsIn.inRound _ (callsIn_wide.2 HNUM.out)).mono ?_; rintro e w4 ⟨rfl, hw4⟩; have hw4 := hw4.symm; subst hw4)
          | (have _g := HL1; clear _g; gi_at_lookup; refine iIn_look rfl _ _ rfl mo no (onceF m) rfl HO.out nm rfl hfit false E2.out p E3.out ?_)
          | (gi_at_lookup; refine iIn_look rfl _ _ rfl mb n (cntF l (numL N pre) P) rfl HM4.out nm rfl hfit true E1.out c HC.out ?_; have HL1 : Hid True := trivial)
          | (gi_at_delete; refine iIn_del rfl _ _ rfl mb n (cntF l (numL N pre) P) rfl HM4.out nm rfl hfit ?_; intro w6 hm6 hk6 hs6; have HF6 := hide1 (HFIN.out w6 hm6 hk6); clear hm6 hk6 hs6))
        exact HF6.out
      · gi_wp2_with (first
          | (gi_at_call 14; refine (CallsIn.inRound _ (callsIn_wide.2 HNUM.out)).mono ?_; rintro e w4 ⟨rfl, hw4⟩; have hw4 := hw4.symm; subst hw4)
          | (have _g := HL1; clear _g; gi_at_lookup; refine iIn_look rfl _ _ rfl mo no (onceF m) rfl HO.out nm rfl hfit true E2.out p E3.out ?_)
          | (gi_at_lookup; refine iIn_look rfl _ _ rfl mb n (cntF l (numL N pre) P) rfl HM4.out nm rfl hfit true E1.out c HC.out ?_; have HL1 : Hid True := trivial)
          | (gi_at_delete; refine iIn_del rfl _ _ rfl mb n (cntF l (numL N pre) P) rfl HM4.out nm rfl hfit ?_; intro w6 hm6 hk6 hs6; have HF6 := hide1 (HFIN.out w6 hm6 hk6); clear hm6 hk6 hs6))
        exact HF6.out
  case done =>
    rintro D T W hD hI hdef hTb hT0 hT1
    have hE := HE.out
    obtain ⟨g1, g2, nx, P, g0, g3, g4, g5⟩ := hI
    have hkW : Kept w W := ⟨g2.1.trans HKW.out.1, g2.2.1.trans HKW.out.2.1, g2.2.2.1.trans HKW.out.2.2.1, Nat.le_trans HKW.out.2.2.2.1 g2.2.2.2.1, fun k hk => (g2.2.2.2.2 k (by have := HKW.out.size; omega) (by omega) (by omega)).trans (HKW.out.2.2.2.2 k hk)⟩
    have hcbW := (g2.2.2.2.2 cb (by omega) (by omega) (by omega)).trans HCB.out
    obtain ⟨c3, _⟩ := one_cell hcbW
    have hl : numL N ((wl N (N a).size [a] 0).filter (leafB N)) = l := HL.out
    rw [hl] at g4 g5
    have HM4 : Hid (IMap W mb n (pairF l m)) := g4.ext (fun y _ => (cntF_end g5).2 y)
    have HKW2 := hide1 hkW
    have HDEF := hide1 hdef
    have HDL : Hid (br + 1 ≤ D) := by show br + 1 ≤ D; omega
    clear g1 g2 g0 g3 g4 g5 hkW hcbW hdef hTb hT0 hT1 hD hE hl
    go_wp2_with fail
    refine ⟨by simp, .inl ⟨_, _, rfl, run_takeDeferred HDEF.out, ?_⟩⟩
    have hE := HE.out
    have hd := HDL.out
    exact ⟨_, results_tmp rfl _ _ _, mb, n, rfl, by omega, hn, HM4.out.same (World.putObj_heap_other (by omega)), HKW2.out.put (by omega) _⟩

end Tr
end Ex
end Go.Proofs.Yteckbpmliahhhaa
namespace Go.Proofs.Yteckbpmliahhhaa
open Go.RowKit Go.Maps
attribute [local go_sem] Oper.semAt_some
namespace Ex
namespace Tr
attribute [local simp] wide_fn

def someB (f t i u : Int) : Bool := decide (f < t) || decide (i < u)
set_option linter.unusedSimpArgs false in
set_option maxRecDepth 100000 in
set_option maxHeartbeats 4000000 in
theorem some_is (f t i u : Int) (w : World) : Calls Try.prog 49 #[.agg #[.int .i64 f, .int .i64 t, .int .i64 i, .int .i64 u]] w fun e w' => e = .returned (.bool (someB f t i u)) ∧ Kept w w' := by
  have hk : Kept w (w.alloc (.cells #[.int .i64 f, .int .i64 t, .int .i64 i, .int .i64 u] 83)) := (Kept.refl w).alloc _ _
  by_cases h1 : f < t
  · go_enter Try.func49, Try.ntmps49
    go_wp2_with fail
    go_ret
    exact ⟨by unfold someB; simp [h1], hk⟩
  · go_enter Try.func49, Try.ntmps49
    go_wp2_with fail
    go_ret
    exact ⟨by unfold someB; simp [show ¬ f < t by omega], hk⟩

/-- The variables of a sequence of partings. -/
def PBox (w : World) (a b ab bb pb mb n : Nat) (f : Int → Option Int) : Prop :=
  w.heap[ab]? = some (.cells #[.pointer (some ⟨a, 0, none⟩)] 43 (0, 0)) ∧ w.heap[bb]? = some (.cells #[.pointer (some ⟨b, 0, none⟩)] 43 (0, 0)) ∧ w.heap[pb]? = some (.cells #[.map (some mb)] 114 (0, 0)) ∧ IMap w mb n f ∧ n ≤ 4194304
def pX (B ab bb pb mb : Nat) (k : Nat) : Prop := k < B ∨ k = ab ∨ k = bb ∨ k = pb ∨ k = mb
theorem PBox.kx {w w' : World} {a b ab bb pb mb n B : Nat} {f : Int → Option Int} (h : PBox w a b ab bb pb mb n f) (hk : KX (pX B ab bb pb mb) w w') : PBox w' a b ab bb pb mb n f := by
  obtain ⟨h1, h2, h3, h4, h5⟩ := h
  exact ⟨(hk.2 ab (by unfold pX; simp)).trans h1, (hk.2 bb (by unfold pX; simp)).trans h2, (hk.2 pb (by unfold pX; simp)).trans h3, h4.same (hk.2 mb (by unfold pX; simp)), h5⟩
theorem PBox.lt {w : World} {a b ab bb pb mb n : Nat} {f : Int → Option Int} (h : PBox w a b ab bb pb mb n f) : ab < w.heap.size ∧ bb < w.heap.size ∧ pb < w.heap.size ∧ mb < w.heap.size := ⟨(Array.getElem?_eq_some_iff.1 h.1).1, (Array.getElem?_eq_some_iff.1 h.2.1).1, (Array.getElem?_eq_some_iff.1 h.2.2.1).1, h.2.2.2.1.lt⟩
set_option linter.unusedSimpArgs false in
set_option maxRecDepth 100000 in
set_option maxHeartbeats 4000000 in
theorem partings_is (R : Nat → Prop) (N : Nat → Nd) (B a b : Nat) (w : World) (hF : Forest R N B w) (hN : NumOk R N) (ha : R a) (hb : R b) (hB : B ≤ w.heap.size) :
    Calls Try.prog 38 #[.pointer (some ⟨a, 0, none⟩), .pointer (some ⟨b, 0, none⟩)] w fun e w' => ∃ ab bb pb mb n, e = .returned (.func (.func 46) #[] #[.pointer (some ⟨bb, 0, none⟩), .pointer (some ⟨pb, 0, none⟩), .pointer (some ⟨ab, 0, none⟩)]) ∧ w.heap.size ≤ ab ∧ w.heap.size ≤ bb ∧ w.heap.size ≤ pb ∧ w.heap.size ≤ mb ∧ PBox w' a b ab bb pb mb n (pairF (numL N (lvs N a)) (numL N (lvs N b))) ∧ Kept w w' := by
  obtain ⟨w1, e1⟩ : ∃ w1, w.alloc (.cells #[.pointer (some ⟨a, 0, none⟩)] 43) = w1 := ⟨_, rfl⟩
  obtain ⟨w2, e2⟩ : ∃ w2, w1.alloc (.cells #[.pointer (some ⟨b, 0, none⟩)] 43) = w2 := ⟨_, rfl⟩
  have hs1 : w1.heap.size = w.heap.size + 1 := by rw [← e1, World.size_alloc]
  have hs2 : w2.heap.size = w.heap.size + 2 := by rw [← e2, World.size_alloc, hs1]
  have hk1 : Kept w w1 := by rw [← e1]; exact (Kept.refl w).alloc _ _
  have hk2 : Kept w1 w2 := by rw [← e2]; exact (Kept.refl w1).alloc _ _
  have hx1 : w2.heap[w.heap.size]? = some (.cells #[.pointer (some ⟨a, 0, none⟩)] 43 (0, 0)) := (hk2.2.2.2.2 _ (by omega)).trans (by rw [← e1]; exact World.alloc_heap_new w _)
  have hx2 : w2.heap[w.heap.size + 1]? = some (.cells #[.pointer (some ⟨b, 0, none⟩)] 43 (0, 0)) := by rw [← e2, ← hs1]; exact World.alloc_heap_new w1 _
  have hk02 := gtrans hk1 hk2
  have HC := hide1 (counting_is R N B a b w2 (hF.kb (hk02.kb hB)) hN ha hb (by omega))
  have HX1 := hide1 hx1
  have HX2 := hide1 hx2
  have HK02 := hide1 hk02
  have HE1 := hide1 e1
  have HE2 := hide1 e2
  have HS2 := hide1 hs2
  clear hF hN ha hb hs1 hs2 hk1 hk2 hx1 hx2 hk02 e1 e2
  go_enter Try.func38, Try.ntmps38
  go_wp2_with (go_at_call 45; rw [HE1.out, HE2.out]; refine HC.out.mono ?_; rintro e w3 ⟨mb, n, rfl, hmb, hn, hm3, hk3⟩; have HM3 := hide1 hm3; have HK3 := hide1 hk3; have HMB := hide1 hmb; clear hm3 hk3 hmb)
  go_ret
  have hs2 := HS2.out
  have hs3 := HK3.out.size
  have hmb := HMB.out
  have hml := HM3.out.lt
  have hk4 : Kept w3 (w3.alloc (.cells #[.map (some mb)] 114)) := (Kept.refl w3).alloc _ _
  exact ⟨w.heap.size, w.heap.size + 1, w3.heap.size, mb, n, rfl, by omega, by omega, by omega, by omega, ⟨((gtrans HK3.out hk4).2.2.2.2 _ (by omega)).trans HX1.out, ((gtrans HK3.out hk4).2.2.2.2 _ (by omega)).trans HX2.out, World.alloc_heap_new w3 _, HM3.out.same (hk4.2.2.2.2 _ hml), hn⟩, gtrans HK02.out (gtrans HK3.out hk4)⟩

end Tr
end Ex
end Go.Proofs.Yteckbpmliahhhaa
