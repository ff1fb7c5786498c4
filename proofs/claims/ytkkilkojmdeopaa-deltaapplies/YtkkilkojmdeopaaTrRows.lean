import Derived.Test.YtkkilkojmdeopaaTrRow
import Derived.OwnWalkIn
import Derived.Shelf.Abstract
namespace Go.Proofs.Ytkkilkojmdeopaa
open Go.RowKit
attribute [local go_sem] Oper.semAt_some
namespace Ex
namespace Tr

theorem rowt_info : (Try.prog.info? 76).map (fun i => (i.zero, i.size, i.bytes)) = some (some (.agg #[.int .i64 0, .int .i64 0, .int .i64 0, .int .i64 0, .int .i64 0, .int .i64 0]), 6, 48) := by kernel_rfl
def flatR (l : List Nd) : List Value := l.flatMap rowL
theorem flatR_len (l : List Nd) : (flatR l).length = l.length * 6 := by
  induction l with
  | nil => rfl
  | cons q l ih => unfold flatR at ih ⊢; simp only [List.flatMap_cons, List.length_append, ih, List.length_cons]; unfold rowL; simp only [List.length_cons, List.length_nil]; omega
theorem flatR_app (l : List Nd) (q : Nd) : flatR (l ++ [q]) = flatR l ++ rowL q := by unfold flatR; simp
/-- A list of rows, of the call's own. -/
def ROwn (w : World) (base : Nat) (v : Value) (l : List Nd) : Prop := w.ownsRow base 76 6 v l.length (flatR l)
theorem stepIn_row {F : Fence} {nn : Nat} {ops : Array Oper} {o : Oper} {a : Act} {K : Act → World → Prop} {Q : Exit → Act → World → Prop} {E : Prop} (hgd : o.guard = none) (s x : Operand) (ho : o.op = .call { callee := .builtin .append, args := #[s, x], argTypes := #[67, 67] }) (w : World)
    (base : Nat) (v : Value) (l : List Nd) (m : Nat) (hm : l.length = m) (hs : a.eval s = v) (hown : ROwn w base v l) (lb : Nat) (q : Nd) (hx : a.eval x = .slice (some ⟨lb, 0, none⟩) 1 1) (hbx : w.heap[lb]? = some (.cells (rowL q).toArray 76 (0, 0))) (hl : l.length ≤ 4194304) (hbase : base ≤ w.heap.size)
    (h : ∀ g cap w', ROwn w' base (.slice (some ⟨g, 0, none⟩) (m + 1) cap) (l ++ [q]) → w.grownBy w' v.ownBlock → (v.ownBlock = some g ∨ g = w.heap.size) → g < w'.heap.size → K (a.put o.dst (.slice (some ⟨g, 0, none⟩) (m + 1) cap)) w') :
    if Region.wanted o (yielded ops a.tmps) = true then Oper.wpIn F nn Try.prog o a w K Q else E := by
  have hw : Region.wanted o (yielded ops a.tmps) = true := by simp [Region.wanted, hgd]
  rw [if_pos hw]
  obtain ⟨i0, hi, hz0, hz1, hz2⟩ := info_parts rowt_info
  subst hm
  obtain ⟨g, cap, w', hr, h2, h3, h4, h5⟩ := run_append_lies (P := Try.prog) w 67 o.type base 76 i0 _ 6 48 Try.underlying67 hi hz0 hz1 hz2 rfl (by decide) v l.length (flatR l) hown ⟨lb, 0, none⟩ 1 1 (rowL q) rfl (fun j y hj => by
    have e : w.cell? ⟨lb, j, none⟩ = (rowL q)[j]? := by simp [World.cell?, hbx]
    simp only [Addr.add, Nat.zero_add]
    split
    · rename_i h0
      subst h0
      rw [e, hj]
    · rw [e, hj]) (fun u hu => by
    unfold rowL at hu
    simp only [List.mem_cons, List.not_mem_nil, or_false] at hu
    rcases hu with rfl | rfl | rfl | rfl | rfl | rfl <;> rfl) (by decide) (by unfold maxLen; omega) (by omega) hbase w.heap.size rfl
  unfold Oper.wpIn
  refine ⟨?_, ?_⟩
  · simp [Oper.about, ho, resolve, Target.leads, Sem.run_pure]
  · rw [Oper.semAt_plain F _ _ (by rw [ho]; intro c hc'; cases hc')]
    simp [execOp, ho, resolve, invoke, builtin, hs, hx, hr, Result.andThen]
    refine h g cap w' ?_ h3 h4 h5
    unfold ROwn
    rw [flatR_app, List.length_append]
    exact h2

/-- While the rows are laid: H: where the range began; rb: the list's box; br: the walk's. -/
def RowsI (N : Nat → Nd) (w : World) (H rb br b : Nat) (T : Nat → Prop) (pre : List (Nat × Nat)) (W : World) : Prop :=
  (∀ k, T k → H ≤ k) ∧ H ≤ W.heap.size ∧ Kept w W ∧ W.heap[br]? = some (.cells #[.pointer (some ⟨b, 0, none⟩)] 32 (0, 0)) ∧
    ∃ v, W.heap[rb]? = some (.cells #[v] 67 (0, 0)) ∧ ROwn W w.heap.size v (pre.map fun q => N q.2) ∧ ∀ d, v.ownBlock = some d → ¬ T d ∧ d ≠ rb ∧ d ≠ br
theorem RowsI.stable {N : Nat → Nd} {w : World} {H rb br b : Nat} (h1 : w.heap.size ≤ H) (h2 : rb < H) (h3 : br < H) : StableW (RowsI N w H rb br b) := by
  rintro T T' s A A' ⟨g1, g2, g3, g4, v, g5, g6, g7⟩ hs
  have hn : ∀ k, k < H → ¬ T k := fun k hk h => by have := g1 k h; omega
  have hT : ∀ k, k < A.heap.size → ¬ T k → ¬ T' k := fun k hk h h' => by
    rcases hs.2.2.2.2.2 k h' with h'' | h''
    · exact h h''
    · omega
  refine ⟨fun k hk => ?_, Nat.le_trans g2 hs.2.2.2.1, ⟨hs.1.trans g3.1, hs.2.1.trans g3.2.1, hs.2.2.1.trans g3.2.2.1, Nat.le_trans g3.2.2.2.1 hs.2.2.2.1, fun k hk => (hs.2.2.2.2.1 k (Nat.lt_of_lt_of_le hk g3.2.2.2.1) (hn k (by omega))).trans (g3.2.2.2.2 k hk)⟩,
    (hs.2.2.2.2.1 br (by omega) (hn br h3)).trans g4, v, (hs.2.2.2.2.1 rb (by omega) (hn rb h2)).trans g5, owns_same g6 (fun d hd => hs.2.2.2.2.1 d (g6.lt d hd).2 (g7 d hd).1), fun d hd => ⟨hT d (g6.lt d hd).2 (g7 d hd).1, (g7 d hd).2⟩⟩
  rcases hs.2.2.2.2.2 k hk with h | h
  · exact g1 k h
  · omega

theorem wl_mem {R : Nat → Prop} {N : Nat → Nd} (hR : ∀ b, R b → ∀ q ∈ (N b).kids, R q.1) : ∀ (f : Nat) (ps : List Nat) (a : Nat), (∀ p ∈ ps, R p) → ∀ q ∈ wl N f ps a, R q.2
  | 0, _, _, _, _, h => by cases h
  | _ + 1, [], _, _, _, h => by cases h
  | f + 1, b :: bs, a, hp, q, h => by
    rw [wl] at h
    rcases List.mem_cons.1 h with rfl | h
    · exact hp b List.mem_cons_self
    · refine wl_mem hR f _ _ (fun p hp' => ?_) q h
      rcases List.mem_append.1 hp' with h1 | h1
      · obtain ⟨k, hk, rfl⟩ := List.mem_map.1 h1
        exact hR b (hp b List.mem_cons_self) k hk
      · exact hp p (List.mem_cons_of_mem _ h1)
theorem wl_len (N : Nat → Nd) : ∀ (f : Nat) (ps : List Nat) (a : Nat), (wl N f ps a).length ≤ f
  | 0, _, _ => Nat.le_refl _
  | _ + 1, [], _ => Nat.zero_le _
  | f + 1, b :: bs, a => by rw [wl, List.length_cons]; exact Nat.succ_le_succ (wl_len N f _ _)
theorem ROwn.grown {w w' : World} {base : Nat} {v : Value} {l : List Nd} (h : ROwn w base v l) (hk : Kept w w') (o : Obj) : ROwn (w'.alloc o) base v l := owns_same h (fun d hd => (heap_alloc_old w' _ (Nat.lt_of_lt_of_le (h.lt d hd).2 hk.size)).trans (hk.2.2.2.2 d (h.lt d hd).2))
/-- The mark of a range is taken away. -/
theorem ROwn.put {w : World} {base D : Nat} {v : Value} {l : List Nd} {o' : Obj} {ds : Option (List Deferred)} (h : ROwn w base v l) (hD : w.heap[D]? = some (.deferred ds)) : ROwn (w.putObj D o') base v l := owns_same h (fun d hd => World.putObj_heap_other (by
  rintro rfl
  rcases h.2 with ⟨rfl, _⟩ | ⟨g, cap, cur, rfl, _, hg, _⟩
  · cases hd
  · simp only [Value.ownBlock, Option.some.injEq] at hd
    subst hd
    rw [hD] at hg
    cases hg))
theorem _root_.Go.Proofs.Ytkkilkojmdeopaa.Ex.Kept.put {w w' : World} {D : Nat} (h : Kept w w') (hD : w.heap.size ≤ D) (o : Obj) : Kept w (w'.putObj D o) := ⟨h.1, h.2.1, h.2.2.1, Nat.le_trans h.2.2.2.1 (by simp), fun k hk => (World.putObj_heap_other (by omega)).trans (h.2.2.2.2 k hk)⟩
/-- A round's end. -/
theorem rows_fin {N : Nat → Nd} {w W w6 w9 : World} {H rb b B : Nat} {T : Nat → Prop} {pre : List (Nat × Nat)} {x : Nat × Nat} {v v9 : Value} {t : TypeId} (hrb : rb + 2 = H) (hB : B ≤ w.heap.size) (hw : w.heap.size ≤ rb) (g1 : ∀ k, T k → H ≤ k) (g2 : H ≤ W.heap.size) (g3 : Kept w W)
    (g4 : W.heap[rb + 1]? = some (.cells #[.pointer (some ⟨b, 0, none⟩)] 32 (0, 0))) (g5 : W.heap[rb]? = some (.cells #[v] 67 (0, 0))) (g7 : ∀ d, v.ownBlock = some d → ¬ T d ∧ d ≠ rb ∧ d ≠ rb + 1) (hT : ∀ k, T k → k < W.heap.size)
    (hk6 : Kept W w6) (hg9 : (w6.alloc (.cells (rowL (N x.2)).toArray t)).grownBy w9 v.ownBlock) (ho9 : ROwn w9 w.heap.size v9 ((pre.map fun q => N q.2) ++ [N x.2])) (hor : ∀ d, v9.ownBlock = some d → v.ownBlock = some d ∨ W.heap.size ≤ d) (hv : ∀ d, v.ownBlock = some d → w.heap.size ≤ d) :
    W.heap.size ≤ (w9.setCell ⟨rb, 0, none⟩ v9).heap.size ∧ (∀ k, T k → (w9.setCell ⟨rb, 0, none⟩ v9).heap[k]? = W.heap[k]?) ∧ KX (fun k => k < B ∨ k = rb + 1) W (w9.setCell ⟨rb, 0, none⟩ v9) ∧ RowsI N w H rb (rb + 1) b T (pre ++ [x]) (w9.setCell ⟨rb, 0, none⟩ v9) := by
  have hsz : W.heap.size ≤ w9.heap.size := Nat.le_trans hk6.size (Nat.le_trans (alloc_le w6 _) hg9.size)
  have hse : (w9.setCell ⟨rb, 0, none⟩ v9).heap.size = w9.heap.size := by simp [World.setCell]
  have hkeep : ∀ k, k < W.heap.size → k ≠ rb → some k ≠ v.ownBlock → (w9.setCell ⟨rb, 0, none⟩ v9).heap[k]? = W.heap[k]? := fun k h1 h2 h3 =>
    (Below.heap_setCell _ _ _ _ h2).trans ((hg9.block k (by simp; have := hk6.size; omega) h3).trans ((heap_alloc_old w6 _ (Nat.lt_of_lt_of_le h1 hk6.size)).trans (hk6.2.2.2.2 k h1)))
  have hold : ∀ k, k < w.heap.size → (w9.setCell ⟨rb, 0, none⟩ v9).heap[k]? = W.heap[k]? := fun k hk => hkeep k (Nat.lt_of_lt_of_le hk g3.size) (by omega) (fun e => by have := hv k e.symm; omega)
  have hbr : (w9.setCell ⟨rb, 0, none⟩ v9).heap[rb + 1]? = W.heap[rb + 1]? := hkeep _ (by omega) (by omega) (fun e => (g7 _ e.symm).2.2 rfl)
  have hrb9 : w9.heap[rb]? = some (.cells #[v] 67 (0, 0)) := (hg9.block rb (by simp; have := hk6.size; omega) (fun e => (g7 _ e.symm).2.1 rfl)).trans ((heap_alloc_old w6 _ (by have := hk6.size; omega)).trans ((hk6.2.2.2.2 rb (by omega)).trans g5))
  refine ⟨by omega, fun k hk => hkeep k (hT k hk) (by have := g1 k hk; omega) (fun e => (g7 k e.symm).1 hk), ⟨by omega, fun k hk => ?_⟩, g1, by omega, ⟨?_, ?_, ?_, ?_, fun k hk => (hold k hk).trans (g3.2.2.2.2 k hk)⟩, hbr.trans g4, v9, ?_, ?_, fun d hd => ?_⟩
  · rcases hk with hk | rfl
    · exact hold k (by omega)
    · exact hbr
  · exact hg9.os.trans (hk6.1.trans g3.1)
  · exact hg9.tape.trans (hk6.2.1.trans g3.2.1)
  · exact hg9.output.trans (hk6.2.2.1.trans g3.2.2.1)
  · rw [hse]
    exact Nat.le_trans g3.size hsz
  · have hl := (Array.getElem?_eq_some_iff.1 hrb9).1
    have he := Option.some.inj ((Array.getElem?_eq_getElem hl).symm.trans hrb9)
    simp [World.setCell, Array.getElem_modify, hl, he]
  · rw [List.map_append]
    refine owns_same ho9 (fun d hd => Below.heap_setCell _ _ _ _ (show d ≠ rb from ?_))
    rintro rfl
    rcases hor _ hd with h | h
    · exact (g7 _ h).2.1 rfl
    · omega
  · rcases hor d hd with h | h
    · exact g7 d h
    · exact ⟨fun h' => by have := hT d h'; omega, by omega, by omega⟩

set_option linter.unusedSimpArgs false in
set_option maxRecDepth 100000 in
set_option maxHeartbeats 2000000 in
theorem rowsF_is (R : Nat → Prop) (N : Nat → Nd) (B b : Nat) (w : World) (hF : Forest R N B w) (hb : R b) (hB : B ≤ w.heap.size) :
    Calls Try.prog 15 #[.pointer (some ⟨b, 0, none⟩)] w fun e w' => (∃ v, e = .returned v ∧ ROwn w' w.heap.size v ((wl N (N b).size [b] 0).map fun q => N q.2)) ∧ Kept w w' := by
  obtain ⟨kv, _, _, _, _, _, _, _, _, _, _, _, _, _, c11, _⟩ := (hF b hb).1.cells
  have hok := (hF b hb).2.1
  obtain ⟨M, hM⟩ : ∃ M, (N b).size = M := ⟨_, rfl⟩
  rw [hM] at c11 ⊢
  have hM4 : M ≤ 4194304 := by unfold NdOk at hok; omega
  obtain ⟨xs, hxs⟩ : ∃ xs, wl N M [b] 0 = xs := ⟨_, rfl⟩
  rw [hxs]
  have HXS := hide1 hxs
  have HM := hide1 hM
  have HF := hide1 hF
  have HB := hide1 hb
  clear hxs
  obtain ⟨i0, hi, hz0, hz1, hz2⟩ := info_parts rowt_info
  obtain ⟨wM, hmk, hoM, hgM⟩ := run_make_own (P := Try.prog) w w.heap.size 67 76 i0 _ 6 Try.underlying67 hi hz0 hz1 .i64 .i64 M (by rw [hz2]; omega) (by unfold maxLen; omega) (Nat.le_refl _)
  have HKM : Hid (Kept w wM) := ⟨hgM.os, hgM.tape, hgM.output, hgM.size, fun k hk => hgM.block k hk (by simp)⟩
  have HOM := hide1 hoM
  have hMI : (M : Int) ≤ 4194304 := by omega
  clear hF hb hok hM hi hz0 hz1 hz2 hoM hgM
  refine (callsIn_wide (n := 3)).1 ?_
  refine callsIn_of_wp_marks Try.func15 rfl trivial ?_ rfl
  simp only [Try.ntmps15, List.size_toArray, List.length_cons, List.length_nil, Nat.reduceAdd, Nat.reduceSub, Array.replicate_succ, Array.replicate_zero, List.push_toArray, List.append_toArray, List.nil_append, List.cons_append]
  refine (wpIn_wide (n := 3)).2 ?_
  go_wp2_with (go_at_call 44; refine (walk_is _ _).mono ?_; rintro e w3 ⟨rfl, hw3⟩; have HW3 := hide1 hw3; clear hw3)
  obtain ⟨rb, hrb⟩ : ∃ rb, wM.heap.size = rb := ⟨_, rfl⟩
  have hwrb : w.heap.size ≤ rb := by rw [← hrb]; exact HKM.out.size
  have hoMg := HOM.out.lt
  obtain ⟨wR, hwR⟩ : ∃ wR, wM.alloc (.cells #[.slice (some ⟨w.heap.size, 0, none⟩) 0 M] 67) = wR := ⟨_, rfl⟩
  have hkR : Kept wM wR := by rw [← hwR]; exact (Kept.refl wM).alloc _ _
  have hsR : wR.heap.size = rb + 1 := by rw [← hwR, ← hrb]; simp
  have hbR : wR.heap[rb]? = some (.cells #[.slice (some ⟨w.heap.size, 0, none⟩) 0 M] 67 (0, 0)) := by rw [← hwR, ← hrb]; exact World.alloc_heap_new wM _
  have hw3 := HW3.out
  rw [hwR] at hw3
  have hk3 : Kept wR w3 := by rw [hw3]; exact (Kept.refl wR).alloc _ _
  have hs3 : w3.heap.size = rb + 2 := by rw [hw3]; simp; omega
  have hb3 : w3.heap[rb + 1]? = some (.cells #[.pointer (some ⟨b, 0, none⟩)] 32 (0, 0)) := by rw [hw3, ← hsR]; exact World.alloc_heap_new wR _
  have hr3 : w3.heap[rb]? = some (.cells #[.slice (some ⟨w.heap.size, 0, none⟩) 0 M] 67 (0, 0)) := (hk3.2.2.2.2 rb (by omega)).trans hbR
  have hkw : Kept w w3 := gtrans HKM.out (gtrans hkR hk3)
  have hF3 : Forest R N B w3 := HF.out.kb (hkw.kb hB)
  have hI0 : RowsI N w (rb + 2) rb (rb + 1) b (fun _ => False) [] w3 := by
    refine ⟨fun _ h => h.elim, by omega, hkw, hb3, _, hr3, ?_, fun d hd => ?_⟩
    · exact owns_same HOM.out (fun d hd => (gtrans hkR hk3).2.2.2.2 d (HOM.out.lt d hd).2)
    · have := (HOM.out.lt d hd).2
      exact ⟨fun h => h, by omega, by omega⟩
  have hseq := walk_seq 2 (by omega) R N B (rb + 1) b w3 hF3 HB.out (by omega) (by omega) (by simp [World.cell?, hb3])
  rw [HM.out] at hseq
  rw [HXS.out] at hseq
  rw [hrb]
  have HF3 := hide1 hF3
  have HI0 := hide1 hI0
  have HSEQ := hide1 hseq
  have HS3 := hide1 hs3
  clear hwR hsR hbR hkR hw3 HW3 hk3 hb3 hr3 hkw hF3 hI0 hseq hoMg HOM HKM hmk hs3
  refine (wpIn_wide (n := 3)).1 ?_
  refine range_W rfl (by omega) (gf := 65) (lb := #[.pointer (some ⟨rb + 1, 0, none⟩)]) rfl trivial (enters_of Try.func65 (by kernel_rfl) rfl) HSEQ.out ?kp KX.trans (fun _ => rfl)
    (RowsI N w (rb + 2) rb (rb + 1) b) (fun _ _ _ => False) (RowsI.stable (by omega) (by omega) (by omega)) (fun _ _ _ _ _ h => h.elim) HI0.out
    (fun x => { tmps := #[.pointer (some ⟨b, 0, none⟩), undef, .slice none 0 0, .pointer (some ⟨rb, 0, none⟩), undef, .pointer (some ⟨x.2, 0, none⟩), .pointer (some ⟨b, 0, none⟩), .pointer (some ⟨b, 0, none⟩), .pointer (some ⟨b, 11, none⟩), .int .i64 (M : Int), .slice (some ⟨w.heap.size, 0, none⟩) 0 M, .pointer (some ⟨b, 0, none⟩), .func (.func 65) #[] #[.pointer (some ⟨rb + 1, 0, none⟩)], .int .i64 (x.1 : Int), .pointer (some ⟨x.2, 0, none⟩), undef, undef, undef, undef, undef, undef], defers := [] })
    ?assign ?body ?done (fun _ _ _ _ _ _ h => h.elim)
  case kp => exact fun A A' h1 h2 h3 => ⟨h2, fun k hk => h3 k (by have := HS3.out; omega)⟩
  case assign =>
    intro l x W K hK
    have HK := hide1 hK
    clear hK
    dsimp only [encW]
    gi_wp2
    exact HK.out
  case body =>
    rintro T pre x W ⟨g1, g2, g3, g4, v, g5, g6, g7⟩ hpre hTb hT0 hT1 hsz hloop
    have hxm : x ∈ xs := hpre.subset (by simp)
    have hRx : R x.2 := by
      rw [← HXS.out] at hxm
      exact wl_mem (fun b hb => (HF3.out b hb).2.2.2.1) _ _ _ (fun p hp => by rw [List.mem_singleton.1 hp]; exact HB.out) _ hxm
    have hlen : pre.length < M := by
      have h1 := hpre.length_le
      have h2 := wl_len N M [b] 0
      rw [HXS.out] at h2
      simp only [List.length_append, List.length_cons, List.length_nil] at h1
      omega
    obtain ⟨m, hm⟩ : ∃ m, (pre.map fun q => N q.2).length = m := ⟨_, rfl⟩
    have hmM : m < M := by rw [← hm, List.length_map]; exact hlen
    obtain ⟨va, vc, rfl⟩ : ∃ a c, v = .slice a m c := by
      rcases g6.2 with ⟨rfl, h0⟩ | ⟨g, cap, cur, rfl, _⟩
      · exact ⟨none, 0, by rw [← hm, h0]⟩
      · exact ⟨_, _, by rw [← hm]⟩
    have hg2 : rb + 2 ≤ W.heap.size := g2
    have c0 : W.cell? ⟨rb, 0, none⟩ = some (.slice va m vc) := by simp [World.cell?, g5]
    have HKB : Hid (KB B w3 W.drew) := by
      have h3 := HI0.out.2.2.1
      exact ⟨by have := HS3.out; show _ ≤ W.heap.size; omega, fun k hk => (show W.drew.heap[k]? = w3.heap[k]? from (g3.2.2.2.2 k (by omega)).trans (h3.2.2.2.2 k (by omega)).symm)⟩
    have HRX := hide1 hRx
    have HLEN := hide1 hm
    have HO := hide1 g6
    have HG1 := hide1 g1
    have HG3 := hide1 g3
    have HG4 := hide1 g4
    have HG5 := hide1 g5
    have HG7 := hide1 g7
    have HTB : Hid (∀ k, T k → k < W.heap.size) := fun k hk => (hTb k hk).2
    clear g1 g2 g3 g4 g5 g6 g7 hpre hTb hT0 hT1 hsz hloop hxm hRx hlen hm
    gi_wp2_with fail
    refine wpIn_region_any (by kernel_rfl) ?_
    change wpAnyIn _ _ _ _ _ _ _ _ _ (World.drew _)
    refine wpAnyIn_ready (rs := [0, 1]) (by kernel_rfl) (by simp) ?_
    refine AllReadyIn.cons (i := 0) rfl (fun K hK => ?_) (AllReadyIn.cons (i := 1) rfl (fun K hK => ?_) AllReadyIn.nil)
    · go_simp
      refine hK _ _ ?_
      clear hK K
      try simp only [Act.put, List.setIfInBounds_toArray, List.set_cons_zero, List.set_cons_succ]
      refine wpAnyIn_ready (rs := [1]) (by kernel_rfl) (by simp) ?_
      refine AllReadyIn.cons (i := 1) rfl (fun K hK => ?_) AllReadyIn.nil
      go_simp
      refine hK _ _ ?_
      clear hK K
      try simp only [Act.put, List.setIfInBounds_toArray, List.set_cons_zero, List.set_cons_succ]
      refine wpAnyIn_ready (rs := [2]) (by kernel_rfl) (by simp) ?_
      refine AllReadyIn.cons (i := 2) rfl (fun K hK => ?_) AllReadyIn.nil
      go_simp
      refine ⟨trivial, ?_⟩
      refine (CallsIn.inRound _ (callsIn_wide.2 (row_is B x.2 (N x.2) _ ((HF3.out x.2 HRX.out).1.kb HKB.out)))).mono ?_
      rintro e w6 ⟨rfl, hk6'⟩
      have hk6 : Kept W w6 := gtrans (drew_kept W) hk6'
      have c6 : w6.cell? ⟨rb, 0, none⟩ = some (.slice va m vc) := grown_cell hk6 c0
      have c7 : (w6.alloc (.cells #[.int .i64 (N x.2).kind, .int .i64 (N x.2).n, .int .i64 (N x.2).l1, .int .i64 (N x.2).l2, .int .i64 ((N x.2).kids.length : Int), .int .i64 ((N x.2).num : Int)] 76)).cell? ⟨rb, 0, none⟩ = some (.slice va m vc) := (cell_alloc_old w6 _ (World.block_lt_of_cell? w6 _ c6)).trans c6
      dsimp only [rowL]
      refine hK _ _ ?_
      clear hK K
      try simp only [Act.put, List.setIfInBounds_toArray, List.set_cons_zero, List.set_cons_succ]
      refine wpAnyIn_ready (rs := [3]) (by kernel_rfl) (by simp) ?_
      refine AllReadyIn.cons (i := 3) rfl (fun K hK => ?_) AllReadyIn.nil
      go_simp
      refine hK _ _ ?_
      clear hK K
      try simp only [Act.put, List.setIfInBounds_toArray, List.set_cons_zero, List.set_cons_succ]
      refine wpAnyIn_ready (rs := [4]) (by kernel_rfl) (by simp) ?_
      refine AllReadyIn.cons (i := 4) rfl (fun K hK => ?_) AllReadyIn.nil
      refine stepIn_row rfl _ _ rfl _ w.heap.size _ (pre.map fun q => N q.2) m HLEN.out (by rfl) (HO.out.grown hk6 _) w6.heap.size (N x.2) (by rfl) (World.alloc_heap_new w6 _) (by have := HLEN.out; omega) (by exact Nat.le_trans HG3.out.size (Nat.le_trans hk6.size (alloc_le w6 _))) ?_
      intro g9 c9 w9 ho9 hg9 hor9 hl9
      have hr9 : w9.heap[rb]? = some (.cells #[.slice va m vc] 67 (0, 0)) := (hg9.block rb (by simp; have := hk6.size; omega) (fun e => (HG7.out _ e.symm).2.1 rfl)).trans ((heap_alloc_old w6 _ (by have := hk6.size; omega)).trans ((hk6.2.2.2.2 rb (by omega)).trans HG5.out))
      have u0 : w9.cell? ⟨rb, 0, none⟩ = some (.slice va m vc) := by simp [World.cell?, hr9]
      have u1 : w9.frozen? ⟨rb, 0, none⟩ = false := by simp [World.frozen?, hr9]
      have u2 : rb < w9.heap.size := (Array.getElem?_eq_some_iff.1 hr9).1
      have HFIN := hide1 (rows_fin (b := b) (x := x) (v9 := .slice (some ⟨g9, 0, none⟩) (m + 1) c9) (H := rb + 2) rfl hB hwrb HG1.out hg2 HG3.out HG4.out HG5.out HG7.out HTB.out hk6 hg9 ho9 (fun d hd => by simp only [Value.ownBlock, Option.some.injEq] at hd; subst hd; rcases hor9 with h | h; exact Or.inl h; exact Or.inr (by rw [h]; exact Nat.le_trans hk6.size (alloc_le w6 _))) (fun d hd => (HO.out.lt d hd).1))
      clear ho9 hg9 hor9 hr9
      refine hK _ _ ?_
      clear hK K
      try simp only [Act.put, List.setIfInBounds_toArray, List.set_cons_zero, List.set_cons_succ]
      refine wpAnyIn_ready (rs := [5]) (by kernel_rfl) (by simp) ?_
      refine AllReadyIn.cons (i := 5) rfl (fun K hK => ?_) AllReadyIn.nil
      go_simp
      refine hK _ _ ?_
      clear hK K
      try simp only [Act.put, List.setIfInBounds_toArray, List.set_cons_zero, List.set_cons_succ]
      refine wpAnyIn_done (by kernel_rfl) ?_ _
      exact HFIN.out
    · go_simp
      refine hK _ _ ?_
      clear hK K
      try simp only [Act.put, List.setIfInBounds_toArray, List.set_cons_zero, List.set_cons_succ]
      refine wpAnyIn_ready (rs := [0, 2]) (by kernel_rfl) (by simp) ?_
      refine AllReadyIn.cons (i := 0) rfl (fun K hK => ?_) (AllReadyIn.cons (i := 2) rfl (fun K hK => ?_) AllReadyIn.nil)
      · go_simp
        refine hK _ _ ?_
        clear hK K
        try simp only [Act.put, List.setIfInBounds_toArray, List.set_cons_zero, List.set_cons_succ]
        refine wpAnyIn_ready (rs := [2]) (by kernel_rfl) (by simp) ?_
        refine AllReadyIn.cons (i := 2) rfl (fun K hK => ?_) AllReadyIn.nil
        go_simp
        refine ⟨trivial, ?_⟩
        refine (CallsIn.inRound _ (callsIn_wide.2 (row_is B x.2 (N x.2) _ ((HF3.out x.2 HRX.out).1.kb HKB.out)))).mono ?_
        rintro e w6 ⟨rfl, hk6'⟩
        have hk6 : Kept W w6 := gtrans (drew_kept W) hk6'
        have c6 : w6.cell? ⟨rb, 0, none⟩ = some (.slice va m vc) := grown_cell hk6 c0
        have c7 : (w6.alloc (.cells #[.int .i64 (N x.2).kind, .int .i64 (N x.2).n, .int .i64 (N x.2).l1, .int .i64 (N x.2).l2, .int .i64 ((N x.2).kids.length : Int), .int .i64 ((N x.2).num : Int)] 76)).cell? ⟨rb, 0, none⟩ = some (.slice va m vc) := (cell_alloc_old w6 _ (World.block_lt_of_cell? w6 _ c6)).trans c6
        dsimp only [rowL]
        refine hK _ _ ?_
        clear hK K
        try simp only [Act.put, List.setIfInBounds_toArray, List.set_cons_zero, List.set_cons_succ]
        refine wpAnyIn_ready (rs := [3]) (by kernel_rfl) (by simp) ?_
        refine AllReadyIn.cons (i := 3) rfl (fun K hK => ?_) AllReadyIn.nil
        go_simp
        refine hK _ _ ?_
        clear hK K
        try simp only [Act.put, List.setIfInBounds_toArray, List.set_cons_zero, List.set_cons_succ]
        refine wpAnyIn_ready (rs := [4]) (by kernel_rfl) (by simp) ?_
        refine AllReadyIn.cons (i := 4) rfl (fun K hK => ?_) AllReadyIn.nil
        refine stepIn_row rfl _ _ rfl _ w.heap.size _ (pre.map fun q => N q.2) m HLEN.out (by rfl) (HO.out.grown hk6 _) w6.heap.size (N x.2) (by rfl) (World.alloc_heap_new w6 _) (by have := HLEN.out; omega) (by exact Nat.le_trans HG3.out.size (Nat.le_trans hk6.size (alloc_le w6 _))) ?_
        intro g9 c9 w9 ho9 hg9 hor9 hl9
        have hr9 : w9.heap[rb]? = some (.cells #[.slice va m vc] 67 (0, 0)) := (hg9.block rb (by simp; have := hk6.size; omega) (fun e => (HG7.out _ e.symm).2.1 rfl)).trans ((heap_alloc_old w6 _ (by have := hk6.size; omega)).trans ((hk6.2.2.2.2 rb (by omega)).trans HG5.out))
        have u0 : w9.cell? ⟨rb, 0, none⟩ = some (.slice va m vc) := by simp [World.cell?, hr9]
        have u1 : w9.frozen? ⟨rb, 0, none⟩ = false := by simp [World.frozen?, hr9]
        have u2 : rb < w9.heap.size := (Array.getElem?_eq_some_iff.1 hr9).1
        have HFIN := hide1 (rows_fin (b := b) (x := x) (v9 := .slice (some ⟨g9, 0, none⟩) (m + 1) c9) (H := rb + 2) rfl hB hwrb HG1.out hg2 HG3.out HG4.out HG5.out HG7.out HTB.out hk6 hg9 ho9 (fun d hd => by simp only [Value.ownBlock, Option.some.injEq] at hd; subst hd; rcases hor9 with h | h; exact Or.inl h; exact Or.inr (by rw [h]; exact Nat.le_trans hk6.size (alloc_le w6 _))) (fun d hd => (HO.out.lt d hd).1))
        clear ho9 hg9 hor9 hr9
        refine hK _ _ ?_
        clear hK K
        try simp only [Act.put, List.setIfInBounds_toArray, List.set_cons_zero, List.set_cons_succ]
        refine wpAnyIn_ready (rs := [5]) (by kernel_rfl) (by simp) ?_
        refine AllReadyIn.cons (i := 5) rfl (fun K hK => ?_) AllReadyIn.nil
        go_simp
        refine hK _ _ ?_
        clear hK K
        try simp only [Act.put, List.setIfInBounds_toArray, List.set_cons_zero, List.set_cons_succ]
        refine wpAnyIn_done (by kernel_rfl) ?_ _
        exact HFIN.out
      · go_simp
        refine ⟨trivial, ?_⟩
        refine (CallsIn.inRound _ (callsIn_wide.2 (row_is B x.2 (N x.2) _ ((HF3.out x.2 HRX.out).1.kb HKB.out)))).mono ?_
        rintro e w6 ⟨rfl, hk6'⟩
        have hk6 : Kept W w6 := gtrans (drew_kept W) hk6'
        have c6 : w6.cell? ⟨rb, 0, none⟩ = some (.slice va m vc) := grown_cell hk6 c0
        have c7 : (w6.alloc (.cells #[.int .i64 (N x.2).kind, .int .i64 (N x.2).n, .int .i64 (N x.2).l1, .int .i64 (N x.2).l2, .int .i64 ((N x.2).kids.length : Int), .int .i64 ((N x.2).num : Int)] 76)).cell? ⟨rb, 0, none⟩ = some (.slice va m vc) := (cell_alloc_old w6 _ (World.block_lt_of_cell? w6 _ c6)).trans c6
        dsimp only [rowL]
        refine hK _ _ ?_
        clear hK K
        try simp only [Act.put, List.setIfInBounds_toArray, List.set_cons_zero, List.set_cons_succ]
        refine wpAnyIn_ready (rs := [0, 3]) (by kernel_rfl) (by simp) ?_
        refine AllReadyIn.cons (i := 0) rfl (fun K hK => ?_) (AllReadyIn.cons (i := 3) rfl (fun K hK => ?_) AllReadyIn.nil)
        · go_simp
          refine hK _ _ ?_
          clear hK K
          try simp only [Act.put, List.setIfInBounds_toArray, List.set_cons_zero, List.set_cons_succ]
          refine wpAnyIn_ready (rs := [3]) (by kernel_rfl) (by simp) ?_
          refine AllReadyIn.cons (i := 3) rfl (fun K hK => ?_) AllReadyIn.nil
          go_simp
          refine hK _ _ ?_
          clear hK K
          try simp only [Act.put, List.setIfInBounds_toArray, List.set_cons_zero, List.set_cons_succ]
          refine wpAnyIn_ready (rs := [4]) (by kernel_rfl) (by simp) ?_
          refine AllReadyIn.cons (i := 4) rfl (fun K hK => ?_) AllReadyIn.nil
          refine stepIn_row rfl _ _ rfl _ w.heap.size _ (pre.map fun q => N q.2) m HLEN.out (by rfl) (HO.out.grown hk6 _) w6.heap.size (N x.2) (by rfl) (World.alloc_heap_new w6 _) (by have := HLEN.out; omega) (by exact Nat.le_trans HG3.out.size (Nat.le_trans hk6.size (alloc_le w6 _))) ?_
          intro g9 c9 w9 ho9 hg9 hor9 hl9
          have hr9 : w9.heap[rb]? = some (.cells #[.slice va m vc] 67 (0, 0)) := (hg9.block rb (by simp; have := hk6.size; omega) (fun e => (HG7.out _ e.symm).2.1 rfl)).trans ((heap_alloc_old w6 _ (by have := hk6.size; omega)).trans ((hk6.2.2.2.2 rb (by omega)).trans HG5.out))
          have u0 : w9.cell? ⟨rb, 0, none⟩ = some (.slice va m vc) := by simp [World.cell?, hr9]
          have u1 : w9.frozen? ⟨rb, 0, none⟩ = false := by simp [World.frozen?, hr9]
          have u2 : rb < w9.heap.size := (Array.getElem?_eq_some_iff.1 hr9).1
          have HFIN := hide1 (rows_fin (b := b) (x := x) (v9 := .slice (some ⟨g9, 0, none⟩) (m + 1) c9) (H := rb + 2) rfl hB hwrb HG1.out hg2 HG3.out HG4.out HG5.out HG7.out HTB.out hk6 hg9 ho9 (fun d hd => by simp only [Value.ownBlock, Option.some.injEq] at hd; subst hd; rcases hor9 with h | h; exact Or.inl h; exact Or.inr (by rw [h]; exact Nat.le_trans hk6.size (alloc_le w6 _))) (fun d hd => (HO.out.lt d hd).1))
          clear ho9 hg9 hor9 hr9
          refine hK _ _ ?_
          clear hK K
          try simp only [Act.put, List.setIfInBounds_toArray, List.set_cons_zero, List.set_cons_succ]
          refine wpAnyIn_ready (rs := [5]) (by kernel_rfl) (by simp) ?_
          refine AllReadyIn.cons (i := 5) rfl (fun K hK => ?_) AllReadyIn.nil
          go_simp
          refine hK _ _ ?_
          clear hK K
          try simp only [Act.put, List.setIfInBounds_toArray, List.set_cons_zero, List.set_cons_succ]
          refine wpAnyIn_done (by kernel_rfl) ?_ _
          exact HFIN.out
        · go_simp
          refine hK _ _ ?_
          clear hK K
          try simp only [Act.put, List.setIfInBounds_toArray, List.set_cons_zero, List.set_cons_succ]
          refine wpAnyIn_ready (rs := [0]) (by kernel_rfl) (by simp) ?_
          refine AllReadyIn.cons (i := 0) rfl (fun K hK => ?_) AllReadyIn.nil
          go_simp
          refine hK _ _ ?_
          clear hK K
          try simp only [Act.put, List.setIfInBounds_toArray, List.set_cons_zero, List.set_cons_succ]
          refine wpAnyIn_ready (rs := [4]) (by kernel_rfl) (by simp) ?_
          refine AllReadyIn.cons (i := 4) rfl (fun K hK => ?_) AllReadyIn.nil
          refine stepIn_row rfl _ _ rfl _ w.heap.size _ (pre.map fun q => N q.2) m HLEN.out (by rfl) (HO.out.grown hk6 _) w6.heap.size (N x.2) (by rfl) (World.alloc_heap_new w6 _) (by have := HLEN.out; omega) (by exact Nat.le_trans HG3.out.size (Nat.le_trans hk6.size (alloc_le w6 _))) ?_
          intro g9 c9 w9 ho9 hg9 hor9 hl9
          have hr9 : w9.heap[rb]? = some (.cells #[.slice va m vc] 67 (0, 0)) := (hg9.block rb (by simp; have := hk6.size; omega) (fun e => (HG7.out _ e.symm).2.1 rfl)).trans ((heap_alloc_old w6 _ (by have := hk6.size; omega)).trans ((hk6.2.2.2.2 rb (by omega)).trans HG5.out))
          have u0 : w9.cell? ⟨rb, 0, none⟩ = some (.slice va m vc) := by simp [World.cell?, hr9]
          have u1 : w9.frozen? ⟨rb, 0, none⟩ = false := by simp [World.frozen?, hr9]
          have u2 : rb < w9.heap.size := (Array.getElem?_eq_some_iff.1 hr9).1
          have HFIN := hide1 (rows_fin (b := b) (x := x) (v9 := .slice (some ⟨g9, 0, none⟩) (m + 1) c9) (H := rb + 2) rfl hB hwrb HG1.out hg2 HG3.out HG4.out HG5.out HG7.out HTB.out hk6 hg9 ho9 (fun d hd => by simp only [Value.ownBlock, Option.some.injEq] at hd; subst hd; rcases hor9 with h | h; exact Or.inl h; exact Or.inr (by rw [h]; exact Nat.le_trans hk6.size (alloc_le w6 _))) (fun d hd => (HO.out.lt d hd).1))
          clear ho9 hg9 hor9 hr9
          refine hK _ _ ?_
          clear hK K
          try simp only [Act.put, List.setIfInBounds_toArray, List.set_cons_zero, List.set_cons_succ]
          refine wpAnyIn_ready (rs := [5]) (by kernel_rfl) (by simp) ?_
          refine AllReadyIn.cons (i := 5) rfl (fun K hK => ?_) AllReadyIn.nil
          go_simp
          refine hK _ _ ?_
          clear hK K
          try simp only [Act.put, List.setIfInBounds_toArray, List.set_cons_zero, List.set_cons_succ]
          refine wpAnyIn_done (by kernel_rfl) ?_ _
          exact HFIN.out
  case done =>
    rintro D T W hD ⟨g1, g2, g3, g4, v, g5, g6, g7⟩ hdef hTb hT0 hT1
    obtain ⟨va, vl, vc, rfl⟩ : ∃ a n c, v = .slice a n c := by
      rcases g6.2 with ⟨rfl, h0⟩ | ⟨g, cap, cur, rfl, _⟩
      · exact ⟨_, _, _, rfl⟩
      · exact ⟨_, _, _, rfl⟩
    have c0 : W.cell? ⟨rb, 0, none⟩ = some (.slice va vl vc) := by simp [World.cell?, g5]
    have HO := hide1 g6
    have HG3 := hide1 g3
    have HDF := hide1 hdef
    have HG7 := hide1 g7
    have HT0 : Hid (D ≥ w.heap.size) := by show w.heap.size ≤ D; have := HS3.out; omega
    have hD' := hD
    clear g1 g2 g3 g4 g5 g6 g7 hTb hdef
    go_wp2_with fail
    refine ⟨by simp, .inl ⟨_, _, rfl, run_takeDeferred HDF.out, ?_⟩⟩
    exact ⟨_, results_tmp rfl _ _ _, ⟨_, rfl, HO.out.put HDF.out⟩, HG3.out.put HT0.out _⟩

end Tr
end Ex
end Go.Proofs.Ytkkilkojmdeopaa
