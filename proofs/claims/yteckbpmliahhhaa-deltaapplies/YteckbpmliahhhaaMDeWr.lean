import Derived.Test.YteckbpmliahhhaaMDeNo
import Derived.Test.YteckbpmliahhhaaMDeLe
import Derived.Test.YteckbpmliahhhaaMTrK3
import Derived.Deep.RegionHeld3
import Derived.BigQuiet
import Derived.Deep.LoopGhost
namespace Go.Proofs.Yteckbpmliahhhaa
open Go.RowKit Go.Maps
attribute [local go_sem] Oper.semAt_some
namespace Ex
namespace Tr

/-- A step. -/
structure OpM where
  d0 : Int
  d1 : Int
  d2 : Int
  d3 : Int
  d4 : Int
  d5 : Int
  d6 : Int
  d7 : Int
  d8 : Int
def encOp (x : OpM) : List Value := [.int .i64 x.d0, .int .i64 x.d1, .int .i64 x.d2, .int .i64 x.d3, .int .i64 x.d4, .int .i64 x.d5, .int .i64 x.d6, .int .i64 x.d7, .int .i64 x.d8]
theorem encOp_one (x : OpM) : ∀ u ∈ encOp x, u.oneCell' = true := fun u hu => by
  unfold encOp at hu
  simp only [List.mem_cons, List.not_mem_nil, or_false] at hu
  rcases hu with rfl | rfl | rfl | rfl | rfl | rfl | rfl | rfl | rfl <;> rfl
/-- Lists of steps. -/
def opE : ElK OpM := { T := 39, TT := 23, sz := 9, by_ := 72, z := .agg #[.int .i64 0, .int .i64 0, .int .i64 0, .int .i64 0, .int .i64 0, .int .i64 0, .int .i64 0, .int .i64 0, .int .i64 0], enc := encOp, pos := by decide, info := by kernel_rfl, zs := rfl, und := Try.underlying23, len := fun _ => rfl, one := encOp_one }
def encOpn (x : Nat × Nat) : List Value := [.pointer (some ⟨x.1, 0, none⟩), .int .i64 (x.2 : Int)]
theorem encOpn_one (x : Nat × Nat) : ∀ u ∈ encOpn x, u.oneCell' = true := fun u hu => by
  unfold encOpn at hu
  simp only [List.mem_cons, List.not_mem_nil, or_false] at hu
  rcases hu with rfl | rfl <;> rfl
/-- Lists of open nodes. -/
def opnE : ElK (Nat × Nat) := { T := 124, TT := 104, sz := 2, by_ := 16, z := .agg #[.pointer none, .int .i64 0], enc := encOpn, pos := by decide, info := by kernel_rfl, zs := rfl, und := Try.underlying104, len := fun _ => rfl, one := encOpn_one }
theorem LO.type {α : Type} {E : ElK α} {w : World} {base : Nat} {v : Value} {l : List α} (h : LO E w base v l) {g : Nat} (hg : v.ownBlock = some g) : ∃ cur, w.heap[g]? = some (.cells cur E.T (0, 0)) := by
  rcases h.2 with ⟨rfl, _⟩ | ⟨g', cap, cur, rfl, _, h3, _⟩
  · cases hg
  · simp only [Value.ownBlock, Option.some.injEq] at hg
    subst hg
    exact ⟨cur, h3⟩
theorem block_ne {w : World} {g h : Nat} {c d : Array Value} {t u : TypeId} (h1 : w.heap[g]? = some (.cells c t (0, 0))) (h2 : w.heap[h]? = some (.cells d u (0, 0))) (hn : t ≠ u) : g ≠ h := fun e => by
  subst e
  rw [h1] at h2
  injection h2 with h2
  injection h2 with _ h3
  exact hn h3
def OpAt (w : World) (ob : Nat) (d0 d1 d2 d3 d4 d5 d6 d7 d8 : Int) : Prop := w.heap[ob]? = some (.cells #[.int .i64 d0, .int .i64 d1, .int .i64 d2, .int .i64 d3, .int .i64 d4, .int .i64 d5, .int .i64 d6, .int .i64 d7, .int .i64 d8] 39 (0, 0))
theorem OpAt.cells {w : World} {ob : Nat} {d0 d1 d2 d3 d4 d5 d6 d7 d8 : Int} (h : OpAt w ob d0 d1 d2 d3 d4 d5 d6 d7 d8) : w.cell? ⟨ob, 0, none⟩ = some (.int .i64 d0) ∧ w.cell? ⟨ob, 1, none⟩ = some (.int .i64 d1) ∧ w.cell? ⟨ob, 2, none⟩ = some (.int .i64 d2) ∧ w.cell? ⟨ob, 3, none⟩ = some (.int .i64 d3) ∧ w.cell? ⟨ob, 4, none⟩ = some (.int .i64 d4) ∧ w.cell? ⟨ob, 5, none⟩ = some (.int .i64 d5) ∧ w.cell? ⟨ob, 6, none⟩ = some (.int .i64 d6) ∧ w.cell? ⟨ob, 7, none⟩ = some (.int .i64 d7) ∧ w.cell? ⟨ob, 8, none⟩ = some (.int .i64 d8) := by
  unfold OpAt at h
  refine ⟨?_, ?_, ?_, ?_, ?_, ?_, ?_, ?_, ?_⟩ <;> simp [World.cell?, h]
/-- The writer. -/
def WrAt (w : World) (wb mb : Nat) (sv ov : Value) : Prop := w.heap[wb]? = some (.cells #[.map (some mb), sv, ov] 106 (0, 0))
theorem WrAt.cells {w : World} {wb mb : Nat} {sv ov : Value} (h : WrAt w wb mb sv ov) : w.cell? ⟨wb, 0, none⟩ = some (.map (some mb)) ∧ w.cell? ⟨wb, 1, none⟩ = some sv ∧ w.cell? ⟨wb, 2, none⟩ = some ov ∧ w.frozen? ⟨wb, 0, none⟩ = false ∧ w.frozen? ⟨wb, 1, none⟩ = false ∧ w.frozen? ⟨wb, 2, none⟩ = false := by
  unfold WrAt at h
  refine ⟨?_, ?_, ?_, ?_, ?_, ?_⟩ <;> simp [World.cell?, World.frozen?, h]
theorem WrAt.set1 {w : World} {wb mb : Nat} {sv ov : Value} (h : WrAt w wb mb sv ov) (v : Value) : WrAt (w.setCell ⟨wb, 1, none⟩ v) wb mb v ov := by
  unfold WrAt at h ⊢
  have hl := (Array.getElem?_eq_some_iff.1 h).1
  have he := Option.some.inj ((Array.getElem?_eq_getElem hl).symm.trans h)
  simp [World.setCell, Array.getElem_modify, hl, he]
theorem WrAt.set2 {w : World} {wb mb : Nat} {sv ov : Value} (h : WrAt w wb mb sv ov) (v : Value) : WrAt (w.setCell ⟨wb, 2, none⟩ v) wb mb sv v := by
  unfold WrAt at h ⊢
  have hl := (Array.getElem?_eq_some_iff.1 h).1
  have he := Option.some.inj ((Array.getElem?_eq_getElem hl).symm.trans h)
  simp [World.setCell, Array.getElem_modify, hl, he]
/-- The writer with its steps and its open nodes, all in blocks from base on. -/
def WrS (base : Nat) (w : World) (wb mb : Nat) (st : List OpM) (op : List (Nat × Nat)) : Prop := base ≤ wb ∧ base ≤ w.heap.size ∧ ∃ sv ov, WrAt w wb mb sv ov ∧ LO opE w base sv st ∧ LO opnE w base ov op
/-- What 'add' leaves. -/
def AddR (base : Nat) (w w' : World) (wb mb : Nat) (ov : Value) (st : List OpM) (op : List (Nat × Nat)) : Prop := base ≤ wb ∧ base ≤ w'.heap.size ∧ (∃ sv, WrAt w' wb mb sv ov ∧ LO opE w' base sv st ∧ LO opnE w' base ov op) ∧ ∀ d, ov.ownBlock = some d → w'.heap[d]? = w.heap[d]?
theorem AddR.wrs {base : Nat} {w w' : World} {wb mb : Nat} {ov : Value} {st : List OpM} {op : List (Nat × Nat)} (h : AddR base w w' wb mb ov st op) : WrS base w' wb mb st op := by
  obtain ⟨h1, h2, ⟨sv, h3, h4, h5⟩, _⟩ := h
  exact ⟨h1, h2, sv, ov, h3, h4, h5⟩
/-- What lies below base stays. -/
def KW (base : Nat) (w w' : World) : Prop := KT (fun k => base ≤ k) w w'

set_option linter.unusedSimpArgs false in
set_option maxRecDepth 100000 in
set_option maxHeartbeats 4000000 in
theorem add_isV (base : Nat) (w : World) (wb mb : Nat) (sv ov : Value) (st : List OpM) (op : List (Nat × Nat)) (d0 d1 d2 d3 d4 d5 d6 d7 d8 : Int) (h1 : base ≤ wb) (h2 : base ≤ w.heap.size) (h3 : WrAt w wb mb sv ov) (h4 : LO opE w base sv st) (h5 : LO opnE w base ov op) (hl : st.length ≤ 4194304) :
    Calls Try.prog 51 #[.pointer (some ⟨wb, 0, none⟩), .agg #[.int .i64 d0, .int .i64 d1, .int .i64 d2, .int .i64 d3, .int .i64 d4, .int .i64 d5, .int .i64 d6, .int .i64 d7, .int .i64 d8]] w fun e w' => e = .returned (.tuple #[]) ∧ AddR base w w' wb mb ov (st ++ [⟨d0, d1, d2, d3, d4, d5, d6, d7, d8⟩]) op ∧ KW base w w' := by
  obtain ⟨m, hm⟩ : ∃ m, st.length = m := ⟨_, rfl⟩
  obtain ⟨va, vc, rfl⟩ : ∃ a c, sv = .slice a m c := by rw [← hm]; exact h4.form
  obtain ⟨oa, oc, hov⟩ := h5.form
  have hmI : m ≤ 4194304 := by omega
  have HW := hide1 h3
  have HO := hide1 h4
  have HP := hide1 h5
  have HM := hide1 hm
  have hwl : wb < w.heap.size := (Array.getElem?_eq_some_iff.1 h3).1
  clear h3 h4 h5 hm hl
  go_enter Try.func51, Try.ntmps51
  go_upto_region 1 with fail
  obtain ⟨ob, hob⟩ : ∃ ob, w.heap.size = ob := ⟨_, rfl⟩
  obtain ⟨wA, hwA⟩ : ∃ wA, w.alloc (.cells #[.int .i64 d0, .int .i64 d1, .int .i64 d2, .int .i64 d3, .int .i64 d4, .int .i64 d5, .int .i64 d6, .int .i64 d7, .int .i64 d8] 39) = wA := ⟨_, rfl⟩
  have hkA : Kept w wA := by rw [← hwA]; exact (Kept.refl w).alloc _ _
  have HOB : Hid (OpAt wA ob d0 d1 d2 d3 d4 d5 d6 d7 d8) := by rw [← hwA, ← hob]; exact World.alloc_heap_new w _
  have hsA : wA.heap.size = ob + 1 := by rw [← hwA, World.size_alloc, hob]
  rw [hwA, hob]
  have HCA : Hid (WrAt wA wb mb (.slice va m vc) ov) := (hkA.2.2.2.2 wb hwl).trans HW.out
  have HOA := hide1 (HO.out.keep hkA)
  have HPA := hide1 (HP.out.keep hkA)
  obtain ⟨c0, c1, c2, _, cz1, _⟩ := HCA.out.cells
  have hClA : wb < wA.heap.size := by omega
  have hobl : ob < wA.heap.size := by omega
  have hbaseA : base ≤ wA.heap.size := by omega
  have HWS : Hid ((Value.slice va m vc).ownBlock ≠ some wb) := fun e => by
    obtain ⟨cur, hc⟩ := HOA.out.type e
    exact block_ne hc HCA.out (show (39 : TypeId) ≠ 106 by decide) rfl
  have HOS : Hid ((Value.slice va m vc).ownBlock ≠ some ob) := fun e => by have := (HO.out.lt' ob e).2; omega
  have HKA := hide1 hkA
  have HEND : Hid (∀ wB g9 c9 w9, Kept wA wB → LO opE w9 base (.slice (some ⟨g9, 0, none⟩) (m + 1) c9) (st ++ [⟨d0, d1, d2, d3, d4, d5, d6, d7, d8⟩]) → wB.grownBy w9 (Value.slice va m vc).ownBlock → WrAt w9 wb mb (.slice va m vc) ov →
      AddR base w (w9.setCell ⟨wb, 1, none⟩ (.slice (some ⟨g9, 0, none⟩) (m + 1) c9)) wb mb ov (st ++ [⟨d0, d1, d2, d3, d4, d5, d6, d7, d8⟩]) op ∧ KW base w (w9.setCell ⟨wb, 1, none⟩ (.slice (some ⟨g9, 0, none⟩) (m + 1) c9))) := fun wB g9 c9 w9 hkC ho9 hg9 hC9 => by
    have hkB : Kept w wB := gtrans HKA.out hkC
    have hk9 : KW base w w9 := (hkB.kt _).trans ⟨hg9.os, hg9.tape, hg9.output, hg9.size, fun k hk hn => hg9.block k hk (fun e => hn (HO.out.lt' k e.symm).1)⟩
    have hkf : KW base w (w9.setCell ⟨wb, 1, none⟩ (.slice (some ⟨g9, 0, none⟩) (m + 1) c9)) := hk9.trans (KeptBut.kt (setCell_but w9 wb 1 _) h1)
    have hgw : g9 ≠ wb := fun e => by
      obtain ⟨cur, hc⟩ := ho9.type (g := g9) rfl
      exact block_ne hc hC9 (show (39 : TypeId) ≠ 106 by decide) e
    have hopn : ∀ d, ov.ownBlock = some d → (w9.setCell ⟨wb, 1, none⟩ (.slice (some ⟨g9, 0, none⟩) (m + 1) c9)).heap[d]? = wA.heap[d]? := fun d hd => by
      obtain ⟨cur, hc⟩ := HPA.out.type hd
      have hdw : d ≠ wb := fun e => block_ne hc HCA.out (show (124 : TypeId) ≠ 106 by decide) e
      have hdl := (HPA.out.lt' d hd).2
      refine (Below.heap_setCell _ _ _ _ hdw).trans ((hg9.block d (by have := hkC.size; omega) (fun e => ?_)).trans (hkC.2.2.2.2 d hdl))
      obtain ⟨cur2, hc2⟩ := HOA.out.type e.symm
      exact block_ne hc hc2 (show (124 : TypeId) ≠ 39 by decide) rfl
    exact ⟨⟨h1, by have := hkf.2.2.2.1; omega, ⟨_, hC9.set1 _, ho9.same (fun d hd => Below.heap_setCell _ _ _ _ (by simp only [Value.ownBlock, Option.some.injEq] at hd; subst hd; exact hgw)), HPA.out.same hopn⟩, fun d hd => (hopn d hd).trans (HKA.out.2.2.2.2 d (HP.out.lt' d hd).2)⟩, hkf⟩
  subst hov
  have hwo : wb < ob := by omega
  clear hwA hkA hob hsA hwl
  refine wp_region_held_drew (S := fun w' => OpAt w' ob d0 d1 d2 d3 d4 d5 d6 d7 d8) (by kernel_rfl) HOB.out (fun hHeld => ?_)
  refine wpAnyH_take (i := 0) (v := .pointer (some ⟨wb, 0, none⟩)) rfl (by kernel_rfl) (by kernel_rfl) (by kernel_rfl) (fun _ _ _ h => h) (Or.inl ⟨by rfl, fun w' hSw => ?_⟩) (by with_reducible assumption) ?_
  · clear hSw
    go_simp
  try simp only [Act.put, List.setIfInBounds_toArray, List.set_cons_zero, List.set_cons_succ]
  refine wpAnyH_take (i := 1) (v := .pointer (some ⟨wb, 0, none⟩)) rfl (by kernel_rfl) (by kernel_rfl) (by kernel_rfl) (fun _ _ _ h => h) (Or.inl ⟨by rfl, fun w' hSw => ?_⟩) (by with_reducible assumption) ?_
  · clear hSw
    go_simp
  try simp only [Act.put, List.setIfInBounds_toArray, List.set_cons_zero, List.set_cons_succ]
  refine wpAnyH_take (i := 2) (v := .pointer (some ⟨wb, 0, none⟩)) rfl (by kernel_rfl) (by kernel_rfl) (by kernel_rfl) (fun _ _ _ h => h) (Or.inl ⟨by rfl, fun w' hSw => ?_⟩) (by with_reducible assumption) ?_
  · clear hSw
    go_simp
  try simp only [Act.put, List.setIfInBounds_toArray, List.set_cons_zero, List.set_cons_succ]
  refine wpAnyH_take (i := 3) (v := .pointer (some ⟨wb, 1, none⟩)) rfl (by kernel_rfl) (by kernel_rfl) (by kernel_rfl) (fun _ _ _ h => h) (Or.inl ⟨by rfl, fun w' hSw => ?_⟩) (by with_reducible assumption) ?_
  · clear hSw
    go_simp
  try simp only [Act.put, List.setIfInBounds_toArray, List.set_cons_zero, List.set_cons_succ]
  refine wpAnyH_take (i := 5) (v := .agg #[.int .i64 d0, .int .i64 d1, .int .i64 d2, .int .i64 d3, .int .i64 d4, .int .i64 d5, .int .i64 d6, .int .i64 d7, .int .i64 d8]) rfl (by kernel_rfl) (by kernel_rfl) (by kernel_rfl) (fun _ _ _ h => h) (Or.inl ⟨by rfl, fun w' hSw => ?_⟩) (by with_reducible assumption) ?_
  · obtain ⟨t0, t1, t2, t3, t4, t5, t6, t7, t8⟩ := OpAt.cells hSw
    go_simp
  try simp only [Act.put, List.setIfInBounds_toArray, List.set_cons_zero, List.set_cons_succ]
  refine wpAnyH_ready (rs := [4, 6]) (by kernel_rfl) (by simp) ?_
  refine AllReadyH.cons (i := 4) rfl (fun K hK => ?_) (AllReadyH.cons (i := 6) rfl (fun K hK => ?_) AllReadyH.nil)
  · go_simp
    refine hK.out _ _ HOB.out (fun hHeld2 => ?_)
    clear hK K
    try simp only [Act.put, List.setIfInBounds_toArray, List.set_cons_zero, List.set_cons_succ]
    refine wpAnyH_ready (rs := [6]) (by kernel_rfl) (by simp) ?_
    refine AllReadyH.cons (i := 6) rfl (fun K hK => ?_) AllReadyH.nil
    go_simp
    refine hK.out _ _ ((heap_alloc_old wA _ hobl).trans HOB.out) (fun hHeld3 => ?_)
    clear hK K
    try simp only [Act.put, List.setIfInBounds_toArray, List.set_cons_zero, List.set_cons_succ]
    refine wpAnyH_ready (rs := [7]) (by kernel_rfl) (by simp) ?_
    refine AllReadyH.cons (i := 7) rfl (fun K hK => ?_) AllReadyH.nil
    refine step_lo (E := opE) rfl _ _ rfl base (.slice va m vc) st m HM.out (by rfl) (HOA.out.keep ((Kept.refl wA).alloc _ _)) wA.heap.size ⟨d0, d1, d2, d3, d4, d5, d6, d7, d8⟩ (by rfl) (World.alloc_heap_new wA _) (by show (m + 1) * 72 ≤ _; omega) (by unfold maxLen; omega) (by exact Nat.le_trans hbaseA (alloc_le wA _)) ?_
    intro g9 c9 w9 ho9 hg9 hor9 hlt9
    have hC9 : WrAt w9 wb mb (.slice va m vc) (.slice oa op.length oc) := (hg9.block wb (by simp; omega) (fun e => HWS.out e.symm)).trans ((heap_alloc_old wA _ hClA).trans HCA.out)
    have hx9 : OpAt w9 ob d0 d1 d2 d3 d4 d5 d6 d7 d8 := (hg9.block ob (by simp; omega) (fun e => HOS.out e.symm)).trans ((heap_alloc_old wA _ hobl).trans HOB.out)
    refine hK.out _ _ hx9 (fun hHeld9 => ?_)
    clear hK K
    try simp only [Act.put, List.setIfInBounds_toArray, List.set_cons_zero, List.set_cons_succ]
    refine wpAnyH_take (i := 8) (v := .pointer (some ⟨wb, 0, none⟩)) rfl (by kernel_rfl) (by kernel_rfl) (by kernel_rfl) (fun _ _ _ h => h) (Or.inl ⟨by rfl, fun w' hSw => ?_⟩) (by with_reducible assumption) ?_
    · clear hSw
      go_simp
    try simp only [Act.put, List.setIfInBounds_toArray, List.set_cons_zero, List.set_cons_succ]
    refine wpAnyH_take (i := 9) (v := .pointer (some ⟨wb, 1, none⟩)) rfl (by kernel_rfl) (by kernel_rfl) (by kernel_rfl) (fun _ _ _ h => h) (Or.inl ⟨by rfl, fun w' hSw => ?_⟩) (by with_reducible assumption) ?_
    · clear hSw
      go_simp
    try simp only [Act.put, List.setIfInBounds_toArray, List.set_cons_zero, List.set_cons_succ]
    refine wpAnyH_ready (rs := [10]) (by kernel_rfl) (by simp) ?_
    refine AllReadyH.cons (i := 10) rfl (fun K hK => ?_) AllReadyH.nil
    obtain ⟨y0, y1, y2, v0, v1, v2⟩ := hC9.cells
    have hCl9 : wb < w9.heap.size := (Array.getElem?_eq_some_iff.1 hC9).1
    have hx10 : OpAt (w9.setCell ⟨wb, 1, none⟩ (.slice (some ⟨g9, 0, none⟩) (m + 1) c9)) ob d0 d1 d2 d3 d4 d5 d6 d7 d8 := (Below.heap_setCell _ _ _ _ (show ob ≠ wb by omega)).trans hx9
    have HFIN := hide1 (HEND.out _ g9 c9 w9 (gtrans ((Kept.refl wA).alloc _ _) (drew_kept _)) ho9 hg9 hC9)
    clear ho9 hg9 hor9
    go_simp
    refine hK.out _ _ hx10 (fun hHeld10 => ?_)
    clear hK K
    try simp only [Act.put, List.setIfInBounds_toArray, List.set_cons_zero, List.set_cons_succ]
    refine wpAnyH_done (by kernel_rfl) ?_ _
    generalize w9.setCell ⟨wb, 1, none⟩ (.slice (some ⟨g9, 0, none⟩) (m + 1) c9) = W9 at *
    clear hHeld hHeld2 hHeld3 hHeld9 hHeld10 y0 y1 y2 v0 v1 v2 hCl9 hlt9 c0 c1 c2 cz1 hC9 hx9 hx10
    go_end0
    exact ⟨rfl, HFIN.out⟩
  · go_simp
    refine hK.out _ _ ((heap_alloc_old wA _ hobl).trans HOB.out) (fun hHeld2 => ?_)
    clear hK K
    try simp only [Act.put, List.setIfInBounds_toArray, List.set_cons_zero, List.set_cons_succ]
    refine wpAnyH_ready (rs := [4]) (by kernel_rfl) (by simp) ?_
    refine AllReadyH.cons (i := 4) rfl (fun K hK => ?_) AllReadyH.nil
    have c8' : (wA.alloc (.cells #[.int .i64 d0, .int .i64 d1, .int .i64 d2, .int .i64 d3, .int .i64 d4, .int .i64 d5, .int .i64 d6, .int .i64 d7, .int .i64 d8] 39)).cell? ⟨wb, 1, none⟩ = some (.slice va m vc) := (cell_alloc_old wA _ hClA).trans c1
    go_simp
    refine hK.out _ _ ((heap_alloc_old wA _ hobl).trans HOB.out) (fun hHeld3 => ?_)
    clear hK K c8'
    try simp only [Act.put, List.setIfInBounds_toArray, List.set_cons_zero, List.set_cons_succ]
    refine wpAnyH_ready (rs := [7]) (by kernel_rfl) (by simp) ?_
    refine AllReadyH.cons (i := 7) rfl (fun K hK => ?_) AllReadyH.nil
    refine step_lo (E := opE) rfl _ _ rfl base (.slice va m vc) st m HM.out (by rfl) (HOA.out.keep ((Kept.refl wA).alloc _ _)) wA.heap.size ⟨d0, d1, d2, d3, d4, d5, d6, d7, d8⟩ (by rfl) (World.alloc_heap_new wA _) (by show (m + 1) * 72 ≤ _; omega) (by unfold maxLen; omega) (by exact Nat.le_trans hbaseA (alloc_le wA _)) ?_
    intro g9 c9 w9 ho9 hg9 hor9 hlt9
    have hC9 : WrAt w9 wb mb (.slice va m vc) (.slice oa op.length oc) := (hg9.block wb (by simp; omega) (fun e => HWS.out e.symm)).trans ((heap_alloc_old wA _ hClA).trans HCA.out)
    have hx9 : OpAt w9 ob d0 d1 d2 d3 d4 d5 d6 d7 d8 := (hg9.block ob (by simp; omega) (fun e => HOS.out e.symm)).trans ((heap_alloc_old wA _ hobl).trans HOB.out)
    refine hK.out _ _ hx9 (fun hHeld9 => ?_)
    clear hK K
    try simp only [Act.put, List.setIfInBounds_toArray, List.set_cons_zero, List.set_cons_succ]
    refine wpAnyH_take (i := 8) (v := .pointer (some ⟨wb, 0, none⟩)) rfl (by kernel_rfl) (by kernel_rfl) (by kernel_rfl) (fun _ _ _ h => h) (Or.inl ⟨by rfl, fun w' hSw => ?_⟩) (by with_reducible assumption) ?_
    · clear hSw
      go_simp
    try simp only [Act.put, List.setIfInBounds_toArray, List.set_cons_zero, List.set_cons_succ]
    refine wpAnyH_take (i := 9) (v := .pointer (some ⟨wb, 1, none⟩)) rfl (by kernel_rfl) (by kernel_rfl) (by kernel_rfl) (fun _ _ _ h => h) (Or.inl ⟨by rfl, fun w' hSw => ?_⟩) (by with_reducible assumption) ?_
    · clear hSw
      go_simp
    try simp only [Act.put, List.setIfInBounds_toArray, List.set_cons_zero, List.set_cons_succ]
    refine wpAnyH_ready (rs := [10]) (by kernel_rfl) (by simp) ?_
    refine AllReadyH.cons (i := 10) rfl (fun K hK => ?_) AllReadyH.nil
    obtain ⟨y0, y1, y2, v0, v1, v2⟩ := hC9.cells
    have hCl9 : wb < w9.heap.size := (Array.getElem?_eq_some_iff.1 hC9).1
    have hx10 : OpAt (w9.setCell ⟨wb, 1, none⟩ (.slice (some ⟨g9, 0, none⟩) (m + 1) c9)) ob d0 d1 d2 d3 d4 d5 d6 d7 d8 := (Below.heap_setCell _ _ _ _ (show ob ≠ wb by omega)).trans hx9
    have HFIN := hide1 (HEND.out _ g9 c9 w9 (gtrans ((Kept.refl wA).alloc _ _) (drew_kept _)) ho9 hg9 hC9)
    clear ho9 hg9 hor9
    go_simp
    refine hK.out _ _ hx10 (fun hHeld10 => ?_)
    clear hK K
    try simp only [Act.put, List.setIfInBounds_toArray, List.set_cons_zero, List.set_cons_succ]
    refine wpAnyH_done (by kernel_rfl) ?_ _
    generalize w9.setCell ⟨wb, 1, none⟩ (.slice (some ⟨g9, 0, none⟩) (m + 1) c9) = W9 at *
    clear hHeld hHeld2 hHeld3 hHeld9 hHeld10 y0 y1 y2 v0 v1 v2 hCl9 hlt9 c0 c1 c2 cz1 hC9 hx9 hx10
    go_end0
    exact ⟨rfl, HFIN.out⟩
theorem add_isW (base : Nat) (w : World) (wb mb : Nat) (st : List OpM) (op : List (Nat × Nat)) (d0 d1 d2 d3 d4 d5 d6 d7 d8 : Int) (h : WrS base w wb mb st op) (hl : st.length ≤ 4194304) :
    Calls Try.prog 51 #[.pointer (some ⟨wb, 0, none⟩), .agg #[.int .i64 d0, .int .i64 d1, .int .i64 d2, .int .i64 d3, .int .i64 d4, .int .i64 d5, .int .i64 d6, .int .i64 d7, .int .i64 d8]] w fun e w' => e = .returned (.tuple #[]) ∧ WrS base w' wb mb (st ++ [⟨d0, d1, d2, d3, d4, d5, d6, d7, d8⟩]) op ∧ KW base w w' := by
  obtain ⟨h1, h2, sv, ov, h3, h4, h5⟩ := h
  exact (add_isV base w wb mb sv ov st op d0 d1 d2 d3 d4 d5 d6 d7 d8 h1 h2 h3 h4 h5 hl).mono fun e w' h => ⟨h.1, h.2.1.wrs, h.2.2⟩

end Tr
end Ex
end Go.Proofs.Yteckbpmliahhhaa
namespace Go.Proofs.Yteckbpmliahhhaa
open Go.RowKit Go.Maps
attribute [local go_sem] Oper.semAt_some
namespace Ex
namespace Tr

def begS (f : Int → Option Nat) (x : Nd) : List OpM := if (f (x.num : Int)).isSome = true then [⟨1, (x.num : Int), 0, 0, 0, 0, 0, 0, 0⟩] else if x.kind = 1 then [⟨2, 0, 0, 0, 0, x.l0, x.l1, x.l2, x.l3⟩] else []
def begO (f : Int → Option Nat) (x : Nd) (c : Nat) : List (Nat × Nat) := if (f (x.num : Int)).isSome = true then [] else if x.kind = 1 then [] else [(c, 0)]
theorem KW.kb {base B : Nat} {w w' : World} (h : KW base w w') (hB : B ≤ base) (hb : base ≤ w.heap.size) : KB B w w' := ⟨h.2.2.2.1, fun k hk => h.2.2.2.2 k (by omega) (by show ¬ base ≤ k; omega)⟩
theorem WrS.keep {base : Nat} {w w' : World} {wb mb : Nat} {st : List OpM} {op : List (Nat × Nat)} (h : WrS base w wb mb st op) (hk : Kept w w') : WrS base w' wb mb st op := by
  obtain ⟨h1, h2, sv, ov, h3, h4, h5⟩ := h
  exact ⟨h1, Nat.le_trans h2 hk.size, sv, ov, (hk.2.2.2.2 wb (Array.getElem?_eq_some_iff.1 h3).1).trans h3, h4.keep hk, h5.keep hk⟩

theorem WrS.put2 {base : Nat} {w : World} {wb mb : Nat} {sv ov v : Value} {st : List OpM} {op : List (Nat × Nat)} (h1 : base ≤ wb) (h2 : base ≤ w.heap.size) (hW : WrAt w wb mb sv ov) (hS : LO opE w base sv st) (hO : LO opnE w base v op) : WrS base (w.setCell ⟨wb, 2, none⟩ v) wb mb st op := by
  refine ⟨h1, by simp [World.setCell]; exact h2, sv, v, hW.set2 v, hS.same (fun d hd => ?_), hO.same (fun d hd => ?_)⟩
  · obtain ⟨cur, hc⟩ := hS.type hd
    exact Below.heap_setCell _ _ _ _ (fun e => block_ne hc hW (show (39 : TypeId) ≠ 106 by decide) e)
  · obtain ⟨cur, hc⟩ := hO.type hd
    exact Below.heap_setCell _ _ _ _ (fun e => block_ne hc hW (show (124 : TypeId) ≠ 106 by decide) e)

set_option linter.unusedSimpArgs false in
set_option maxRecDepth 100000 in
set_option maxHeartbeats 4000000 in
theorem begin_is (R : Nat → Prop) (N : Nat → Nd) (B base : Nat) (w : World) (wb mb n c : Nat) (f : Int → Option Nat) (st : List OpM) (op : List (Nat × Nat)) (h : WrS base w wb mb st op) (hF : Forest R N B w) (hN : NumOk R N) (hc : R c) (hm : NMap w mb n f) (hst : st.length ≤ 4194304) (hop : op.length ≤ 4194304) :
    Calls Try.prog 39 #[.pointer (some ⟨wb, 0, none⟩), .pointer (some ⟨c, 0, none⟩)] w fun e w' => e = .returned (.tuple #[]) ∧ WrS base w' wb mb (st ++ begS f (N c)) (op ++ begO f (N c) c) ∧ KW base w w' := by
  have hNc := (hF c hc).1
  have hfit : fits ((N c).num : Int) := by have := hN c hc; unfold fits; omega
  have hlf := leafK_is hNc
  obtain ⟨nm, hnm⟩ : ∃ nm : Int, ((N c).num : Int) = nm := ⟨_, rfl⟩
  obtain ⟨kd, hkd⟩ : ∃ kd, (N c).kind = kd := ⟨_, rfl⟩
  obtain ⟨l0, e0⟩ : ∃ l0, (N c).l0 = l0 := ⟨_, rfl⟩
  obtain ⟨l1, e1⟩ : ∃ l1, (N c).l1 = l1 := ⟨_, rfl⟩
  obtain ⟨l2, e2⟩ : ∃ l2, (N c).l2 = l2 := ⟨_, rfl⟩
  obtain ⟨l3, e3⟩ : ∃ l3, (N c).l3 = l3 := ⟨_, rfl⟩
  rw [e0, e1, e2, e3, hkd] at hlf
  have hnum : ∀ w', Kept w w' → Calls Try.prog 14 #[.pointer (some ⟨c, 0, none⟩)] w' fun e w2 => e = .returned (.int .i64 nm) ∧ w2 = w' := fun w' hk => by rw [← hnm]; exact number_is (hNc.keep hk)
  have hloo : ∀ w', Kept w w' → (Instr.lookup 62 (.map (some mb)) (.int .i64 nm) true).run Try.prog w' = .ok (.tuple #[.pointer ((f nm).map fun c => ⟨c, 0, none⟩), .bool (f nm).isSome]) w' := fun w' hk => by rw [← hnm]; exact (hm.same (hk.2.2.2.2 mb hm.lt)).look hfit
  have hbs : begS f (N c) = if (f nm).isSome = true then [⟨1, nm, 0, 0, 0, 0, 0, 0, 0⟩] else if kd = 1 then [⟨2, 0, 0, 0, 0, l0, l1, l2, l3⟩] else [] := by unfold begS; rw [hnm, hkd, e0, e1, e2, e3]
  have hbo : begO f (N c) c = if (f nm).isSome = true then [] else if kd = 1 then [] else [(c, 0)] := by unfold begO; rw [hnm, hkd]
  rw [hbs, hbo]
  have HLF := hide1 hlf
  have HNUM := hide1 hnum
  have HLOO := hide1 hloo
  have HW := hide1 h
  obtain ⟨op1, hop1⟩ : ∃ o, (f nm).map (fun c => (⟨c, 0, none⟩ : Addr)) = o := ⟨_, rfl⟩
  have HADD : Hid (∀ w' d0 d1 d2 d3 d4 d5 d6 d7 d8, Kept w w' → Calls Try.prog 51 #[.pointer (some ⟨wb, 0, none⟩), .agg #[.int .i64 d0, .int .i64 d1, .int .i64 d2, .int .i64 d3, .int .i64 d4, .int .i64 d5, .int .i64 d6, .int .i64 d7, .int .i64 d8]] w' fun e w2 => e = .returned (.tuple #[]) ∧ WrS base w2 wb mb (st ++ [⟨d0, d1, d2, d3, d4, d5, d6, d7, d8⟩]) op ∧ KW base w w2) :=
    fun w' d0 d1 d2 d3 d4 d5 d6 d7 d8 hk => (add_isW base w' wb mb st op d0 d1 d2 d3 d4 d5 d6 d7 d8 (h.keep hk) hst).mono fun e w2 h => ⟨h.1, h.2.1, (hk.kt _).trans h.2.2⟩
  clear h hF hN hc hm hNc hfit hlf hnum hloo hbs hbo e0 e1 e2 e3 hnm hkd
  by_cases hf : (f nm).isSome = true
  · rw [if_pos hf, if_pos hf, List.append_nil]
    have HF1 := hide1 hf
    go_enter Try.func39, Try.ntmps39
    go_upto_region 1 with (go_at_call 21; refine HLF.out.mono ?_; rintro e w1 ⟨rfl, hk1⟩; have HK1 := hide1 hk1; clear hk1)
    obtain ⟨w2, hw2⟩ : ∃ w2, w1.alloc (.cells #[.int .i64 l0, .int .i64 l1, .int .i64 l2, .int .i64 l3] 34) = w2 := ⟨_, rfl⟩
    have HK2 : Hid (Kept w w2) := by rw [← hw2]; exact gtrans HK1.out ((Kept.refl w1).alloc _ _)
    rw [hw2]
    obtain ⟨_, _, sv, ov, h3, _, _⟩ := HW.out.keep HK2.out
    obtain ⟨c0, _⟩ := h3.cells
    have hl2 : ∀ q, (Instr.lookup 62 (.map (some mb)) (.int .i64 nm) true).run Try.prog (w2.drewN q) = .ok (.tuple #[.pointer op1, .bool true]) (w2.drewN q) := fun q => by rw [HLOO.out _ (gtrans HK2.out (drewN_kept _ _)), hop1, HF1.out]
    clear h3 hw2 hop1 hf
    go_quiet ((go_at_call 14; exact Calls.quiet_of_same (HNUM.out _ (gtrans HK2.out (drewN_kept _ _)))))
    clear hl2 c0
    go_wp2_with (first
      | (go_at_call 14; refine (HNUM.out _ (gtrans HK2.out (drewN_kept _ _))).mono ?_; rintro e w4 ⟨rfl, hw4⟩; have hw4 := hw4.symm; subst hw4)
      | (go_at_call 51; refine (HADD.out _ _ _ _ _ _ _ _ _ _ (gtrans HK2.out (drewN_kept _ _))).mono ?_; rintro e w5 ⟨rfl, hs5, hk5⟩; have HS5 := hide1 hs5; have HK5 := hide1 hk5; clear hs5 hk5))
    go_end0
    exact ⟨rfl, HS5.out, HK5.out⟩
  · rw [if_neg hf, if_neg hf]
    by_cases hk1 : kd = 1
    · rw [if_pos hk1, if_pos hk1, List.append_nil]
      have hkb : (kd == 1) = true := by simp [hk1]
      rw [hkb] at HLF
      have HF1 : Hid ((f nm).isSome = false) := Bool.eq_false_iff.2 hf
      clear hk1 hkb
      go_enter Try.func39, Try.ntmps39
      go_upto_region 1 with (go_at_call 21; refine HLF.out.mono ?_; rintro e w1 ⟨rfl, hk1⟩; have HK1 := hide1 hk1; clear hk1)
      obtain ⟨w2, hw2⟩ : ∃ w2, w1.alloc (.cells #[.int .i64 l0, .int .i64 l1, .int .i64 l2, .int .i64 l3] 34) = w2 := ⟨_, rfl⟩
      have HK2 : Hid (Kept w w2) := by rw [← hw2]; exact gtrans HK1.out ((Kept.refl w1).alloc _ _)
      have hb2 : w2.heap[w1.heap.size]? = some (.cells #[.int .i64 l0, .int .i64 l1, .int .i64 l2, .int .i64 l3] 34 (0, 0)) := by rw [← hw2]; exact World.alloc_heap_new w1 _
      rw [hw2]
      obtain ⟨_, _, sv, ov, h3, _, _⟩ := HW.out.keep HK2.out
      obtain ⟨c0, _⟩ := h3.cells
      have hl2 : ∀ q, (Instr.lookup 62 (.map (some mb)) (.int .i64 nm) true).run Try.prog (w2.drewN q) = .ok (.tuple #[.pointer op1, .bool false]) (w2.drewN q) := fun q => by rw [HLOO.out _ (gtrans HK2.out (drewN_kept _ _)), hop1, HF1.out]
      have b0 : w2.cell? ⟨w1.heap.size, 0, none⟩ = some (.int .i64 l0) := by simp [World.cell?, hb2]
      have b1 : w2.cell? ⟨w1.heap.size, 1, none⟩ = some (.int .i64 l1) := by simp [World.cell?, hb2]
      have b2 : w2.cell? ⟨w1.heap.size, 2, none⟩ = some (.int .i64 l2) := by simp [World.cell?, hb2]
      have b3 : w2.cell? ⟨w1.heap.size, 3, none⟩ = some (.int .i64 l3) := by simp [World.cell?, hb2]
      clear h3 hw2 hop1 hf hb2
      go_quiet ((go_at_call 14; exact Calls.quiet_of_same (HNUM.out _ (gtrans HK2.out (drewN_kept _ _)))))
      clear hl2 c0
      go_wp2_with (go_at_call 51; refine (HADD.out _ _ _ _ _ _ _ _ _ _ (gtrans HK2.out (drewN_kept _ _))).mono ?_; rintro e w5 ⟨rfl, hs5, hk5⟩; have HS5 := hide1 hs5; have HK5 := hide1 hk5; clear hs5 hk5)
      go_end0
      exact ⟨rfl, HS5.out, HK5.out⟩
    · rw [if_neg hk1, if_neg hk1, List.append_nil]
      have hkb : (kd == 1) = false := by simpa using hk1
      rw [hkb] at HLF
      have HF1 : Hid ((f nm).isSome = false) := Bool.eq_false_iff.2 hf
      clear hk1 hkb
      go_enter Try.func39, Try.ntmps39
      go_upto_region 1 with (go_at_call 21; refine HLF.out.mono ?_; rintro e w1 ⟨rfl, hk1⟩; have HK1 := hide1 hk1; clear hk1)
      obtain ⟨w2, hw2⟩ : ∃ w2, w1.alloc (.cells #[.int .i64 l0, .int .i64 l1, .int .i64 l2, .int .i64 l3] 34) = w2 := ⟨_, rfl⟩
      have HK2 : Hid (Kept w w2) := by rw [← hw2]; exact gtrans HK1.out ((Kept.refl w1).alloc _ _)
      rw [hw2]
      obtain ⟨_, _, sv, ov, h3, _, _⟩ := HW.out.keep HK2.out
      obtain ⟨c0, _⟩ := h3.cells
      have hl2 : ∀ q, (Instr.lookup 62 (.map (some mb)) (.int .i64 nm) true).run Try.prog (w2.drewN q) = .ok (.tuple #[.pointer op1, .bool false]) (w2.drewN q) := fun q => by rw [HLOO.out _ (gtrans HK2.out (drewN_kept _ _)), hop1, HF1.out]
      clear h3 hw2 hop1 hf
      go_quiet ((go_at_call 14; exact Calls.quiet_of_same (HNUM.out _ (gtrans HK2.out (drewN_kept _ _)))))
      clear hl2 c0
      obtain ⟨wy, hwy⟩ : ∃ wy, w2.drewN nq = wy := ⟨_, rfl⟩
      have HKY : Hid (Kept w wy) := by rw [← hwy]; exact gtrans HK2.out (drewN_kept _ _)
      rw [hwy]
      clear hwy
      obtain ⟨i1, i2, sv', ov', i3, i4, i5⟩ := HW.out.keep HKY.out
      obtain ⟨m, hm⟩ : ∃ m, op.length = m := ⟨_, rfl⟩
      obtain ⟨va, vc, rfl⟩ : ∃ a c, ov' = .slice a m c := by rw [← hm]; exact i5.form
      have hm4 : m ≤ 4194304 := by omega
      have HI3 := hide1 i3
      have HI4 := hide1 i4
      have HI5 := hide1 i5
      have HM := hide1 hm
      have hwl : wb < wy.heap.size := (Array.getElem?_eq_some_iff.1 i3).1
      obtain ⟨c0, c1, c2, f0, f1, f2⟩ := i3.cells
      clear i3 i4 i5 hm hop
      go_wp2_with (at_builtin
                   refine wpl_lo (E := opnE) rfl _ _ rfl base (.slice va m vc) op m HM.out rfl (HI5.out.keep ((Kept.refl wy).alloc _ _)) wy.heap.size (c, 0) rfl (World.alloc_heap_new wy _) (by show (m + 1) * 16 ≤ _; omega) (by unfold maxLen; omega) (Nat.le_trans i2 (alloc_le wy _)) ?_
                   intro g9 cp9 w9 ho9 hg9 hor9 hl9
                   have HO9 := hide1 ho9
                   have HGR := hide1 hg9
                   have hC9 : WrAt w9 wb mb sv' (.slice va m vc) := (hg9.block wb (by simp; omega) (fun e => by obtain ⟨cur, hc⟩ := HI5.out.type e.symm; exact block_ne hc HI3.out (show (124 : TypeId) ≠ 106 by decide) rfl)).trans ((heap_alloc_old wy _ hwl).trans HI3.out)
                   have HC9 := hide1 hC9
                   obtain ⟨y0, y1, y2, v0, v1, v2⟩ := hC9.cells
                   clear ho9 hg9 hor9 hl9 hC9)
      go_end0
      have hgr := HGR.out
      have hk9 : KW base w w9 := ((gtrans HKY.out ((Kept.refl wy).alloc _ _)).kt _).trans ⟨hgr.os, hgr.tape, hgr.output, hgr.size, fun k hk hn => hgr.block k hk (fun e => hn (HI5.out.lt' k e.symm).1)⟩
      refine ⟨rfl, WrS.put2 i1 (by have := hgr.size; simp at this; omega) HC9.out (HI4.out.same (fun d hd => ?_)) HO9.out, hk9.trans (KeptBut.kt (setCell_but w9 wb 2 _) i1)⟩
      obtain ⟨cur, hc⟩ := HI4.out.type hd
      have hdl := (HI4.out.lt' d hd).2
      refine (hgr.block d (by simp; omega) (fun e => ?_)).trans (heap_alloc_old wy _ hdl)
      obtain ⟨cur2, hc2⟩ := HI5.out.type e.symm
      exact block_ne hc hc2 (show (39 : TypeId) ≠ 124 by decide) rfl

end Tr
end Ex
end Go.Proofs.Yteckbpmliahhhaa
namespace Go.Proofs.Yteckbpmliahhhaa
open Go.RowKit Go.Maps
attribute [local go_sem] Oper.semAt_some
namespace Ex
namespace Tr

theorem flatE_len {α : Type} (E : ElK α) (l : List α) : (flatE E l).length = l.length * E.sz := by
  induction l with
  | nil => simp [flatE]
  | cons x l ih =>
    have e : flatE E (x :: l) = E.enc x ++ flatE E l := by unfold flatE; simp
    rw [e, List.length_append, ih, E.len, List.length_cons, Nat.add_mul]
    omega
theorem LO.pop {α : Type} {E : ElK α} {w : World} {base g cap : Nat} {pre : List α} {q : α} (h : LO E w base (.slice (some ⟨g, 0, none⟩) (pre.length + 1) cap) (pre ++ [q])) : LO E w base (.slice (some ⟨g, 0, none⟩) pre.length cap) pre := by
  rcases h.2 with ⟨h0, _⟩ | ⟨g', cap', cur, he, hb, hg, hc, hm, hsz, hx⟩
  · cases h0
  · injection he with e1 e2 e3
    injection e1 with e1
    injection e1 with e1
    subst e1
    subst e3
    refine ⟨flatE_len E pre, .inr ⟨g, cap, cur, rfl, hb, hg, ?_, hm, hsz, ?_⟩⟩
    · rw [List.length_append] at hc
      exact Nat.le_trans (Nat.le_add_right _ _) hc
    · have hle : pre.length * E.sz ≤ (pre ++ [q]).length * E.sz := Nat.mul_le_mul_right _ (by simp)
      have e : (cur.toList.take ((pre ++ [q]).length * E.sz)).take (pre.length * E.sz) = (flatE E (pre ++ [q])).take (pre.length * E.sz) := by rw [hx]
      rw [List.take_take, flatE_app, List.take_append_of_le_length (by rw [flatE_len]; exact Nat.le_refl _), Nat.min_eq_left hle] at e
      rw [e, ← flatE_len E pre, List.take_length]
theorem opn_next {w : World} {base g cap : Nat} {pre : List (Nat × Nat)} {q : Nat × Nat} (h : LO opnE w base (.slice (some ⟨g, 0, none⟩) (pre.length + 1) cap) (pre ++ [q])) (i : Nat) : LO opnE (w.setCell ⟨g, pre.length * 2 + 1, none⟩ (.int .i64 (i : Int))) base (.slice (some ⟨g, 0, none⟩) (pre.length + 1) cap) (pre ++ [(q.1, i)]) := by
  rcases h.2 with ⟨h0, _⟩ | ⟨g', cap', cur, he, hb, hg, hc, hm, hsz, hx⟩
  · cases h0
  · injection he with e1 e2 e3
    injection e1 with e1
    injection e1 with e1
    subst e1
    subst e3
    have hl := (Array.getElem?_eq_some_iff.1 hg).1
    have he := Option.some.inj ((Array.getElem?_eq_getElem hl).symm.trans hg)
    have hfl : (flatE opnE pre).length = pre.length * 2 := flatE_len opnE pre
    refine ⟨flatE_len opnE _, .inr ⟨g, cap, cur.setIfInBounds (pre.length * 2 + 1) (.int .i64 (i : Int)), by simp, hb, ?_, by simpa using hc, hm, by simpa using hsz, ?_⟩⟩
    · simp [World.setCell, Array.getElem_modify, hl, he]
    · rw [List.length_append] at hx ⊢
      rw [flatE_app] at hx ⊢
      rw [Array.toList_setIfInBounds, List.take_set, show ([q] : List (Nat × Nat)).length = 1 from rfl] at *
      rw [show ([(q.1, i)] : List (Nat × Nat)).length = 1 from rfl, hx, List.set_append, if_neg (by rw [hfl]; omega), hfl]
      rw [show pre.length * 2 + 1 - pre.length * 2 = 1 by omega]
      rfl
theorem count_d {B b : Nat} {w : World} {x : Nd} (h : NodeAt B w b x) : Calls Try.prog 24 #[.pointer (some ⟨b, 0, none⟩)] w fun e w' => e = .returned (.int .i64 (x.kids.length : Int)) ∧ w' = w := by
  obtain ⟨kv, ⟨ka, kc, rfl, _⟩, _, _, _, _, _, _, _, _, _, c8, _⟩ := h.cells
  clear h
  go_enter Try.func24, Try.ntmps24
  go_wp2_with fail
  go_ret
  exact ⟨rfl, rfl⟩

def mkOp (x : Nd) : OpM := ⟨3, 0, x.kind, x.n, (x.kids.length : Int), 0, 0, 0, 0⟩
set_option linter.unusedSimpArgs false in
set_option maxRecDepth 100000 in
set_option maxHeartbeats 4000000 in
theorem on_more (R : Nat → Prop) (N : Nat → Nd) (B base : Nat) (w : World) (wb mb n c k : Nat) (q : Nat × Nat) (f : Int → Option Nat) (st : List OpM) (pre : List (Nat × Nat)) (h : WrS base w wb mb st (pre ++ [(c, k)])) (hF : Forest R N B w) (hN : NumOk R N) (hc : R c) (hq : (N c).kids[k]? = some q) (hm : NMap w mb n f) (hmb : mb < base) (hB : B ≤ base) (hst : st.length ≤ 4194304) (hop : pre.length < 4194304) :
    Calls Try.prog 40 #[.pointer (some ⟨wb, 0, none⟩)] w fun e w' => e = .returned (.tuple #[]) ∧ WrS base w' wb mb (st ++ begS f (N q.1)) (pre ++ [(c, k + 1)] ++ begO f (N q.1) q.1) ∧ KW base w w' := by
  obtain ⟨h1, h2, sv, ov, h3, h4, h5⟩ := h
  obtain ⟨pl, hpl⟩ : ∃ pl, pre.length = pl := ⟨_, rfl⟩
  obtain ⟨g, cap, rfl⟩ : ∃ g cap, ov = .slice (some ⟨g, 0, none⟩) (pl + 1) cap := by
    rcases h5.2 with ⟨_, h0⟩ | ⟨g, cap, cur, rfl, _⟩
    · simp at h0
    · exact ⟨g, cap, by rw [← hpl]; simp⟩
  have hcap : pl + 1 ≤ cap := by
    rcases h5.2 with ⟨h0, _⟩ | ⟨g', cap', cur, he, _, _, hcp, _⟩
    · cases h0
    · injection he with _ _ e3; subst e3; rw [List.length_append, hpl] at hcp; exact hcp
  have k0 : w.cell? ⟨g, pl * 2, none⟩ = some (.pointer (some ⟨c, 0, none⟩)) := by have := LO.cell h5 (i := pl) (j := 0) (x := (c, k)) (by rw [← hpl]; simp) rfl; exact this
  have k1 : w.cell? ⟨g, pl * 2 + 1, none⟩ = some (.int .i64 (k : Int)) := by have := LO.cell h5 (i := pl) (j := 1) (x := (c, k)) (by rw [← hpl]; simp) rfl; exact this
  obtain ⟨cur, hgc⟩ := h5.type (g := g) rfl
  have kf : w.frozen? ⟨g, pl * 2 + 1, none⟩ = false := by simp [World.frozen?, hgc]
  have hkN : (N c).kids.length ≤ 4194304 := by
    obtain ⟨_, kv, _, a', cp', _, _, h9, _⟩ := (hF c hc).1
    exact h9
  have hk4 : k < 4194304 := by have := (List.getElem?_eq_some_iff.1 hq).1; omega
  have hRq : R q.1 := (hF c hc).2.2.2.1 q (List.mem_of_getElem? hq)
  have hkid : ∀ m, Calls Try.prog 25 #[.pointer (some ⟨c, 0, none⟩), .int .i64 (k : Int)] (w.drewN m) fun e w' => e = .returned (.tuple #[.pointer (some ⟨q.1, 0, none⟩), .bool true]) ∧ w' = w.drewN m := fun m => kidK_in ((hF c hc).1.keep (drewN_kept w m)) hq
  obtain ⟨c0, c1, c2, f0, f1, f2⟩ := h3.cells
  have hgw : g ≠ wb := fun e => block_ne hgc h3 (show (124 : TypeId) ≠ 106 by decide) e
  have HKID := hide1 hkid
  have H3 := hide1 h3
  have H4 := hide1 h4
  have H5 := hide1 h5
  have HPL := hide1 hpl
  have HBEG : Hid (∀ w', KW base w w' → WrS base w' wb mb st (pre ++ [(c, k + 1)]) → Calls Try.prog 39 #[.pointer (some ⟨wb, 0, none⟩), .pointer (some ⟨q.1, 0, none⟩)] w' fun e w2 => e = .returned (.tuple #[]) ∧ WrS base w2 wb mb (st ++ begS f (N q.1)) (pre ++ [(c, k + 1)] ++ begO f (N q.1) q.1) ∧ KW base w w2) := fun w' hk hs =>
    (begin_is R N B base w' wb mb n q.1 f st _ hs (hF.kb (hk.kb hB h2)) hN hRq (hm.same (hk.2.2.2.2 mb hm.lt (by omega))) hst (by rw [List.length_append]; simp; omega)).mono fun e w2 h => ⟨h.1, h.2.1, hk.trans h.2.2⟩
  have hkI : (k : Int) < 4194304 := by omega
  have hplI : (pl : Int) < 4194304 := by omega
  have hcI : (pl : Int) + 1 ≤ (cap : Int) := by omega
  clear h3 h4 h5 hF hN hc hq hm hkid hRq hst hop hpl hgc hkN
  go_enter Try.func40, Try.ntmps40
  go_upto_region 2 with fail
  go_quiet ((go_at_call 25; exact Calls.quiet_of_same (HKID.out _)))
  obtain ⟨wy, hwy⟩ : ∃ wy, w.drewN nq = wy := ⟨_, rfl⟩
  have hkY : Kept w wy := by rw [← hwy]; exact drewN_kept _ _
  rw [hwy]
  have y1 : wy.cell? ⟨g, pl * 2 + 1, none⟩ = some (.int .i64 (k : Int)) := grown_cell hkY k1
  have hgl : g < w.heap.size := World.block_lt_of_cell? w _ k1
  have yf : wy.frozen? ⟨g, pl * 2 + 1, none⟩ = false := by
    obtain ⟨cur, hgc⟩ := H5.out.type (g := g) rfl
    have := (hkY.2.2.2.2 g hgl).trans hgc
    simp [World.frozen?, this]
  have HKY := hide1 hkY
  clear hwy hkY c0 c1 c2 f0 f1 f2 k0 k1 kf
  go_upto_region 5 with fail
  obtain ⟨wz, hwz⟩ : ∃ wz, wy.setCell ⟨g, pl * 2 + 1, none⟩ (.int .i64 ((k : Int) + 1)) = wz := ⟨_, rfl⟩
  have hgb : base ≤ g := (H5.out.lt' g rfl).1
  have hkZ : KW base w wz := by rw [← hwz]; exact (HKY.out.kt _).trans (KeptBut.kt (setCell_but wy g _ _) hgb)
  have hsZ : WrS base wz wb mb st (pre ++ [(c, k + 1)]) := by
    have h5y := H5.out.keep HKY.out
    have h3' := H3.out
    rw [← HPL.out] at h5y hwz h3'
    have h5z := opn_next h5y (k + 1)
    have e : ((k + 1 : Nat) : Int) = (k : Int) + 1 := by omega
    rw [e] at h5z
    rw [← hwz]
    refine ⟨h1, by simp [World.setCell]; have := HKY.out.size; omega, sv, _, ?_, (H4.out.keep HKY.out).same (fun d hd => ?_), h5z⟩
    · exact (Below.heap_setCell _ _ _ _ (fun e => hgw e.symm)).trans ((HKY.out.2.2.2.2 wb (Array.getElem?_eq_some_iff.1 h3').1).trans h3')
    · obtain ⟨cur, hc1⟩ := H4.out.type hd
      obtain ⟨cur2, hc2⟩ := H5.out.type (g := g) rfl
      exact Below.heap_setCell _ _ _ _ (fun e => block_ne hc1 hc2 (show (39 : TypeId) ≠ 124 by decide) e)
  have HBZ := hide1 (HBEG.out wz hkZ hsZ)
  rw [hwz]
  clear hwz hkZ hsZ y1 yf
  go_wp2_with (go_at_call 39; refine HBZ.out.mono ?_; rintro e w5 ⟨rfl, hs5, hk5⟩; have HS5 := hide1 hs5; have HK5 := hide1 hk5; clear hs5 hk5)
  refine bodyPost_ret (results_none rfl _ _ _) rfl ?_
  exact ⟨rfl, HS5.out, HK5.out⟩

set_option linter.unusedSimpArgs false in
set_option maxRecDepth 100000 in
set_option maxHeartbeats 4000000 in
theorem on_done (R : Nat → Prop) (N : Nat → Nd) (B base : Nat) (w : World) (wb mb c : Nat) (st : List OpM) (pre : List (Nat × Nat)) (h : WrS base w wb mb st (pre ++ [(c, (N c).kids.length)])) (hF : Forest R N B w) (hc : R c) (hB : B ≤ base) (hst : st.length ≤ 4194304) (hop : pre.length < 4194304) :
    Calls Try.prog 40 #[.pointer (some ⟨wb, 0, none⟩)] w fun e w' => e = .returned (.tuple #[]) ∧ WrS base w' wb mb (st ++ [mkOp (N c)]) pre ∧ KW base w w' := by
  obtain ⟨k, hk⟩ : ∃ k, (N c).kids.length = k := ⟨_, rfl⟩
  rw [hk] at h
  obtain ⟨h1, h2, sv, ov, h3, h4, h5⟩ := h
  obtain ⟨pl, hpl⟩ : ∃ pl, pre.length = pl := ⟨_, rfl⟩
  obtain ⟨g, cap, rfl⟩ : ∃ g cap, ov = .slice (some ⟨g, 0, none⟩) (pl + 1) cap := by
    rcases h5.2 with ⟨_, h0⟩ | ⟨g, cap, cur, rfl, _⟩
    · simp at h0
    · exact ⟨g, cap, by rw [← hpl]; simp⟩
  have hcap : pl + 1 ≤ cap := by
    rcases h5.2 with ⟨h0, _⟩ | ⟨g', cap', cur, he, _, _, hcp, _⟩
    · cases h0
    · injection he with _ _ e3; subst e3; rw [List.length_append, hpl] at hcp; exact hcp
  have k0 : w.cell? ⟨g, pl * 2, none⟩ = some (.pointer (some ⟨c, 0, none⟩)) := by have := LO.cell h5 (i := pl) (j := 0) (x := (c, k)) (by rw [← hpl]; simp) rfl; exact this
  have k1 : w.cell? ⟨g, pl * 2 + 1, none⟩ = some (.int .i64 (k : Int)) := by have := LO.cell h5 (i := pl) (j := 1) (x := (c, k)) (by rw [← hpl]; simp) rfl; exact this
  obtain ⟨cur, hgc⟩ := h5.type (g := g) rfl
  have kf : w.frozen? ⟨g, pl * 2 + 1, none⟩ = false := by simp [World.frozen?, hgc]
  have hkN : (N c).kids.length ≤ 4194304 := by
    obtain ⟨_, kv, _, a', cp', _, _, h9, _⟩ := (hF c hc).1
    exact h9
  have hk4 : k ≤ 4194304 := by omega
  have hkid : ∀ m, Calls Try.prog 25 #[.pointer (some ⟨c, 0, none⟩), .int .i64 (k : Int)] (w.drewN m) fun e w' => e = .returned (.tuple #[.pointer none, .bool false]) ∧ w' = w.drewN m := fun m => kidK_out ((hF c hc).1.keep (drewN_kept w m)) (k : Int) (Or.inr (by rw [hk]; exact Int.le_refl _))
  obtain ⟨c0, c1, c2, f0, f1, f2⟩ := h3.cells
  have hgw : g ≠ wb := fun e => block_ne hgc h3 (show (124 : TypeId) ≠ 106 by decide) e
  have HKID := hide1 hkid
  have H3 := hide1 h3
  have H4 := hide1 h4
  have H5 := hide1 h5
  have HPL := hide1 hpl
  obtain ⟨kd, hkd⟩ : ∃ kd, (N c).kind = kd := ⟨_, rfl⟩
  obtain ⟨nn, hnn⟩ : ∃ nn, (N c).n = nn := ⟨_, rfl⟩
  have HKIND : Hid (∀ w', KW base w w' → Calls Try.prog 22 #[.pointer (some ⟨c, 0, none⟩)] w' fun e w2 => e = .returned (.int .i64 kd) ∧ w2 = w') := fun w' hk' => by rw [← hkd]; exact kindK_is ((hF c hc).1.kb (hk'.kb hB h2))
  have HNN : Hid (∀ w', KW base w w' → Calls Try.prog 23 #[.pointer (some ⟨c, 0, none⟩)] w' fun e w2 => e = .returned (.int .i64 nn) ∧ w2 = w') := fun w' hk' => by rw [← hnn]; exact nK_is ((hF c hc).1.kb (hk'.kb hB h2))
  have HCNT : Hid (∀ w', KW base w w' → Calls Try.prog 24 #[.pointer (some ⟨c, 0, none⟩)] w' fun e w2 => e = .returned (.int .i64 (k : Int)) ∧ w2 = w') := fun w' hk' => by rw [← hk]; exact count_d ((hF c hc).1.kb (hk'.kb hB h2))
  have hmk : mkOp (N c) = ⟨3, 0, kd, nn, (k : Int), 0, 0, 0, 0⟩ := by unfold mkOp; rw [hkd, hnn, hk]
  rw [hmk]
  have hkI : (k : Int) ≤ 4194304 := by omega
  have hplI : (pl : Int) < 4194304 := by omega
  have hcI : (pl : Int) + 1 ≤ (cap : Int) := by omega
  clear h3 h4 h5 hF hc hkid hop hpl hgc hkN hk hkd hnn hmk
  go_enter Try.func40, Try.ntmps40
  go_upto_region 2 with fail
  go_quiet ((go_at_call 25; exact Calls.quiet_of_same (HKID.out _)))
  obtain ⟨wy, hwy⟩ : ∃ wy, w.drewN nq = wy := ⟨_, rfl⟩
  have hkY : Kept w wy := by rw [← hwy]; exact drewN_kept _ _
  rw [hwy]
  have y0 : wy.cell? ⟨g, pl * 2, none⟩ = some (.pointer (some ⟨c, 0, none⟩)) := grown_cell hkY k0
  have HKY := hide1 hkY
  clear hwy hkY c0 c1 c2 f0 f1 f2 k0 k1 kf
  go_upto_region 6 with fail
  have HADD : Hid (∀ w' d0 d1 d2 d3 d4 d5 d6 d7 d8, Kept wy w' → Calls Try.prog 51 #[.pointer (some ⟨wb, 0, none⟩), .agg #[.int .i64 d0, .int .i64 d1, .int .i64 d2, .int .i64 d3, .int .i64 d4, .int .i64 d5, .int .i64 d6, .int .i64 d7, .int .i64 d8]] w' fun e w2 => e = .returned (.tuple #[]) ∧ AddR base wy w2 wb mb (.slice (some ⟨g, 0, none⟩) (pl + 1) cap) (st ++ [⟨d0, d1, d2, d3, d4, d5, d6, d7, d8⟩]) (pre ++ [(c, k)]) ∧ KW base w w2) := fun w' d0 d1 d2 d3 d4 d5 d6 d7 d8 hkd => by
    have h3y : WrAt w' wb mb sv (.slice (some ⟨g, 0, none⟩) (pl + 1) cap) := ((gtrans HKY.out hkd).2.2.2.2 wb (Array.getElem?_eq_some_iff.1 H3.out).1).trans H3.out
    refine (add_isV base w' wb mb sv _ st (pre ++ [(c, k)]) d0 d1 d2 d3 d4 d5 d6 d7 d8 h1 (Nat.le_trans h2 (gtrans HKY.out hkd).size) h3y (H4.out.keep (gtrans HKY.out hkd)) (H5.out.keep (gtrans HKY.out hkd)) hst).mono fun e w2 h => ⟨h.1, ⟨h.2.1.1, h.2.1.2.1, h.2.1.2.2.1, fun d hd => (h.2.1.2.2.2 d hd).trans (hkd.2.2.2.2 d ((H5.out.keep HKY.out).lt' d hd).2)⟩, ((gtrans HKY.out hkd).kt _).trans h.2.2⟩
  go_region_held3 (fun w' => w'.cell? ⟨g, pl * 2, none⟩ = some (.pointer (some ⟨c, 0, none⟩))) (first | assumption | go_keep) ((first
    | (go_at_call 22; refine (HKIND.out _ ((gtrans HKY.out (drew_kept wy)).kt _)).mono ?_; rintro e w5 ⟨rfl, hw5⟩; have hw5 := hw5.symm; subst hw5)
    | (go_at_call 23; refine (HNN.out _ ((gtrans HKY.out (drew_kept wy)).kt _)).mono ?_; rintro e w5 ⟨rfl, hw5⟩; have hw5 := hw5.symm; subst hw5)
    | (go_at_call 24; refine (HCNT.out _ ((gtrans HKY.out (drew_kept wy)).kt _)).mono ?_; rintro e w5 ⟨rfl, hw5⟩; have hw5 := hw5.symm; subst hw5)
    | (go_at_call 51; refine (HADD.out _ _ _ _ _ _ _ _ _ _ (drew_kept wy)).mono ?_; rintro e w6 ⟨rfl, ha6, hk6⟩; have k6 : w6.cell? ⟨g, pl * 2, none⟩ = some (.pointer (some ⟨c, 0, none⟩)) := (World.cell?_of_block (w := wy) (a := ⟨g, pl * 2, none⟩) (ha6.2.2.2 g rfl)).trans y0; have HA6 := hide1 ha6; have HK6 := hide1 hk6; clear ha6 hk6)))
  all_goals
    obtain ⟨sv6, w36, w46, w56⟩ := HA6.out.2.2.1
    obtain ⟨z0, z1, z2, e0, e1, e2⟩ := w36.cells
    have HW36 := hide1 w36
    have HW46 := hide1 w46
    have HW56 := hide1 w56
    clear w36 w46 w56
    go_wp2_with fail
    go_end0
    have h56 := HW56.out
    rw [← HPL.out] at h56 ⊢
    refine ⟨rfl, WrS.put2 HA6.out.1 HA6.out.2.1 HW36.out HW46.out h56.pop, HK6.out.trans (KeptBut.kt (setCell_but w6 wb 2 _) h1)⟩

end Tr
end Ex
end Go.Proofs.Yteckbpmliahhhaa
namespace Go.Proofs.Yteckbpmliahhhaa
open Go.RowKit Go.Maps
attribute [local go_sem] Oper.semAt_some
namespace Ex
namespace Tr

theorem flat_congr {α β : Type} {f g : α → List β} : ∀ (l : List α), (∀ x ∈ l, f x = g x) → l.flatMap f = l.flatMap g
  | [], _ => rfl
  | x :: l, h => by rw [List.flatMap_cons, List.flatMap_cons, h x List.mem_cons_self, flat_congr l (fun y hy => h y (List.mem_cons_of_mem _ hy))]
/-- The steps of a node, by so many levels. -/
def stepsN (N : Nat → Nd) (f : Int → Option Nat) : Nat → Nat → List OpM
  | 0, _ => []
  | k + 1, c => if (f ((N c).num : Int)).isSome = true then [⟨1, ((N c).num : Int), 0, 0, 0, 0, 0, 0, 0⟩] else if (N c).kind = 1 then [⟨2, 0, 0, 0, 0, (N c).l0, (N c).l1, (N c).l2, (N c).l3⟩] else ((N c).kids.map Prod.fst).flatMap (stepsN N f k) ++ [mkOp (N c)]
def stp (N : Nat → Nd) (f : Int → Option Nat) (c : Nat) : List OpM := stepsN N f (N c).size c
theorem steps_more {R : Nat → Prop} {N : Nat → Nd} {B : Nat} {w : World} (hF : Forest R N B w) (f : Int → Option Nat) : ∀ (z k c : Nat), R c → (N c).size ≤ z → (N c).size ≤ k → stepsN N f k c = stepsN N f (N c).size c
  | 0, k, c, hc, hz, hk => by have := (hF c hc).2.1.1; omega
  | z + 1, k, c, hc, hz, hk => by
    have h1 := (hF c hc).2.1.1
    obtain ⟨s, hs⟩ : ∃ s, (N c).size = s + 1 := ⟨(N c).size - 1, by omega⟩
    obtain ⟨k', rfl⟩ : ∃ k', k = k' + 1 := ⟨k - 1, by omega⟩
    rw [hs]
    unfold stepsN
    by_cases h2 : (f ((N c).num : Int)).isSome = true
    · rw [if_pos h2, if_pos h2]
    · rw [if_neg h2, if_neg h2]
      by_cases h3 : (N c).kind = 1
      · rw [if_pos h3, if_pos h3]
      · rw [if_neg h3, if_neg h3]
        congr 1
        refine flat_congr _ (fun d hd => ?_)
        obtain ⟨q, hq, rfl⟩ := List.mem_map.1 hd
        obtain ⟨h4, h5⟩ := hF.kid hc hq
        rw [steps_more hF f z k' q.1 h4 (by omega) (by omega), steps_more hF f z s q.1 h4 (by omega) (by omega)]
theorem stp_eq {R : Nat → Prop} {N : Nat → Nd} {B : Nat} {w : World} (hF : Forest R N B w) (f : Int → Option Nat) {c : Nat} (hc : R c) : stp N f c = if (f ((N c).num : Int)).isSome = true then [⟨1, ((N c).num : Int), 0, 0, 0, 0, 0, 0, 0⟩] else if (N c).kind = 1 then [⟨2, 0, 0, 0, 0, (N c).l0, (N c).l1, (N c).l2, (N c).l3⟩] else ((N c).kids).flatMap (fun q => stp N f q.1) ++ [mkOp (N c)] := by
  have h1 := (hF c hc).2.1.1
  obtain ⟨s, hs⟩ : ∃ s, (N c).size = s + 1 := ⟨(N c).size - 1, by omega⟩
  have e : stp N f c = stepsN N f (s + 1) c := by unfold stp; rw [hs]
  rw [e]
  unfold stepsN
  by_cases h2 : (f ((N c).num : Int)).isSome = true
  · rw [if_pos h2, if_pos h2]
  · rw [if_neg h2, if_neg h2]
    by_cases h3 : (N c).kind = 1
    · rw [if_pos h3, if_pos h3]
    · rw [if_neg h3, if_neg h3]
      congr 1
      rw [List.flatMap_map]
      refine flat_congr _ (fun q hq => ?_)
      obtain ⟨h4, h5⟩ := hF.kid hc hq
      exact steps_more hF f s s q.1 h4 (by omega) (by omega)
/-- What is still to be written, by the open nodes, the lowest first. -/
def pendS (N : Nat → Nd) (f : Int → Option Nat) : List (Nat × Nat) → List OpM
  | [] => []
  | (c, k) :: r => ((N c).kids.drop k).flatMap (fun q => stp N f q.1) ++ [mkOp (N c)] ++ pendS N f r
theorem beg_eq {R : Nat → Prop} {N : Nat → Nd} {B : Nat} {w : World} (hF : Forest R N B w) (f : Int → Option Nat) {c : Nat} (hc : R c) (r : List (Nat × Nat)) : begS f (N c) ++ pendS N f ((begO f (N c) c).reverse ++ r) = stp N f c ++ pendS N f r := by
  rw [stp_eq hF f hc]
  unfold begS begO
  by_cases h2 : (f ((N c).num : Int)).isSome = true
  · rw [if_pos h2, if_pos h2, if_pos h2]; rfl
  · rw [if_neg h2, if_neg h2, if_neg h2]
    by_cases h3 : (N c).kind = 1
    · rw [if_pos h3, if_pos h3, if_pos h3]; rfl
    · rw [if_neg h3, if_neg h3, if_neg h3]
      simp [pendS]
/-- How much is still to be done. -/
def muS (N : Nat → Nd) : List (Nat × Nat) → Nat
  | [] => 0
  | (c, k) :: r => 1 + 2 * sizeS N (((N c).kids.drop k).map Prod.fst) + muS N r
theorem mu_beg {R : Nat → Prop} {N : Nat → Nd} {B : Nat} {w : World} (hF : Forest R N B w) (f : Int → Option Nat) {c : Nat} (hc : R c) (r : List (Nat × Nat)) : muS N ((begO f (N c) c).reverse ++ r) < muS N r + 2 * (N c).size := by
  have h1 := (hF c hc).2.1.1
  have h5 := (hF c hc).2.2.2.2
  unfold begO
  by_cases h2 : (f ((N c).num : Int)).isSome = true
  · rw [if_pos h2]; simp; omega
  · rw [if_neg h2]
    by_cases h3 : (N c).kind = 1
    · rw [if_pos h3]; simp; omega
    · rw [if_neg h3]
      simp only [List.reverse_cons, List.reverse_nil, List.nil_append, List.singleton_append, muS, List.drop_zero]
      omega
theorem stp_len {R : Nat → Prop} {N : Nat → Nd} {B : Nat} {w : World} (hF : Forest R N B w) (f : Int → Option Nat) : ∀ (z c : Nat), R c → (N c).size ≤ z → (stp N f c).length ≤ (N c).size
  | 0, c, hc, hz => by have := (hF c hc).2.1.1; omega
  | z + 1, c, hc, hz => by
    have h1 := (hF c hc).2.1.1
    rw [stp_eq hF f hc]
    split
    · simpa using h1
    · split
      · simpa using h1
      · have h5 := (hF c hc).2.2.2.2
        have key : ∀ l : List (Nat × Nat), (∀ q ∈ l, q ∈ (N c).kids) → (l.flatMap fun q => stp N f q.1).length ≤ sizeS N (l.map Prod.fst) := fun l => by
          induction l with
          | nil => intro _; simp [sizeS]
          | cons q l ih =>
            intro hq
            have h6 := hF.kid hc (hq q List.mem_cons_self)
            have h7 := stp_len hF f z q.1 h6.1 (by omega)
            have h8 := ih (fun r hr => hq r (List.mem_cons_of_mem _ hr))
            rw [List.flatMap_cons, List.length_append, List.map_cons, sizeS_cons]
            omega
        have := key (N c).kids (fun _ h => h)
        rw [List.length_append, List.length_singleton]
        omega

/-- While the steps are written. -/
def ScI (R : Nat → Prop) (N : Nat → Nd) (f : Int → Option Nat) (M b base wb mb : Nat) (w1 : World) (k : Nat) (wr : World) : Prop :=
  ∃ st op, WrS base wr wb mb st op ∧ KW base w1 wr ∧ SkOk R N M op ∧ st ++ pendS N f op.reverse = stp N f b ∧ k = muS N op.reverse
set_option linter.unusedSimpArgs false in
set_option maxRecDepth 100000 in
set_option maxHeartbeats 4000000 in
theorem script_is (R : Nat → Prop) (N : Nat → Nd) (B a b : Nat) (w : World) (hF : Forest R N B w) (hN : NumOk R N) (ha : R a) (hb : R b) (hB : B ≤ w.heap.size) :
    Calls Try.prog 27 #[.pointer (some ⟨a, 0, none⟩), .pointer (some ⟨b, 0, none⟩)] w fun e w' => ∃ v, e = .returned v ∧ LO opE w' w.heap.size v (stp N (nodeF N (walkL N a)) b) ∧ Kept w w' := by
  have HNO := hide1 (nodes_is R N B a w hF hN ha hB)
  obtain ⟨f, hf⟩ : ∃ f, nodeF N (walkL N a) = f := ⟨_, rfl⟩
  rw [hf] at HNO ⊢
  have hlen := stp_len hF f (N b).size b hb (Nat.le_refl _)
  have hMb := (hF b hb).2.1.2.1
  obtain ⟨S0, hS0⟩ : ∃ S0, stp N f b = S0 := ⟨_, rfl⟩
  rw [hS0] at hlen ⊢
  have HS0 := hide1 hS0
  have HF := hide1 hF
  have HN := hide1 hN
  have HB := hide1 hb
  have hl4 : S0.length ≤ 4194304 := by omega
  clear hF hN ha hb hf hS0 hlen
  go_enter Try.func27, Try.ntmps27
  go_upto_region 2 with (go_at_call 19; refine HNO.out.mono ?_; rintro e w1 ⟨mb, n, rfl, hmb, hn, hm1, hk1⟩; have HM1 := hide1 hm1; have HK1 := hide1 hk1; have HMB := hide1 hmb; clear hm1 hk1 hmb)
  obtain ⟨base, hbase⟩ : ∃ base, w1.heap.size = base := ⟨_, rfl⟩
  obtain ⟨w2, hw2⟩ : ∃ w2, w1.alloc (.cells #[.map (some mb), .slice none 0 0, .slice none 0 0] 106) = w2 := ⟨_, rfl⟩
  have hk2 : Kept w1 w2 := by rw [← hw2]; exact (Kept.refl w1).alloc _ _
  have hx2 : WrAt w2 base mb (.slice none 0 0) (.slice none 0 0) := by rw [← hw2, ← hbase]; exact World.alloc_heap_new w1 _
  have hs2 : base ≤ w2.heap.size := by rw [← hbase]; exact hk2.size
  have hW2 : WrS base w2 base mb [] [] := ⟨Nat.le_refl _, hs2, _, _, hx2, LO.nil _ _, LO.nil _ _⟩
  have hmbb : mb < base := by rw [← hbase]; exact HM1.out.lt
  have hwb : w.heap.size ≤ base := by rw [← hbase]; exact HK1.out.size
  have hF2 : Forest R N B w2 := HF.out.kb ((gtrans HK1.out hk2).kb hB)
  have HBEG := hide1 (begin_is R N B base w2 base mb n b f [] [] hW2 hF2 HN.out HB.out (HM1.out.same (hk2.2.2.2.2 mb HM1.out.lt)) (by simp) (by simp))
  have HK12 : Hid (Kept w w2) := gtrans HK1.out hk2
  have HF2 := hide1 hF2
  have HM2 : Hid (NMap w2 mb n f) := HM1.out.same (hk2.2.2.2.2 mb HM1.out.lt)
  rw [hw2, hbase]
  have hBb : B ≤ base := by omega
  have hSK : SkOk R N (N b).size (begO f (N b) b) := by
    unfold begO
    split
    · exact fun i q hq => by simp at hq
    · split
      · exact fun i q hq => by simp at hq
      · exact SkOk.push (sk := []) (fun i q hq => by simp at hq) HB.out (by simp)
  have hE0 : [] ++ begS f (N b) ++ pendS N f (([] ++ begO f (N b) b).reverse) = S0 := by
    have h1 := beg_eq hF2 f HB.out []
    rw [List.append_nil] at h1
    simp only [List.nil_append]
    rw [h1, HS0.out]
    simp [pendS]
  have HSK := hide1 hSK
  have HE0 := hide1 hE0
  clear hw2 hbase hk2 hx2 hW2 hF2 hSK hE0 HNO HM1 HK1
  go_wp2_with (go_at_call 39; refine HBEG.out.mono ?_; rintro e w3 ⟨rfl, hs3, hk3⟩; have HS3 := hide1 hs3; have HK3 := hide1 hk3; clear hs3 hk3)
  have HI0 : Hid (ScI R N f (N b).size b base base mb w2 (muS N (begO f (N b) b).reverse) w3) := ⟨_, _, HS3.out, HK3.out, by rw [List.nil_append]; exact HSK.out, by rw [HE0.out, HS0.out], by rw [List.nil_append]⟩
  clear HS3 HK3 HBEG
  go_loopg [14] (muS N (begO f (N b) b).reverse) (fun k _ wr => Hid (ScI R N f (N b).size b base base mb w2 k wr))
  case atStart => exact HI0
  case round =>
    obtain ⟨st, op, hW, hK, hS, hE, hmu⟩ := hrel.out
    rw [HS0.out] at hE
    have hstl : st.length ≤ 4194304 := by have := congrArg List.length hE; rw [List.length_append] at this; omega
    obtain ⟨g1, g2, sv, ov, g3, g4, g5⟩ := hW
    obtain ⟨c0, c1, c2, _⟩ := g3.cells
    clear hrel HI0
    rcases List.eq_nil_or_concat op with rfl | ⟨pre, ⟨c, k⟩, hop⟩
    · have hov : ∃ oa oc, ov = .slice oa 0 oc := g5.form
      obtain ⟨oa, oc, rfl⟩ := hov
      obtain ⟨va, vl, vc, rfl⟩ : ∃ a l c, sv = .slice a l c := by obtain ⟨a, c, h⟩ := g4.form; exact ⟨a, _, c, h⟩
      simp only [List.reverse_nil, pendS, List.append_nil] at hE
      subst hE
      have HG4 := hide1 g4
      have HK := hide1 hK
      clear g3 g4 g5 hK hS hmu
      go_wp2_with fail
      go_ret
      refine ⟨_, rfl, HG4.out.low hwb, ⟨HK.out.1.trans HK12.out.1, HK.out.2.1.trans HK12.out.2.1, HK.out.2.2.1.trans HK12.out.2.2.1, Nat.le_trans HK12.out.size HK.out.2.2.2.1, fun k hk => (HK.out.2.2.2.2 k (by omega) (by show ¬ base ≤ k; omega)).trans (HK12.out.2.2.2.2 k hk)⟩⟩
    · rw [List.concat_eq_append] at hop
      subst hop
      have ht := hS.top
      obtain ⟨t1, t2, t3⟩ := ht
      dsimp only at t1 t2 t3
      obtain ⟨oa, oc, rfl⟩ : ∃ a c, ov = .slice a (pre.length + 1) c := by obtain ⟨a, c, h⟩ := g5.form; exact ⟨a, c, by rw [h]; simp⟩
      have hpl : pre.length < 4194304 := by have := (HF2.out c t1).2.1.1; omega
      obtain ⟨pl, hpl'⟩ : ∃ pl, pre.length = pl := ⟨_, rfl⟩
      have hF3 : Forest R N B wr := HF2.out.kb (hK.kb hBb hs2)
      have hm3 : NMap wr mb n f := HM2.out.same (hK.2.2.2.2 mb HM2.out.lt (by show ¬ base ≤ mb; omega))
      have hWr : WrS base wr base mb st (pre ++ [(c, k)]) := ⟨g1, g2, sv, _, g3, g4, g5⟩
      have hplI : (pl : Int) < 4194304 := by omega
      have hgt : ((pl : Int) + 1 > 0) := by omega
      rw [hpl'] at c2
      by_cases hk : k < (N c).kids.length
      · obtain ⟨q, hq⟩ : ∃ q, (N c).kids[k]? = some q := ⟨_, List.getElem?_eq_getElem hk⟩
        have HON := hide1 (on_more R N B base wr base mb n c k q f st pre hWr hF3 HN.out t1 hq hm3 hmbb hBb hstl hpl)
        have hRq := (hF3.kid t1 (List.mem_of_getElem? hq))
        have hdr : (N c).kids.drop k = q :: (N c).kids.drop (k + 1) := by
          have h9 := List.getElem?_eq_some_iff.1 hq
          rw [List.drop_eq_getElem_cons h9.1, h9.2]
        have HNEW : Hid (∃ k', k' < gk ∧ ∀ w5, WrS base w5 base mb (st ++ begS f (N q.1)) (pre ++ [(c, k + 1)] ++ begO f (N q.1) q.1) → KW base wr w5 → ScI R N f (N b).size b base base mb w2 k' w5) := by
          refine ⟨_, ?_, fun w5 h5 hk5 => ⟨_, _, h5, hK.trans hk5, ?_, ?_, rfl⟩⟩
          · have h6 := mu_beg hF3 f hRq.1 ((c, k + 1) :: pre.reverse)
            rw [hmu]
            simp only [List.reverse_append, List.reverse_cons, List.reverse_nil, List.nil_append, List.singleton_append, muS, hdr, List.map_cons, sizeS_cons] at h6 ⊢
            omega
          · have h7 := hS.next (q := (c, k)) hk
            unfold begO
            split
            · rw [List.append_nil]; exact h7
            · split
              · rw [List.append_nil]; exact h7
              · exact h7.push hRq.1 (by rw [List.length_append]; simp; omega)
          · rw [HS0.out, ← hE]
            simp only [List.reverse_append, List.reverse_cons, List.reverse_nil, List.nil_append, List.singleton_append, List.append_assoc]
            rw [beg_eq hF3 f hRq.1]
            simp only [pendS, hdr, List.flatMap_cons, List.append_assoc]
        clear g3 g4 g5 hWr hF3 hm3 hE hmu hS hK hpl hpl' hRq hdr t1 t2 t3 hq hk
        go_wp2_with (go_at_call 40; refine HON.out.mono ?_; rintro e w5 ⟨rfl, hs5, hk5⟩; have HS5 := hide1 hs5; have HK5 := hide1 hk5; clear hs5 hk5)
        obtain ⟨k', hk', hn'⟩ := HNEW.out
        go_roundg k'
        case measure => exact hk'
        case rel => exact hn' _ HS5.out HK5.out
      · have hkl : (N c).kids.length = k := by omega
        subst hkl
        have HON := hide1 (on_done R N B base wr base mb c st pre hWr hF3 t1 hBb hstl hpl)
        have HNEW : Hid (∃ k', k' < gk ∧ ∀ w5, WrS base w5 base mb (st ++ [mkOp (N c)]) pre → KW base wr w5 → ScI R N f (N b).size b base base mb w2 k' w5) := by
          refine ⟨_, ?_, fun w5 h5 hk5 => ⟨_, _, h5, hK.trans hk5, hS.front, ?_, rfl⟩⟩
          · rw [hmu]
            simp only [List.reverse_append, List.reverse_cons, List.reverse_nil, List.nil_append, List.singleton_append, muS]
            omega
          · rw [HS0.out, ← hE]
            simp [pendS]
        clear g3 g4 g5 hWr hF3 hm3 hE hmu hS hK hpl hpl' t1 t2 t3 hk
        go_wp2_with (go_at_call 40; refine HON.out.mono ?_; rintro e w5 ⟨rfl, hs5, hk5⟩; have HS5 := hide1 hs5; have HK5 := hide1 hk5; clear hs5 hk5)
        obtain ⟨k', hk', hn'⟩ := HNEW.out
        go_roundg k'
        case measure => exact hk'
        case rel => exact hn' _ HS5.out HK5.out

end Tr
end Ex
end Go.Proofs.Yteckbpmliahhhaa
