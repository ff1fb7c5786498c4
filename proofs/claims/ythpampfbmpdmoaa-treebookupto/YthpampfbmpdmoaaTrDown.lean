import Derived.Test.YthpampfbmpdmoaaTrCu2
namespace Go.Proofs.Ythpampfbmpdmoaa
open Go.RowKit
attribute [local go_sem] Oper.semAt_some
namespace Ex
namespace Tr

theorem step_stand {ops : Array Oper} {o : Oper} {a : Act} {K : Act → World → Prop} {Q : Exit → Act → World → Prop} {E : Prop} (hgd : o.guard = none) (s x : Operand) (ho : o.op = .call { callee := .builtin .append, args := #[s, x], argTypes := #[51, 51] }) (w : World)
    (base : Nat) (v : Value) (l : List (Nat × Nat × Nat)) (m : Nat) (hm : l.length = m) (hs : a.eval s = v) (hown : SOwn w base v l) (lb : Nat) (q : Nat × Nat × Nat) (hx : a.eval x = .slice (some ⟨lb, 0, none⟩) 1 1) (hbx : w.heap[lb]? = some (.cells #[.pointer (some ⟨q.1, 0, none⟩), .int .i64 (q.2.1 : Int), .int .i64 (q.2.2 : Int)] 76 (0, 0))) (hl : l.length ≤ 8388608) (hbase : base ≤ w.heap.size)
    (h : ∀ g cap w', SOwn w' base (.slice (some ⟨g, 0, none⟩) (m + 1) cap) (l ++ [q]) → w.grownBy w' v.ownBlock → (v.ownBlock = some g ∨ g = w.heap.size) → g < w'.heap.size → K (a.put o.dst (.slice (some ⟨g, 0, none⟩) (m + 1) cap)) w') :
    if Region.wanted o (yielded ops a.tmps) = true then Oper.wp Try.prog o a w K Q else E := by
  obtain ⟨i0, hi, hz0, hz1, hz2⟩ := info_parts stand_info
  subst hm
  refine step_append_lies w hgd s x 51 ho base 76 i0 _ 3 24 Try.underlying51 hi hz0 hz1 hz2 rfl (by decide) v l.length (flatS l) hs hown ⟨lb, 0, none⟩ 1 1 [.pointer (some ⟨q.1, 0, none⟩), .int .i64 (q.2.1 : Int), .int .i64 (q.2.2 : Int)] hx rfl ?_ ?_ (by decide) (by unfold maxLen; omega) (by omega) hbase w.heap.size rfl ?_
  · intro j y hj
    have hj2 : j < 3 := (List.getElem?_eq_some_iff.1 hj).1
    match j, hj2 with
    | 0, _ => rw [← hj]; simp [World.cell?, Addr.add, hbx]
    | 1, _ => rw [← hj]; simp [World.cell?, Addr.add, hbx]
    | 2, _ => rw [← hj]; simp [World.cell?, Addr.add, hbx]
  · intro u hu
    simp only [List.mem_cons, List.not_mem_nil, or_false] at hu
    rcases hu with rfl | rfl | rfl <;> rfl
  · intro g cap w' h1 h2 h3 h4
    refine h g cap w' ?_ h2 h3 h4
    unfold SOwn
    rw [flatS_app, List.length_append]
    exact h1
/-- The cursor with another stand. -/
def DownE (w : World) (C base : Nat) (wy : List (Nat × Nat × Nat)) (g : Option Nat) (H : Nat) : Prop := ∃ wv, CurAt w C wv ∧ SOwn w base wv wy ∧ OwnRel g H wv

set_option linter.unusedSimpArgs false in
set_option maxRecDepth 100000 in
set_option maxHeartbeats 4000000 in
theorem down_is (B C base : Nat) (wv : Value) (pre : List (Nat × Nat × Nat)) (q : Nat × Nat × Nat) (x : Nd) (i : Nat) (k : Nat × Nat) (w : World) (hC : CurAt w C wv) (hO : SOwn w base wv (pre ++ [q])) (hl : pre.length ≤ 4194304) (hN : NodeAt B w q.1 x) (hi : x.kids[i]? = some k) (hq : q.2.1 ≤ 2305843009213693952) (hk : k.2 ≤ 2305843009213693952) (hCb : ∀ d, wv.ownBlock = some d → d ≠ C) (hbase : base ≤ w.heap.size) :
    Calls Try.prog 21 #[.pointer (some ⟨C, 0, none⟩), .int .i64 (i : Int)] w fun e w' => e = .returned (.bool true) ∧ DownE w' C base (pre ++ [q] ++ [(k.1, q.2.1 + k.2, i)]) wv.ownBlock w.heap.size ∧ TK C wv.ownBlock w w' := by
  have HH := hide1 (here_is C base wv pre q w hC hO hl)
  have HCH := hide1 (fun w hN => child_is B q x i k w hN hi hq hk)
  have HN := hide1 hN
  have HC := hide1 hC
  have HO := hide1 hO
  have HCB := hide1 hCb
  have hCl := hC.lt
  obtain ⟨g, cap, hwv, _⟩ := hO.cellsAt (i := pre.length) (q := q) (by simp)
  rw [List.length_append] at hwv
  obtain ⟨m, hm⟩ : ∃ m, pre.length = m := ⟨_, rfl⟩
  rw [hm] at hwv
  have hwv' : wv = .slice (some ⟨g, 0, none⟩) (m + 1) cap := hwv
  subst hwv'
  have HM := hide1 hm
  obtain ⟨qa, qb, qc⟩ := q
  obtain ⟨ka, kb⟩ := k
  dsimp only at HH HCH HN ⊢
  obtain ⟨na, hna⟩ : ∃ na, qb + kb = na := ⟨_, rfl⟩
  simp only [hna] at HCH ⊢
  clear hna
  clear hC hO hN hi hwv hCb hm
  go_enter Try.func21, Try.ntmps21
  go_upto_region 3 with (first
    | (go_at_call 31; refine HH.out.mono ?_; rintro e w1 ⟨rfl, hk1⟩; have HK1 := hide1 hk1; clear hk1)
    | (go_at_call 45; refine (HCH.out _ (HN.out.keep HK1.out)).mono ?_; rintro e w2 ⟨rfl, hk2⟩; have HK2 := hide1 hk2; clear hk2))
  obtain ⟨wA, hwA⟩ : ∃ wA, w2.alloc (.cells #[.pointer (some ⟨ka, 0, none⟩), .int .i64 (na : Int), .int .i64 (i : Int)] 76) = wA := ⟨_, rfl⟩
  have hkA : Kept w2 wA := by rw [← hwA]; exact (Kept.refl w2).alloc _ _
  have hbA : wA.heap[w2.heap.size]? = some (.cells #[.pointer (some ⟨ka, 0, none⟩), .int .i64 (na : Int), .int .i64 (i : Int)] 76 (0, 0)) := by rw [← hwA]; exact World.alloc_heap_new w2 _
  have HKA := hide1 (gtrans HK1.out (gtrans HK2.out hkA))
  rw [hwA]
  obtain ⟨gb, hgb⟩ : ∃ gb, w2.heap.size = gb := ⟨_, rfl⟩
  rw [hgb] at hbA ⊢
  have hgw : w.heap.size ≤ gb := by rw [← hgb]; exact (gtrans HK1.out HK2.out).size
  have s0 : wA.cell? ⟨gb, 0, none⟩ = some (.pointer (some ⟨ka, 0, none⟩)) := by simp [World.cell?, hbA]
  have s1 : wA.cell? ⟨gb, 1, none⟩ = some (.int .i64 (na : Int)) := by simp [World.cell?, hbA]
  have s2 : wA.cell? ⟨gb, 2, none⟩ = some (.int .i64 (i : Int)) := by simp [World.cell?, hbA]
  have hgbl : gb < wA.heap.size := (Array.getElem?_eq_some_iff.1 hbA).1
  have HCA := hide1 (HC.out.keep HKA.out)
  have HOA := hide1 (HO.out.keep HKA.out)
  obtain ⟨c0, cz⟩ := HCA.out.cells
  have hClA := HCA.out.lt
  have hbaseA : base ≤ wA.heap.size := Nat.le_trans hbase HKA.out.size
  have HBA := hide1 hbA
  clear hwA hkA hgb hbA HH HCH HN HC HK1 HK2
  refine wp_region_held_drew (S := fun w' => w'.cell? ⟨gb, 0, none⟩ = some (.pointer (some ⟨ka, 0, none⟩)) ∧ w'.cell? ⟨gb, 1, none⟩ = some (.int .i64 (na : Int)) ∧ w'.cell? ⟨gb, 2, none⟩ = some (.int .i64 (i : Int))) (by kernel_rfl) ⟨s0, s1, s2⟩ (fun hHeld => ?_)
  refine wpAnyH_take (i := 0) (v := .pointer (some ⟨C, 0, none⟩)) rfl (by kernel_rfl) (by kernel_rfl) (by kernel_rfl) (fun _ _ _ h => h) (Or.inl ⟨by rfl, fun w' hSw => ?_⟩) (by with_reducible assumption) ?_
  · clear hSw
    go_simp
  try simp only [Act.put, List.setIfInBounds_toArray, List.set_cons_zero, List.set_cons_succ]
  refine wpAnyH_take (i := 1) (v := .pointer (some ⟨C, 0, none⟩)) rfl (by kernel_rfl) (by kernel_rfl) (by kernel_rfl) (fun _ _ _ h => h) (Or.inl ⟨by rfl, fun w' hSw => ?_⟩) (by with_reducible assumption) ?_
  · clear hSw
    go_simp
  try simp only [Act.put, List.setIfInBounds_toArray, List.set_cons_zero, List.set_cons_succ]
  refine wpAnyH_take (i := 2) (v := .pointer (some ⟨C, 0, none⟩)) rfl (by kernel_rfl) (by kernel_rfl) (by kernel_rfl) (fun _ _ _ h => h) (Or.inl ⟨by rfl, fun w' hSw => ?_⟩) (by with_reducible assumption) ?_
  · clear hSw
    go_simp
  try simp only [Act.put, List.setIfInBounds_toArray, List.set_cons_zero, List.set_cons_succ]
  refine wpAnyH_take (i := 3) (v := .pointer (some ⟨C, 0, none⟩)) rfl (by kernel_rfl) (by kernel_rfl) (by kernel_rfl) (fun _ _ _ h => h) (Or.inl ⟨by rfl, fun w' hSw => ?_⟩) (by with_reducible assumption) ?_
  · clear hSw
    go_simp
  try simp only [Act.put, List.setIfInBounds_toArray, List.set_cons_zero, List.set_cons_succ]
  refine wpAnyH_take (i := 4) (v := .pointer (some ⟨C, 0, none⟩)) rfl (by kernel_rfl) (by kernel_rfl) (by kernel_rfl) (fun _ _ _ h => h) (Or.inl ⟨by rfl, fun w' hSw => ?_⟩) (by with_reducible assumption) ?_
  · clear hSw
    go_simp
  try simp only [Act.put, List.setIfInBounds_toArray, List.set_cons_zero, List.set_cons_succ]
  refine wpAnyH_take (i := 6) (v := .agg #[.pointer (some ⟨ka, 0, none⟩), .int .i64 (na : Int), .int .i64 (i : Int)]) rfl (by kernel_rfl) (by kernel_rfl) (by kernel_rfl) (fun _ _ _ h => h) (Or.inl ⟨by rfl, fun w' hSw => ?_⟩) (by with_reducible assumption) ?_
  · obtain ⟨t0, t1, t2⟩ := hSw
    go_simp
  try simp only [Act.put, List.setIfInBounds_toArray, List.set_cons_zero, List.set_cons_succ]
  refine wpAnyH_ready (rs := [5, 7]) (by kernel_rfl) (by simp) ?_
  refine AllReadyH.cons (i := 5) rfl (fun K hK => ?_) (AllReadyH.cons (i := 7) rfl (fun K hK => ?_) AllReadyH.nil)
  · go_simp
    refine hK.out _ _ (by exact ⟨s0, s1, s2⟩) (fun hHeld2 => ?_)
    clear hK K
    try simp only [Act.put, List.setIfInBounds_toArray, List.set_cons_zero, List.set_cons_succ]
    refine wpAnyH_ready (rs := [7]) (by kernel_rfl) (by simp) ?_
    refine AllReadyH.cons (i := 7) rfl (fun K hK => ?_) AllReadyH.nil
    go_simp
    refine hK.out _ _ (by exact ⟨(cell_alloc_old wA _ hgbl).trans s0, (cell_alloc_old wA _ hgbl).trans s1, (cell_alloc_old wA _ hgbl).trans s2⟩) (fun hHeld3 => ?_)
    clear hK K
    try simp only [Act.put, List.setIfInBounds_toArray, List.set_cons_zero, List.set_cons_succ]
    refine wpAnyH_ready (rs := [8]) (by kernel_rfl) (by simp) ?_
    refine AllReadyH.cons (i := 8) rfl (fun K hK => ?_) AllReadyH.nil
    refine step_stand rfl _ _ rfl _ base _ (pre ++ [(qa, qb, qc)]) (m + 1) (by rw [List.length_append, HM.out]; rfl) (by rfl) (owns_same HOA.out (fun d hd => heap_alloc_old wA _ (HOA.out.lt d hd).2)) wA.heap.size (ka, na, i) (by rfl) (World.alloc_heap_new wA _) (by rw [List.length_append, HM.out]; have := HM.out; show m + 1 ≤ 8388608; omega) (by exact Nat.le_trans hbaseA (alloc_le wA _)) ?_
    intro g9 c9 w9 ho9 hg9 hor9 hlt9
    have hC9 : w9.heap[C]? = wA.heap[C]? := (hg9.block C (by simp; omega) (fun e => HCB.out C e.symm rfl)).trans (heap_alloc_old wA _ hClA)
    have hcA9 : CurAt w9 C (.slice (some ⟨g, 0, none⟩) (m + 1) cap) := hC9.trans HCA.out
    have hgb9 : w9.heap[gb]? = wA.heap[gb]? := (hg9.block gb (by simp; omega) (fun e => by have := (HO.out.lt gb e.symm).2; omega)).trans (heap_alloc_old wA _ hgbl)
    have hx9 := hgb9.trans HBA.out
    refine hK.out _ _ (by exact ⟨by simp [World.cell?, hx9], by simp [World.cell?, hx9], by simp [World.cell?, hx9]⟩) (fun hHeld9 => ?_)
    clear hK K
    try simp only [Act.put, List.setIfInBounds_toArray, List.set_cons_zero, List.set_cons_succ]
    refine wpAnyH_take (i := 9) (v := .pointer (some ⟨C, 0, none⟩)) rfl (by kernel_rfl) (by kernel_rfl) (by kernel_rfl) (fun _ _ _ h => h) (Or.inl ⟨by rfl, fun w' hSw => ?_⟩) (by with_reducible assumption) ?_
    · clear hSw
      go_simp
    try simp only [Act.put, List.setIfInBounds_toArray, List.set_cons_zero, List.set_cons_succ]
    refine wpAnyH_take (i := 10) (v := .pointer (some ⟨C, 0, none⟩)) rfl (by kernel_rfl) (by kernel_rfl) (by kernel_rfl) (fun _ _ _ h => h) (Or.inl ⟨by rfl, fun w' hSw => ?_⟩) (by with_reducible assumption) ?_
    · clear hSw
      go_simp
    try simp only [Act.put, List.setIfInBounds_toArray, List.set_cons_zero, List.set_cons_succ]
    refine wpAnyH_take (i := 11) (v := .pointer (some ⟨C, 0, none⟩)) rfl (by kernel_rfl) (by kernel_rfl) (by kernel_rfl) (fun _ _ _ h => h) (Or.inl ⟨by rfl, fun w' hSw => ?_⟩) (by with_reducible assumption) ?_
    · clear hSw
      go_simp
    try simp only [Act.put, List.setIfInBounds_toArray, List.set_cons_zero, List.set_cons_succ]
    refine wpAnyH_ready (rs := [12]) (by kernel_rfl) (by simp) ?_
    refine AllReadyH.cons (i := 12) rfl (fun K hK => ?_) AllReadyH.nil
    obtain ⟨y0, v0⟩ := hcA9.cells
    have hCl9 := hcA9.lt
    have hgbC : gb ≠ C := by omega
    have hx10 : (w9.setCell ⟨C, 0, none⟩ (.slice (some ⟨g9, 0, none⟩) (m + 1 + 1) c9)).heap[gb]? = some (.cells #[.pointer (some ⟨ka, 0, none⟩), .int .i64 (na : Int), .int .i64 (i : Int)] 76 (0, 0)) := (Below.heap_setCell _ _ _ _ hgbC).trans hx9
    have HFIN : Hid (DownE (w9.setCell ⟨C, 0, none⟩ (.slice (some ⟨g9, 0, none⟩) (m + 1 + 1) c9)) C base (pre ++ [(qa, qb, qc)] ++ [(ka, na, i)]) (Value.slice (some ⟨g, 0, none⟩) (m + 1) cap).ownBlock w.heap.size ∧ TK C (Value.slice (some ⟨g, 0, none⟩) (m + 1) cap).ownBlock w (w9.setCell ⟨C, 0, none⟩ (.slice (some ⟨g9, 0, none⟩) (m + 1 + 1) c9))) := by
      refine ⟨⟨_, hcA9.set _, owns_same ho9 (fun d hd => Below.heap_setCell _ _ _ _ (show d ≠ C from ?_)), ?_⟩, ?_⟩
      · rintro rfl
        simp only [Value.ownBlock, Option.some.injEq] at hd
        rcases hor9 with h | h
        · rw [hd] at h; exact HCB.out _ h rfl
        · have : wA.heap.size ≤ g9 := by rw [h]; exact alloc_le wA _
          omega
      · rcases hor9 with h | h
        · exact Or.inl h.symm
        · exact Or.inr ⟨g9, rfl, by rw [h]; exact Nat.le_trans HKA.out.size (alloc_le wA _)⟩
      · refine TK.but ⟨hg9.os.trans HKA.out.1, hg9.tape.trans HKA.out.2.1, hg9.output.trans HKA.out.2.2.1, Nat.le_trans HKA.out.size (Nat.le_trans (alloc_le wA _) hg9.size), fun d h1 h2 h3 => (hg9.block d (by simp; have := HKA.out.size; omega) h3).trans ((heap_alloc_old wA _ (Nat.lt_of_lt_of_le h1 HKA.out.size)).trans (HKA.out.2.2.2.2 d h1))⟩ (setCell_but _ _ _ _)
    clear ho9 hg9 hor9 hC9 hgb9
    go_simp
    refine hK.out _ _ (by exact ⟨by simp [World.cell?, hx10], by simp [World.cell?, hx10], by simp [World.cell?, hx10]⟩) (fun hHeld10 => ?_)
    clear hK K
    try simp only [Act.put, List.setIfInBounds_toArray, List.set_cons_zero, List.set_cons_succ]
    refine wpAnyH_done (by kernel_rfl) ?_ _
    generalize w9.setCell ⟨C, 0, none⟩ (.slice (some ⟨g9, 0, none⟩) (m + 1 + 1) c9) = W9 at *
    clear hHeld hHeld2 hHeld3 hHeld9 hHeld10 y0 v0 hCl9 hlt9 c0 cz hcA9
    go_wp2_with fail
    go_ret
    exact ⟨rfl, HFIN.out⟩
  · go_simp
    refine hK.out _ _ (by exact ⟨(cell_alloc_old wA _ hgbl).trans s0, (cell_alloc_old wA _ hgbl).trans s1, (cell_alloc_old wA _ hgbl).trans s2⟩) (fun hHeld2 => ?_)
    clear hK K
    try simp only [Act.put, List.setIfInBounds_toArray, List.set_cons_zero, List.set_cons_succ]
    refine wpAnyH_ready (rs := [5]) (by kernel_rfl) (by simp) ?_
    refine AllReadyH.cons (i := 5) rfl (fun K hK => ?_) AllReadyH.nil
    have c8' : (wA.alloc (.cells #[.pointer (some ⟨ka, 0, none⟩), .int .i64 (na : Int), .int .i64 (i : Int)] 76)).cell? ⟨C, 0, none⟩ = some (.slice (some ⟨g, 0, none⟩) (m + 1) cap) := (cell_alloc_old wA _ hClA).trans c0
    go_simp
    refine hK.out _ _ (by exact ⟨(cell_alloc_old wA _ hgbl).trans s0, (cell_alloc_old wA _ hgbl).trans s1, (cell_alloc_old wA _ hgbl).trans s2⟩) (fun hHeld3 => ?_)
    clear hK K c8'
    try simp only [Act.put, List.setIfInBounds_toArray, List.set_cons_zero, List.set_cons_succ]
    refine wpAnyH_ready (rs := [8]) (by kernel_rfl) (by simp) ?_
    refine AllReadyH.cons (i := 8) rfl (fun K hK => ?_) AllReadyH.nil
    refine step_stand rfl _ _ rfl _ base _ (pre ++ [(qa, qb, qc)]) (m + 1) (by rw [List.length_append, HM.out]; rfl) (by rfl) (owns_same HOA.out (fun d hd => heap_alloc_old wA _ (HOA.out.lt d hd).2)) wA.heap.size (ka, na, i) (by rfl) (World.alloc_heap_new wA _) (by rw [List.length_append, HM.out]; have := HM.out; show m + 1 ≤ 8388608; omega) (by exact Nat.le_trans hbaseA (alloc_le wA _)) ?_
    intro g9 c9 w9 ho9 hg9 hor9 hlt9
    have hC9 : w9.heap[C]? = wA.heap[C]? := (hg9.block C (by simp; omega) (fun e => HCB.out C e.symm rfl)).trans (heap_alloc_old wA _ hClA)
    have hcA9 : CurAt w9 C (.slice (some ⟨g, 0, none⟩) (m + 1) cap) := hC9.trans HCA.out
    have hgb9 : w9.heap[gb]? = wA.heap[gb]? := (hg9.block gb (by simp; omega) (fun e => by have := (HO.out.lt gb e.symm).2; omega)).trans (heap_alloc_old wA _ hgbl)
    have hx9 := hgb9.trans HBA.out
    refine hK.out _ _ (by exact ⟨by simp [World.cell?, hx9], by simp [World.cell?, hx9], by simp [World.cell?, hx9]⟩) (fun hHeld9 => ?_)
    clear hK K
    try simp only [Act.put, List.setIfInBounds_toArray, List.set_cons_zero, List.set_cons_succ]
    refine wpAnyH_take (i := 9) (v := .pointer (some ⟨C, 0, none⟩)) rfl (by kernel_rfl) (by kernel_rfl) (by kernel_rfl) (fun _ _ _ h => h) (Or.inl ⟨by rfl, fun w' hSw => ?_⟩) (by with_reducible assumption) ?_
    · clear hSw
      go_simp
    try simp only [Act.put, List.setIfInBounds_toArray, List.set_cons_zero, List.set_cons_succ]
    refine wpAnyH_take (i := 10) (v := .pointer (some ⟨C, 0, none⟩)) rfl (by kernel_rfl) (by kernel_rfl) (by kernel_rfl) (fun _ _ _ h => h) (Or.inl ⟨by rfl, fun w' hSw => ?_⟩) (by with_reducible assumption) ?_
    · clear hSw
      go_simp
    try simp only [Act.put, List.setIfInBounds_toArray, List.set_cons_zero, List.set_cons_succ]
    refine wpAnyH_take (i := 11) (v := .pointer (some ⟨C, 0, none⟩)) rfl (by kernel_rfl) (by kernel_rfl) (by kernel_rfl) (fun _ _ _ h => h) (Or.inl ⟨by rfl, fun w' hSw => ?_⟩) (by with_reducible assumption) ?_
    · clear hSw
      go_simp
    try simp only [Act.put, List.setIfInBounds_toArray, List.set_cons_zero, List.set_cons_succ]
    refine wpAnyH_ready (rs := [12]) (by kernel_rfl) (by simp) ?_
    refine AllReadyH.cons (i := 12) rfl (fun K hK => ?_) AllReadyH.nil
    obtain ⟨y0, v0⟩ := hcA9.cells
    have hCl9 := hcA9.lt
    have hgbC : gb ≠ C := by omega
    have hx10 : (w9.setCell ⟨C, 0, none⟩ (.slice (some ⟨g9, 0, none⟩) (m + 1 + 1) c9)).heap[gb]? = some (.cells #[.pointer (some ⟨ka, 0, none⟩), .int .i64 (na : Int), .int .i64 (i : Int)] 76 (0, 0)) := (Below.heap_setCell _ _ _ _ hgbC).trans hx9
    have HFIN : Hid (DownE (w9.setCell ⟨C, 0, none⟩ (.slice (some ⟨g9, 0, none⟩) (m + 1 + 1) c9)) C base (pre ++ [(qa, qb, qc)] ++ [(ka, na, i)]) (Value.slice (some ⟨g, 0, none⟩) (m + 1) cap).ownBlock w.heap.size ∧ TK C (Value.slice (some ⟨g, 0, none⟩) (m + 1) cap).ownBlock w (w9.setCell ⟨C, 0, none⟩ (.slice (some ⟨g9, 0, none⟩) (m + 1 + 1) c9))) := by
      refine ⟨⟨_, hcA9.set _, owns_same ho9 (fun d hd => Below.heap_setCell _ _ _ _ (show d ≠ C from ?_)), ?_⟩, ?_⟩
      · rintro rfl
        simp only [Value.ownBlock, Option.some.injEq] at hd
        rcases hor9 with h | h
        · rw [hd] at h; exact HCB.out _ h rfl
        · have : wA.heap.size ≤ g9 := by rw [h]; exact alloc_le wA _
          omega
      · rcases hor9 with h | h
        · exact Or.inl h.symm
        · exact Or.inr ⟨g9, rfl, by rw [h]; exact Nat.le_trans HKA.out.size (alloc_le wA _)⟩
      · refine TK.but ⟨hg9.os.trans HKA.out.1, hg9.tape.trans HKA.out.2.1, hg9.output.trans HKA.out.2.2.1, Nat.le_trans HKA.out.size (Nat.le_trans (alloc_le wA _) hg9.size), fun d h1 h2 h3 => (hg9.block d (by simp; have := HKA.out.size; omega) h3).trans ((heap_alloc_old wA _ (Nat.lt_of_lt_of_le h1 HKA.out.size)).trans (HKA.out.2.2.2.2 d h1))⟩ (setCell_but _ _ _ _)
    clear ho9 hg9 hor9 hC9 hgb9
    go_simp
    refine hK.out _ _ (by exact ⟨by simp [World.cell?, hx10], by simp [World.cell?, hx10], by simp [World.cell?, hx10]⟩) (fun hHeld10 => ?_)
    clear hK K
    try simp only [Act.put, List.setIfInBounds_toArray, List.set_cons_zero, List.set_cons_succ]
    refine wpAnyH_done (by kernel_rfl) ?_ _
    generalize w9.setCell ⟨C, 0, none⟩ (.slice (some ⟨g9, 0, none⟩) (m + 1 + 1) c9) = W9 at *
    clear hHeld hHeld2 hHeld3 hHeld9 hHeld10 y0 v0 hCl9 hlt9 c0 cz hcA9
    go_wp2_with fail
    go_ret
    exact ⟨rfl, HFIN.out⟩

end Tr
end Ex
end Go.Proofs.Ythpampfbmpdmoaa
