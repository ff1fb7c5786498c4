import Derived.Test.YthpampfbmpdmoaaTrCur
import Derived.Test.YthpampfbmpdmoaaTrHead
namespace Go.Proofs.Ythpampfbmpdmoaa
open Go.RowKit
attribute [local go_sem] Oper.semAt_some
namespace Ex
namespace Tr

set_option linter.unusedSimpArgs false in
set_option maxRecDepth 100000 in
set_option maxHeartbeats 2000000 in
theorem up_no (C : Nat) (wa : Option Addr) (wc : Nat) (w : World) (h : CurAt w C (.slice wa 1 wc)) : Calls Try.prog 23 #[.pointer (some ⟨C, 0, none⟩)] w fun e w' => e = .returned (.bool false) ∧ w' = w := by
  have HA := hide1 (atTop_is C wa 1 wc w h (by decide))
  clear h
  go_enter Try.func23, Try.ntmps23
  go_wp2_with (go_at_call 47; refine HA.out.mono ?_; rintro e w6 ⟨rfl, hw6⟩; have hw6 := hw6.symm; subst hw6)
  go_ret
  exact ⟨rfl, rfl⟩
set_option linter.unusedSimpArgs false in
set_option maxRecDepth 100000 in
set_option maxHeartbeats 2000000 in
theorem up_yes (C g m cap : Nat) (w : World) (h : CurAt w C (.slice (some ⟨g, 0, none⟩) (m + 1) cap)) (hm : 1 ≤ m) (hm4 : m ≤ 4194304) (hcap : m + 1 ≤ cap) : Calls Try.prog 23 #[.pointer (some ⟨C, 0, none⟩)] w fun e w' => e = .returned (.bool true) ∧ KeptBut C w w' ∧ CurAt w' C (.slice (some ⟨g, 0, none⟩) m cap) := by
  have HA := hide1 (atTop_is C (some ⟨g, 0, none⟩) (m + 1) cap w h (by omega))
  have HB : Hid ((((m + 1 : Nat) : Int) == 1) = false) := by simp [Hid]; omega
  rw [HB.out] at HA
  have HC := hide1 h
  obtain ⟨c0, z0⟩ := h.cells
  have hl := h.lt
  have hmI : (m : Int) ≤ 4194304 := by omega
  have hcI : (m : Int) ≤ (cap : Int) := by omega
  clear h
  go_enter Try.func23, Try.ntmps23
  go_upto_region 3 with (go_at_call 47; refine HA.out.mono ?_; rintro e w6 ⟨rfl, hw6⟩; have hw6 := hw6.symm; subst hw6)
  go_region
  go_wp2_with fail
  go_ret
  exact ⟨rfl, KeptBut.drew (setCell_but _ _ _ _), (show CurAt (w.setCell ⟨C, 0, none⟩ (.slice (some ⟨g, 0, none⟩) m cap)) C _ from HC.out.set _)⟩

def holdsB (q : Nat × Nat × Nat) (wd : Nat) (at_ : Int) : Bool := decide ((q.2.1 : Int) ≤ at_) && decide (at_ - (q.2.1 : Int) < (wd : Int))
set_option linter.unusedSimpArgs false in
set_option maxRecDepth 100000 in
set_option maxHeartbeats 2000000 in
theorem holds_is (B : Nat) (q : Nat × Nat × Nat) (x : Nd) (at_ : Int) (w : World) (hN : NodeAt B w q.1 x) (ha : 0 ≤ at_) (ha2 : at_ ≤ 4611686018427387904) (hq : q.2.1 ≤ 4611686018427387904) :
    Calls Try.prog 49 #[.agg #[.pointer (some ⟨q.1, 0, none⟩), .int .i64 (q.2.1 : Int), .int .i64 (q.2.2 : Int)], .int .i64 at_] w fun e w' => e = .returned (.bool (holdsB q x.width at_)) ∧ Kept w w' := by
  obtain ⟨kv, _, _, _, _, _, _, _, _, _, _, _, c9, _⟩ := hN.cells
  have hb := hN.lt
  obtain ⟨qa, qb, qc⟩ := q
  dsimp only at c9 hb hq ⊢
  have hqI : (qb : Int) ≤ 4611686018427387904 := by omega
  clear hN
  go_enter Try.func49, Try.ntmps49
  go_upto_region 1 with fail
  obtain ⟨wB, hwB⟩ : ∃ wB, w.alloc (.cells #[.pointer (some ⟨qa, 0, none⟩), .int .i64 (qb : Int), .int .i64 (qc : Int)] 76) = wB := ⟨_, rfl⟩
  have HKB : Hid (Kept w wB) := by rw [← hwB]; exact (Kept.refl w).alloc _ _
  have hbx : wB.heap[w.heap.size]? = some (.cells #[.pointer (some ⟨qa, 0, none⟩), .int .i64 (qb : Int), .int .i64 (qc : Int)] 76 (0, 0)) := by rw [← hwB]; exact World.alloc_heap_new w _
  have b0 : wB.cell? ⟨w.heap.size, 0, none⟩ = some (.pointer (some ⟨qa, 0, none⟩)) := by simp [World.cell?, hbx]
  have b1 : wB.cell? ⟨w.heap.size, 1, none⟩ = some (.int .i64 (qb : Int)) := by simp [World.cell?, hbx]
  have d9 := grown_cell HKB.out c9
  rw [hwB]
  clear hwB hbx c9
  by_cases h1 : (qb : Int) ≤ at_
  · have hd : decide ((qb : Int) ≤ at_) = true := by simpa using h1
    go_quiet (fail)
    go_wp2_with fail
    go_ret
    refine ⟨?_, gtrans HKB.out (drewN_kept _ _)⟩
    simp [holdsB, h1]
  · have hd : decide ((qb : Int) ≤ at_) = false := by simpa using h1
    go_quiet (fail)
    go_wp2_with fail
    go_ret
    refine ⟨?_, gtrans HKB.out (drewN_kept _ _)⟩
    have e : holdsB (qa, qb, qc) x.width at_ = false := by unfold holdsB; dsimp only; rw [hd]; rfl
    rw [e]
    rfl

theorem box3_tmp {fn : Func} {p u : Tmp} (h : fn.results = #[.cell p 76, .tmp u]) (tmps : Array Value) (w : World) (g : Nat) (x0 x1 x2 v : Value) (hp : tmps.getD p undef = .pointer (some ⟨g, 0, none⟩)) (hu : tmps.getD u undef = v) (hg : w.heap[g]? = some (.cells #[x0, x1, x2] 76 (0, 0))) :
    (results fn tmps).run Try.prog w = .ok (.tuple #[.agg #[x0, x1, x2], v]) w := by
  have hp' : tmps[p]?.getD undef = .pointer (some ⟨g, 0, none⟩) := by simpa using hp
  have hu' : tmps[u]?.getD undef = v := by simpa using hu
  have hl := run_loadVar_row (P := Try.prog) w g 76 76 #[x0, x1, x2] (0, 0) _ hg Try.underlying76 rfl (by kernel_rfl)
  simp [results, h, hp', hu', asAddr, hl]
set_option linter.unusedSimpArgs false in
set_option maxRecDepth 100000 in
set_option maxHeartbeats 2000000 in
theorem count_is (B b : Nat) (x : Nd) (w : World) (h : NodeAt B w b x) : Calls Try.prog 62 #[.pointer (some ⟨b, 0, none⟩)] w fun e w' => e = .returned (.int .i64 (x.kids.length : Int)) ∧ w' = w := by
  obtain ⟨kv, ⟨ka, kc, rfl, _⟩, _, _, _, _, _, _, _, _, _, c8, _⟩ := h.cells
  clear h
  go_enter Try.func62, Try.ntmps62
  go_wp2_with fail
  go_ret
  exact ⟨rfl, rfl⟩
set_option linter.unusedSimpArgs false in
set_option maxRecDepth 100000 in
set_option maxHeartbeats 2000000 in
theorem child_is (B : Nat) (q : Nat × Nat × Nat) (x : Nd) (i : Nat) (k : Nat × Nat) (w : World) (hN : NodeAt B w q.1 x) (hi : x.kids[i]? = some k) (hq : q.2.1 ≤ 2305843009213693952) (hk : k.2 ≤ 2305843009213693952) :
    Calls Try.prog 45 #[.agg #[.pointer (some ⟨q.1, 0, none⟩), .int .i64 (q.2.1 : Int), .int .i64 (q.2.2 : Int)], .int .i64 (i : Int)] w fun e w' => e = .returned (.tuple #[.agg #[.pointer (some ⟨k.1, 0, none⟩), .int .i64 ((q.2.1 + k.2 : Nat) : Int), .int .i64 (i : Int)], .bool true]) ∧ Kept w w' := by
  have HN := hide1 hN
  obtain ⟨kv, ⟨ka, kc, rfl, hkl, hk4, hkc⟩, _, _, _, _, _, _, _, _, _, c8, _⟩ := hN.cells
  have hb := hN.lt
  have hil := (List.getElem?_eq_some_iff.1 hi).1
  obtain ⟨gk, rfl, hgB, hcells⟩ : ∃ gk, ka = some ⟨gk, 0, none⟩ ∧ gk < B ∧ ∀ (i : Nat) (q : Nat × Nat), x.kids[i]? = some q → w.cell? ⟨gk, i * 2, none⟩ = some (.pointer (some ⟨q.1, 0, none⟩)) ∧ w.cell? ⟨gk, i * 2 + 1, none⟩ = some (.int .i64 (q.2 : Int)) := by
    rcases hkc with h | h
    · rw [h] at hil; simp at hil
    · exact h
  obtain ⟨r0, r1⟩ := hcells i k hi
  obtain ⟨qa, qb, qc⟩ := q
  obtain ⟨ka, kb⟩ := k
  obtain ⟨L, hL⟩ : ∃ L, x.kids.length = L := ⟨_, rfl⟩
  rw [hL] at c8 hil hk4
  dsimp only at r0 r1 c8 hb hq hk HN ⊢
  have HL := hide1 hL
  have HC := hide1 (fun w => count_is B qa x w)
  have hqI : (qb : Int) ≤ 2305843009213693952 := by omega
  have hkI : (kb : Int) ≤ 2305843009213693952 := by omega
  have hiI : (i : Int) < (L : Int) := by omega
  have hLI : (L : Int) ≤ 4194304 := by omega
  have hgkl := World.block_lt_of_cell? w _ r0
  clear hN hcells hkc hi hL hkl hq hk
  go_enter Try.func45, Try.ntmps45
  go_upto_region 1 with fail
  obtain ⟨wA, hwA⟩ : ∃ wA, w.alloc (.cells #[.pointer (some ⟨qa, 0, none⟩), .int .i64 (qb : Int), .int .i64 (qc : Int)] 76) = wA := ⟨_, rfl⟩
  obtain ⟨wB, hwB⟩ : ∃ wB, wA.alloc (.cells #[.pointer none, .int .i64 0, .int .i64 0] 76) = wB := ⟨_, rfl⟩
  have hkA : Kept w wA := by rw [← hwA]; exact (Kept.refl w).alloc _ _
  have hkB : Kept wA wB := by rw [← hwB]; exact (Kept.refl wA).alloc _ _
  have hsA : wA.heap.size = w.heap.size + 1 := by rw [← hwA]; simp
  have hbA : wA.heap[w.heap.size]? = some (.cells #[.pointer (some ⟨qa, 0, none⟩), .int .i64 (qb : Int), .int .i64 (qc : Int)] 76 (0, 0)) := by rw [← hwA]; exact World.alloc_heap_new w _
  have hbB := (hkB.2.2.2.2 w.heap.size (by omega)).trans hbA
  have hrB : wB.heap[w.heap.size + 1]? = some (.cells #[.pointer none, .int .i64 0, .int .i64 0] 76 (0, 0)) := by rw [← hwB, ← hsA]; exact World.alloc_heap_new wA _
  have hsB : wB.heap.size = w.heap.size + 2 := by rw [← hwB]; simp; omega
  have hkw : Kept w wB := gtrans hkA hkB
  have b0 : wB.cell? ⟨w.heap.size, 0, none⟩ = some (.pointer (some ⟨qa, 0, none⟩)) := by simp [World.cell?, hbB]
  have b1 : wB.cell? ⟨w.heap.size, 1, none⟩ = some (.int .i64 (qb : Int)) := by simp [World.cell?, hbB]
  have d8 := grown_cell hkw c8
  have d0 := grown_cell hkw r0
  have d1 := grown_cell hkw r1
  have HKW := hide1 hkw
  have HRB := hide1 hrB
  have HNB := hide1 (HN.out.keep hkw)
  have HSB := hide1 hsB
  have HCB : Hid (Calls Try.prog 62 #[.pointer (some ⟨qa, 0, none⟩)] wB fun e w' => e = .returned (.int .i64 (L : Int)) ∧ w' = wB) := by
    have h := HC.out wB HNB.out
    rw [HL.out] at h
    exact h
  rw [hwA, hwB]
  obtain ⟨gb, hgb⟩ : ∃ gb, w.heap.size = gb := ⟨_, rfl⟩
  have HGB := hide1 hgb
  rw [hgb] at b0 b1 hsB HRB hsA ⊢
  clear hwA hwB hkA hkB hbA hbB hrB hkw c8 r0 r1 hgb hsA
  go_upto_region 4 with (go_at_call 62; refine HCB.out.mono ?_; rintro e w6 ⟨rfl, hw6⟩; have hw6 := hw6.symm; subst hw6)
  obtain ⟨wC, hwC⟩ : ∃ wC, wB.alloc (.cells #[.pointer (some ⟨ka, 0, none⟩), .int .i64 (kb : Int)] 119) = wC := ⟨_, rfl⟩
  have hkC : Kept wB wC := by rw [← hwC]; exact (Kept.refl wB).alloc _ _
  have hbC : wC.heap[wB.heap.size]? = some (.cells #[.pointer (some ⟨ka, 0, none⟩), .int .i64 (kb : Int)] 119 (0, 0)) := by rw [← hwC]; exact World.alloc_heap_new wB _
  have hrC := (hkC.2.2.2.2 (gb + 1) (by omega)).trans HRB.out
  have e0 : wC.cell? ⟨wB.heap.size, 0, none⟩ = some (.pointer (some ⟨ka, 0, none⟩)) := by simp [World.cell?, hbC]
  have e1 : wC.cell? ⟨wB.heap.size, 1, none⟩ = some (.int .i64 (kb : Int)) := by simp [World.cell?, hbC]
  have b1C := grown_cell hkC b1
  have f0 : wC.cell? ⟨gb + 1, 0, none⟩ = some (.pointer none) := by simp [World.cell?, hrC]
  have f1 : wC.cell? ⟨gb + 1, 1, none⟩ = some (.int .i64 0) := by simp [World.cell?, hrC]
  have f2 : wC.cell? ⟨gb + 1, 2, none⟩ = some (.int .i64 0) := by simp [World.cell?, hrC]
  have z0 : wC.frozen? ⟨gb + 1, 0, none⟩ = false := by simp [World.frozen?, hrC]
  have z1 : wC.frozen? ⟨gb + 1, 1, none⟩ = false := by simp [World.frozen?, hrC]
  have z2 : wC.frozen? ⟨gb + 1, 2, none⟩ = false := by simp [World.frozen?, hrC]
  have hlC : gb + 1 < wC.heap.size := (Array.getElem?_eq_some_iff.1 hrC).1
  have HRC := hide1 hrC
  have HKC := hide1 hkC
  rw [hsB] at e0 e1
  rw [hwC]
  clear hwC hkC hbC hrC b0 b1 d8 d0 d1 HNB HCB
  go_wp2_with fail
  generalize hW : (((wC.setCell ⟨gb + 1, 0, none⟩ (.pointer (some ⟨ka, 0, none⟩))).setCell ⟨gb + 1, 1, none⟩ (.int .i64 ((qb : Int) + (kb : Int)))).setCell ⟨gb + 1, 2, none⟩ (.int .i64 (i : Int))) = W9
  have hbd : KeptBut (gb + 1) wC W9 := by
    rw [← hW]
    exact but3 (gb + 1) wC (.pointer (some ⟨ka, 0, none⟩)) (.int .i64 ((qb : Int) + (kb : Int))) (.int .i64 (i : Int))
  have hs9 : W9.heap[gb + 1]? = some (.cells #[.pointer (some ⟨ka, 0, none⟩), .int .i64 ((qb : Int) + (kb : Int)), .int .i64 (i : Int)] 76 (0, 0)) := by
    rw [← hW]
    exact set3 HRC.out (.pointer (some ⟨ka, 0, none⟩)) (.int .i64 ((qb : Int) + (kb : Int))) (.int .i64 (i : Int))
  refine bodyPost_ret (box3_tmp rfl _ _ (gb + 1) _ _ _ _ rfl rfl hs9) rfl ?_
  refine ⟨by rw [show ((qb + kb : Nat) : Int) = (qb : Int) + (kb : Int) by omega]; rfl, KeptBut.new (gtrans HKW.out HKC.out) hbd (by have := HGB.out; omega)⟩

end Tr
end Ex
end Go.Proofs.Ythpampfbmpdmoaa
