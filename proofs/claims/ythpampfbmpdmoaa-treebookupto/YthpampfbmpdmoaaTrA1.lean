import Derived.Test.YthpampfbmpdmoaaTrDp1
import Derived.Test.YthpampfbmpdmoaaTrV2
import Derived.Deep.RegionHeld3
namespace Go.Proofs.Ythpampfbmpdmoaa
open Go.RowKit
attribute [local go_sem] Oper.semAt_some
namespace Ex
namespace Tr

set_option linter.unusedSimpArgs false in
set_option maxRecDepth 100000 in
set_option maxHeartbeats 2000000 in
theorem sameInts_is (p : List Nat) (va vb : Value) (w : World) (ha : PathRd w va p) (hb : PathRd w vb p) :
    Calls Try.prog 12 #[va, vb] w fun e w' => e = .returned (.bool true) ∧ Kept w w' := by
  obtain ⟨aa, ca, rfl, hla⟩ : ∃ a c, va = .slice a p.length c ∧ p.length ≤ 4194304 := by
    rcases ha with ⟨rfl, rfl⟩ | ⟨g, cap, cur, rfl, _, h, _⟩
    · exact ⟨none, 0, rfl, by simp⟩
    · exact ⟨_, _, rfl, h⟩
  obtain ⟨ab, cb, rfl, _⟩ : ∃ a c, vb = .slice a p.length c ∧ p.length ≤ 4194304 := by
    rcases hb with ⟨rfl, rfl⟩ | ⟨g, cap, cur, rfl, _, h, _⟩
    · exact ⟨none, 0, rfl, by simp⟩
    · exact ⟨_, _, rfl, h⟩
  have HE : Hid (∀ (i n : Nat), p[i]? = some n → ∃ g g', aa = some ⟨g, 0, none⟩ ∧ ab = some ⟨g', 0, none⟩ ∧ w.cell? ⟨g, i, none⟩ = some (.int .i64 (n : Int)) ∧ w.cell? ⟨g', i, none⟩ = some (.int .i64 (n : Int))) := by
    intro i n hi
    have hp : p ≠ [] := fun e => by rw [e] at hi; simp at hi
    rcases ha with ⟨_, h⟩ | ⟨g, cap, cur, e1, h2, h3, h4, h5⟩
    · exact absurd h hp
    · rcases hb with ⟨_, h⟩ | ⟨g', cap', cur', e1', h2', h3', h4', h5'⟩
      · exact absurd h hp
      · injection e1 with e1 _ _
        injection e1' with e1' _ _
        have k1 := (PathRd.cells (w := w) (p := p) (g := g) (cap := cap) (n := p.length) (Or.inr ⟨g, cap, cur, rfl, h2, h3, h4, h5⟩)).2.2.2 i n hi
        have k2 := (PathRd.cells (w := w) (p := p) (g := g') (cap := cap') (n := p.length) (Or.inr ⟨g', cap', cur', rfl, h2', h3', h4', h5'⟩)).2.2.2 i n hi
        exact ⟨g, g', e1, e1', k1, k2⟩
  obtain ⟨m, hm⟩ : ∃ m, p.length = m := ⟨_, rfl⟩
  rw [hm] at hla ⊢
  have HM := hide1 hm
  have hmI : (m : Int) ≤ 4194304 := by omega
  clear ha hb hm
  go_enter Try.func12, Try.ntmps12
  go_wp2_with fail
  go_loopw [5] (fun vi wr => ∃ j : Nat, j ≤ m ∧ vi = .int .i64 (j : Int) ∧ Hid (Kept w wr)) (fun vi _ => m - (intOf vi).toNat)
  case atStart => exact ⟨0, Nat.zero_le _, rfl, Kept.refl _⟩
  case round =>
    obtain ⟨j, hj, rfl, HK⟩ := hrel
    by_cases hlt : j < m
    · obtain ⟨n, hn⟩ : ∃ n, p[j]? = some n := ⟨_, List.getElem?_eq_getElem (by rw [HM.out]; exact hlt)⟩
      obtain ⟨g, g', rfl, rfl, k1, k2⟩ := HE.out j n hn
      have t1 := grown_cell HK.out k1
      have t2 := grown_cell HK.out k2
      have hjI : (j : Int) < (m : Int) := by omega
      clear hn k1 k2
      go_upto_region 6 with fail
      go_quiet (fail)
      go_wp2_with fail
      go_roundw
      case rel => exact ⟨j + 1, by omega, by go_num, gtrans HK.out (drewN_kept _ _)⟩
      case measure => simp [intOf]; omega
    · have hjj : ¬ (j : Int) < (m : Int) := by omega
      go_wp2_with fail
      go_ret
      exact ⟨rfl, HK.out⟩

set_option linter.unusedSimpArgs false in
set_option maxRecDepth 100000 in
set_option maxHeartbeats 2000000 in
theorem child_no (B : Nat) (q : Nat × Nat × Nat) (x : Nd) (i : Int) (w : World) (hN : NodeAt B w q.1 x) (hi : i < 0 ∨ (x.kids.length : Int) ≤ i) :
    Calls Try.prog 45 #[.agg #[.pointer (some ⟨q.1, 0, none⟩), .int .i64 (q.2.1 : Int), .int .i64 (q.2.2 : Int)], .int .i64 i] w fun e w' => e = .returned (.tuple #[.agg #[.pointer none, .int .i64 0, .int .i64 0], .bool false]) ∧ Kept w w' := by
  have HN := hide1 hN
  have hL4 : x.kids.length ≤ 4194304 := by
    obtain ⟨_, kv, _, a, cap, _, _, h, _⟩ := hN
    exact h
  obtain ⟨L, hL⟩ : ∃ L, x.kids.length = L := ⟨_, rfl⟩
  rw [hL] at hi hL4
  have hLI : (L : Int) ≤ 4194304 := by omega
  have HC : Hid (∀ W, Kept w W → Calls Try.prog 62 #[.pointer (some ⟨q.1, 0, none⟩)] W fun e w' => e = .returned (.int .i64 (L : Int)) ∧ w' = W) := fun W hW => by rw [← hL]; exact count_is B q.1 x W (HN.out.keep hW)
  obtain ⟨qa, qb, qc⟩ := q
  dsimp only at HC ⊢
  clear hN hL
  go_enter Try.func45, Try.ntmps45
  go_upto_region 1 with fail
  obtain ⟨wA, hwA⟩ : ∃ wA, w.alloc (.cells #[.pointer (some ⟨qa, 0, none⟩), .int .i64 (qb : Int), .int .i64 (qc : Int)] 76) = wA := ⟨_, rfl⟩
  obtain ⟨wB, hwB⟩ : ∃ wB, wA.alloc (.cells #[.pointer none, .int .i64 0, .int .i64 0] 76) = wB := ⟨_, rfl⟩
  have hkA : Kept w wA := by rw [← hwA]; exact (Kept.refl w).alloc _ _
  have hkB : Kept wA wB := by rw [← hwB]; exact (Kept.refl wA).alloc _ _
  have hsA : wA.heap.size = w.heap.size + 1 := by rw [← hwA]; simp
  have hbB : wB.heap[w.heap.size]? = some (.cells #[.pointer (some ⟨qa, 0, none⟩), .int .i64 (qb : Int), .int .i64 (qc : Int)] 76 (0, 0)) := (hkB.2.2.2.2 w.heap.size (by omega)).trans (by rw [← hwA]; exact World.alloc_heap_new w _)
  have hrB : wB.heap[w.heap.size + 1]? = some (.cells #[.pointer none, .int .i64 0, .int .i64 0] 76 (0, 0)) := by rw [← hwB, ← hsA]; exact World.alloc_heap_new wA _
  have HKW : Hid (Kept w wB) := gtrans hkA hkB
  rw [hwA, hwB]
  obtain ⟨gb, hgb⟩ : ∃ gb, w.heap.size = gb := ⟨_, rfl⟩
  rw [hgb] at hbB hrB ⊢
  have HGB := hide1 hgb
  have b0 : wB.cell? ⟨gb, 0, none⟩ = some (.pointer (some ⟨qa, 0, none⟩)) := by simp [World.cell?, hbB]
  have f0 : wB.cell? ⟨gb + 1, 0, none⟩ = some (.pointer none) := by simp [World.cell?, hrB]
  have f1 : wB.cell? ⟨gb + 1, 1, none⟩ = some (.int .i64 0) := by simp [World.cell?, hrB]
  have f2 : wB.cell? ⟨gb + 1, 2, none⟩ = some (.int .i64 0) := by simp [World.cell?, hrB]
  have z0 : wB.frozen? ⟨gb + 1, 0, none⟩ = false := by simp [World.frozen?, hrB]
  have z1 : wB.frozen? ⟨gb + 1, 1, none⟩ = false := by simp [World.frozen?, hrB]
  have z2 : wB.frozen? ⟨gb + 1, 2, none⟩ = false := by simp [World.frozen?, hrB]
  have hlC : gb + 1 < wB.heap.size := (Array.getElem?_eq_some_iff.1 hrB).1
  have HRB := hide1 hrB
  clear hwA hwB hkA hkB hsA hbB hrB hgb
  have hcase : i < 0 ∨ (decide (i < 0) = false ∧ (L : Int) ≤ i) := by
    by_cases h : i < 0
    · exact Or.inl h
    · exact Or.inr ⟨decide_eq_false h, by omega⟩
  clear hi
  rcases hcase with h | ⟨hd, h⟩
  all_goals
    go_wp2_with (go_at_call 62; refine (HC.out _ HKW.out).mono ?_; rintro e w6 ⟨rfl, hw6⟩; have hw6 := hw6.symm; subst hw6)
    generalize hW : (((wB.setCell ⟨gb + 1, 0, none⟩ (.pointer none)).setCell ⟨gb + 1, 1, none⟩ (.int .i64 0)).setCell ⟨gb + 1, 2, none⟩ (.int .i64 0)) = W9
    have hbd : KeptBut (gb + 1) wB W9 := by
      rw [← hW]
      exact but3 (gb + 1) wB (.pointer none) (.int .i64 0) (.int .i64 0)
    have hs9 : W9.heap[gb + 1]? = some (.cells #[.pointer none, .int .i64 0, .int .i64 0] 76 (0, 0)) := by
      rw [← hW]
      exact set3 HRB.out (.pointer none) (.int .i64 0) (.int .i64 0)
    refine bodyPost_ret (box3_tmp rfl _ _ (gb + 1) _ _ _ _ rfl rfl hs9) rfl ?_
    exact ⟨rfl, KeptBut.new HKW.out hbd (by have := HGB.out; omega)⟩

set_option linter.unusedSimpArgs false in
set_option maxRecDepth 100000 in
set_option maxHeartbeats 2000000 in
theorem down_no (B C base : Nat) (wv : Value) (pre : List (Nat × Nat × Nat)) (q : Nat × Nat × Nat) (x : Nd) (i : Int) (w : World) (hC : CurAt w C wv) (hO : SOwn w base wv (pre ++ [q])) (hl : pre.length ≤ 4194304) (hN : NodeAt B w q.1 x) (hi : i < 0 ∨ (x.kids.length : Int) ≤ i) :
    Calls Try.prog 21 #[.pointer (some ⟨C, 0, none⟩), .int .i64 i] w fun e w' => e = .returned (.bool false) ∧ Kept w w' := by
  have HH := hide1 (here_is C base wv pre q w hC hO hl)
  have HCH := hide1 (fun w hN => child_no B q x i w hN hi)
  have HN := hide1 hN
  obtain ⟨qa, qb, qc⟩ := q
  dsimp only at HH HCH HN ⊢
  clear hC hO hN hi
  go_enter Try.func21, Try.ntmps21
  go_wp2_with (first
    | (go_at_call 31; refine HH.out.mono ?_; rintro e w1 ⟨rfl, hk1⟩; have HK1 := hide1 hk1; clear hk1)
    | (go_at_call 45; refine (HCH.out _ (HN.out.keep HK1.out)).mono ?_; rintro e w2 ⟨rfl, hk2⟩; have HK2 := hide1 hk2; clear hk2))
  go_ret
  exact ⟨rfl, gtrans (gtrans HK1.out HK2.out) ((Kept.refl _).alloc _ _)⟩

end Tr
end Ex
end Go.Proofs.Ythpampfbmpdmoaa
