import Derived.Test.YteckbpmliahhhaaTrBase
import Derived.Deep.RegionHeld3
import Derived.Deep.Cut
import Derived.Deep.CutRange
import Derived.BigQuiet
namespace Go.Proofs.Yteckbpmliahhhaa
open Go.RowKit
attribute [local go_sem] Oper.semAt_some
namespace Ex
namespace Tr

theorem keepsB {s : Nat} {w : World} {a o : Nat} {v : Value} (hne : a ≠ s) (h : w.cell? ⟨a, o, none⟩ = some v) : ∀ W, KeptBut s w W → W.cell? ⟨a, o, none⟩ = some v := fun _ hg => hg.cell hne h
theorem StoreAt.set {w : World} {s m : Nat} (h : StoreAt w s m) (k : Nat) : StoreAt (w.setCell ⟨s, 0, none⟩ (.int .i64 (k : Int))) s k := by
  have hl := h.lt
  unfold StoreAt at h ⊢
  have he : w.heap[s] = Obj.cells #[.int .i64 (m : Int)] 72 (0, 0) := by rw [Array.getElem?_eq_getElem hl] at h; exact Option.some.inj h
  simp [World.setCell, Array.getElem_modify, hl, he]
theorem wrapN {a : Int} (h0 : 0 ≤ a) (h1 : a ≤ 4611686018427387905) : IntKind.i64.wrap a = a := by rw [IntKind.wrap_i64]; omega
/-- What a leaf's number counts as. -/
def countP (v : Int) : Nat := if v < 0 ∨ 262144 < v then 0 else v.toNat
theorem count_le (v : Int) : countP v ≤ 262144 := by unfold countP; split <;> omega
set_option linter.unusedSimpArgs false in
set_option maxRecDepth 100000 in
set_option maxHeartbeats 2000000 in
theorem counted_q (v : Int) (w : World) : Calls Try.prog 30 #[.int .i64 v] w fun e w' => e = .returned (.int .i64 (countP v : Nat)) ∧ Kept w w' := by
  unfold countP
  go_enter Try.func30, Try.ntmps30
  by_cases h1 : v < 0
  · rw [if_pos (Or.inl h1)]
    go_wp2_with fail
    go_ret
    exact ⟨rfl, Kept.refl _⟩
  · by_cases h2 : 262144 < v
    · rw [if_pos (Or.inr h2)]
      go_wp2_with fail
      go_ret
      exact ⟨rfl, Kept.refl _⟩
    · rw [if_neg (by omega)]
      go_wp2_with fail
      go_ret
      exact ⟨by rw [Int.max_eq_left h1]; rfl, Kept.refl _⟩

set_option linter.unusedSimpArgs false in
set_option maxRecDepth 100000 in
set_option maxHeartbeats 2000000 in
theorem add_is (kd n l0 l1 l2 l3 wd lf sz : Int) (fl : Bool) (ka : Option Addr) (kl kc : Nat) (s m : Nat) (w : World) (hs : StoreAt w s m) (hm : m ≤ 4611686018427387904) :
    Calls Try.prog 29 #[.pointer (some ⟨s, 0, none⟩), .agg #[.pointer none, .int .i64 0, .int .i64 kd, .int .i64 n, .int .i64 l0, .int .i64 l1, .int .i64 l2, .int .i64 l3, .slice ka kl kc, .int .i64 wd, .int .i64 lf, .int .i64 sz, .bool fl]] w fun e w' => e = .returned (.pointer (some ⟨w.heap.size, 0, none⟩)) ∧ KeptBut s w w' ∧ StoreAt w' s (m + 1) ∧
      w'.heap[w.heap.size]? = some (.cells #[.pointer (some ⟨s, 0, none⟩), .int .i64 ((m + 1 : Nat) : Int), .int .i64 kd, .int .i64 n, .int .i64 l0, .int .i64 l1, .int .i64 l2, .int .i64 l3, .slice ka kl kc, .int .i64 wd, .int .i64 lf, .int .i64 sz, .bool fl] 88 (0, 0)) := by
  have HS := hide1 hs
  obtain ⟨c0, z0⟩ := hs.cells
  have hb := hs.lt
  have hm' : (m : Int) ≤ 4611686018427387904 := by omega
  clear hs hm
  go_enter Try.func29, Try.ntmps29
  go_wp2_with fail
  go_ret
  obtain ⟨wq, hwq⟩ : ∃ wq, w.setCell ⟨s, 0, none⟩ (.int .i64 ((m : Int) + 1)) = wq := ⟨_, rfl⟩
  have hsz : wq.heap.size = w.heap.size := by rw [← hwq]; simp [World.setCell]
  have hst : StoreAt wq s (m + 1) := by rw [← hwq]; exact HS.out.set (m + 1)
  have hbt : KeptBut s w wq := by rw [← hwq]; exact setCell_but _ _ _ _
  rw [hwq]
  refine ⟨rfl, hbt.trans (((Kept.refl _).alloc _ _).tbut s), hst.keep ((Kept.refl _).alloc _ _), ?_⟩
  rw [← hsz]
  exact World.alloc_heap_new wq _

/-- The node of a leaf. -/
def leafN (s m : Nat) (l0 l1 l2 l3 : Int) : Nd := { st := s, num := m + 1, kind := 1, n := l0, l0 := l0, l1 := l1, l2 := l2, l3 := l3, kids := [], width := countP l1 + countP l2, leafs := 1, size := 1, failed := l0 == -1 }

set_option linter.unusedSimpArgs false in
set_option maxRecDepth 100000 in
set_option maxHeartbeats 2000000 in
theorem leaf_is (l0 l1 l2 l3 : Int) (s m : Nat) (w : World) (hs : StoreAt w s m) (hm : m ≤ 4611686018427387904) :
    Calls Try.prog 12 #[.pointer (some ⟨s, 0, none⟩), .agg #[.int .i64 l0, .int .i64 l1, .int .i64 l2, .int .i64 l3]] w fun e w' => ∃ b, e = .returned (.pointer (some ⟨b, 0, none⟩)) ∧ w.heap.size ≤ b ∧ KeptBut s w w' ∧ StoreAt w' s (m + 1) ∧ NodeAt w'.heap.size w' b (leafN s m l0 l1 l2 l3) := by
  have HS := hide1 hs
  have hb := hs.lt
  have HM := hide1 hm
  have g1 : ((countP l1 : Nat) : Int) ≤ 262144 := by have := count_le l1; omega
  have g2 : ((countP l2 : Nat) : Int) ≤ 262144 := by have := count_le l2; omega
  clear hs hm
  go_enter Try.func12, Try.ntmps12
  go_upto_region 1 with fail
  obtain ⟨wB, hwB⟩ : ∃ wB, w.alloc (.cells #[.int .i64 l0, .int .i64 l1, .int .i64 l2, .int .i64 l3] 34) = wB := ⟨_, rfl⟩
  have HKB : Hid (Kept w wB) := by rw [← hwB]; exact (Kept.refl w).alloc _ _
  have hbx : wB.heap[w.heap.size]? = some (.cells #[.int .i64 l0, .int .i64 l1, .int .i64 l2, .int .i64 l3] 34 (0, 0)) := by rw [← hwB]; exact World.alloc_heap_new w _
  have hne : w.heap.size ≠ s := by omega
  have q0 := keepsB hne (show wB.cell? ⟨w.heap.size, 0, none⟩ = some (.int .i64 l0) by simp [World.cell?, hbx])
  have q1 := keepsB hne (show wB.cell? ⟨w.heap.size, 1, none⟩ = some (.int .i64 l1) by simp [World.cell?, hbx])
  have q2 := keepsB hne (show wB.cell? ⟨w.heap.size, 2, none⟩ = some (.int .i64 l2) by simp [World.cell?, hbx])
  have q3 := keepsB hne (show wB.cell? ⟨w.heap.size, 3, none⟩ = some (.int .i64 l3) by simp [World.cell?, hbx])
  rw [hwB]
  have HX := hide1 hbx
  have HSB := hide1 (HS.out.keep HKB.out)
  have hkr : KeptBut s wB wB := (Kept.refl wB).tbut s
  obtain ⟨gb, hgb⟩ : ∃ gb, w.heap.size = gb := ⟨_, rfl⟩
  have HGB := hide1 hgb
  rw [hgb] at q0 q1 q2 q3 ⊢
  clear hwB hbx hgb hne
  go_region_held3 (fun w' => KeptBut s wB w') (first | assumption | exact (Kept.refl _).tbut _ | exact (drew_kept _).tbut _)
    ((first
      | (go_at_call 30; refine (counted_q _ _).mono ?_; rintro e w6 ⟨rfl, hk6⟩; have k6 : Kept wB w6 := gtrans (by first | assumption | exact drew_kept _ | exact Kept.refl _) hk6; have b6 : KeptBut s wB w6 := k6.tbut s)
      | (go_at_call 29; refine (add_is _ _ _ _ _ _ _ _ _ _ _ _ _ s m _ (HSB.out.keep (by assumption)) HM.out).mono ?_; rintro e w7 ⟨rfl, hk7, hs7, hn7⟩; have b7 : KeptBut s wB w7 := KeptBut.trans (by assumption) hk7)))
  rw [wrapN (by omega) (by omega)] at hn7
  have hle : w.heap.size ≤ w6.heap.size := Nat.le_trans HKB.out.size k6.size
  have HFIN : Hid (∃ b, w6.heap.size = b ∧ w.heap.size ≤ b ∧ KeptBut s w w7 ∧ StoreAt w7 s (m + 1) ∧ NodeAt w7.heap.size w7 b (leafN s m l0 l1 l2 l3)) :=
    ⟨_, rfl, hle, (HKB.out.tbut s).trans b7, hs7, (Array.getElem?_eq_some_iff.1 hn7).1, _, hn7, none, 0, rfl, Nat.le_refl _, by simp [leafN], Or.inl rfl⟩
  clear hn7 hs7 b7 hk7 b6 k6 hk6
  go_wp2_with fail
  go_ret
  obtain ⟨b, rfl, h⟩ := HFIN.out
  exact ⟨_, rfl, h⟩

end Tr
end Ex
end Go.Proofs.Yteckbpmliahhhaa
