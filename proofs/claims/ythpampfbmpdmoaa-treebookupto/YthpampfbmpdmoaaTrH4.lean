import Derived.Test.YthpampfbmpdmoaaTrH3
namespace Go.Proofs.Ythpampfbmpdmoaa
open Go.RowKit
attribute [local go_sem] Oper.semAt_some
namespace Ex
namespace Tr

set_option linter.unusedSimpArgs false in
set_option maxRecDepth 100000 in
set_option maxHeartbeats 4000000 in
theorem stepL_is (base fb s0 s1 A n : Nat) (st : Int) (isl : Bool) (l0 l1 l2 l3 kd nn : Int) (kv : Value) (w : World) (hF : FoI base fb s0 s1 n w) (hA : A ≤ fb ∧ A ≤ s0 ∧ A ≤ s1) (hn : n < 1048576) (hl : isl = true) :
    Calls Try.prog 19 #[.pointer (some ⟨fb, 0, none⟩), .agg #[.int .i64 st, .bool isl, .int .i64 l0, .int .i64 l1, .int .i64 l2, .int .i64 l3, .int .i64 kd, .int .i64 nn, kv]] w fun e w' => e = .returned (.bool true) ∧ FoI base fb s0 s1 (n + 1) w' ∧ KA A w w' := by
  subst hl
  obtain ⟨V, P, Q, N, X, m0, m1, vP, vR, vB, hM, hT, hP⟩ := hF
  have HM := hide1 hM
  have HT := hide1 hT
  have hfl := (Array.getElem?_eq_some_iff.1 hM.1).1
  clear hM hT
  go_enter Try.func19, Try.ntmps19
  go_upto_region 3 with fail
  obtain ⟨wB, hwB⟩ : ∃ wB, w.alloc (.cells #[.int .i64 st, .bool true, .int .i64 l0, .int .i64 l1, .int .i64 l2, .int .i64 l3, .int .i64 kd, .int .i64 nn, kv] 73) = wB := ⟨_, rfl⟩
  have HKB : Hid (Kept w wB) := by rw [← hwB]; exact (Kept.refl w).alloc _ _
  have hbx : wB.heap[w.heap.size]? = some (.cells #[.int .i64 st, .bool true, .int .i64 l0, .int .i64 l1, .int .i64 l2, .int .i64 l3, .int .i64 kd, .int .i64 nn, kv] 73 (0, 0)) := by rw [← hwB]; exact World.alloc_heap_new w _
  rw [hwB]
  have HMB := hide1 (HM.out.keep HKB.out)
  have HU := hide1 HM.out.under
  obtain ⟨bx, hbxe⟩ : ∃ bx, w.heap.size = bx := ⟨_, rfl⟩
  have HBX := hide1 hbxe
  have hbs := HM.out.2.2.2.2.2.2.1
  rw [hbxe] at hbx hfl hbs HU ⊢
  have HX := hide1 hbx
  have hq2 : wB.cell? ⟨bx, 2, none⟩ = some (.int .i64 l0) := by simp [World.cell?, hbx]
  have hq3 : wB.cell? ⟨bx, 3, none⟩ = some (.int .i64 l1) := by simp [World.cell?, hbx]
  have hq4 : wB.cell? ⟨bx, 4, none⟩ = some (.int .i64 l2) := by simp [World.cell?, hbx]
  have hq5 : wB.cell? ⟨bx, 5, none⟩ = some (.int .i64 l3) := by simp [World.cell?, hbx]
  have HBS := hide1 hbs
  have HA := hide1 hA
  have hm0 := HT.out.2.1
  have hm1 := HT.out.2.2.1
  have hszB : bx + 1 = wB.heap.size := by rw [← hwB, ← hbxe]; simp
  clear hwB hbx hbxe hbs hA
  rcases low_bit st with hbit | hbit
  · rw [hbit]
    have q0 := keepsB (s := s0) (show fb ≠ s0 by have := HBS.out; omega) (show wB.cell? ⟨fb, 0, none⟩ = some (.pointer (some ⟨s0, 0, none⟩)) by simp [World.cell?, HMB.out.1])
    have hne : bx ≠ s0 := by have := HBS.out; omega
    have p2 := keepsB hne hq2
    have p3 := keepsB hne hq3
    have p4 := keepsB hne hq4
    have p5 := keepsB hne hq5
    have hkr : KeptBut s0 wB wB := (Kept.refl wB).tbut s0
    clear hbit
    go_region_held3 (fun w' => KeptBut s0 wB w') (first | assumption | exact (Kept.refl _).tbut _ | exact (drew_kept _).tbut _)
      ((go_at_call 34; refine (leaf_is l0 l1 l2 l3 s0 m0 _ (HMB.out.2.1.keep (drew_kept _)) (by omega)).mono ?_; rintro e w7 ⟨b7, rfl, hb7, hk7, hs7, hn7⟩; have k7 : KeptBut s0 wB w7 := ((drew_kept _).tbut _).trans hk7))
    have HM7 : Hid (FoM base fb s0 s1 V P Q N X (m0 + 1) m1 vP vR vB w7) := HMB.out.but k7 (Or.inl rfl) hs7 ((k7.2.2.2.2 s1 HMB.out.2.2.1.lt (by have := HBS.out; omega)).trans HMB.out.2.2.1)
    have HN7 := hide1 (nodeV_of (A := wB.heap.size) hn7 hb7 (Or.inr rfl))
    have hx7 : w7.heap[bx]? = some (.cells #[.int .i64 st, .bool true, .int .i64 l0, .int .i64 l1, .int .i64 l2, .int .i64 l3, .int .i64 kd, .int .i64 nn, kv] 73 (0, 0)) := (k7.2.2.2.2 bx (by omega) hne).trans HX.out
    have r2 : w7.cell? ⟨bx, 2, none⟩ = some (.int .i64 l0) := by simp [World.cell?, hx7]
    have r3 : w7.cell? ⟨bx, 3, none⟩ = some (.int .i64 l1) := by simp [World.cell?, hx7]
    have r4 : w7.cell? ⟨bx, 4, none⟩ = some (.int .i64 l2) := by simp [World.cell?, hx7]
    have r5 : w7.cell? ⟨bx, 5, none⟩ = some (.int .i64 l3) := by simp [World.cell?, hx7]
    have HK7 := hide1 k7
    have HX7 := hide1 hx7
    have hs7B : wB.heap.size ≤ w7.heap.size := k7.2.2.2.1
    clear hn7 hs7 hk7 k7 hx7 q0 p2 p3 p4 p5 hq2 hq3 hq4 hq5 hkr
    go_wp2_with (first
      | (go_at_call 36; refine (rleaf_is _ _ _ _ _ _).mono ?_; rintro e w8 ⟨d8, rfl, hd8, hk8, hr8⟩; have HK8 := hide1 hk8; have HR8 := hide1 (refV_of hr8); have hs8 : w7.heap.size ≤ w8.heap.size := hk8.2.2.2.1; clear hk8 hr8)
      | (go_at_call 35; refine (fo_add (A := A) (n := n) (m0 := m0) (m1 := m1) (hw := bx) (a1 := wB.heap.size) (a2 := w7.heap.size) (a3 := w7.heap.size) (a4 := w8.heap.size) (HM7.out.keep HK8.out) HT.out HU.out (by have := HBS.out; omega) (by omega) hs7B (Nat.le_refl _) hs8 (Nat.le_refl _) (HN7.out.kx ⟨hs8, fun k hk => HK8.out.2.2.2.2 k hk.2⟩) HR8.out (by omega) (by omega) (by omega) (by omega) (leafN_ok _ _ _ _ _ _) rfl ⟨0, s0, m0, by omega, Or.inl ⟨l0, l1, l2, l3, rfl, rfl⟩⟩ HA.out.1 hP hn).mono ?_; rintro e w9 ⟨rfl, hF9, hka9, hC9⟩; have HF9 := hide1 hF9; have HKA9 := hide1 hka9; clear hF9 hka9 hC9))
    go_ret
    have hA9 := HA.out
    have hsz := HKB.out.size
    have e8 := HBX.out
    exact ⟨rfl, HF9.out, ((HKB.out.ka (by omega)).trans ((HK7.out.ka (by omega) (by omega)).trans (HK8.out.ka (by omega)))).trans HKA9.out⟩
  · rw [hbit]
    have q0 := keepsB (s := s1) (show fb ≠ s1 by have := HBS.out; omega) (show wB.cell? ⟨fb, 1, none⟩ = some (.pointer (some ⟨s1, 0, none⟩)) by simp [World.cell?, HMB.out.1])
    have hne : bx ≠ s1 := by have := HBS.out; omega
    have p2 := keepsB hne hq2
    have p3 := keepsB hne hq3
    have p4 := keepsB hne hq4
    have p5 := keepsB hne hq5
    have hkr : KeptBut s1 wB wB := (Kept.refl wB).tbut s1
    clear hbit
    go_region_held3 (fun w' => KeptBut s1 wB w') (first | assumption | exact (Kept.refl _).tbut _ | exact (drew_kept _).tbut _)
      ((go_at_call 34; refine (leaf_is l0 l1 l2 l3 s1 m1 _ (HMB.out.2.2.1.keep (drew_kept _)) (by omega)).mono ?_; rintro e w7 ⟨b7, rfl, hb7, hk7, hs7, hn7⟩; have k7 : KeptBut s1 wB w7 := ((drew_kept _).tbut _).trans hk7))
    have HM7 : Hid (FoM base fb s0 s1 V P Q N X m0 (m1 + 1) vP vR vB w7) := HMB.out.but k7 (Or.inr rfl) ((k7.2.2.2.2 s0 HMB.out.2.1.lt (by have := HBS.out; omega)).trans HMB.out.2.1) hs7
    have HN7 := hide1 (nodeV_of (A := wB.heap.size) hn7 hb7 (Or.inr rfl))
    have hx7 : w7.heap[bx]? = some (.cells #[.int .i64 st, .bool true, .int .i64 l0, .int .i64 l1, .int .i64 l2, .int .i64 l3, .int .i64 kd, .int .i64 nn, kv] 73 (0, 0)) := (k7.2.2.2.2 bx (by omega) hne).trans HX.out
    have r2 : w7.cell? ⟨bx, 2, none⟩ = some (.int .i64 l0) := by simp [World.cell?, hx7]
    have r3 : w7.cell? ⟨bx, 3, none⟩ = some (.int .i64 l1) := by simp [World.cell?, hx7]
    have r4 : w7.cell? ⟨bx, 4, none⟩ = some (.int .i64 l2) := by simp [World.cell?, hx7]
    have r5 : w7.cell? ⟨bx, 5, none⟩ = some (.int .i64 l3) := by simp [World.cell?, hx7]
    have HK7 := hide1 k7
    have HX7 := hide1 hx7
    have hs7B : wB.heap.size ≤ w7.heap.size := k7.2.2.2.1
    clear hn7 hs7 hk7 k7 hx7 q0 p2 p3 p4 p5 hq2 hq3 hq4 hq5 hkr
    go_wp2_with (first
      | (go_at_call 36; refine (rleaf_is _ _ _ _ _ _).mono ?_; rintro e w8 ⟨d8, rfl, hd8, hk8, hr8⟩; have HK8 := hide1 hk8; have HR8 := hide1 (refV_of hr8); have hs8 : w7.heap.size ≤ w8.heap.size := hk8.2.2.2.1; clear hk8 hr8)
      | (go_at_call 35; refine (fo_add (A := A) (n := n) (m0 := m0) (m1 := m1) (hw := bx) (a1 := wB.heap.size) (a2 := w7.heap.size) (a3 := w7.heap.size) (a4 := w8.heap.size) (HM7.out.keep HK8.out) HT.out HU.out (by have := HBS.out; omega) (by omega) hs7B (Nat.le_refl _) hs8 (Nat.le_refl _) (HN7.out.kx ⟨hs8, fun k hk => HK8.out.2.2.2.2 k hk.2⟩) HR8.out (by omega) (by omega) (by omega) (by omega) (leafN_ok _ _ _ _ _ _) rfl ⟨1, s1, m1, by omega, Or.inl ⟨l0, l1, l2, l3, rfl, rfl⟩⟩ HA.out.1 hP hn).mono ?_; rintro e w9 ⟨rfl, hF9, hka9, hC9⟩; have HF9 := hide1 hF9; have HKA9 := hide1 hka9; clear hF9 hka9 hC9))
    go_ret
    have hA9 := HA.out
    have hsz := HKB.out.size
    have e8 := HBX.out
    exact ⟨rfl, HF9.out, ((HKB.out.ka (by omega)).trans ((HK7.out.ka (by omega) (by omega)).trans (HK8.out.ka (by omega)))).trans HKA9.out⟩

set_option linter.unusedSimpArgs false in
set_option maxRecDepth 100000 in
set_option maxHeartbeats 4000000 in
theorem stepE_is (base fb s0 s1 A n : Nat) (V : Nat → Prop) (Q : List Nat) (N : Nat → Nd) (X : Nat → Rd) (m0 m1 : Nat) (vP vR vB : Value) (st : Int) (isl : Bool) (l0 l1 l2 l3 kd nn : Int) (kv : Value) (w : World) (hM : FoM base fb s0 s1 V [] Q N X m0 m1 vP vR vB w) (hT : TwinOk s0 s1 m0 m1 [] Q N X) (hA : A ≤ fb ∧ A ≤ s0 ∧ A ≤ s1) (hn : n < 1048576) (hl : isl = false) :
    Calls Try.prog 19 #[.pointer (some ⟨fb, 0, none⟩), .agg #[.int .i64 st, .bool isl, .int .i64 l0, .int .i64 l1, .int .i64 l2, .int .i64 l3, .int .i64 kd, .int .i64 nn, kv]] w fun e w' => e = .returned (.bool true) ∧ FoI base fb s0 s1 (n + 1) w' ∧ KA A w w' := by
  subst hl
  obtain ⟨P, hPe⟩ : ∃ P : List Nat, P = [] := ⟨_, rfl⟩
  have hP : P.length ≤ n := by rw [hPe]; simp
  obtain ⟨ap, capp, rfl⟩ : ∃ a cap, vP = .slice a 0 cap := by
    rcases hM.2.2.2.1.2 with ⟨rfl, h0⟩ | ⟨g, cap, cur, rfl, _⟩
    · exact ⟨none, 0, rfl⟩
    · exact ⟨_, _, rfl⟩
  have hc2 : w.cell? ⟨fb, 2, none⟩ = some (.slice ap 0 capp) := by simp [World.cell?, hM.1]
  rw [← hPe] at hM hT
  clear hPe
  have HM := hide1 hM
  have HT := hide1 hT
  have hfl := (Array.getElem?_eq_some_iff.1 hM.1).1
  clear hM hT
  have hc2B : (w.alloc (.cells #[.int .i64 st, .bool false, .int .i64 l0, .int .i64 l1, .int .i64 l2, .int .i64 l3, .int .i64 kd, .int .i64 nn, kv] 73)).cell? ⟨fb, 2, none⟩ = some (.slice ap 0 capp) := (cell_alloc_old w _ hfl).trans hc2
  go_enter Try.func19, Try.ntmps19
  go_upto_region 3 with fail
  obtain ⟨wB, hwB⟩ : ∃ wB, w.alloc (.cells #[.int .i64 st, .bool false, .int .i64 l0, .int .i64 l1, .int .i64 l2, .int .i64 l3, .int .i64 kd, .int .i64 nn, kv] 73) = wB := ⟨_, rfl⟩
  have HKB : Hid (Kept w wB) := by rw [← hwB]; exact (Kept.refl w).alloc _ _
  have hbx : wB.heap[w.heap.size]? = some (.cells #[.int .i64 st, .bool false, .int .i64 l0, .int .i64 l1, .int .i64 l2, .int .i64 l3, .int .i64 kd, .int .i64 nn, kv] 73 (0, 0)) := by rw [← hwB]; exact World.alloc_heap_new w _
  clear hc2B
  rw [hwB]
  have HMB := hide1 (HM.out.keep HKB.out)
  have HU := hide1 HM.out.under
  obtain ⟨bx, hbxe⟩ : ∃ bx, w.heap.size = bx := ⟨_, rfl⟩
  have HBX := hide1 hbxe
  have hbs := HM.out.2.2.2.2.2.2.1
  rw [hbxe] at hbx hfl hbs HU ⊢
  have HX := hide1 hbx
  have hq2 : wB.cell? ⟨bx, 2, none⟩ = some (.int .i64 l0) := by simp [World.cell?, hbx]
  have hq3 : wB.cell? ⟨bx, 3, none⟩ = some (.int .i64 l1) := by simp [World.cell?, hbx]
  have hq4 : wB.cell? ⟨bx, 4, none⟩ = some (.int .i64 l2) := by simp [World.cell?, hbx]
  have hq5 : wB.cell? ⟨bx, 5, none⟩ = some (.int .i64 l3) := by simp [World.cell?, hbx]
  have HBS := hide1 hbs
  have HA := hide1 hA
  have hm0 := HT.out.2.1
  have hm1 := HT.out.2.2.1
  have hszB : bx + 1 = wB.heap.size := by rw [← hwB, ← hbxe]; simp
  clear hwB hbx hbxe hbs hA
  rcases low_bit st with hbit | hbit
  · rw [hbit]
    have q0 := keepsB (s := s0) (show fb ≠ s0 by have := HBS.out; omega) (show wB.cell? ⟨fb, 0, none⟩ = some (.pointer (some ⟨s0, 0, none⟩)) by simp [World.cell?, HMB.out.1])
    have hne : bx ≠ s0 := by have := HBS.out; omega
    have p2 := keepsB hne hq2
    have p3 := keepsB hne hq3
    have p4 := keepsB hne hq4
    have p5 := keepsB hne hq5
    have hkr : KeptBut s0 wB wB := (Kept.refl wB).tbut s0
    clear hbit
    go_region_held3 (fun w' => KeptBut s0 wB w') (first | assumption | exact (Kept.refl _).tbut _ | exact (drew_kept _).tbut _)
      ((go_at_call 34; refine (leaf_is l0 l1 l2 l3 s0 m0 _ (HMB.out.2.1.keep (drew_kept _)) (by omega)).mono ?_; rintro e w7 ⟨b7, rfl, hb7, hk7, hs7, hn7⟩; have k7 : KeptBut s0 wB w7 := ((drew_kept _).tbut _).trans hk7))
    have HM7 : Hid (FoM base fb s0 s1 V P Q N X (m0 + 1) m1 (.slice ap 0 capp) vR vB w7) := HMB.out.but k7 (Or.inl rfl) hs7 ((k7.2.2.2.2 s1 HMB.out.2.2.1.lt (by have := HBS.out; omega)).trans HMB.out.2.2.1)
    have HN7 := hide1 (nodeV_of (A := wB.heap.size) hn7 hb7 (Or.inr rfl))
    have hx7 : w7.heap[bx]? = some (.cells #[.int .i64 st, .bool false, .int .i64 l0, .int .i64 l1, .int .i64 l2, .int .i64 l3, .int .i64 kd, .int .i64 nn, kv] 73 (0, 0)) := (k7.2.2.2.2 bx (by omega) hne).trans HX.out
    have r2 : w7.cell? ⟨bx, 2, none⟩ = some (.int .i64 l0) := by simp [World.cell?, hx7]
    have r3 : w7.cell? ⟨bx, 3, none⟩ = some (.int .i64 l1) := by simp [World.cell?, hx7]
    have r4 : w7.cell? ⟨bx, 4, none⟩ = some (.int .i64 l2) := by simp [World.cell?, hx7]
    have r5 : w7.cell? ⟨bx, 5, none⟩ = some (.int .i64 l3) := by simp [World.cell?, hx7]
    have HK7 := hide1 k7
    have HX7 := hide1 hx7
    have hs7B : wB.heap.size ≤ w7.heap.size := k7.2.2.2.1
    clear hn7 hs7 hk7 k7 hx7 q0 p2 p3 p4 p5 hq2 hq3 hq4 hq5 hkr
    go_wp2_with (first
      | (go_at_call 36; refine (rleaf_is _ _ _ _ _ _).mono ?_; rintro e w8 ⟨d8, rfl, hd8, hk8, hr8⟩; have HK8 := hide1 hk8; have HR8 := hide1 (refV_of hr8); have hs8 : w7.heap.size ≤ w8.heap.size := hk8.2.2.2.1; clear hk8 hr8)
      | (go_at_call 35; refine (fo_add (A := A) (n := n) (m0 := m0) (m1 := m1) (hw := bx) (a1 := wB.heap.size) (a2 := w7.heap.size) (a3 := w7.heap.size) (a4 := w8.heap.size) (HM7.out.keep HK8.out) HT.out HU.out (by have := HBS.out; omega) (by omega) hs7B (Nat.le_refl _) hs8 (Nat.le_refl _) (HN7.out.kx ⟨hs8, fun k hk => HK8.out.2.2.2.2 k hk.2⟩) HR8.out (by omega) (by omega) (by omega) (by omega) (leafN_ok _ _ _ _ _ _) rfl ⟨0, s0, m0, by omega, Or.inl ⟨l0, l1, l2, l3, rfl, rfl⟩⟩ HA.out.1 hP hn).mono ?_; rintro e w9 ⟨rfl, hF9, hka9, hC9⟩; have HF9 := hide1 hF9; have HKA9 := hide1 hka9; clear hF9 hka9 hC9))
    go_ret
    have hA9 := HA.out
    have hsz := HKB.out.size
    have e8 := HBX.out
    exact ⟨rfl, HF9.out, ((HKB.out.ka (by omega)).trans ((HK7.out.ka (by omega) (by omega)).trans (HK8.out.ka (by omega)))).trans HKA9.out⟩
  · rw [hbit]
    have q0 := keepsB (s := s1) (show fb ≠ s1 by have := HBS.out; omega) (show wB.cell? ⟨fb, 1, none⟩ = some (.pointer (some ⟨s1, 0, none⟩)) by simp [World.cell?, HMB.out.1])
    have hne : bx ≠ s1 := by have := HBS.out; omega
    have p2 := keepsB hne hq2
    have p3 := keepsB hne hq3
    have p4 := keepsB hne hq4
    have p5 := keepsB hne hq5
    have hkr : KeptBut s1 wB wB := (Kept.refl wB).tbut s1
    clear hbit
    go_region_held3 (fun w' => KeptBut s1 wB w') (first | assumption | exact (Kept.refl _).tbut _ | exact (drew_kept _).tbut _)
      ((go_at_call 34; refine (leaf_is l0 l1 l2 l3 s1 m1 _ (HMB.out.2.2.1.keep (drew_kept _)) (by omega)).mono ?_; rintro e w7 ⟨b7, rfl, hb7, hk7, hs7, hn7⟩; have k7 : KeptBut s1 wB w7 := ((drew_kept _).tbut _).trans hk7))
    have HM7 : Hid (FoM base fb s0 s1 V P Q N X m0 (m1 + 1) (.slice ap 0 capp) vR vB w7) := HMB.out.but k7 (Or.inr rfl) ((k7.2.2.2.2 s0 HMB.out.2.1.lt (by have := HBS.out; omega)).trans HMB.out.2.1) hs7
    have HN7 := hide1 (nodeV_of (A := wB.heap.size) hn7 hb7 (Or.inr rfl))
    have hx7 : w7.heap[bx]? = some (.cells #[.int .i64 st, .bool false, .int .i64 l0, .int .i64 l1, .int .i64 l2, .int .i64 l3, .int .i64 kd, .int .i64 nn, kv] 73 (0, 0)) := (k7.2.2.2.2 bx (by omega) hne).trans HX.out
    have r2 : w7.cell? ⟨bx, 2, none⟩ = some (.int .i64 l0) := by simp [World.cell?, hx7]
    have r3 : w7.cell? ⟨bx, 3, none⟩ = some (.int .i64 l1) := by simp [World.cell?, hx7]
    have r4 : w7.cell? ⟨bx, 4, none⟩ = some (.int .i64 l2) := by simp [World.cell?, hx7]
    have r5 : w7.cell? ⟨bx, 5, none⟩ = some (.int .i64 l3) := by simp [World.cell?, hx7]
    have HK7 := hide1 k7
    have HX7 := hide1 hx7
    have hs7B : wB.heap.size ≤ w7.heap.size := k7.2.2.2.1
    clear hn7 hs7 hk7 k7 hx7 q0 p2 p3 p4 p5 hq2 hq3 hq4 hq5 hkr
    go_wp2_with (first
      | (go_at_call 36; refine (rleaf_is _ _ _ _ _ _).mono ?_; rintro e w8 ⟨d8, rfl, hd8, hk8, hr8⟩; have HK8 := hide1 hk8; have HR8 := hide1 (refV_of hr8); have hs8 : w7.heap.size ≤ w8.heap.size := hk8.2.2.2.1; clear hk8 hr8)
      | (go_at_call 35; refine (fo_add (A := A) (n := n) (m0 := m0) (m1 := m1) (hw := bx) (a1 := wB.heap.size) (a2 := w7.heap.size) (a3 := w7.heap.size) (a4 := w8.heap.size) (HM7.out.keep HK8.out) HT.out HU.out (by have := HBS.out; omega) (by omega) hs7B (Nat.le_refl _) hs8 (Nat.le_refl _) (HN7.out.kx ⟨hs8, fun k hk => HK8.out.2.2.2.2 k hk.2⟩) HR8.out (by omega) (by omega) (by omega) (by omega) (leafN_ok _ _ _ _ _ _) rfl ⟨1, s1, m1, by omega, Or.inl ⟨l0, l1, l2, l3, rfl, rfl⟩⟩ HA.out.1 hP hn).mono ?_; rintro e w9 ⟨rfl, hF9, hka9, hC9⟩; have HF9 := hide1 hF9; have HKA9 := hide1 hka9; clear hF9 hka9 hC9))
    go_ret
    have hA9 := HA.out
    have hsz := HKB.out.size
    have e8 := HBX.out
    exact ⟨rfl, HF9.out, ((HKB.out.ka (by omega)).trans ((HK7.out.ka (by omega) (by omega)).trans (HK8.out.ka (by omega)))).trans HKA9.out⟩

end Tr
end Ex
end Go.Proofs.Ythpampfbmpdmoaa
