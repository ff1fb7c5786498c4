import Derived.Test.YthpampfbmpdmoaaTrDown
namespace Go.Proofs.Ythpampfbmpdmoaa
open Go.RowKit
attribute [local go_sem] Oper.semAt_some
namespace Ex
namespace Tr

/-- Does the i-th child begin behind the place? -/
def behP (x : Nd) (d : Int) (i : Nat) : Bool := match x.kids[i]? with | some k => decide (d < (k.2 : Int)) | none => true
set_option linter.unusedSimpArgs false in
set_option maxRecDepth 100000 in
set_option maxHeartbeats 2000000 in
theorem over1_is (B sb ab : Nat) (q : Nat × Nat × Nat) (x : Nd) (at_ : Int) (i : Nat) (w : World) (hN : NodeAt B w q.1 x) (hs : w.heap[sb]? = some (.cells #[.pointer (some ⟨q.1, 0, none⟩), .int .i64 (q.2.1 : Int), .int .i64 (q.2.2 : Int)] 76 (0, 0))) (hab : w.heap[ab]? = some (.cells #[.int .i64 at_] 3 (0, 0))) (hi : i < x.kids.length) (h0 : (q.2.1 : Int) ≤ at_) (h1 : at_ ≤ 4611686018427387904) :
    Calls Try.prog 64 #[.int .i64 (i : Int), .pointer (some ⟨sb, 0, none⟩), .pointer (some ⟨ab, 0, none⟩)] w fun e w' => e = .returned (.bool (behP x (at_ - (q.2.1 : Int)) i)) ∧ ∃ m, w' = w.drewN m := by
  obtain ⟨kv, ⟨ka, kc, rfl, hkl, hk4, hkc⟩, _, _, _, _, _, _, _, _, _, c8, _⟩ := hN.cells
  obtain ⟨k, hk⟩ : ∃ k, x.kids[i]? = some k := ⟨_, List.getElem?_eq_getElem hi⟩
  obtain ⟨gk, rfl, hgB, hcells⟩ : ∃ gk, ka = some ⟨gk, 0, none⟩ ∧ gk < B ∧ ∀ (i : Nat) (q : Nat × Nat), x.kids[i]? = some q → w.cell? ⟨gk, i * 2, none⟩ = some (.pointer (some ⟨q.1, 0, none⟩)) ∧ w.cell? ⟨gk, i * 2 + 1, none⟩ = some (.int .i64 (q.2 : Int)) := by
    rcases hkc with h | h
    · rw [h] at hi; simp at hi
    · exact h
  obtain ⟨_, r1⟩ := hcells i k hk
  have hbe : behP x (at_ - (q.2.1 : Int)) i = decide (at_ - (q.2.1 : Int) < (k.2 : Int)) := by unfold behP; rw [hk]
  rw [hbe]
  obtain ⟨qa, qb, qc⟩ := q
  obtain ⟨L, hL⟩ : ∃ L, x.kids.length = L := ⟨_, rfl⟩
  rw [hL] at c8 hi hk4
  dsimp only at c8 h0 hs ⊢
  have b0 : w.cell? ⟨sb, 0, none⟩ = some (.pointer (some ⟨qa, 0, none⟩)) := by simp [World.cell?, hs]
  have b1 : w.cell? ⟨sb, 1, none⟩ = some (.int .i64 (qb : Int)) := by simp [World.cell?, hs]
  have a0 : w.cell? ⟨ab, 0, none⟩ = some (.int .i64 at_) := by simp [World.cell?, hab]
  have hiI : (i : Int) < (L : Int) := by omega
  have hLI : (L : Int) ≤ 4194304 := by omega
  clear hN hkc hcells hs hab hk hL hkl hbe
  go_enter Try.func64, Try.ntmps64
  go_wp2_with (go_quiet (fail))
  go_ret
  exact ⟨rfl, _, rfl⟩

/-- What Search answers of a test that once holds and then always. -/
def FirstAt (p : Nat → Bool) (n r : Nat) : Prop := r ≤ n ∧ (∀ k, k < r → p k = false) ∧ (r < n → p r = true)
set_option linter.unusedSimpArgs false in
set_option maxRecDepth 100000 in
set_option maxHeartbeats 2000000 in
theorem search_is (f : Nat) (bs : Array Value) (p : Nat → Bool) (n : Nat) (w : World) (hn : n ≤ 4194304) (hf : ∀ i m, i < n → Calls Try.prog f (#[.int .i64 (i : Int)] ++ bs) (w.drewN m) fun e w' => e = .returned (.bool (p i)) ∧ ∃ m, w' = w.drewN m) (hp : ∀ i j, i ≤ j → j < n → p i = true → p j = true)
    (ef : ∀ args w, (callFunc f args).run Try.prog w = .ok (.enter f args) w) :
    Calls Try.prog 63 #[.int .i64 (n : Int), .func (.func f) #[] bs] w fun e w' => ∃ r : Nat, e = .returned (.int .i64 (r : Int)) ∧ FirstAt p n r ∧ ∃ m, w' = w.drewN m := by
  have HF := hide1 hf
  have HP := hide1 hp
  have hnI : (n : Int) ≤ 4194304 := by omega
  clear hf hp
  go_enter Try.func63, Try.ntmps63
  go_wp2_with fail
  go_loopw [5, 6] (fun v5 v6 wr => ∃ i j m : Nat, v5 = .int .i64 (i : Int) ∧ v6 = .int .i64 (j : Int) ∧ i ≤ j ∧ j ≤ n ∧ Hid ((∀ k, k < i → p k = false) ∧ (j < n → p j = true)) ∧ wr = w.drewN m) (fun v5 v6 _ => (intOf v6).toNat - (intOf v5).toNat)
  case atStart => exact ⟨0, n, 0, rfl, rfl, Nat.zero_le _, Nat.le_refl _, ⟨fun k hk => by omega, fun h => by omega⟩, rfl⟩
  case round =>
    obtain ⟨i, j, m, rfl, rfl, hij, hjn, HI, rfl⟩ := hrel
    by_cases hlt : i < j
    · have hltI : (i : Int) < (j : Int) := by omega
      go_upto_region 4 with fail
      obtain ⟨h, hh⟩ : ∃ h, (i + j) / 2 = h := ⟨_, rfl⟩
      have hhI : ((i : Int) + (j : Int)) / 2 = (h : Int) := by omega
      have hih : i ≤ h := by omega
      have hhj : h < j := by omega
      have hhJ : (h : Int) < (j : Int) := by omega
      rw [hhI]
      have HC := hide1 (HF.out h m (by omega))
      have hef := ef
      clear hh hhI
      go_wp2_with fail
      cases hph : p h with
      | true =>
        rw [hph] at HC
        have HPH := hide1 hph
        clear hph
        refine HC.out.mono ?_
        rintro e w6 ⟨rfl, m6, hw6⟩
        subst hw6
        go_wp2_with fail
        go_roundw
        case rel => exact ⟨i, h, m6, rfl, rfl, hih, by omega, ⟨HI.out.1, fun _ => HPH.out⟩, rfl⟩
        case measure => simp [intOf]; omega
      | false =>
        rw [hph] at HC
        have HPH := hide1 hph
        clear hph
        refine HC.out.mono ?_
        rintro e w6 ⟨rfl, m6, hw6⟩
        subst hw6
        go_wp2_with fail
        go_roundw
        case rel =>
          refine ⟨h + 1, j, m6, by go_num, rfl, by omega, hjn, ⟨fun k hk => ?_, HI.out.2⟩, rfl⟩
          cases hpk : p k with
          | false => rfl
          | true =>
            have := HP.out k h (by omega) (by omega) hpk
            rw [HPH.out] at this
            cases this
        case measure => simp [intOf]; omega
    · have hij2 : i = j := by omega
      subst hij2
      go_wp2_with fail
      go_ret
      exact ⟨i, rfl, ⟨hjn, HI.out.1, HI.out.2⟩, _, rfl⟩

set_option linter.unusedSimpArgs false in
set_option maxRecDepth 100000 in
set_option maxHeartbeats 2000000 in
theorem over_is (B : Nat) (q : Nat × Nat × Nat) (x : Nd) (at_ : Int) (w : World) (hN : NodeAt B w q.1 x) (h0 : (q.2.1 : Int) ≤ at_) (h1 : at_ ≤ 4611686018427387904) (hm : ∀ i j, i ≤ j → j < x.kids.length → behP x (at_ - (q.2.1 : Int)) i = true → behP x (at_ - (q.2.1 : Int)) j = true) :
    Calls Try.prog 50 #[.agg #[.pointer (some ⟨q.1, 0, none⟩), .int .i64 (q.2.1 : Int), .int .i64 (q.2.2 : Int)], .int .i64 at_] w fun e w' => ∃ r : Nat, e = .returned (.int .i64 ((r : Int) - 1)) ∧ FirstAt (behP x (at_ - (q.2.1 : Int))) x.kids.length r ∧ Kept w w' := by
  have HN := hide1 hN
  obtain ⟨kv, ⟨ka, kc, rfl, hkl, hk4, hkc⟩, _, _, _, _, _, _, _, _, _, c8, _⟩ := hN.cells
  have hb := hN.lt
  have HMM := hide1 hm
  obtain ⟨L, hL⟩ : ∃ L, x.kids.length = L := ⟨_, rfl⟩
  rw [hL] at c8 hk4 HMM ⊢
  have HL := hide1 hL
  obtain ⟨qa, qb, qc⟩ := q
  dsimp only at c8 h0 HN hb HMM ⊢
  have hLI : (L : Int) ≤ 4194304 := by omega
  clear hN hkc hm hkl hL
  go_enter Try.func50, Try.ntmps50
  go_upto_region 1 with fail
  obtain ⟨wA, hwA⟩ : ∃ wA, w.alloc (.cells #[.pointer (some ⟨qa, 0, none⟩), .int .i64 (qb : Int), .int .i64 (qc : Int)] 76) = wA := ⟨_, rfl⟩
  obtain ⟨wB, hwB⟩ : ∃ wB, wA.alloc (.cells #[.int .i64 at_] 3) = wB := ⟨_, rfl⟩
  have hkA : Kept w wA := by rw [← hwA]; exact (Kept.refl w).alloc _ _
  have hkB : Kept wA wB := by rw [← hwB]; exact (Kept.refl wA).alloc _ _
  have hsA : wA.heap.size = w.heap.size + 1 := by rw [← hwA]; simp
  have hbA : wA.heap[w.heap.size]? = some (.cells #[.pointer (some ⟨qa, 0, none⟩), .int .i64 (qb : Int), .int .i64 (qc : Int)] 76 (0, 0)) := by rw [← hwA]; exact World.alloc_heap_new w _
  have hbB := (hkB.2.2.2.2 w.heap.size (by omega)).trans hbA
  have hrB : wB.heap[w.heap.size + 1]? = some (.cells #[.int .i64 at_] 3 (0, 0)) := by rw [← hwB, ← hsA]; exact World.alloc_heap_new wA _
  have hkw : Kept w wB := gtrans hkA hkB
  have b0 : wB.cell? ⟨w.heap.size, 0, none⟩ = some (.pointer (some ⟨qa, 0, none⟩)) := by simp [World.cell?, hbB]
  have d8 := grown_cell hkw c8
  have HKW := hide1 hkw
  have hNB := HN.out.keep hkw
  have HSR := hide1 (search_is 64 #[.pointer (some ⟨w.heap.size, 0, none⟩), .pointer (some ⟨w.heap.size + 1, 0, none⟩)] (behP x (at_ - (qb : Int))) L wB (by omega) (fun i m hi => (over1_is B w.heap.size (w.heap.size + 1) (qa, qb, qc) x at_ i (wB.drewN m) hNB hbB hrB (by have := HL.out; omega) h0 h1).mono (fun e w' h => ⟨h.1, h.2.choose + m, by
      obtain ⟨m', hm'⟩ := h.2
      have e : h.2.choose = h.2.choose := rfl
      have h3 := h.2.choose_spec
      rw [World.drewN_drewN] at h3
      rw [Nat.add_comm]
      exact h3⟩)) HMM.out (enters_of Try.func64 (by kernel_rfl) rfl))
  rw [hwA, hwB]
  clear hwA hwB hkA hkB hsA hbA hbB hrB hkw c8 hNB
  go_wp2_with (go_at_call 63; refine HSR.out.mono ?_; rintro e w6 ⟨r, rfl, hr6, m6, hw6⟩; have HR6 := hide1 hr6; have hrb := hr6.1; have hrI : (r : Int) ≤ 4194304 := (by omega); have HK6 : Hid (Kept wB w6) := (by rw [hw6]; exact drewN_kept _ _); clear hr6 hw6)
  go_ret
  exact ⟨r, rfl, HR6.out, gtrans HKW.out HK6.out⟩

end Tr
end Ex
end Go.Proofs.Ythpampfbmpdmoaa
