import Derived.Test.YthpampfbmpdmoaaTrH0
namespace Go.Proofs.Ythpampfbmpdmoaa
open Go.RowKit
attribute [local go_sem] Oper.semAt_some
namespace Ex
namespace Tr

/-- A sum over children. -/
def sumF (f : Nat → Nat) (ks : List Nat) : Nat := (ks.map f).sum
theorem sumF_take {f : Nat → Nat} {ks : List Nat} {j b : Nat} (h : ks[j]? = some b) : sumF f (ks.take (j + 1)) = sumF f (ks.take j) + f b := by
  unfold sumF
  rw [List.take_add_one, h]
  simp
theorem sumF_part (f : Nat → Nat) : ∀ (ks : List Nat) (j : Nat), sumF f (ks.take j) ≤ sumF f ks
  | [], j => by simp [sumF]
  | b :: ks, 0 => by simp [sumF]
  | b :: ks, j + 1 => by
    have := sumF_part f ks j
    simp only [sumF, List.take_succ_cons, List.map_cons, List.sum_cons] at this ⊢
    omega
theorem sizeR_mem {X : Nat → Rd} {ks : List Nat} {k : Nat} (h : k ∈ ks) : (X k).size ≤ sizeR X ks := by
  induction ks with
  | nil => cases h
  | cons b ks ih =>
    simp only [sizeR, List.map_cons, List.sum_cons] at ih ⊢
    rcases List.mem_cons.1 h with e | e
    · subst e
      omega
    · have := ih e
      omega
/-- The document's nodes R, their leaves' bytes wd. -/
def RFor (R : Nat → Prop) (X : Nat → Rd) (wd : Nat → Nat) (B : Nat) (w : World) : Prop := ∀ d, R d → RAt 0 B w d (X d) ∧ (∀ k ∈ (X d).kids, R k) ∧ (X d).size = 1 + sizeR X (X d).kids ∧ ((X d).kind = 1 → wd d = countP (X d).l1 + countP (X d).l2 ∧ (X d).kids = []) ∧ ((X d).kind ≠ 1 → wd d = sumF wd (X d).kids) ∧ wd d ≤ (X d).size * 524288 ∧ (X d).size ≤ 4194304
theorem RAt.kb {B b : Nat} {w w' : World} {x : Rd} (h : RAt 0 B w b x) (hk : KB B w w') : RAt 0 B w' b x := by
  obtain ⟨h0, h1, kv, h2, a, cap, h3, h4, h5⟩ := h
  refine ⟨h0, h1, kv, (hk.2 b h1).trans h2, a, cap, h3, h4, ?_⟩
  rcases h5 with h5 | ⟨g, e, g0, g1, g2, g3⟩
  · exact Or.inl h5
  · exact Or.inr ⟨g, e, g0, g1, Nat.lt_of_lt_of_le g2 hk.1, fun i k hi => (World.cell?_of_block (w := w) (a := ⟨g, i, none⟩) (hk.2 g g1)).trans (g3 i k hi)⟩
theorem RFor.kb {R : Nat → Prop} {X : Nat → Rd} {wd : Nat → Nat} {B : Nat} {w w' : World} (h : RFor R X wd B w) (hk : KB B w w') : RFor R X wd B w' := fun d hd => ⟨(h d hd).1.kb hk, (h d hd).2⟩
theorem RIs.more {b : Nat} {w : World} {x : Rd} (h : RIs w b x) : w.cell? ⟨b, 3, none⟩ = some (.int .i64 x.n) ∧ w.cell? ⟨b, 4, none⟩ = some (.int .i64 x.l0) ∧ w.cell? ⟨b, 5, none⟩ = some (.int .i64 x.l1) ∧ w.cell? ⟨b, 6, none⟩ = some (.int .i64 x.l2) ∧ w.cell? ⟨b, 7, none⟩ = some (.int .i64 x.l3) ∧
    ∃ a cap, w.cell? ⟨b, 8, none⟩ = some (.slice a x.kids.length cap) ∧ x.kids.length ≤ 4194304 ∧ ∀ (i k : Nat), x.kids[i]? = some k → ∃ g, a = some ⟨g, 0, none⟩ ∧ w.cell? ⟨g, i, none⟩ = some (.pointer (some ⟨k, 0, none⟩)) := by
  obtain ⟨A, B, _, h0, kv, h1, a, cap, rfl, h3, h4⟩ := h
  refine ⟨?_, ?_, ?_, ?_, ?_, a, cap, ?_, h3, fun i k hi => ?_⟩
  iterate 6 simp [World.cell?, h1, cellsR]
  rcases h4 with h4 | ⟨g, e, _, _, _, h5⟩
  · rw [h4] at hi
    simp at hi
  · exact ⟨g, e, h5 i k hi⟩

section
variable {w : World}
set_option linter.unusedSimpArgs false
set_option maxRecDepth 100000
theorem rbytes_is (n : Int) : Calls Try.prog 66 #[.int .i64 n] w fun e w' => e = .returned (.int .i64 (countP n : Int)) ∧ w' = w := by
  have hc : (n < 0 ∨ 262144 < n → countP n = 0) ∧ (0 ≤ n → n ≤ 262144 → (countP n : Int) = n) := by
    unfold countP
    constructor
    · intro h
      split <;> omega
    · intro h1 h2
      split <;> omega
  have HC := hide1 hc
  clear hc
  go_enter Try.func66, Try.ntmps66
  by_cases h1 : n < 0
  · go_wp2_with fail
    go_ret
    exact ⟨by rw [HC.out.1 (Or.inl h1)]; rfl, rfl⟩
  · by_cases h2 : 262144 < n
    · go_wp2_with fail
      go_ret
      exact ⟨by rw [HC.out.1 (Or.inr h2)]; rfl, rfl⟩
    · go_wp2_with fail
      go_ret
      exact ⟨by rw [HC.out.2 (by omega) (by omega)]; rfl, rfl⟩
end
def DrewW (w w' : World) : Prop := ∃ m, w' = w.drewN m
theorem RFor.drew {R : Nat → Prop} {X : Nat → Rd} {wd : Nat → Nat} {B : Nat} {w : World} (h : RFor R X wd B w) (n : Nat) : RFor R X wd B (w.drewN n) := h.kb ⟨Nat.le_refl _, fun _ _ => rfl⟩
set_option linter.unusedSimpArgs false in
set_option maxRecDepth 100000 in
set_option maxHeartbeats 2000000 in
theorem rwidth_is {R : Nat → Prop} {X : Nat → Rd} {wd : Nat → Nat} {B : Nat} : ∀ (z d : Nat) (w : World), RFor R X wd B w → R d → (X d).size ≤ z → Calls Try.prog 52 #[.pointer (some ⟨d, 0, none⟩)] w fun e w' => e = .returned (.int .i64 (wd d : Int)) ∧ ∃ m, w' = w.drewN m := by
  intro z
  induction z with
  | zero =>
    intro d w hF hd hz
    have := (hF d hd).2.2.1
    omega
  | succ z ih =>
    intro d w hF hd hz
    obtain ⟨hI0, hK, hS, hL, hN, hW, hZ⟩ := hF d hd
    have hI : RIs w d (X d) := ⟨0, B, hI0⟩
    obtain ⟨_, _, c2, _⟩ := hI.cells
    obtain ⟨_, c4, c5, c6, c7, a, cap, c8, hkl, hkc⟩ := hI.more
    have HF := hide1 hF
    have HIH := hide1 ih
    have HK := hide1 hK
    have hlI : ((X d).kids.length : Int) ≤ 4194304 := by omega
    have HKC := hide1 hkc
    have HS := hide1 hS
    clear hF ih hK hkc hI hI0
    go_enter Try.func52, Try.ntmps52
    by_cases hk : (X d).kind = 1
    · have HW := hide1 (hL hk).1
      rw [hk] at c2
      have b1 : countP (X d).l1 ≤ 262144 := by unfold countP; split <;> omega
      have b2 : countP (X d).l2 ≤ 262144 := by unfold countP; split <;> omega
      have hbI1 : (countP (X d).l1 : Int) ≤ 262144 := by omega
      have hbI2 : (countP (X d).l2 : Int) ≤ 262144 := by omega
      rw [HW.out]
      clear hN hL hS hW b1 b2 HW
      generalize (X d).l1 = u1 at *
      generalize (X d).l2 = u2 at *
      go_wp2_with (go_quiet ((go_at_call 66; exact Calls.quiet_of_same (rbytes_is _))))
      go_ret
      exact ⟨by rw [Int.natCast_add]; rfl, _, rfl⟩
    · have HW := hide1 (hN hk)
      have HWd := hide1 hW
      clear hN hL hW
      have hkb : ((X d).kind == 1) = false := by simp [hk]
      go_wp2_with fail
      clear hk hkb
      go_loopw [3, 4] (fun vn vi wr => ∃ j : Nat, j ≤ (X d).kids.length ∧ vi = .int .i64 (j : Int) ∧ vn = .int .i64 (sumF wd ((X d).kids.take j) : Int) ∧ Hid (DrewW w wr)) (fun _ vi _ => (X d).kids.length - (intOf vi).toNat)
      case atStart => exact ⟨0, Nat.zero_le _, rfl, by simp [sumF], ⟨0, rfl⟩⟩
      case round =>
        obtain ⟨j, hj, rfl, rfl, HD⟩ := hrel
        have d8 : wr.cell? ⟨d, 8, none⟩ = some (.slice a (X d).kids.length cap) := by obtain ⟨m, rfl⟩ := HD.out; exact c8
        by_cases hlt : j < (X d).kids.length
        · obtain ⟨k, hkj⟩ : ∃ k, (X d).kids[j]? = some k := ⟨_, List.getElem?_eq_getElem hlt⟩
          obtain ⟨g, rfl, t0⟩ := HKC.out j k hkj
          have t1 : wr.cell? ⟨g, j, none⟩ = some (.pointer (some ⟨k, 0, none⟩)) := by obtain ⟨m, rfl⟩ := HD.out; exact t0
          have HT := hide1 (sumF_take (f := wd) hkj)
          have HP := sumF_part wd (X d).kids (j + 1)
          rw [HT.out, ← HW.out] at HP
          have hW := HWd.out
          have hkm := List.mem_of_getElem? hkj
          have HC := hide1 (HIH.out k wr (by obtain ⟨m, rfl⟩ := HD.out; exact HF.out.drew m) (HK.out k hkm) (by have := sizeR_mem (X := X) hkm; have := HS.out; omega))
          obtain ⟨S0, hS0⟩ : ∃ S0, sumF wd ((X d).kids.take j) = S0 := ⟨_, rfl⟩
          obtain ⟨z1, hz1⟩ : ∃ z1, wd k = z1 := ⟨_, rfl⟩
          rw [hS0, hz1] at HT HP
          rw [hz1] at HC
          rw [hS0]
          have hjI : (j : Int) < ((X d).kids.length : Int) := by omega
          have hSI : (S0 : Int) + (z1 : Int) ≤ 2305843009213693952 := by omega
          clear hkj hS0 hz1 HP hW hkm hS t0
          go_wp2_with (go_at_call 52; refine HC.out.mono ?_; rintro e w1 ⟨rfl, hw1⟩; have HW1 := hide1 hw1; clear hw1)
          go_roundw
          case rel => exact ⟨j + 1, by omega, by go_num, by rw [HT.out]; go_num, (show DrewW w w1 by obtain ⟨m, rfl⟩ := HD.out; obtain ⟨m1, rfl⟩ := HW1.out; exact ⟨m + m1, by rw [World.drewN_drewN]⟩)⟩
          case measure => simp [intOf]; omega
        · have hjj : j = (X d).kids.length := by omega
          rw [hjj, List.take_length]
          clear hlt hj
          go_wp2_with fail
          go_ret
          exact ⟨by rw [HW.out]; rfl, HD.out⟩

end Tr
end Ex
end Go.Proofs.Ythpampfbmpdmoaa
