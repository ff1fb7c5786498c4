import Derived.Test.YtpbnjdnlgcfiiaaTrK4
import Derived.Test.YtpbnjdnlgcfiiaaTrH8
namespace Go.Proofs.Ytpbnjdnlgcfiiaa
open Go.RowKit
attribute [local go_sem] Oper.semAt_some
namespace Ex
namespace Tr

set_option linter.unusedSimpArgs false in
set_option maxRecDepth 100000 in
set_option maxHeartbeats 4000000 in
theorem numbers_is (base fb s0 s1 : Nat) (V : Nat → Prop) (P Q : List Nat) (N : Nat → Nd) (X : Nat → Rd) (m0 m1 : Nat) (vP vR vB : Value) (w : World) (hM : FoM base fb s0 s1 V P Q N X m0 m1 vP vR vB w) (hT : TwinOk s0 s1 m0 m1 P Q N X) (hP : P.length ≤ 1048576) :
    Calls Try.prog 25 #[.pointer (some ⟨fb, 0, none⟩)] w fun e w' => e = .returned (.bool true) ∧ Kept w w' := by
  obtain ⟨ap, cp, rfl⟩ := pown_form hM.2.2.2.1
  obtain ⟨aq, cq, rfl⟩ := hM.2.2.2.2.1.form
  have hc2 : w.cell? ⟨fb, 2, none⟩ = some (.slice ap P.length cp) := by simp [World.cell?, hM.1]
  have hc3 : w.cell? ⟨fb, 3, none⟩ = some (.slice aq Q.length cq) := by simp [World.cell?, hM.1]
  have HAT : Hid (∀ i : Nat, i < P.length → ∃ b d gp gq : Nat, ap = some ⟨gp, 0, none⟩ ∧ aq = some ⟨gq, 0, none⟩ ∧ P[i]? = some b ∧ Q[i]? = some d ∧ w.cell? ⟨gp, i, none⟩ = some (.pointer (some ⟨b, 0, none⟩)) ∧ w.cell? ⟨gq, i, none⟩ = some (.pointer (some ⟨d, 0, none⟩)) ∧ w.cell? ⟨d, 0, none⟩ = some (.int .i64 (X d).st) ∧ 1 ≤ (N b).num) := by
    intro i hi
    obtain ⟨b, hb⟩ : ∃ b, P[i]? = some b := ⟨_, List.getElem?_eq_getElem hi⟩
    obtain ⟨d, hd⟩ : ∃ d, Q[i]? = some d := ⟨_, List.getElem?_eq_getElem (by rw [← hT.1]; exact hi)⟩
    obtain ⟨gp, cp', e1, _, k1⟩ := hM.2.2.2.1.cell hb
    obtain ⟨gq, cq', e2, _, k2⟩ := hM.2.2.2.2.1.cell hd
    injection e1 with e1 _ _
    injection e2 with e2 _ _
    have hcd := ((hM.2.2.2.2.2.2.2.2.2.2.2 d (List.mem_of_getElem? hd)).is (fun k hk => (hM.2.2.2.2.2.2.2.2.2.1 k hk).2.1)).cells.1
    refine ⟨b, d, gp, gq, e1, e2, hb, hd, k1, k2, hcd, ?_⟩
    obtain ⟨_, _, st, s, m, _, hh⟩ := hT.2.2.2.1 i b d hb hd
    rcases hh with ⟨_, _, _, _, e, _⟩ | ⟨_, _, _, _, _, e, _⟩ <;> rw [e]
    · exact Nat.succ_le_succ (Nat.zero_le m)
    · exact Nat.succ_le_succ (Nat.zero_le m)
  have HNUM : Hid (∀ W b, DrewW w W → b ∈ P → Calls Try.prog 62 #[.pointer (some ⟨b, 0, none⟩)] W fun e w' => e = .returned (.int .i64 ((N b).num : Int)) ∧ w' = W) := fun W b hW hb => by
    obtain ⟨n, rfl⟩ := hW
    exact number_is (((hM.2.2.2.2.2.2.2.2.2.2.1 b hb).at (fun k hk => (hM.2.2.2.2.2.2.2.2.2.1 k hk).2.1)).keep (drewN_kept _ _))
  have HLESS : Hid (∀ (i k b b' d d' : Nat), k < i → P[i]? = some b → P[k]? = some b' → Q[i]? = some d → Q[k]? = some d' → (X d).st = (X d').st → (N b).num ≠ (N b').num) := by
    intro i k b b' d d' hki hb hb' hd hd' hst
    have h1 := (hT.2.2.2.1 i b d hb hd).st.2.1
    have h2 := (hT.2.2.2.1 k b' d' hb' hd').st.2.1
    have h3 := hT.2.2.2.2 k i b' b hki hb' hb (by omega)
    omega
  have hQ : Q.length = P.length := hT.1.symm
  rw [hQ] at hc3
  obtain ⟨L, hL⟩ : ∃ L, P.length = L := ⟨_, rfl⟩
  rw [hL] at hc2 hc3 HAT hP
  have hPI : (L : Int) ≤ 1048576 := by omega
  clear hM hT hQ hL
  go_enter Try.func25, Try.ntmps25
  go_wp2_with fail
  go_loopw [3] (fun vi wr => ∃ j : Nat, j ≤ L ∧ j ≤ 400 ∧ vi = .int .i64 (j : Int) ∧ Hid (DrewW w wr)) (fun vi _ => L - (intOf vi).toNat)
  case atStart => exact ⟨0, Nat.zero_le _, Nat.zero_le _, rfl, ⟨0, rfl⟩⟩
  case round =>
    obtain ⟨j, hj, hj4, rfl, HD⟩ := hrel
    have d2 : wr.cell? ⟨fb, 2, none⟩ = some (.slice ap L cp) := by obtain ⟨m, rfl⟩ := HD.out; exact hc2
    by_cases hlt : j < L ∧ j < 400
    · obtain ⟨b, d, gp, gq, rfl, rfl, hb, hd, k1, k2, k3, hn1⟩ := HAT.out j hlt.1
      have t1 : wr.cell? ⟨gp, j, none⟩ = some (.pointer (some ⟨b, 0, none⟩)) := by obtain ⟨m, rfl⟩ := HD.out; exact k1
      have hjI : (j : Int) < (L : Int) := by omega
      have hj4I : (j : Int) < 400 := by omega
      have hnI : ¬ ((N b).num : Int) < 1 := by omega
      have HB := hide1 hb
      have HDD := hide1 hd
      have HC := hide1 (HNUM.out wr b HD.out (List.mem_of_getElem? hb))
      have HLT := hide1 hlt
      obtain ⟨nb, hnb⟩ : ∃ nb, (N b).num = nb := ⟨_, rfl⟩
      rw [hnb] at HC hnI
      have HNB := hide1 hnb
      clear hb hd hlt hn1 hnb
      go_wp2_with (go_at_call 62; refine HC.out.mono ?_; rintro e w1 ⟨rfl, hw1⟩; have hw1 := hw1.symm; subst hw1)
      clear hnI
      go_loopw [4] (fun vk wq => ∃ k : Nat, k ≤ j ∧ vk = .int .i64 (k : Int) ∧ Hid (DrewW w wq)) (fun vk _ => j - (intOf vk).toNat)
      case atStart => exact ⟨0, Nat.zero_le _, rfl, HD⟩
      case round =>
        obtain ⟨k, hk, rfl, HQ⟩ := hrel
        by_cases hkj : k < j
        · obtain ⟨b', d', gp', gq', e1, e2, hb', hd', k1', k2', k3', _⟩ := HAT.out k (by have := HLT.out; omega)
          injection e1 with e1
          injection e1 with e1
          subst e1
          injection e2 with e2
          injection e2 with e2
          subst e2
          have u2 : wr.cell? ⟨fb, 2, none⟩ = some (.slice (some ⟨gp, 0, none⟩) L cp) := by obtain ⟨m, rfl⟩ := HQ.out; exact hc2
          have u3 : wr.cell? ⟨fb, 3, none⟩ = some (.slice (some ⟨gq, 0, none⟩) L cq) := by obtain ⟨m, rfl⟩ := HQ.out; exact hc3
          have v1 : wr.cell? ⟨gp, j, none⟩ = some (.pointer (some ⟨b, 0, none⟩)) := by obtain ⟨m, rfl⟩ := HQ.out; exact k1
          have v2 : wr.cell? ⟨gq, j, none⟩ = some (.pointer (some ⟨d, 0, none⟩)) := by obtain ⟨m, rfl⟩ := HQ.out; exact k2
          have v3 : wr.cell? ⟨d, 0, none⟩ = some (.int .i64 (X d).st) := by obtain ⟨m, rfl⟩ := HQ.out; exact k3
          have x1 : wr.cell? ⟨gp, k, none⟩ = some (.pointer (some ⟨b', 0, none⟩)) := by obtain ⟨m, rfl⟩ := HQ.out; exact k1'
          have x2 : wr.cell? ⟨gq, k, none⟩ = some (.pointer (some ⟨d', 0, none⟩)) := by obtain ⟨m, rfl⟩ := HQ.out; exact k2'
          have x3 : wr.cell? ⟨d', 0, none⟩ = some (.int .i64 (X d').st) := by obtain ⟨m, rfl⟩ := HQ.out; exact k3'
          have hm1 : b ∈ P := List.mem_of_getElem? HB.out
          have hm2 : b' ∈ P := List.mem_of_getElem? hb'
          have HNQ : Hid (∀ n c, c ∈ P → Calls Try.prog 62 #[.pointer (some ⟨c, 0, none⟩)] (wr.drewN n) fun e w' => e = .returned (.int .i64 ((N c).num : Int)) ∧ w' = wr.drewN n) := fun n c hc => HNUM.out _ c (by obtain ⟨m, rfl⟩ := HQ.out; exact ⟨m + n, by rw [World.drewN_drewN]⟩) hc
          have HNE := hide1 (HLESS.out j k b b' d d' hkj HB.out hb' HDD.out hd')
          have hkjI : (k : Int) < (j : Int) := by omega
          have hkLI : (k : Int) < (L : Int) := by omega
          obtain ⟨sa, hsa⟩ : ∃ sa, (X d).st = sa := ⟨_, rfl⟩
          obtain ⟨sb, hsb⟩ : ∃ sb, (X d').st = sb := ⟨_, rfl⟩
          rw [hsa] at v3
          rw [hsb] at x3
          rw [hsa, hsb] at HNE
          have hfin : ((sa == sb) = true ∧ (((N b).num : Int) == ((N b').num : Int)) = false) ∨ (sa == sb) = false := by
            by_cases h : sa = sb
            · refine Or.inl ⟨by simpa using h, ?_⟩
              have := HNE.out h
              simp
              omega
            · exact Or.inr (by simpa using h)
          clear k1 k2 k3 k1' k2' k3' hb' hd' hsa hsb HNE d2 t1
          rcases hfin with ⟨f1, f2⟩ | f1
          all_goals
            go_upto_region 9 with fail
            go_quiet ((go_at_call 62; exact Calls.quiet_of_same (HNQ.out _ _ (by first | exact hm1 | exact hm2))))
            go_wp2_with fail
            go_roundw
            case rel => exact ⟨k + 1, by omega, by go_num, (show DrewW w _ by obtain ⟨m, rfl⟩ := HQ.out; exact ⟨m + nq, by rw [World.drewN_drewN]⟩)⟩
            case measure => simp [intOf]; omega
        · have hkk : ¬ (k : Int) < (j : Int) := by omega
          go_wp2_with fail
          go_roundw
          case rel => exact ⟨j + 1, by have := HLT.out; omega, by have := HLT.out; omega, by go_num, HQ⟩
          case measure => simp [intOf]; have := HLT.out; omega
    · have hend : (L : Int) ≤ (j : Int) ∨ ((j : Int) < (L : Int) ∧ (400 : Int) ≤ (j : Int)) := by omega
      rcases hend with h | ⟨h, h4⟩
      all_goals
        go_wp2_with fail
        go_ret
        refine ⟨rfl, ?_⟩
        obtain ⟨m, rfl⟩ := HD.out
        exact drewN_kept _ _

end Tr
end Ex
end Go.Proofs.Ytpbnjdnlgcfiiaa
