import Derived.Test.YthpampfbmpdmoaaTrH8
namespace Go.Proofs.Ythpampfbmpdmoaa
open Go.RowKit
attribute [local go_sem] Oper.semAt_some
namespace Ex
namespace Tr

/-- What last tells. -/
def LastR (P : List Nat) (N : Nat → Nd) (e : Ending) : Prop := e = .returned (.int .i64 (-1)) ∨ ∃ i b : Nat, e = .returned (.int .i64 (i : Int)) ∧ P[i]? = some b ∧ (N b).size ≤ 4000
set_option linter.unusedSimpArgs false in
set_option maxRecDepth 100000 in
set_option maxHeartbeats 4000000 in
theorem last_is (base fb s0 s1 : Nat) (V : Nat → Prop) (P Q : List Nat) (N : Nat → Nd) (X : Nat → Rd) (m0 m1 : Nat) (vP vR vB : Value) (w : World) (hM : FoM base fb s0 s1 V P Q N X m0 m1 vP vR vB w) (hT : TwinOk s0 s1 m0 m1 P Q N X) (hP : P.length ≤ 1048576) :
    Calls Try.prog 6 #[.pointer (some ⟨fb, 0, none⟩)] w fun e w' => w' = w ∧ LastR P N e := by
  obtain ⟨a, cap, rfl⟩ := hM.2.2.2.2.1.form
  have hc3 : w.cell? ⟨fb, 3, none⟩ = some (.slice a Q.length cap) := by simp [World.cell?, hM.1]
  have HM := hide1 hM
  have HT := hide1 hT
  have hQ : Q.length ≤ 1048576 := by rw [← hT.1]; exact hP
  have hQI : (Q.length : Int) ≤ 1048576 := by omega
  clear hM hT
  go_enter Try.func6, Try.ntmps6
  go_wp2_with fail
  go_loopw [3] (fun vi wr => wr = w ∧ ∃ j : Nat, j ≤ Q.length ∧ vi = .int .i64 ((j : Int) - 1)) (fun vi _ => (intOf vi + 1).toNat)
  case atStart => exact ⟨rfl, Q.length, Nat.le_refl _, by go_num⟩
  case round =>
    obtain ⟨rfl, j, hj, rfl⟩ := hrel
    rcases Nat.eq_zero_or_pos j with hz | hpos
    · subst hz
      rw [show (((0 : Nat) : Int) - 1) = -1 from rfl]
      go_wp2_with fail
      go_ret
      exact ⟨rfl, Or.inl rfl⟩
    · obtain ⟨i, rfl⟩ : ∃ i, j = i + 1 := ⟨j - 1, by omega⟩
      rw [show (((i + 1 : Nat) : Int) - 1) = (i : Int) by omega]
      obtain ⟨d, hd⟩ : ∃ d, Q[i]? = some d := ⟨_, List.getElem?_eq_getElem (by omega)⟩
      obtain ⟨b, hb⟩ : ∃ b, P[i]? = some b := ⟨_, List.getElem?_eq_getElem (by rw [HT.out.1]; omega)⟩
      obtain ⟨gq, cq, e, _, hcell⟩ := HM.out.2.2.2.2.1.cell hd
      injection e with e1 e2 e3
      subst e1 e3
      have hc9 := ((HM.out.2.2.2.2.2.2.2.2.2.2.2 d (List.mem_of_getElem? hd)).is (fun k hk => (HM.out.2.2.2.2.2.2.2.2.2.1 k hk).2.1)).cells.2.2.2
      have hp := HT.out.2.2.2.1 i b d hb hd
      have hsz := hp.2.1
      have hle := hp.1.2.1
      obtain ⟨z, hz⟩ : ∃ z, (X d).size = z := ⟨_, rfl⟩
      rw [hz] at hc9 hsz
      rw [hsz] at hle
      have HSZ := hide1 hsz
      have HB := hide1 hb
      have hiI : (i : Int) < (Q.length : Int) := by omega
      clear hp hz hb hd hsz
      by_cases hq : z ≤ 4000
      · have hqI : (z : Int) ≤ 4000 := by omega
        go_wp2_with fail
        go_ret
        exact ⟨rfl, Or.inr ⟨i, b, rfl, HB.out, by rw [HSZ.out]; exact hq⟩⟩
      · have hqI : ¬ (z : Int) ≤ 4000 := by omega
        go_wp2_with fail
        go_roundw
        case rel => exact ⟨by first | rfl | trivial, i, by omega, by go_num⟩
        case measure => simp [intOf]

end Tr
end Ex
end Go.Proofs.Ythpampfbmpdmoaa
