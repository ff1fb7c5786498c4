import Derived.Test.YtenhifihbhbicaaTabStep
namespace Go.Proofs.Ytenhifihbhbicaa
open Go.RowKit
attribute [local go_sem] Oper.semAt_some
namespace Rope

theorem bytes_tells (S : Nat → Prop) (r : Value) (xs : List Int) (w : World) (h : RopeAt S w r xs) :
    Calls Try.prog 31 #[r] w fun e w' => ∃ g cap, e = .returned (.slice (some ⟨g, 0, none⟩) xs.length cap) ∧ Kept w w' ∧ ListAt All w' (.slice (some ⟨g, 0, none⟩) xs.length cap) xs := by
  refine (Bytes_any S r xs w h).mono ?_
  rintro e w' ⟨g, cap, rfl, hk, _, ho⟩
  exact ⟨g, cap, rfl, hk, to_all (ho.list h.byt)⟩

set_option maxRecDepth 100000 in
set_option maxHeartbeats 8000000 in
theorem whole_any {n0 tb : Nat} {S : Nat → Prop} {w : World} {L : List (List Int)} {vP vR vB : Value} {ps rs cs : List Value} (h : Tab n0 S w tb L L vP vR vB ps rs cs) (hL : (L.length : Int) ≤ 300) :
    Calls Try.prog 25 #[.pointer (some ⟨tb, 0, none⟩)] w fun e w' => e = .returned (.bool true) ∧ Kept w w' := by
  have HT := hide1 h
  obtain ⟨aP, cP, rfl⟩ := owns_form h.ownsP
  obtain ⟨aR, cR, rfl⟩ := owns_form h.ownsR
  clear h
  go_enter Try.func25, Try.ntmps25
  go_wp2_with fail
  go_loopw [3] (fun i wr => ∃ j : Nat, i = .int .i64 (j : Int) ∧ j ≤ L.length ∧ Hid (Kept w wr)) (fun i _ => L.length - (intOf i).toNat)
  case atStart => exact ⟨0, rfl, Nat.zero_le _, Kept.refl w⟩
  case round =>
    obtain ⟨j, rfl, hj, hk⟩ := hrel
    have HT1 := hide1 (HT.out.kept hk.out)
    have c0 := HT1.out.cellP
    have c1 := HT1.out.cellR
    by_cases hlt : (j : Int) < (L.length : Int)
    · obtain ⟨xs, hxs⟩ : ∃ xs, L[j]? = some xs := ⟨_, List.getElem?_eq_getElem (by omega)⟩
      obtain ⟨gP, cP', bP, eP, hcP, dP, hrP⟩ := HT1.out.atP hxs
      simp only [Value.slice.injEq] at eP
      obtain ⟨rfl, _, rfl⟩ := eP
      obtain ⟨gR, cR', bR, eR, hcR, dR, hrR⟩ := HT1.out.atR hxs
      simp only [Value.slice.injEq] at eR
      obtain ⟨rfl, _, rfl⟩ := eR
      obtain ⟨a1, p1, y1, z1⟩ := hrR.cell
      have HrP := hide1 hrP
      have HZ1 := hide1 z1
      have HX1 : Hid (xs.length ≤ 1000000000) := Nat.le_trans hrP.len (by decide)
      clear hrP hrR z1 hxs
      have hkr : Kept wr wr := Kept.refl wr
      have q0 := keeps c0
      have q1 := keeps c1
      have q2 := keeps dP
      have q3 := keeps dR
      have q4 := keeps y1
      go_wp2_with fail
      go_region_held3 (fun w' => Kept wr w') (first | assumption | exact Kept.refl _ | exact gtrans (by assumption) (by assumption))
        ((first | (go_at_call 16; refine (len_any S _ xs _ (HrP.out.kept (by assumption))).mono ?_; rintro e w3 ⟨rfl, hk3⟩) | (go_at_call 31; refine (bytes_tells S _ xs _ (HrP.out.kept (by assumption))).mono ?_; rintro e w4 ⟨g4, cap4, rfl, hk4, hl4⟩) | (go_at_call 22; refine (same_true All S _ _ xs _ (by first | exact hl4 | exact hl4.kept (by assumption)) (HZ1.out.kept (by assumption)) HX1.out).mono ?_; rintro e w5 ⟨rfl, hk5⟩)))
      all_goals
        have HK := hide1 (gtrans hk.out (gtrans (gtrans (gtrans (drew_kept wr) hk3) hk4) hk5))
        clear hk3 hk4 hk5 hl4 q0 q1 q2 q3 q4 hkr c0 c1 dP dR y1
        go_wp2
        go_roundw
        case rel => exact ⟨j + 1, by go_num, by omega, HK⟩
        case measure => simp [intOf]; omega
    · go_wp2
      go_ret
      exact ⟨rfl, hk.out⟩

end Rope
end Go.Proofs.Ytenhifihbhbicaa
