import Derived.Test.YtpbnjdnlgcfiiaaTrK5
import Derived.Test.YtpbnjdnlgcfiiaaTrK6
import Derived.Test.YtpbnjdnlgcfiiaaTrH8
namespace Go.Proofs.Ytpbnjdnlgcfiiaa
open Go.RowKit
attribute [local go_sem] Oper.semAt_some
namespace Ex
namespace Tr

theorem script_nil (A : Nat) (w : World) : ScriptA A w (.slice none 0 0) [] := ⟨none, 0, rfl, Nat.le_refl _, Nat.zero_le _, Or.inl rfl⟩
theorem ScriptA.upK {A A' : Nat} {w : World} {v : Value} {l : List StepM} (h : ScriptA A w v l) (hA : A ≤ A') : ScriptA A' w v l := by
  have hI : ∀ {v : Value} {xs : List Int}, IntsA A w v xs → IntsA A' w v xs := by
    rintro v xs ⟨a, cap, h1, h2, h3, h4⟩
    refine ⟨a, cap, h1, h2, h3, ?_⟩
    rcases h4 with h4 | ⟨c, o, h5, h6, h7⟩
    · exact Or.inl h4
    · exact Or.inr ⟨c, o, h5, by omega, h7⟩
  obtain ⟨a, cap, h1, h2, h3, h4⟩ := h
  refine ⟨a, cap, h1, h2, h3, ?_⟩
  rcases h4 with h4 | ⟨c, o, h5, h6, h7⟩
  · exact Or.inl h4
  · refine Or.inr ⟨c, o, h5, by omega, fun i x hx => ?_⟩
    obtain ⟨kv, h8, h9⟩ := h7 i x hx
    exact ⟨kv, hI h8, h9⟩
set_option linter.unusedSimpArgs false in
set_option maxRecDepth 100000 in
set_option maxHeartbeats 4000000 in
theorem law_makes (v : Value) (l : List StepM) (w : World) (hS : ScriptA w.heap.size w v l) : Calls Try.prog 5 #[v] w fun e w' => e = .returned (.bool true) ∧ Kept w w' := by
  obtain ⟨a, cap, rfl, hcap, hl, hc⟩ := hS
  have HS : Hid (ScriptA w.heap.size w (.slice a l.length cap) l) := ⟨a, cap, rfl, hcap, hl, hc⟩
  clear hc
  have hlI : (l.length : Int) ≤ 1048576 := by omega
  have HGN := hide1 (grown_is (.slice none 0 0) [] w (script_nil _ _))
  go_enter Try.func5, Try.ntmps5
  go_wp2_with (go_at_call 8; refine HGN.out.mono ?_; rintro e w1 ⟨base, fb, s0, s1, rfl, hF1, hk1, hb1, hb2, hb3⟩; have HF1 := hide1 hF1; have HK1 := hide1 hk1; clear hF1 hk1)
  have HSZ : Hid (w.heap.size ≤ fb ∧ w.heap.size ≤ s0 ∧ w.heap.size ≤ s1) := ⟨hb1, hb2, hb3⟩
  have HF0 : Hid (FoI base fb s0 s1 0 w1 ∧ Kept w w1) := ⟨HF1.out, HK1.out⟩
  clear hb1 hb2 hb3 HF1 HK1
  go_loopw [5] (fun vi wr => ∃ j : Nat, j ≤ l.length ∧ vi = .int .i64 (j : Int) ∧ Hid (FoI base fb s0 s1 j wr ∧ Kept w wr)) (fun vi _ => l.length - (intOf vi).toNat)
  case atStart => exact ⟨0, Nat.zero_le _, rfl, HF0⟩
  case round =>
    obtain ⟨j, hj, rfl, HJ⟩ := hrel
    clear HF0
    by_cases hlt : j < l.length
    · obtain ⟨x, hx⟩ : ∃ x, l[j]? = some x := ⟨_, List.getElem?_eq_getElem hlt⟩
      obtain ⟨c, o, kv, rfl, hki, hcx⟩ : ∃ c o kv, a = some ⟨c, o, none⟩ ∧ IntsA w.heap.size wr kv x.kids ∧ ∀ (i : Nat) (u : Value), (stepC x kv)[i]? = some u → wr.cell? ⟨c, o + j * 9 + i, none⟩ = some u := by
        obtain ⟨a2, c2, e2, _, _, h4⟩ := HS.out.ka (HJ.out.2.ka (Nat.le_refl _))
        injection e2 with e2
        subst e2
        rcases h4 with h4 | ⟨c, o, h5, _, h7⟩
        · rw [h4] at hlt
          simp at hlt
        · obtain ⟨kv, h8, h9⟩ := h7 j x hx
          exact ⟨c, o, kv, h5, h8, h9⟩
      have hjI : (j : Int) < (l.length : Int) := by omega
      have d0 : wr.cell? ⟨c, o + j * 9, none⟩ = some (.int .i64 x.st) := hcx 0 _ rfl
      have d1 : wr.cell? ⟨c, o + j * 9 + 1, none⟩ = some (.bool x.isl) := hcx 1 _ rfl
      have d2 : wr.cell? ⟨c, o + j * 9 + 2, none⟩ = some (.int .i64 x.l0) := hcx 2 _ rfl
      have d3 : wr.cell? ⟨c, o + j * 9 + 3, none⟩ = some (.int .i64 x.l1) := hcx 3 _ rfl
      have d4 : wr.cell? ⟨c, o + j * 9 + 4, none⟩ = some (.int .i64 x.l2) := hcx 4 _ rfl
      have d5 : wr.cell? ⟨c, o + j * 9 + 5, none⟩ = some (.int .i64 x.l3) := hcx 5 _ rfl
      have d6 : wr.cell? ⟨c, o + j * 9 + 6, none⟩ = some (.int .i64 x.kd) := hcx 6 _ rfl
      have d7 : wr.cell? ⟨c, o + j * 9 + 7, none⟩ = some (.int .i64 x.nn) := hcx 7 _ rfl
      have d8 : wr.cell? ⟨c, o + j * 9 + 8, none⟩ = some kv := hcx 8 _ rfl
      have HST := hide1 (step_is base fb s0 s1 w.heap.size j x.st x.isl x.l0 x.l1 x.l2 x.l3 x.kd x.nn kv x.kids wr HJ.out.1 (by have := HSZ.out; omega) (by omega) hki)
      obtain ⟨V, P, Q, N, X, m0, m1, vP, vR, vB, hM, hT, hP⟩ := HJ.out.1
      obtain ⟨ap, cpp, rfl⟩ := pown_form hM.2.2.2.1
      have f2 : wr.cell? ⟨fb, 2, none⟩ = some (.slice ap P.length cpp) := by simp [World.cell?, hM.1]
      obtain ⟨pn, hpn⟩ : ∃ pn, P.length = pn := ⟨_, rfl⟩
      rw [hpn] at f2 hP
      clear hcx hki hx hM hT hpn
      go_wp2_with fail
      refine HST.out.mono ?_
      rintro e w5 ⟨rfl, hF5, hk5⟩
      have HK5 := hide1 (KA.kept HJ.out.2 hk5)
      have HF5 := hide1 hF5
      obtain ⟨V', P', Q', N', X', m0', m1', vP', vR', vB', hM', hT', hP'⟩ := hF5
      have HASK : Hid (pn < P'.length → Calls Try.prog 24 #[.pointer (some ⟨fb, 0, none⟩), .int .i64 (pn : Int)] w5 fun e w' => e = .returned (.bool true) ∧ Kept w5 w') := fun h => asked_is base fb s0 s1 V' P' Q' N' X' m0' m1' vP' vR' vB' pn w5 hM' hT' (by omega) h
      obtain ⟨ap', cpp', rfl⟩ := pown_form hM'.2.2.2.1
      have f2' : w5.cell? ⟨fb, 2, none⟩ = some (.slice ap' P'.length cpp') := by simp [World.cell?, hM'.1]
      obtain ⟨pn', hpn'⟩ : ∃ pn', P'.length = pn' := ⟨_, rfl⟩
      rw [hpn'] at f2' HASK
      clear hM' hT' hk5 d0 d1 d2 d3 d4 d5 d6 d7 d8 f2 hpn' hP'
      by_cases hgt : pn < pn'
      · have hgI : (pn : Int) < (pn' : Int) := by omega
        have HA := hide1 (HASK.out hgt)
        clear hgt
        go_wp2_with (go_at_call 24; refine HA.out.mono ?_; rintro e w6 ⟨rfl, hk6⟩; have HK6 := hide1 hk6; clear hk6)
        go_roundw
        case rel =>
          refine ⟨j + 1, by omega, by go_num, ?_, gtrans HK5.out HK6.out⟩
          obtain ⟨V', P', Q', N', X', m0', m1', vP', vR', vB', hM', hT', hP'⟩ := HF5.out
          exact ⟨V', P', Q', N', X', m0', m1', vP', vR', vB', hM'.keep HK6.out, hT', hP'⟩
        case measure => simp [intOf]; omega
      · have hgI : ¬ (pn : Int) < (pn' : Int) := by omega
        clear hgt
        go_wp2_with fail
        go_roundw
        case rel => exact ⟨j + 1, by omega, by go_num, HF5.out, HK5.out⟩
        case measure => simp [intOf]; omega
    · have hjL : j = l.length := by omega
      subst hjL
      obtain ⟨V, P, Q, N, X, m0, m1, vP, vR, vB, hM, hT, hP⟩ := HJ.out.1
      obtain ⟨ap, cpp, rfl⟩ := pown_form hM.2.2.2.1
      have HM := hide1 hM
      have HT := hide1 hT
      obtain ⟨L, hL⟩ : ∃ L, P.length = L := ⟨_, rfl⟩
      have hLI : (L : Int) ≤ 1048576 := by omega
      have f2 : wr.cell? ⟨fb, 2, none⟩ = some (.slice ap L cpp) := by rw [← hL]; simp [World.cell?, hM.1]
      have HLL := hide1 hL
      have HW1 : Hid (Kept w wr) := HJ.out.2
      clear hM hT hL HJ
      go_wp2_with fail
      clear f2
      go_loopw [7] (fun vi wq => ∃ k : Nat, k ≤ L ∧ vi = .int .i64 (k : Int) ∧ Hid (Kept wr wq)) (fun vi _ => L - (intOf vi).toNat)
      case atStart => exact ⟨0, Nat.zero_le _, rfl, Kept.refl _⟩
      case round =>
        obtain ⟨k, hk, rfl, HQ⟩ := hrel
        have HM2 := hide1 (HM.out.keep HQ.out)
        have g2 : wr.cell? ⟨fb, 2, none⟩ = some (.slice ap L cpp) := by rw [← HLL.out]; simp [World.cell?, HM2.out.1]
        by_cases hkL : k < L
        · have HA := hide1 (asked_is base fb s0 s1 V P Q N X m0 m1 _ vR vB k wr HM2.out HT.out (by omega) (by rw [HLL.out]; exact hkL))
          have hkI : (k : Int) < (L : Int) := by omega
          go_wp2_with (go_at_call 24; refine HA.out.mono ?_; rintro e w6 ⟨rfl, hk6⟩; have HK6 := hide1 hk6; clear hk6)
          go_roundw
          case rel => exact ⟨k + 1, by omega, by go_num, gtrans HQ.out HK6.out⟩
          case measure => simp [intOf]; omega
        · have hkI : ¬ (k : Int) < (L : Int) := by omega
          have HN := hide1 (numbers_is base fb s0 s1 V P Q N X m0 m1 _ vR vB wr HM2.out HT.out (by omega))
          go_wp2_with (go_at_call 25; refine HN.out.mono ?_; rintro e w6 ⟨rfl, hk6⟩; have HK6 := hide1 hk6; clear hk6)
          go_ret
          exact ⟨rfl, gtrans (gtrans HW1.out HQ.out) HK6.out⟩

end Tr
end Ex
end Go.Proofs.Ytpbnjdnlgcfiiaa
