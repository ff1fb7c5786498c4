import Derived.Test.YtpbnjdnlgcfiiaaTrV3
namespace Go.Proofs.Ytpbnjdnlgcfiiaa
open Go.RowKit
attribute [local go_sem] Oper.semAt_some
namespace Ex
namespace Tr

/-- How many leaves the document's nodes have. -/
def RLf (R : Nat → Prop) (X : Nat → Rd) (lf : Nat → Nat) : Prop := ∀ d, R d → ((X d).kind = 1 → lf d = 1) ∧ ((X d).kind ≠ 1 → lf d = sumF lf (X d).kids) ∧ lf d ≤ (X d).size
/-- Whether they have failed by themselves. -/
def ownF (x : Rd) : Bool := x.kind == 3 || x.kind == 5 || x.kind == 1 && x.n == -1
def RFl (R : Nat → Prop) (X : Nat → Rd) (fl : Nat → Bool) : Prop := ∀ d, R d → fl d = (ownF (X d) || (X d).kids.any fl)
theorem rlf_of {s0 s1 m0 m1 : Nat} {P Q : List Nat} {N : Nat → Nd} {X : Nat → Rd} (hT : TwinOk s0 s1 m0 m1 P Q N X) : RLf (fun d => d ∈ Q) X (fun d => (N (btw P X d)).leafs) ∧ RFl (fun d => d ∈ Q) X (fun d => (N (btw P X d)).failed) := by
  have key : ∀ d, d ∈ Q → ((X d).kind = 1 → (N (btw P X d)).leafs = 1) ∧ ((X d).kind ≠ 1 → (N (btw P X d)).leafs = sumF (fun k => (N (btw P X k)).leafs) (X d).kids) ∧ (N (btw P X d)).failed = (ownF (X d) || (X d).kids.any fun k => (N (btw P X k)).failed) := by
    intro d hd
    obtain ⟨_, _, _, _, _, _, _, _, _, i, hi, hp, hpl⟩ := twin_of hT hd
    have hiP := (List.getElem?_eq_some_iff.1 hp).1
    have hjs : ∀ j, j < P.length → btw P X (at_ Q j) = at_ P j := by
      intro j hj
      unfold btw
      rw [(hT.pair hj).st.1]
      rfl
    obtain ⟨_, _, st, s, m, _, hh⟩ := hT.2.2.2.1 i _ d hp hi
    rcases hh with ⟨l0, l1, l2, l3, e1, e2⟩ | ⟨kd, n, js, hm, hj, e1, e2⟩
    · rw [e1, e2]
      refine ⟨fun _ => rfl, fun h => absurd rfl h, ?_⟩
      simp [leafN, ownF, rplace, leafR]
    · have ek : (X d).kids = js.map (at_ Q) := by rw [e2]; rfl
      have hmap : ∀ {β : Type} (f : Nat → β), (js.map (at_ Q)).map (fun k => f (btw P X k)) = (js.map (at_ P)).map f := by
        intro β f
        rw [List.map_map, List.map_map]
        refine List.map_congr_left (fun j hj' => ?_)
        simp only [Function.comp_apply]
        rw [hjs j (Nat.lt_trans (hj j hj') hiP)]
      have hkd : (X d).kind = kd := by rw [e2]; rfl
      have hc := may_cases hm
      refine ⟨fun h => by rw [hkd] at h; omega, fun _ => ?_, ?_⟩
      · rw [ek, e1]
        show leafS N (js.map (at_ P)) = _
        unfold leafS sumF
        rw [hmap (fun b => (N b).leafs)]
      · rw [ek, e1]
        show failS N (kd == 3 || kd == 5) (js.map (at_ P)) = _
        have hn1 : (kd == 1) = false := by simp; omega
        have ho : ownF (X d) = (kd == 3 || kd == 5) := by
          unfold ownF
          rw [hkd, hn1]
          simp
        rw [ho]
        unfold failS
        congr 1
        have h9 := congrArg (fun l => List.any l id) (hmap (fun b => (N b).failed))
        simp only [List.any_map] at h9
        simp only [List.any_map]
        simpa [Function.comp_def] using h9.symm
  refine ⟨fun d hd => ⟨(key d hd).1, (key d hd).2.1, ?_⟩, fun d hd => (key d hd).2.2⟩
  obtain ⟨_, _, _, hs, hok, _⟩ := twin_of hT hd
  rw [← hs]
  exact hok.2.2.2
set_option linter.unusedSimpArgs false in
set_option maxRecDepth 100000 in
set_option maxHeartbeats 2000000 in
theorem rleafs_is {R : Nat → Prop} {X : Nat → Rd} {wd lf : Nat → Nat} {B : Nat} (hL : RLf R X lf) : ∀ (z d : Nat) (w : World), RFor R X wd B w → R d → (X d).size ≤ z → Calls Try.prog 57 #[.pointer (some ⟨d, 0, none⟩)] w fun e w' => e = .returned (.int .i64 (lf d : Int)) ∧ ∃ m, w' = w.drewN m := by
  intro z
  induction z with
  | zero =>
    intro d w hF hd hz
    have := (hF d hd).2.2.1
    omega
  | succ z ih =>
    intro d w hF hd hz
    obtain ⟨hI0, hK, hS, _, _, _, hZ⟩ := hF d hd
    obtain ⟨hL1, hL2, hL3⟩ := hL d hd
    have hI : RIs w d (X d) := ⟨0, B, hI0⟩
    obtain ⟨_, _, c2, _⟩ := hI.cells
    obtain ⟨_, _, _, _, _, a, cap, c8, hkl, hkc⟩ := hI.more
    have HF := hide1 hF
    have HIH := hide1 ih
    have HK := hide1 hK
    have hlI : ((X d).kids.length : Int) ≤ 4194304 := by omega
    have HKC := hide1 hkc
    have HS := hide1 hS
    clear hF ih hK hkc hI hI0
    go_enter Try.func57, Try.ntmps57
    by_cases hk : (X d).kind = 1
    · have HW := hide1 (hL1 hk)
      rw [hk] at c2
      clear hL1 hL2 hS
      go_wp2_with fail
      go_ret
      exact ⟨by rw [HW.out]; rfl, 0, rfl⟩
    · have HW := hide1 (hL2 hk)
      have HWd := hide1 hL3
      clear hL1 hL2 hL3
      have hkb : ((X d).kind == 1) = false := by simp [hk]
      go_wp2_with fail
      clear hk hkb
      go_loopw [3, 4] (fun vn vi wr => ∃ j : Nat, j ≤ (X d).kids.length ∧ vi = .int .i64 (j : Int) ∧ vn = .int .i64 (sumF lf ((X d).kids.take j) : Int) ∧ Hid (DrewW w wr)) (fun _ vi _ => (X d).kids.length - (intOf vi).toNat)
      case atStart => exact ⟨0, Nat.zero_le _, rfl, by simp [sumF], ⟨0, rfl⟩⟩
      case round =>
        obtain ⟨j, hj, rfl, rfl, HD⟩ := hrel
        have d8 : wr.cell? ⟨d, 8, none⟩ = some (.slice a (X d).kids.length cap) := by obtain ⟨m, rfl⟩ := HD.out; exact c8
        by_cases hlt : j < (X d).kids.length
        · obtain ⟨k, hkj⟩ : ∃ k, (X d).kids[j]? = some k := ⟨_, List.getElem?_eq_getElem hlt⟩
          obtain ⟨g, rfl, t0⟩ := HKC.out j k hkj
          have t1 : wr.cell? ⟨g, j, none⟩ = some (.pointer (some ⟨k, 0, none⟩)) := by obtain ⟨m, rfl⟩ := HD.out; exact t0
          have HT := hide1 (sumF_take (f := lf) hkj)
          have HP := sumF_part lf (X d).kids (j + 1)
          rw [HT.out, ← HW.out] at HP
          have hW := HWd.out
          have hkm := List.mem_of_getElem? hkj
          have HC := hide1 (HIH.out k wr (by obtain ⟨m, rfl⟩ := HD.out; exact HF.out.drew m) (HK.out k hkm) (by have := sizeR_mem (X := X) hkm; have := HS.out; omega))
          obtain ⟨S0, hS0⟩ : ∃ S0, sumF lf ((X d).kids.take j) = S0 := ⟨_, rfl⟩
          obtain ⟨z1, hz1⟩ : ∃ z1, lf k = z1 := ⟨_, rfl⟩
          rw [hS0, hz1] at HT HP
          rw [hz1] at HC
          rw [hS0]
          have hjI : (j : Int) < ((X d).kids.length : Int) := by omega
          have hSI : (S0 : Int) + (z1 : Int) ≤ 2305843009213693952 := by omega
          clear hkj hS0 hz1 HP hW hkm hS t0
          go_wp2_with (go_at_call 57; refine HC.out.mono ?_; rintro e w1 ⟨rfl, hw1⟩; have HW1 := hide1 hw1; clear hw1)
          go_roundw
          case rel => exact ⟨j + 1, by omega, by go_num, by rw [HT.out]; go_num, (show DrewW w w1 by obtain ⟨m, rfl⟩ := HD.out; obtain ⟨m1, rfl⟩ := HW1.out; exact ⟨m + m1, by rw [World.drewN_drewN]⟩)⟩
          case measure => simp [intOf]; omega
        · have hjj : j = (X d).kids.length := by omega
          rw [hjj, List.take_length]
          clear hlt hj
          go_wp2_with fail
          go_ret
          exact ⟨by rw [HW.out]; rfl, HD.out⟩

set_option linter.unusedSimpArgs false in
set_option maxRecDepth 100000 in
set_option maxHeartbeats 2000000 in
theorem rfailed_is {R : Nat → Prop} {X : Nat → Rd} {wd : Nat → Nat} {fl : Nat → Bool} {B : Nat} (hL : RFl R X fl) : ∀ (z d : Nat) (w : World), RFor R X wd B w → R d → (X d).size ≤ z → Calls Try.prog 59 #[.pointer (some ⟨d, 0, none⟩)] w fun e w' => e = .returned (.bool (fl d)) ∧ ∃ m, w' = w.drewN m := by
  intro z
  induction z with
  | zero =>
    intro d w hF hd hz
    have := (hF d hd).2.2.1
    omega
  | succ z ih =>
    intro d w hF hd hz
    obtain ⟨hI0, hK, hS, _, _, _, hZ⟩ := hF d hd
    have hLd := hL d hd
    have hI : RIs w d (X d) := ⟨0, B, hI0⟩
    obtain ⟨_, _, c2, _⟩ := hI.cells
    obtain ⟨c3, _, _, _, _, a, cap, c8, hkl, hkc⟩ := hI.more
    have HF := hide1 hF
    have HIH := hide1 ih
    have HK := hide1 hK
    have hlI : ((X d).kids.length : Int) ≤ 4194304 := by omega
    have HKC := hide1 hkc
    have HS := hide1 hS
    have HLD := hide1 hLd
    clear hF ih hK hkc hI hI0 hLd
    obtain ⟨kd, hkd⟩ : ∃ kd, (X d).kind = kd := ⟨_, rfl⟩
    obtain ⟨nn, hnn⟩ : ∃ nn, (X d).n = nn := ⟨_, rfl⟩
    have HOW : Hid (ownF (X d) = (kd == 3 || kd == 5 || kd == 1 && nn == -1)) := by show _ = _; unfold ownF; rw [hkd, hnn]
    rw [hkd] at c2
    rw [hnn] at c3
    clear hkd hnn
    have HTRUE : Hid ((kd == 3 || kd == 5 || kd == 1 && nn == -1) = true → fl d = true) := fun h => by
      rw [HLD.out, HOW.out, h]
      rfl
    go_enter Try.func59, Try.ntmps59
    by_cases k3 : kd = 3
    · subst k3
      go_wp2_with fail
      go_ret
      exact ⟨by rw [HTRUE.out rfl]; rfl, 0, rfl⟩
    · by_cases k5 : kd = 5
      · subst k5
        go_wp2_with fail
        go_ret
        exact ⟨by rw [HTRUE.out rfl]; rfl, 0, rfl⟩
      · by_cases k1 : kd = 1 ∧ nn = -1
        · obtain ⟨rfl, rfl⟩ := k1
          go_wp2_with fail
          go_ret
          exact ⟨by rw [HTRUE.out rfl]; rfl, 0, rfl⟩
        · have b3 : (kd == 3) = false := by simpa using k3
          have b5 : (kd == 5) = false := by simpa using k5
          have HFL : Hid (fl d = (X d).kids.any fl) := by
            show _ = _
            have hb : (kd == 3 || kd == 5 || kd == 1 && nn == -1) = false := by
              rw [b3, b5]
              simpa using k1
            rw [HLD.out, HOW.out, hb]
            rfl
          have hb1 : (kd == 1) = false ∨ ((kd == 1) = true ∧ (nn == -1) = false) := by
            by_cases h : kd = 1
            · exact Or.inr ⟨by simpa using h, by simpa using fun h2 => k1 ⟨h, h2⟩⟩
            · exact Or.inl (by simpa using h)
          clear k3 k5 k1
          rcases hb1 with b1 | ⟨b1, bn⟩
          all_goals
            go_wp2_with fail
            go_loopw [3] (fun vi wr => ∃ j : Nat, j ≤ (X d).kids.length ∧ vi = .int .i64 (j : Int) ∧ Hid (∀ k ∈ (X d).kids.take j, fl k = false) ∧ Hid (DrewW w wr)) (fun vi _ => (X d).kids.length - (intOf vi).toNat)
            case atStart => exact ⟨0, Nat.zero_le _, rfl, fun k hk => by simp at hk, ⟨0, rfl⟩⟩
            case round =>
              obtain ⟨j, hj, rfl, HA, HD⟩ := hrel
              have d8 : wr.cell? ⟨d, 8, none⟩ = some (.slice a (X d).kids.length cap) := by obtain ⟨m, rfl⟩ := HD.out; exact c8
              by_cases hlt : j < (X d).kids.length
              · obtain ⟨k, hkj⟩ : ∃ k, (X d).kids[j]? = some k := ⟨_, List.getElem?_eq_getElem hlt⟩
                obtain ⟨g, rfl, t0⟩ := HKC.out j k hkj
                have t1 : wr.cell? ⟨g, j, none⟩ = some (.pointer (some ⟨k, 0, none⟩)) := by obtain ⟨m, rfl⟩ := HD.out; exact t0
                have hkm := List.mem_of_getElem? hkj
                have HC := hide1 (HIH.out k wr (by obtain ⟨m, rfl⟩ := HD.out; exact HF.out.drew m) (HK.out k hkm) (by have := sizeR_mem (X := X) hkm; have := HS.out; omega))
                have HTK : Hid ((X d).kids.take (j + 1) = (X d).kids.take j ++ [k]) := by show _ = _; rw [List.take_add_one, hkj]; rfl
                have HKM := hide1 hkm
                have hjI : (j : Int) < ((X d).kids.length : Int) := by omega
                clear hkj hkm hS t0
                cases hfk : fl k with
                | true =>
                  rw [hfk] at HC
                  have HT2 : Hid (fl d = true) := by
                    show _ = _
                    rw [HFL.out, List.any_eq_true]
                    exact ⟨k, HKM.out, hfk⟩
                  clear hfk
                  go_wp2_with (go_at_call 59; refine HC.out.mono ?_; rintro e w1 ⟨rfl, hw1⟩; have HW1 := hide1 hw1; clear hw1)
                  go_ret
                  refine ⟨by rw [HT2.out]; rfl, ?_⟩
                  obtain ⟨m, rfl⟩ := HD.out
                  obtain ⟨m1, rfl⟩ := HW1.out
                  exact ⟨m + m1, by rw [World.drewN_drewN]⟩
                | false =>
                  rw [hfk] at HC
                  have HA2 : Hid (∀ q ∈ (X d).kids.take (j + 1), fl q = false) := by
                    intro q hq
                    rw [HTK.out, List.mem_append] at hq
                    rcases hq with hq | hq
                    · exact HA.out q hq
                    · rw [List.mem_singleton.1 hq]
                      exact hfk
                  clear hfk
                  go_wp2_with (go_at_call 59; refine HC.out.mono ?_; rintro e w1 ⟨rfl, hw1⟩; have HW1 := hide1 hw1; clear hw1)
                  go_roundw
                  case rel => exact ⟨j + 1, by omega, by go_num, HA2, (show DrewW w w1 by obtain ⟨m, rfl⟩ := HD.out; obtain ⟨m1, rfl⟩ := HW1.out; exact ⟨m + m1, by rw [World.drewN_drewN]⟩)⟩
                  case measure => simp [intOf]; omega
              · have hjj : j = (X d).kids.length := by omega
                have HFF : Hid (fl d = false) := by
                  show _ = _
                  rw [HFL.out, List.any_eq_false]
                  intro q hq
                  have h1 := HA.out q (by rw [hjj, List.take_length]; exact hq)
                  simp [h1]
                clear hlt hj
                go_wp2_with fail
                go_ret
                exact ⟨by rw [HFF.out]; rfl, HD.out⟩

end Tr
end Ex
end Go.Proofs.Ytpbnjdnlgcfiiaa
