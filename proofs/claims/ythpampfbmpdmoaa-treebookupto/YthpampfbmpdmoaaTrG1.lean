import Derived.Test.YthpampfbmpdmoaaTrMake
import Derived.Test.YthpampfbmpdmoaaTrG0
namespace Go.Proofs.Ythpampfbmpdmoaa
open Go.RowKit
attribute [local go_sem] Oper.semAt_some
namespace Ex
namespace Tr

theorem may_cases {kd n : Int} (h : mayP kd n = true) : kd = 2 ∧ 0 ≤ n ∨ (kd = 3 ∨ kd = 4 ∨ kd = 5) ∧ n = 0 := by
  unfold mayP at h
  simp only [Bool.or_eq_true, Bool.and_eq_true, beq_iff_eq, decide_eq_true_eq] at h
  rcases h with h | ⟨(h | h) | h, h0⟩ <;> simp_all
theorem may_not {kd n : Int} (h : mayP kd n = false) : (kd ≠ 2 ∧ kd ≠ 3 ∧ kd ≠ 4 ∧ kd ≠ 5) ∨ n < 0 ∨ n ≠ 0 ∧ kd ≠ 2 := by
  unfold mayP at h
  simp only [Bool.or_eq_false_iff, Bool.and_eq_false_iff, beq_eq_false_iff_ne, decide_eq_false_iff_not, ne_eq] at h
  omega

set_option linter.unusedSimpArgs false in
set_option maxRecDepth 100000 in
set_option maxHeartbeats 2000000 in
theorem rmake_kind (st kd n : Int) (a : Option Addr) (m c : Nat) (w : World) (h : mayP kd n = false) : Calls Try.prog 40 #[.int .i64 st, .int .i64 kd, .int .i64 n, .slice a m c] w fun e w' => e = .returned (.tuple #[.pointer none, .int .i64 101]) ∧ Kept w w' := by
  have h1 := may_not h
  clear h
  go_enter Try.func40, Try.ntmps40
  by_cases hn : n < 0
  · by_cases k2 : kd = 2
    · subst k2
      go_wp2_with fail
      go_ret2
      exact ⟨rfl, Kept.refl _⟩
    · by_cases k3 : kd = 3
      · subst k3
        go_wp2_with fail
        go_ret2
        exact ⟨rfl, Kept.refl _⟩
      · by_cases k4 : kd = 4
        · subst k4
          go_wp2_with fail
          go_ret2
          exact ⟨rfl, Kept.refl _⟩
        · by_cases k5 : kd = 5
          · subst k5
            go_wp2_with fail
            go_ret2
            exact ⟨rfl, Kept.refl _⟩
          · go_wp2_with fail
            go_ret2
            exact ⟨rfl, Kept.refl _⟩
  · by_cases k2 : kd = 2
    · exfalso
      omega
    · by_cases k3 : kd = 3
      · subst k3
        have hz : n ≠ 0 := by omega
        go_wp2_with fail
        go_ret2
        exact ⟨rfl, Kept.refl _⟩
      · by_cases k4 : kd = 4
        · subst k4
          have hz : n ≠ 0 := by omega
          go_wp2_with fail
          go_ret2
          exact ⟨rfl, Kept.refl _⟩
        · by_cases k5 : kd = 5
          · subst k5
            have hz : n ≠ 0 := by omega
            go_wp2_with fail
            go_ret2
            exact ⟨rfl, Kept.refl _⟩
          · go_wp2_with fail
            go_ret2
            exact ⟨rfl, Kept.refl _⟩


def sizeR (X : Nat → Rd) (ks : List Nat) : Nat := (ks.map fun b => (X b).size).sum
theorem sizeR_take {X : Nat → Rd} {ks : List Nat} {j b : Nat} (h : ks[j]? = some b) : sizeR X (ks.take (j + 1)) = sizeR X (ks.take j) + (X b).size := by
  unfold sizeR
  rw [List.take_add_one, h]
  simp
theorem sizeR_part (X : Nat → Rd) : ∀ (ks : List Nat) (j : Nat), sizeR X (ks.take j) ≤ sizeR X ks
  | [], j => by simp [sizeR]
  | b :: ks, 0 => by simp [sizeR]
  | b :: ks, j + 1 => by
    have := sizeR_part X ks j
    simp only [sizeR, List.take_succ_cons, List.map_cons, List.sum_cons] at this ⊢
    omega
/-- What the document's Make answers where kind and n are good: whether all children are of the store, whether there is room. -/
def rErr (X : Nat → Rd) (st : Int) (ks : List Nat) : Int := if ks.all (fun b => (X b).st == st) = true then (if 4194304 < 1 + sizeR X ks then 6 else 0) else 100
theorem rErr_other {X : Nat → Rd} {st : Int} {ks : List Nat} {b : Nat} (hb : b ∈ ks) (h : (X b).st ≠ st) : rErr X st ks = 100 := by
  unfold rErr
  rw [if_neg]
  intro hh
  rw [List.all_eq_true] at hh
  exact h (by simpa using hh b hb)
theorem rErr_full {X : Nat → Rd} {st : Int} {ks : List Nat} (h1 : ∀ b ∈ ks, (X b).st = st) (h2 : 4194304 < 1 + sizeR X ks) : rErr X st ks = 6 := by
  unfold rErr
  rw [if_pos (by rw [List.all_eq_true]; intro b hb; simp [h1 b hb]), if_pos h2]
theorem rErr_ok {X : Nat → Rd} {st : Int} {ks : List Nat} (h1 : ∀ b ∈ ks, (X b).st = st) (h2 : ¬ 4194304 < 1 + sizeR X ks) : rErr X st ks = 0 := by
  unfold rErr
  rw [if_pos (by rw [List.all_eq_true]; intro b hb; simp [h1 b hb]), if_neg h2]

set_option linter.unusedSimpArgs false in
set_option maxRecDepth 100000 in
set_option maxHeartbeats 4000000 in
theorem rmake_bad (X : Nat → Rd) (A B : Nat) (st kd n : Int) (ks : List Nat) (v : Value) (w : World) (hv : RKids A B w v ks) (hX : ∀ b ∈ ks, RIs w b (X b)) (hz : ∀ b ∈ ks, (X b).size ≤ 4194304) (hm : mayP kd n = true) (he : rErr X st ks ≠ 0) :
    Calls Try.prog 40 #[.int .i64 st, .int .i64 kd, .int .i64 n, v] w fun e w' => e = .returned (.tuple #[.pointer none, .int .i64 (rErr X st ks)]) ∧ Kept w w' := by
  have HM := hide1 (may_cases hm)
  obtain ⟨a, cap, rfl, hl, hc⟩ := hv
  have HC := hide1 hc
  have HX := hide1 hX
  have HZ := hide1 hz
  have HE := hide1 he
  have hlI : (ks.length : Int) ≤ 4194304 := by omega
  obtain ⟨er, her⟩ : ∃ er, rErr X st ks = er := ⟨_, rfl⟩
  have HER := hide1 her
  rw [her]
  clear hm hc hX hz he her
  have HK : Hid (∀ j b, ks[j]? = some b → ∃ g, a = some ⟨g, 0, none⟩ ∧ w.cell? ⟨g, j, none⟩ = some (.pointer (some ⟨b, 0, none⟩))) := by
    intro j b hb
    rcases HC.out with h | ⟨g, h1, _, _, _, h2⟩
    · rw [h] at hb
      simp at hb
    · exact ⟨g, h1, h2 j b hb⟩
  go_enter Try.func40, Try.ntmps40
  have HN : Hid (kd = 2 ∧ 0 < n ∨ (kd = 2 ∨ kd = 3 ∨ kd = 4 ∨ kd = 5) ∧ n = 0) := by
    show _ ∨ _
    have := HM.out
    omega
  rcases HN.out with ⟨rfl, hn⟩ | ⟨rfl | rfl | rfl | rfl, rfl⟩
  all_goals clear HN HM
  · have hn1 : ¬ n < 0 := by omega
    have hn2 : ¬ n = 0 := by omega
    go_wp2_with fail
    go_loopw [11] (fun v11 wr => ∃ j : Nat, j ≤ ks.length ∧ v11 = .int .i64 (j : Int) ∧ wr = w ∧ Hid (∀ b ∈ ks.take j, (X b).st = st)) (fun v11 _ => ks.length - (intOf v11).toNat)
    case atStart => exact ⟨0, Nat.zero_le _, rfl, rfl, fun b hb => by simp at hb⟩
    case round =>
      obtain ⟨j, hj, rfl, rfl, HS⟩ := hrel
      by_cases hlt : j < ks.length
      · obtain ⟨b, hb⟩ : ∃ b, ks[j]? = some b := ⟨_, List.getElem?_eq_getElem hlt⟩
        obtain ⟨g, rfl, t0⟩ := HK.out j b hb
        obtain ⟨c0, _⟩ := (HX.out b (List.mem_of_getElem? hb)).cells
        have hjI : (j : Int) < (ks.length : Int) := by omega
        by_cases hs : (X b).st = st
        · have HS2 : Hid (∀ d ∈ ks.take (j + 1), (X d).st = st) := by
            intro d hd
            rw [List.take_add_one, hb, List.mem_append] at hd
            rcases hd with hd | hd
            · exact HS.out d hd
            · have e : d = b := by simpa using hd
              rw [e]
              exact hs
          rw [hs] at c0
          clear hb HS
          go_wp2_with fail
          go_roundw
          case rel => exact ⟨j + 1, by omega, by go_num, by first | rfl | trivial, HS2⟩
          case measure => simp [intOf]; omega
        · have HQ := hide1 (rErr_other (X := X) (List.mem_of_getElem? hb) hs)
          clear hb HS
          go_wp2_with fail
          go_ret2
          exact ⟨by rw [← HER.out, HQ.out]; rfl, Kept.refl _⟩
      · have hjj : j = ks.length := by omega
        subst hjj
        rw [List.take_length] at HS
        clear hlt hj
        go_wp2_with fail
        go_loopw [10, 12] (fun vs vi wq => ∃ j : Nat, j ≤ ks.length ∧ vi = .int .i64 (j : Int) ∧ vs = .int .i64 ((1 + sizeR X (ks.take j) : Nat) : Int) ∧ wq = wr ∧ 1 + sizeR X (ks.take j) ≤ 4194304) (fun _ vi _ => ks.length - (intOf vi).toNat)
        case atStart => exact ⟨0, Nat.zero_le _, rfl, by simp [sizeR], rfl, by simp [sizeR]⟩
        case round =>
          obtain ⟨j, hj, rfl, rfl, rfl, hS⟩ := hrel
          by_cases hlt : j < ks.length
          · obtain ⟨b, hb⟩ : ∃ b, ks[j]? = some b := ⟨_, List.getElem?_eq_getElem hlt⟩
            obtain ⟨g, rfl, t0⟩ := HK.out j b hb
            obtain ⟨_, _, _, c9⟩ := (HX.out b (List.mem_of_getElem? hb)).cells
            have hz := HZ.out b (List.mem_of_getElem? hb)
            have HT := hide1 (sizeR_take (X := X) hb)
            have HP := hide1 (sizeR_part X ks (j + 1))
            obtain ⟨S0, hS0⟩ : ∃ S0, sizeR X (ks.take j) = S0 := ⟨_, rfl⟩
            obtain ⟨z, hzz⟩ : ∃ z, (X b).size = z := ⟨_, rfl⟩
            rw [hS0, hzz] at HT
            rw [hS0] at hS
            rw [hzz] at hz c9
            rw [hS0]
            clear hb hS0 hzz
            have hjI : (j : Int) < (ks.length : Int) := by omega
            have hzI : (z : Int) ≤ 4194304 := by omega
            have hSI : (S0 : Int) ≤ 4194304 := by omega
            clear hz
            by_cases hf : 4194304 < 1 + S0 + z
            · have hfI : 4194304 < 1 + (S0 : Int) + (z : Int) := by omega
              have HQ := hide1 (rErr_full HS.out (by have h1 := HT.out; have h2 := HP.out; omega))
              clear hf hS
              go_wp2_with fail
              go_ret2
              exact ⟨by rw [← HER.out, HQ.out]; rfl, Kept.refl _⟩
            · have hfI : ¬ 4194304 < 1 + (S0 : Int) + (z : Int) := by omega
              have hS2 : 1 + sizeR X (ks.take (j + 1)) ≤ 4194304 := by rw [HT.out]; omega
              have HS2 := hide1 hS2
              clear hf hS hS2
              go_wp2_with fail
              go_roundw
              case rel => exact ⟨j + 1, by omega, by go_num, by rw [HT.out]; go_num, by first | rfl | trivial, HS2.out⟩
              case measure => simp [intOf]; omega
          · have hjj : j = ks.length := by omega
            subst hjj
            rw [List.take_length] at hS
            exfalso
            exact HE.out (rErr_ok HS.out (by omega))
  all_goals
    go_wp2_with fail
    go_loopw [11] (fun v11 wr => ∃ j : Nat, j ≤ ks.length ∧ v11 = .int .i64 (j : Int) ∧ wr = w ∧ Hid (∀ b ∈ ks.take j, (X b).st = st)) (fun v11 _ => ks.length - (intOf v11).toNat)
    case atStart => exact ⟨0, Nat.zero_le _, rfl, rfl, fun b hb => by simp at hb⟩
    case round =>
      obtain ⟨j, hj, rfl, rfl, HS⟩ := hrel
      by_cases hlt : j < ks.length
      · obtain ⟨b, hb⟩ : ∃ b, ks[j]? = some b := ⟨_, List.getElem?_eq_getElem hlt⟩
        obtain ⟨g, rfl, t0⟩ := HK.out j b hb
        obtain ⟨c0, _⟩ := (HX.out b (List.mem_of_getElem? hb)).cells
        have hjI : (j : Int) < (ks.length : Int) := by omega
        by_cases hs : (X b).st = st
        · have HS2 : Hid (∀ d ∈ ks.take (j + 1), (X d).st = st) := by
            intro d hd
            rw [List.take_add_one, hb, List.mem_append] at hd
            rcases hd with hd | hd
            · exact HS.out d hd
            · have e : d = b := by simpa using hd
              rw [e]
              exact hs
          rw [hs] at c0
          clear hb HS
          go_wp2_with fail
          go_roundw
          case rel => exact ⟨j + 1, by omega, by go_num, by first | rfl | trivial, HS2⟩
          case measure => simp [intOf]; omega
        · have HQ := hide1 (rErr_other (X := X) (List.mem_of_getElem? hb) hs)
          clear hb HS
          go_wp2_with fail
          go_ret2
          exact ⟨by rw [← HER.out, HQ.out]; rfl, Kept.refl _⟩
      · have hjj : j = ks.length := by omega
        subst hjj
        rw [List.take_length] at HS
        clear hlt hj
        go_wp2_with fail
        go_loopw [10, 12] (fun vs vi wq => ∃ j : Nat, j ≤ ks.length ∧ vi = .int .i64 (j : Int) ∧ vs = .int .i64 ((1 + sizeR X (ks.take j) : Nat) : Int) ∧ wq = wr ∧ 1 + sizeR X (ks.take j) ≤ 4194304) (fun _ vi _ => ks.length - (intOf vi).toNat)
        case atStart => exact ⟨0, Nat.zero_le _, rfl, by simp [sizeR], rfl, by simp [sizeR]⟩
        case round =>
          obtain ⟨j, hj, rfl, rfl, rfl, hS⟩ := hrel
          by_cases hlt : j < ks.length
          · obtain ⟨b, hb⟩ : ∃ b, ks[j]? = some b := ⟨_, List.getElem?_eq_getElem hlt⟩
            obtain ⟨g, rfl, t0⟩ := HK.out j b hb
            obtain ⟨_, _, _, c9⟩ := (HX.out b (List.mem_of_getElem? hb)).cells
            have hz := HZ.out b (List.mem_of_getElem? hb)
            have HT := hide1 (sizeR_take (X := X) hb)
            have HP := hide1 (sizeR_part X ks (j + 1))
            obtain ⟨S0, hS0⟩ : ∃ S0, sizeR X (ks.take j) = S0 := ⟨_, rfl⟩
            obtain ⟨z, hzz⟩ : ∃ z, (X b).size = z := ⟨_, rfl⟩
            rw [hS0, hzz] at HT
            rw [hS0] at hS
            rw [hzz] at hz c9
            rw [hS0]
            clear hb hS0 hzz
            have hjI : (j : Int) < (ks.length : Int) := by omega
            have hzI : (z : Int) ≤ 4194304 := by omega
            have hSI : (S0 : Int) ≤ 4194304 := by omega
            clear hz
            by_cases hf : 4194304 < 1 + S0 + z
            · have hfI : 4194304 < 1 + (S0 : Int) + (z : Int) := by omega
              have HQ := hide1 (rErr_full HS.out (by have h1 := HT.out; have h2 := HP.out; omega))
              clear hf hS
              go_wp2_with fail
              go_ret2
              exact ⟨by rw [← HER.out, HQ.out]; rfl, Kept.refl _⟩
            · have hfI : ¬ 4194304 < 1 + (S0 : Int) + (z : Int) := by omega
              have hS2 : 1 + sizeR X (ks.take (j + 1)) ≤ 4194304 := by rw [HT.out]; omega
              have HS2 := hide1 hS2
              clear hf hS hS2
              go_wp2_with fail
              go_roundw
              case rel => exact ⟨j + 1, by omega, by go_num, by rw [HT.out]; go_num, by first | rfl | trivial, HS2.out⟩
              case measure => simp [intOf]; omega
          · have hjj : j = ks.length := by omega
            subst hjj
            rw [List.take_length] at hS
            exfalso
            exact HE.out (rErr_ok HS.out (by omega))

end Tr
end Ex
end Go.Proofs.Ythpampfbmpdmoaa
