import Derived.Test.YtenhifihbhbicaaRopeList
namespace Go.Proofs.Ytenhifihbhbicaa
open Go.RowKit
attribute [local go_sem] Oper.semAt_some
namespace Rope

set_option maxRecDepth 100000 in
set_option maxHeartbeats 4000000 in
theorem turns_long (a : Option Addr) (n cap : Nat) (x : Int) (w : World) (hn : 65536 < (n : Int)) :
    Calls Try.prog 3 #[.slice a n cap, .int .i64 x] w fun e w' => e = .returned (.bool true) ∧ Kept w w' := by
  go_enter Try.func3, Try.ntmps3
  go_wp2_with (go_at_call 9; go_must (refine (head_any _).mono ?_; rintro e w1 ⟨rfl, hk1⟩))
  go_ret
  exact ⟨rfl, hk1⟩

theorem start_zero (S : Nat → Prop) (r : Value) (xs : List Int) (k : Nat) (w : World) (h : RopeAt S w r xs) (hk : k ≤ ends xs) (h0 : behind xs k = 0) :
    Calls Try.prog 13 #[r, .int .i64 k] w fun e w' => e = .returned (.tuple #[.int .i64 0, .int .i64 0]) ∧ Kept w w' := by
  have := start_in S r xs k w h hk
  rw [h0] at this
  exact this
theorem start_succ (S : Nat → Prop) (r : Value) (xs : List Int) (k m : Nat) (w : World) (h : RopeAt S w r xs) (hk : k ≤ ends xs) (h0 : behind xs k = m + 1) :
    Calls Try.prog 13 #[r, .int .i64 k] w fun e w' => e = .returned (.tuple #[.int .i64 ((m : Int) + 1), .int .i64 0]) ∧ Kept w w' := by
  have := start_in S r xs k w h hk
  rw [h0] at this
  exact this
theorem row_start (S : Nat → Prop) (r : Value) (xs : List Int) (k : Nat) (i : Int) (w : World) (h : RopeAt S w r xs) (hk : k ≤ ends xs) (h0 : i = behind xs k) :
    Calls Try.prog 14 #[r, .int .i64 i] w fun e w' => e = .returned (.tuple #[.int .i64 k, .int .i64 0, .int .i64 0]) ∧ Kept w w' := by
  subst h0
  have := row_in S r xs (behind xs k) w h (behind_le xs k)
  rw [behind_take xs k hk, Int.sub_self] at this
  exact this

set_option maxRecDepth 100000 in
set_option maxHeartbeats 4000000 in
theorem turns_any (S : Nat → Prop) (v : Value) (bs : List Int) (x : Int) (w : World) (hv : ListAt S w v bs) (hn : bs.length ≤ 65536) (hx1 : -9223372036854775808 ≤ x) (hx2 : x ≤ 9223372036854775807) :
    Calls Try.prog 3 #[v, .int .i64 x] w fun e w' => e = .returned (.bool true) ∧ Kept w w' := by
  obtain ⟨a, cap, rfl⟩ := hv.form
  have HV := hide1 hv
  have HB := hide1 hv.byt
  clear hv
  have gn : (bs.length : Int) ≤ 65536 := by omega
  go_enter Try.func3, Try.ntmps3
  go_wp2_with (first
    | (go_at_call 9; go_must (refine (head_any _).mono ?_; rintro e w1 ⟨rfl, hk1'⟩; have hk1 := hide1 hk1'; clear hk1'))
    | (go_at_call 11; go_must (refine (lend_any S _ bs _ (HV.out.kept hk1.out) (by omega)).mono ?_; rintro e w2 ⟨g2, rfl, hk2', hg2, how2'⟩; have hk2 := hide1 (gtrans hk1.out hk2'); have hl2 := hide1 (how2'.list HB.out); clear hk2' how2' hg2))
    | (go_at_call 10; go_must (refine (new_any (fun _ => True) _ _ bs _ hl2.out (fun _ _ => trivial) (by omega)).mono ?_; rintro e w3 ⟨r, rfl, hk3', hr3'⟩; have hk3 := hide1 (gtrans hk2.out hk3'); have hr3 := hide1 hr3'; obtain ⟨b3, rfl⟩ := hr3'.form; clear hk3' hr3')))
  go_loopw [7, 8] (fun n i wr => wr = w3 ∧ ∃ j : Nat, i = .int .i64 (j : Int) ∧ n = .int .i64 ((ends (bs.take j) : Int) + 1) ∧ j ≤ bs.length) (fun _ i _ => bs.length - (intOf i).toNat)
  case atStart => exact ⟨rfl, 0, rfl, rfl, Nat.zero_le _⟩
  case round =>
    obtain ⟨rfl, j, rfl, rfl, hj⟩ := hrel
    by_cases hlt : (j : Int) < (bs.length : Int)
    · obtain ⟨y, hy⟩ : ∃ y, bs[j]? = some y := ⟨_, List.getElem?_eq_getElem (by omega)⟩
      obtain ⟨c, o, rfl, hc⟩ := (HV.out.kept hk3.out).cell hy
      have hs := take_snoc hy
      have he := ends_le (bs.take j)
      have HE : Hid (ends (bs.take (j + 1)) = ends (bs.take j) + if y = 10 then 1 else 0) := by
        rw [hs, ends_append, ends_cons, ends_nil, Nat.zero_add]; exact rfl
      have hl : (bs.take j).length ≤ 65536 := by simp; omega
      have hl2 : (ends (bs.take j) : Int) ≤ 65536 := by omega
      clear hs he hl hy
      by_cases hyy : y = 10
      · subst hyy
        go_wp2
        go_roundw
        case rel => exact ⟨by first | rfl | trivial, j + 1, by go_num, by rw [HE.out]; go_num, by omega⟩
        case measure => simp [intOf]; omega
      · have hne : (y == 10) = false := by simpa using hyy
        go_wp2
        go_roundw
        case rel => exact ⟨by first | rfl | trivial, j + 1, by go_num, by rw [HE.out, if_neg hyy]; rfl, by omega⟩
        case measure => simp [intOf]; omega
    · obtain rfl : j = bs.length := by omega
      rw [List.take_length]
      have hl2 : (ends bs : Int) ≤ 65536 := by have := ends_le bs; omega
      go_wp2_with (go_at_call 12; go_must (refine (rows_any (fun _ => True) _ bs _ hr3.out).mono ?_; rintro e w4 ⟨rfl, hk4'⟩; have hr4 := hide1 (hr3.out.kept hk4'); have hk4 := hide1 (gtrans hk3.out hk4'); clear hk4'))
      go_loopw [9] (fun i wr => ∃ k : Nat, i = .int .i64 (k : Int) ∧ k ≤ ends bs + 1 ∧ Kept w4 wr) (fun i _ => ends bs + 1 - (intOf i).toNat)
      case atStart => exact ⟨0, rfl, Nat.zero_le _, Kept.refl _⟩
      case round =>
        obtain ⟨k, rfl, hk, hkr⟩ := hrel
        have hr := hide1 (hr4.out.kept hkr)
        have HW := hide1 (gtrans hk4.out hkr)
        have HKR := hide1 hkr
        clear hkr hk3 hr3 hk4 hr4 hk2 hk1
        by_cases hlt : (k : Int) < (ends bs : Int) + 1
        · have hke : k ≤ ends bs := by omega
          have HKE := hide1 hke
          by_cases h0 : behind bs k = 0
          · have H0 := hide1 h0
            clear h0
            go_wp2_with (first
              | (go_at_call 13; go_must (refine (start_zero (fun _ => True) _ bs k _ hr.out hke H0.out).mono ?_; rintro e w5 ⟨rfl, hk5'⟩; have hk5 := hide1 hk5'; clear hk5'))
              | (go_at_call 14; go_must (refine (row_start (fun _ => True) _ bs k _ _ (hr.out.kept hk5.out) hke (by rw [H0.out]; rfl)).mono ?_; rintro e w6 ⟨rfl, hk6'⟩; have hk6 := hide1 hk6'; clear hk6')))
            go_roundw
            case rel => exact ⟨k + 1, by go_num, by have := HKE.out; omega, gtrans (gtrans HKR.out hk5.out) hk6.out⟩
            case measure => have := HKE.out; simp [intOf]; omega
          · obtain ⟨m, hm⟩ : ∃ m, behind bs k = m + 1 := ⟨behind bs k - 1, by omega⟩
            have ht := behind_ten bs k hke (by omega)
            rw [hm, Nat.add_sub_cancel] at ht
            have hml : m < bs.length := (List.getElem?_eq_some_iff.1 ht).1
            obtain ⟨c, o, rfl, hc⟩ := (HV.out.kept HW.out).cell ht
            have H0 := hide1 hm
            have HC := hide1 hc
            clear h0 hm ht hc
            have gm : (m : Int) < (bs.length : Int) := by omega
            go_wp2_with (first
              | (go_at_call 13; go_must (refine (start_succ (fun _ => True) _ bs k m _ hr.out hke H0.out).mono ?_; rintro e w5 ⟨rfl, hk5'⟩; have hk5 := hide1 hk5'; clear hk5'))
              | (go_at_call 14; go_must (refine (row_start (fun _ => True) _ bs k _ _ (hr.out.kept hk5.out) hke (by rw [H0.out]; omega)).mono ?_; rintro e w6 ⟨rfl, hk6'⟩; have hk6 := hide1 hk6'; have hc6 := grown_cell (gtrans hk5.out hk6.out) HC.out; clear hk6')))
            go_roundw
            case rel => exact ⟨k + 1, by go_num, by have := HKE.out; omega, gtrans (gtrans HKR.out hk5.out) hk6.out⟩
            case measure => have := HKE.out; simp [intOf]; omega
        · by_cases hin : 0 ≤ x ∧ x ≤ bs.length
          · obtain ⟨g1, g2⟩ := hin
            obtain ⟨i, rfl⟩ : ∃ i : Nat, x = (i : Int) := ⟨x.toNat, by omega⟩
            have hrow := fun W (hW : RopeAt (fun _ => True) W (.pointer (some ⟨b3, 0, none⟩)) bs) => row_in (fun _ => True) (.pointer (some ⟨b3, 0, none⟩)) bs i W hW (by omega)
            have hp : ends (bs.take i) ≤ ends bs := by
              have := ends_append (bs.take i) (bs.drop i)
              rw [List.take_append_drop] at this
              omega
            have hq := behind_le bs (ends (bs.take i))
            have HST := hide1 (fun W (hW : RopeAt (fun _ => True) W (.pointer (some ⟨b3, 0, none⟩)) bs) => start_in (fun _ => True) (.pointer (some ⟨b3, 0, none⟩)) bs (ends (bs.take i)) W hW hp)
            have HRW := hide1 hrow
            clear hrow hp
            generalize behind bs (ends (bs.take i)) = q at HST HRW hq
            generalize ends (bs.take i) = p at HST HRW
            have gq : (q : Int) ≤ 65536 := by omega
            go_wp2_with (first
              | (go_at_call 14; go_must (refine (HRW.out _ hr.out).mono ?_; rintro e w5 ⟨rfl, hk5'⟩; have hk5 := hide1 hk5'; clear hk5'))
              | (go_at_call 13; go_must (refine (HST.out _ (hr.out.kept hk5.out)).mono ?_; rintro e w6 ⟨rfl, hk6'⟩; have hk6 := hide1 hk6'; clear hk6')))
            go_ret
            refine ⟨?_, gtrans (gtrans HW.out hk5.out) hk6.out⟩
            show Ending.returned (Value.bool ((q : Int) + ((i : Int) - q) == i)) = _
            rw [show (q : Int) + ((i : Int) - q) = i from by omega]
            simp
          · have hno : x < 0 ∨ (bs.length : Int) < x := by omega
            have HNO := hide1 hno
            clear hno
            rcases HNO.out with h0 | h0
            · go_wp2_with (go_at_call 14; go_must (refine (row_out (fun _ => True) _ bs x _ hr.out HNO.out).mono ?_; rintro e w5 ⟨rfl, hk5'⟩; have hk5 := hide1 hk5'; clear hk5'))
              go_ret
              exact ⟨rfl, gtrans HW.out hk5.out⟩
            · go_wp2_with (go_at_call 14; go_must (refine (row_out (fun _ => True) _ bs x _ hr.out HNO.out).mono ?_; rintro e w5 ⟨rfl, hk5'⟩; have hk5 := hide1 hk5'; clear hk5'))
              go_ret
              exact ⟨rfl, gtrans HW.out hk5.out⟩

end Rope
end Go.Proofs.Ytenhifihbhbicaa
