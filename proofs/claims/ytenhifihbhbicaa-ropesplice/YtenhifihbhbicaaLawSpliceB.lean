import Derived.Test.YtenhifihbhbicaaLawSplice
namespace Go.Proofs.Ytenhifihbhbicaa
open Go.RowKit
attribute [local go_sem] Oper.semAt_some
namespace Rope

theorem spliced_len (bs is ss : List Int) (i k : Nat) (h : i + k ≤ bs.length) (hs : spliced bs is i k = ss) : (ss.length : Int) = (bs.length : Int) - k + is.length := by
  subst hs
  have e2 : ((i : Int) + (k : Int)).toNat = i + k := by omega
  unfold spliced
  rw [Int.toNat_natCast, e2, List.length_append, List.length_append, List.length_take, List.length_drop, Nat.min_eq_left (by omega)]
  omega
theorem spliced_mid (bs is ss : List Int) (i k : Nat) (h : i + k ≤ bs.length) (hs : spliced bs is i k = ss) : span ss i ((i : Int) + is.length) = is := by
  subst hs
  have e1 : ((i : Int) + (is.length : Int)).toNat = i + is.length := by omega
  unfold span spliced
  rw [Int.toNat_natCast, e1]
  have ht : (bs.take i).length = i := by rw [List.length_take]; omega
  simp [List.append_assoc, List.take_append, ht, Nat.add_sub_cancel_left]
theorem spliced_back (bs is ss : List Int) (i k : Nat) (h : i + k ≤ bs.length) (hs : spliced bs is i k = ss) : spliced ss ((bs.drop i).take k) i is.length = bs := by
  subst hs
  have e2 : ((i : Int) + (k : Int)).toNat = i + k := by omega
  have e1 : ((i : Int) + (is.length : Int)).toNat = i + is.length := by omega
  have ht : (bs.take i).length = i := by rw [List.length_take]; omega
  unfold spliced
  rw [Int.toNat_natCast, e1, e2]
  have a1 : ((bs.take i ++ is) ++ bs.drop (i + k)).take i = bs.take i := by
    rw [List.append_assoc, List.take_append_of_le_length (by omega), List.take_of_length_le (by omega)]
  have a2 : ((bs.take i ++ is) ++ bs.drop (i + k)).drop (i + is.length) = bs.drop (i + k) := by
    rw [List.drop_append_of_le_length (by rw [List.length_append]; omega), List.drop_of_length_le (by rw [List.length_append]; omega), List.nil_append]
  rw [a1, a2, List.append_assoc, ← List.drop_drop, List.take_append_drop, List.take_append_drop]

theorem len_is (r : Value) (ys : List Int) (n : Int) (w : World) (h : RopeAt Any w r ys) (hl : (ys.length : Int) = n) : Calls Try.prog 16 #[r] w fun e w' => e = .returned (.int .i64 n) ∧ Hid (Kept w w') := by
  subst hl
  exact len_any Any r ys w h

set_option maxRecDepth 100000 in
set_option maxHeartbeats 8000000 in
theorem splice_any (S S' : Nat → Prop) (u v : Value) (bs is : List Int) (i k : Nat) (w : World) (hu : ListAt S w u bs) (hv : ListAt S' w v is) (hn : (bs.length : Int) + (is.length : Int) ≤ 65536) (hik : (i : Int) + (k : Int) ≤ (bs.length : Int)) :
    Calls Try.prog 5 #[u, v, .int .i64 i, .int .i64 k] w fun e w' => e = .returned (.bool true) ∧ Kept w w' := by
  obtain ⟨a, p, rfl⟩ := hu.form
  obtain ⟨b, q, rfl⟩ := hv.form
  obtain ⟨ss, hss⟩ : ∃ ss, spliced bs is i k = ss := ⟨_, rfl⟩
  have hik' : i + k ≤ bs.length := by omega
  have HSS := hide1 hss
  have HFr : Hid (span bs 0 i = bs.take i) := span_front bs i
  have HRe : Hid (span bs ((i : Int) + (k : Int)) bs.length = bs.drop (i + k)) := by show _ = _; rw [span_rest]; congr 1
  have HZ : Hid ((bs.take i ++ is) ++ bs.drop (i + k) = ss) := by show _ = _; rw [← hss]; unfold spliced; congr 1
  have HLen := hide1 (spliced_len bs is ss i k hik' hss)
  have HMid := hide1 (spliced_mid bs is ss i k hik' hss)
  have HBack := hide1 (spliced_back bs is ss i k hik' hss)
  have HT : Hid ((bs.take i).length ≤ bs.length) := by show _ ≤ _; simp; omega
  have HD : Hid ((bs.drop (i + k)).length ≤ bs.length) := by show _ ≤ _; simp
  obtain ⟨d1, q1, hsl, hls⟩ := slice_list hu i (i + k) (by omega) hik'
  have HP : Hid (ListAt S w (.slice d1 k q1) ((bs.drop i).take k)) := by
    show ListAt _ _ _ _
    rw [Nat.add_sub_cancel_left] at hls
    rw [List.drop_take] at hls
    rw [Nat.add_sub_cancel_left] at hls
    exact hls
  have HPl : Hid (((bs.drop i).take k).length = k) := by show _ = _; simp; omega
  rw [Nat.add_sub_cancel_left] at hsl
  have eik : ((i + k : Nat) : Int) = (i : Int) + (k : Int) := by omega
  rw [eik] at hsl
  have HU := hide1 hu
  have HV := hide1 hv
  have e0 : decide ((i : Int) < 0) = false := decide_eq_false (by omega)
  have e1 : decide ((k : Int) < 0) = false := decide_eq_false (by omega)
  have e2 : decide ((bs.length : Int) < (i : Int)) = false := decide_eq_false (by omega)
  have e3 : decide ((bs.length : Int) - (i : Int) < (k : Int)) = false := decide_eq_false (by omega)
  clear hu hv hss hls hik' eik
  go_enter Try.func5, Try.ntmps5
  go_wp2_with fail
  refine (head_any _).mono ?_
  rintro e w1 ⟨rfl, hk1'⟩
  have hk1 := hide1 hk1'
  clear hk1'
  go_wp2_with fail
  refine (lend_list S _ bs _ (HU.out.kept hk1.out) (by omega)).mono ?_
  rintro e w2 ⟨g2, c2, rfl, hk2', hl2⟩
  have hk2 := hide1 (gtrans hk1.out hk2'.out)
  clear hk2' hk1
  go_wp2_with fail
  refine (new_gave _ _ bs _ hl2.out (by omega)).mono ?_
  rintro e w3 ⟨b3, rfl, hk3', hr3⟩
  have hk3 := hide1 (gtrans hk2.out hk3'.out)
  clear hk3' hk2 hl2
  go_wp2_with fail
  refine (lend_list S' _ is _ (HV.out.kept hk3.out) (by omega)).mono ?_
  rintro e w4 ⟨g4, c4, rfl, hk4', hl4⟩
  have hk4 := hide1 (gtrans hk3.out hk4'.out)
  have hr4 := hide1 (hr3.out.kept hk4'.out)
  clear hk4' hk3 hr3
  go_wp2_with fail
  refine (new_gave _ _ is _ hl4.out (by omega)).mono ?_
  rintro e w5 ⟨b5, rfl, hk5', hx5⟩
  have hk5 := hide1 (gtrans hk4.out hk5'.out)
  have hr5 := hide1 (hr4.out.kept hk5'.out)
  clear hk5' hk4 hl4 hr4
  go_wp2_with fail
  refine (lend_list S' _ is _ (HV.out.kept hk5.out) (by omega)).mono ?_
  rintro e w6 ⟨g6, c6, rfl, hk6', hl6⟩
  have hk6 := hide1 (gtrans hk5.out hk6'.out)
  have hr6 := hide1 (hr5.out.kept hk6'.out)
  have hx6 := hide1 (hx5.out.kept hk6'.out)
  clear hk6' hk5 hr5 hx5
  go_wp2_with fail
  refine (splice_gave _ _ _ bs is ss i k _ hr6.out hl6.out (by omega) (by omega) (by omega) (by omega) HSS.out).mono ?_
  rintro e w7 ⟨b7, rfl, hk7', hs7⟩
  have hk7 := hide1 (gtrans hk6.out hk7'.out)
  have hr7 := hide1 (hr6.out.kept hk7'.out)
  have hx7 := hide1 (hx6.out.kept hk7'.out)
  clear hk7' hk6 hr6 hx6 hl6
  go_wp2_with fail
  refine (cut_gave _ bs _ 0 i _ hr7.out (by omega) (by omega) (by omega) HFr.out).mono ?_
  rintro e w8 ⟨b8, rfl, hk8', hf8⟩
  have hk8 := hide1 (gtrans hk7.out hk8'.out)
  have hr8 := hide1 (hr7.out.kept hk8'.out)
  have hx8 := hide1 (hx7.out.kept hk8'.out)
  have hs8 := hide1 (hs7.out.kept hk8'.out)
  clear hk8' hk7 hr7 hx7 hs7
  go_wp2_with fail
  refine (cut_gave _ bs _ ((i : Int) + (k : Int)) bs.length _ hr8.out (by omega) (by omega) (by omega) HRe.out).mono ?_
  rintro e w9 ⟨b9, rfl, hk9', hd9⟩
  have hk9 := hide1 (gtrans hk8.out hk9'.out)
  have hr9 := hide1 (hr8.out.kept hk9'.out)
  have hx9 := hide1 (hx8.out.kept hk9'.out)
  have hs9 := hide1 (hs8.out.kept hk9'.out)
  have hf9 := hide1 (hf8.out.kept hk9'.out)
  clear hk9' hk8 hr8 hx8 hs8 hf8
  go_wp2_with fail
  refine (cat_gave _ _ _ is _ hf9.out hx9.out (by have := HT.out; omega)).mono ?_
  rintro e w10 ⟨b10, rfl, hk10', hy10⟩
  have hk10 := hide1 (gtrans hk9.out hk10'.out)
  have hr10 := hide1 (hr9.out.kept hk10'.out)
  have hx10 := hide1 (hx9.out.kept hk10'.out)
  have hs10 := hide1 (hs9.out.kept hk10'.out)
  have hd10 := hide1 (hd9.out.kept hk10'.out)
  clear hk10' hk9 hr9 hx9 hs9 hd9 hf9
  go_wp2_with fail
  refine (cat_gave _ _ _ _ _ hy10.out hd10.out (by have := HT.out; have := HD.out; rw [List.length_append]; omega)).mono ?_
  rintro e w11 ⟨b11, rfl, hk11', hz11⟩
  rw [HZ.out] at hz11
  have hk11 := hide1 (gtrans hk10.out hk11'.out)
  have hr11 := hide1 (hr10.out.kept hk11'.out)
  have hx11 := hide1 (hx10.out.kept hk11'.out)
  have hs11 := hide1 (hs10.out.kept hk11'.out)
  clear hk11' hk10 hr10 hx10 hs10 hd10 hy10
  go_wp2_with fail
  refine (equal_yes _ _ ss _ hs11.out hz11.out).mono ?_
  rintro e w12 ⟨rfl, hk12'⟩
  have hk12 := hide1 (gtrans hk11.out hk12'.out)
  have hr12 := hide1 (hr11.out.kept hk12'.out)
  have hx12 := hide1 (hx11.out.kept hk12'.out)
  have hs12 := hide1 (hs11.out.kept hk12'.out)
  have hz12 := hide1 (hz11.out.kept hk12'.out)
  clear hk12' hk11 hr11 hx11 hs11 hz11
  go_wp2_with fail
  refine (equal_yes _ _ ss _ hz12.out hs12.out).mono ?_
  rintro e w13 ⟨rfl, hk13'⟩
  have hk13 := hide1 (gtrans hk12.out hk13'.out)
  have hr13 := hide1 (hr12.out.kept hk13'.out)
  have hx13 := hide1 (hx12.out.kept hk13'.out)
  have hs13 := hide1 (hs12.out.kept hk13'.out)
  clear hk13' hk12 hr12 hx12 hs12 hz12
  go_wp2_with fail
  refine (len_is _ ss _ _ hs13.out HLen.out).mono ?_
  rintro e w14 ⟨rfl, hk14'⟩
  have hk14 := hide1 (gtrans hk13.out hk14'.out)
  have hr14 := hide1 (hr13.out.kept hk14'.out)
  have hx14 := hide1 (hx13.out.kept hk14'.out)
  have hs14 := hide1 (hs13.out.kept hk14'.out)
  clear hk14' hk13 hr13 hx13 hs13
  go_wp2_with fail
  refine (cut_gave _ ss _ i ((i : Int) + (is.length : Int)) _ hs14.out (by omega) (by omega) (by have := HLen.out; omega) HMid.out).mono ?_
  rintro e w15 ⟨b15, rfl, hk15', hc15⟩
  have hk15 := hide1 (gtrans hk14.out hk15'.out)
  have hr15 := hide1 (hr14.out.kept hk15'.out)
  have hx15 := hide1 (hx14.out.kept hk15'.out)
  have hs15 := hide1 (hs14.out.kept hk15'.out)
  clear hk15' hk14 hr14 hx14 hs14
  go_wp2_with fail
  refine (equal_yes _ _ is _ hc15.out hx15.out).mono ?_
  rintro e w16 ⟨rfl, hk16'⟩
  have hk16 := hide1 (gtrans hk15.out hk16'.out)
  have hr16 := hide1 (hr15.out.kept hk16'.out)
  have hs16 := hide1 (hs15.out.kept hk16'.out)
  have hc16 := hide1 (hc15.out.kept hk16'.out)
  clear hk16' hk15 hr15 hx15 hs15 hc15
  go_wp2_with fail
  refine (bytes_any Any _ is _ hc16.out).mono ?_
  rintro e w17 ⟨g17, c17, rfl, hk17', hl17'⟩
  have hl17 := hide1 hl17'
  have hk17 := hide1 (gtrans hk16.out hk17')
  have hr17 := hide1 (hr16.out.kept hk17')
  have hs17 := hide1 (hs16.out.kept hk17')
  clear hk17' hk16 hr16 hs16 hc16 hl17'
  go_wp2_with fail
  refine (same_yes Any S' _ _ is _ hl17.out (HV.out.kept hk17.out) (by omega)).mono ?_
  rintro e w18 ⟨rfl, hk18'⟩
  have hk18 := hide1 (gtrans hk17.out hk18'.out)
  have hr18 := hide1 (hr17.out.kept hk18'.out)
  have hs18 := hide1 (hs17.out.kept hk18'.out)
  clear hk18' hk17 hr17 hs17 hl17
  go_wp2_with fail
  refine (lend_list S _ ((bs.drop i).take k) _ (HP.out.kept hk18.out) (by rw [HPl.out]; omega)).mono ?_
  rintro e w19 ⟨g19, c19, rfl, hk19', hl19⟩
  rw [HPl.out] at hl19
  rw [HPl.out]
  have hk19 := hide1 (gtrans hk18.out hk19'.out)
  have hr19 := hide1 (hr18.out.kept hk19'.out)
  have hs19 := hide1 (hs18.out.kept hk19'.out)
  clear hk19' hk18 hr18 hs18
  go_wp2_with fail
  refine (splice_gave _ _ _ ss ((bs.drop i).take k) bs i is.length _ hs19.out hl19.out (by omega) (by omega) (by have := HLen.out; omega) (by have := HLen.out; rw [HPl.out]; omega) HBack.out).mono ?_
  rintro e w20 ⟨b20, rfl, hk20', hb20⟩
  have hk20 := hide1 (gtrans hk19.out hk20'.out)
  have hr20 := hide1 (hr19.out.kept hk20'.out)
  clear hk20' hk19 hr19 hs19 hl19
  go_wp2_with fail
  refine (equal_yes _ _ bs _ hb20.out hr20.out).mono ?_
  rintro e w21 ⟨rfl, hk21'⟩
  have hk21 := hide1 (gtrans hk20.out hk21'.out)
  have hr21 := hide1 (hr20.out.kept hk21'.out)
  have hb21 := hide1 (hb20.out.kept hk21'.out)
  clear hk21' hk20 hr20 hb20
  go_wp2_with fail
  refine (bytes_any Any _ bs _ hb21.out).mono ?_
  rintro e w22 ⟨g22, c22, rfl, hk22', hl22'⟩
  have hl22 := hide1 hl22'
  have hk22 := hide1 (gtrans hk21.out hk22')
  have hr22 := hide1 (hr21.out.kept hk22')
  clear hk22' hk21 hr21 hb21 hl22'
  go_wp2_with fail
  refine (same_yes Any S _ _ bs _ hl22.out (HU.out.kept hk22.out) (by omega)).mono ?_
  rintro e w23 ⟨rfl, hk23'⟩
  have hk23 := hide1 (gtrans hk22.out hk23'.out)
  have hr23 := hide1 (hr22.out.kept hk23'.out)
  clear hk23' hk22 hr22 hl22
  go_wp2_with fail
  refine (bytes_any Any _ bs _ hr23.out).mono ?_
  rintro e w24 ⟨g24, c24, rfl, hk24', hl24'⟩
  have hl24 := hide1 hl24'
  have hk24 := hide1 (gtrans hk23.out hk24')
  clear hk24' hk23 hr23 hl24'
  go_wp2_with fail
  refine (same_yes Any S _ _ bs _ hl24.out (HU.out.kept hk24.out) (by omega)).mono ?_
  rintro e w25 ⟨rfl, hk25'⟩
  have hk25 := hide1 (gtrans hk24.out hk25'.out)
  go_wp2
  go_ret
  exact ⟨rfl, hk25.out⟩

end Rope
end Go.Proofs.Ytenhifihbhbicaa
