import Derived.Test.YtenhifihbhbicaaRopeList
import Derived.Test.YtenhifihbhbicaaRopeRound
namespace Go.Proofs.Ytenhifihbhbicaa
open Go.RowKit
attribute [local go_sem] Oper.semAt_some
namespace Rope

/-- xs is ps again and again. -/
def Rep (ps xs : List Int) : Prop := (∃ m, xs.length = m * ps.length) ∧ ∀ i, i < xs.length → xs[i]? = ps[i % ps.length]?
theorem Rep.one (ps : List Int) : Rep ps ps := ⟨⟨1, by omega⟩, fun i hi => by rw [Nat.mod_eq_of_lt hi]⟩
theorem Rep.two {ps xs : List Int} (h : Rep ps xs) : Rep ps (xs ++ xs) := by
  obtain ⟨⟨m, hm⟩, h⟩ := h
  refine ⟨⟨m + m, by rw [List.length_append, hm, Nat.add_mul]⟩, fun i hi => ?_⟩
  rw [List.length_append] at hi
  rcases Nat.lt_or_ge i xs.length with h1 | h1
  · rw [List.getElem?_append_left h1, h i h1]
  · rw [List.getElem?_append_right h1, h (i - xs.length) (by omega)]
    congr 1
    have : i = (i - xs.length) + ps.length * m := by rw [Nat.mul_comm, ← hm]; omega
    conv => rhs; rw [this, Nat.add_mul_mod_self_left]
theorem Rep.at {ps xs : List Int} (h : Rep ps xs) (r i : Nat) (hr : r ≤ xs.length) (hi : i < xs.length + r) : (xs ++ xs.take r)[i]? = ps[i % xs.length % ps.length]? := by
  rcases Nat.lt_or_ge i xs.length with h1 | h1
  · rw [List.getElem?_append_left h1, h.2 i h1, Nat.mod_eq_of_lt h1]
  · rw [List.getElem?_append_right h1, List.getElem?_take, if_pos (by omega), h.2 (i - xs.length) (by omega)]
    congr 1
    congr 1
    rw [Nat.mod_eq_sub_mod h1, Nat.mod_eq_of_lt (by omega)]

set_option maxRecDepth 100000 in
set_option maxHeartbeats 4000000 in
theorem big_none (a : Option Addr) (n cap : Nat) (x : Int) (w : World) (hn : (n : Int) = 0 ∨ 65536 < (n : Int)) :
    Calls Try.prog 4 #[.slice a n cap, .int .i64 x] w fun e w' => e = .returned (.bool true) ∧ Kept w w' := by
  rcases hn with hn | hn
  · obtain rfl : n = 0 := by omega
    clear hn
    go_enter Try.func4, Try.ntmps4
    go_wp2_with (go_at_call 9; go_must (refine (head_any _).mono ?_; rintro e w1 ⟨rfl, hk1⟩))
    go_ret
    exact ⟨rfl, hk1⟩
  · have hz : ((n : Int) == 0) = false := by simp; omega
    go_enter Try.func4, Try.ntmps4
    go_wp2_with (go_at_call 9; go_must (refine (head_any _).mono ?_; rintro e w1 ⟨rfl, hk1⟩))
    go_ret
    exact ⟨rfl, hk1⟩

abbrev Any : Nat → Prop := fun _ => True
theorem any_open (w : World) : Open Any w := fun _ _ => trivial

theorem cat_twice (r : Value) (ps xs : List Int) (w : World) (h : RopeAt Any w r xs) (hr : Rep ps xs) (hn : xs.length + xs.length ≤ 16777216) :
    Calls Try.prog 15 #[r, r] w fun e w' => ∃ b ys, e = .returned (.tuple #[.pointer (some ⟨b, 0, none⟩), .int .i64 0]) ∧ Hid (Kept w w') ∧ Hid (RopeAt Any w' (.pointer (some ⟨b, 0, none⟩)) ys) ∧ Hid (Rep ps ys) ∧ (ys.length : Int) = 2 * xs.length := by
  refine (Cat_in Any r r xs xs w h h (any_open w) hn).mono ?_
  rintro e w' ⟨r', rfl, hk, hr'⟩
  obtain ⟨b, rfl⟩ := hr'.form
  exact ⟨b, xs ++ xs, rfl, hk, hr', hr.two, by rw [List.length_append]; omega⟩

theorem cat_rest (r c : Value) (xs : List Int) (q : Nat) (w : World) (h : RopeAt Any w r xs) (hc : RopeAt Any w c (xs.take q)) (hq : q ≤ xs.length) (hn : xs.length + q = 16777216) :
    Calls Try.prog 15 #[r, c] w fun e w' => ∃ b ys, e = .returned (.tuple #[.pointer (some ⟨b, 0, none⟩), .int .i64 0]) ∧ Hid (Kept w w') ∧ Hid (RopeAt Any w' (.pointer (some ⟨b, 0, none⟩)) ys) ∧ Hid (ys = xs ++ xs.take q) ∧ Hid (ys.length = 16777216) := by
  have hl : (xs.take q).length = q := by simp; omega
  refine (Cat_in Any r c xs (xs.take q) w h hc (any_open w) (by omega)).mono ?_
  rintro e w' ⟨r', rfl, hk, hr'⟩
  obtain ⟨b, rfl⟩ := hr'.form
  exact ⟨b, _, rfl, hk, hr', rfl, by show _ = _; rw [List.length_append, hl]; omega⟩

theorem cut_rest (r : Value) (xs : List Int) (q : Int) (w : World) (h : RopeAt Any w r xs) (h0 : 0 ≤ q) (hq : q ≤ xs.length) :
    Calls Try.prog 17 #[r, .int .i64 0, .int .i64 q] w fun e w' => ∃ b, e = .returned (.tuple #[.pointer (some ⟨b, 0, none⟩), .int .i64 0]) ∧ Hid (Kept w w') ∧ Hid (RopeAt Any w' (.pointer (some ⟨b, 0, none⟩)) (xs.take q.toNat)) := by
  refine (Cut_in Any r xs 0 q w h (any_open w) (Int.le_refl _) h0 hq).mono ?_
  rintro e w' ⟨r', rfl, hk, hr'⟩
  obtain ⟨b, rfl⟩ := hr'.form
  rw [span_front] at hr'
  exact ⟨b, rfl, hk, hr'⟩

theorem splice_seven (S : Nat → Prop) (r v : Value) (ys : List Int) (m : Nat) (w : World) (h : RopeAt Any w r ys) (hv : ListAt S w v [7]) (hl : ys.length = 16777216) (hm : m < 16777216) :
    Calls Try.prog 20 #[r, .int .i64 m, .int .i64 1, v] w fun e w' => ∃ b zs, e = .returned (.tuple #[.pointer (some ⟨b, 0, none⟩), .int .i64 0]) ∧ Hid (Kept w w') ∧ Hid (RopeAt Any w' (.pointer (some ⟨b, 0, none⟩)) zs) ∧ Hid (zs.length = 16777216) ∧ Hid (zs[m]? = some 7) := by
  refine (Splice_in Any S r v ys [7] m 1 w h hv (any_open w) (by omega) (by omega) (by omega) (by rw [List.length_singleton]; omega)).mono ?_
  rintro e w' ⟨r', rfl, hk, hr'⟩
  obtain ⟨b, rfl⟩ := hr'.form
  have hm1 : ((m : Int)).toNat = m := by omega
  have hm2 : ((m : Int) + 1).toNat = m + 1 := by omega
  have ht : (ys.take m).length = m := by rw [List.length_take]; omega
  refine ⟨b, _, rfl, hk, hr', ?_, ?_⟩
  · show _ = _
    unfold spliced
    rw [hm1, hm2, List.length_append, List.length_append, ht, List.length_drop, List.length_singleton]
    omega
  · show _ = _
    unfold spliced
    rw [hm1, hm2, List.getElem?_append_left (by rw [List.length_append, ht, List.length_singleton]; omega), List.getElem?_append_right (by omega), ht, Nat.sub_self]
    rfl

theorem len_full (r : Value) (ys : List Int) (w : World) (h : RopeAt Any w r ys) (hl : ys.length = 16777216) :
    Calls Try.prog 16 #[r] w fun e w' => e = .returned (.int .i64 16777216) ∧ Hid (Kept w w') := by
  have := len_any Any r ys w h
  rw [hl] at this
  exact this

set_option maxRecDepth 100000 in
set_option maxHeartbeats 4000000 in
theorem big_any (S : Nat → Prop) (v : Value) (ps : List Int) (x : Int) (w : World) (hv : ListAt S w v ps) (hn0 : 0 < ps.length) (hn : ps.length ≤ 65536) :
    Calls Try.prog 4 #[v, .int .i64 x] w fun e w' => e = .returned (.bool true) ∧ Kept w w' := by
  obtain ⟨a, cap, rfl⟩ := hv.form
  have HV := hide1 hv
  have HB := hide1 hv.byt
  clear hv
  have gn : (ps.length : Int) ≤ 65536 := by omega
  have gz : ((ps.length : Int) == 0) = false := by rw [beq_eq_false_iff_ne]; omega
  go_enter Try.func4, Try.ntmps4
  go_wp2_with (first
    | (go_at_call 9; go_must (refine (head_any _).mono ?_; rintro e w1 ⟨rfl, hk1'⟩; have hk1 := hide1 hk1'; clear hk1'))
    | (go_at_call 11; go_must (refine (lend_any S _ ps _ (HV.out.kept hk1.out) (by omega)).mono ?_; rintro e w2 ⟨g2, rfl, hk2', hg2, how2'⟩; have hk2 := hide1 (gtrans hk1.out hk2'); have hl2 := hide1 (how2'.list HB.out); clear hk2' how2' hg2))
    | (go_at_call 10; go_must (refine (new_any (fun _ => True) _ _ ps _ hl2.out (fun _ _ => trivial) (by omega)).mono ?_; rintro e w3 ⟨r, rfl, hk3', hr3'⟩; have hk3 := hide1 (gtrans hk2.out hk3'); have hr3 := hide1 hr3'; obtain ⟨b3, rfl⟩ := hr3'.form; clear hk3' hr3')))
  have HK := hide1 hk3.out
  clear hk1 hk2 hl2 hk3
  go_loopw [5, 7] (fun r n wr => ∃ b xs, r = .pointer (some ⟨b, 0, none⟩) ∧ n = .int .i64 ((xs : List Int).length : Int) ∧ Hid (RopeAt Any wr (.pointer (some ⟨b, 0, none⟩)) xs) ∧ Hid (Rep ps xs) ∧ Hid (Kept w wr) ∧ 0 < xs.length ∧ xs.length ≤ 16777216) (fun _ n _ => 16777216 - (intOf n).toNat)
  case atStart => exact ⟨b3, ps, rfl, rfl, hr3, Rep.one ps, HK, hn0, by omega⟩
  case round =>
    obtain ⟨b, xs, rfl, rfl, hr, hp, hk, h0, h1⟩ := hrel
    clear HK hr3
    by_cases hle : (xs.length : Int) ≤ 16777216 - (xs.length : Int)
    · go_wp2_with (first
        | (go_at_call 15; go_must (refine (cat_twice _ ps xs _ hr.out hp.out (by omega)).mono ?_; rintro e w4 ⟨b4, ys, rfl, hk4, hr4, hp4, hl4⟩))
        | (go_at_call 16; go_must (refine (len_any Any _ ys _ hr4.out).mono ?_; rintro e w5 ⟨rfl, hk5'⟩; have hk5 := hide1 hk5'; clear hk5')))
      go_roundw
      case rel => exact ⟨b4, ys, rfl, by rw [hl4], hr4.out.kept hk5.out, hp4, gtrans (gtrans hk.out hk4.out) hk5.out, by omega, by omega⟩
      case measure => simp [intOf]; omega
    · obtain ⟨q, hq⟩ : ∃ q : Nat, (q : Int) = 16777216 - (xs.length : Int) := ⟨16777216 - xs.length, by omega⟩
      go_wp2_with fail
      refine (Cat_long Any _ _ xs xs _ hr.out hr.out (by omega)).mono ?_
      rintro e w4 ⟨rfl, hk4'⟩
      have hk4 := hide1 hk4'
      clear hk4'
      go_wp2_with fail
      refine (cut_rest _ xs _ _ (hr.out.kept hk4.out) (by omega) (by omega)).mono ?_
      rintro e w5 ⟨b5, rfl, hk5, hr5⟩
      rw [← hq, Int.toNat_natCast] at hr5
      go_wp2_with fail
      refine (cat_rest _ _ xs q _ ((hr.out.kept hk4.out).kept hk5.out) hr5.out (by omega) (by omega)).mono ?_
      rintro e w6 ⟨b6, ys, rfl, hk6, hr6, hys, hyl⟩
      have hk46 := hide1 (gtrans (gtrans (gtrans hk.out hk4.out) hk5.out) hk6.out)
      clear hk4 hk5 hk6 hr5
      go_wp2_with fail
      refine (len_full _ ys _ hr6.out hyl.out).mono ?_
      rintro e w7 ⟨rfl, hk7⟩
      have hk47 := hide1 (gtrans hk46.out hk7.out)
      have hr7 := hide1 (hr6.out.kept hk7.out)
      clear hk46 hr6 hk7
      go_wp2_with fail
      refine (round_any x 16777216 _ (by decide) (by decide)).mono ?_
      rintro e w8 ⟨m, rfl, hm, rfl⟩
      obtain ⟨y, hy⟩ : ∃ y, ys[m]? = some y := ⟨_, List.getElem?_eq_getElem (by have := hyl.out; omega)⟩
      have hy2 : ps[m % xs.length % ps.length]? = some y := by
        rw [← hp.out.at q m (by omega) (by omega), ← hys.out]; exact hy
      obtain ⟨j, hj⟩ : ∃ j, m % xs.length % ps.length = j := ⟨_, rfl⟩
      have ht : (m : Int) % (xs.length : Int) % (ps.length : Int) = (j : Int) := by rw [← hj]; rfl
      rw [hj] at hy2
      have hjl : (j : Int) < (ps.length : Int) := by have := (List.getElem?_eq_some_iff.1 hy2).1; omega
      obtain ⟨c, o, rfl, hc⟩ := (HV.out.kept hk47.out).cell hy2
      have hz1 : ((xs.length : Int) == 0) = false := by rw [beq_eq_false_iff_ne]; omega
      have HC := hide1 hc
      have HY := hide1 hy
      have HT := hide1 ht
      clear hj hy2 hc hy ht
      go_wp2_with fail
      refine (at_in Any _ ys m y _ hr7.out HY.out).mono ?_
      rintro e w9 ⟨rfl, hk9'⟩
      have hk9 := hide1 (gtrans hk47.out hk9')
      have hr9 := hide1 (hr7.out.kept hk9')
      have hc9 := grown_cell hk9' HC.out
      have ht := HT.out
      clear hk47 hr7 hk9' HC
      go_wp2_with fail
      clear ht
      have hml : (m : Int) < 16777216 := by omega
      refine (Splice_long Any _ _ _ _ ys m 0 _ (hr9.out.kept ((Kept.refl w9).alloc _ _)) (by omega) (by omega) (by have := hyl.out; omega) (by have := hyl.out; omega)).mono ?_
      rintro e w10 ⟨rfl, hk10'⟩
      have hk10 := hide1 (gtrans ((Kept.refl w9).alloc _ _) hk10')
      clear hk10'
      go_wp2_with fail
      refine (splice_seven _ _ _ ys m _ ((hr9.out.kept hk10.out).kept ((Kept.refl w10).alloc _ _)) (lit_list w10 [7] 1 _ rfl (by intro x hx; simp at hx; omega)) hyl.out (by omega)).mono ?_
      rintro e w11 ⟨b11, zs, rfl, hk11', hr11, hzl, hz⟩
      have hk11 := hide1 (gtrans ((Kept.refl w10).alloc _ _) hk11'.out)
      have hr11' := hide1 (hr9.out.kept (gtrans hk10.out hk11.out))
      clear hk11'
      go_wp2_with fail
      refine (Splice_range Any _ _ _ _ ys 16777217 0 _ (hr11'.out.kept ((Kept.refl w11).alloc _ _)) (by have := hyl.out; omega)).mono ?_
      rintro e w12 ⟨rfl, hk12'⟩
      have hk12 := hide1 (gtrans ((Kept.refl w11).alloc _ _) hk12')
      have hk13 := hide1 (gtrans (gtrans (gtrans hk9.out hk10.out) hk11.out) hk12.out)
      have hr12 := hide1 (hr11'.out.kept hk12.out)
      have hs12 := hide1 (hr11.out.kept hk12.out)
      clear hk12' hk12 hk11 hk10 hk9 hr11' hr11 hr9
      go_wp2_with fail
      refine (len_full _ zs _ hs12.out hzl.out).mono ?_
      rintro e w14 ⟨rfl, hk14⟩
      go_wp2_with fail
      refine (at_in Any _ zs m 7 _ (hs12.out.kept hk14.out) hz.out).mono ?_
      rintro e w15 ⟨rfl, hk15'⟩
      have hk15 := hide1 (gtrans hk14.out hk15')
      clear hk15'
      go_wp2_with fail
      refine (at_in Any _ ys m y _ (hr12.out.kept hk15.out) HY.out).mono ?_
      rintro e w16 ⟨rfl, hk16'⟩
      have hk16 := hide1 (gtrans (gtrans hk13.out hk15.out) hk16')
      clear hk16'
      go_wp2
      go_ret
      exact ⟨rfl, hk16.out⟩

end Rope
end Go.Proofs.Ytenhifihbhbicaa
