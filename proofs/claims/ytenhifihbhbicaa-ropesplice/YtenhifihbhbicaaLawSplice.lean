import Derived.Test.YtenhifihbhbicaaLawBig
import Derived.Test.YtenhifihbhbicaaRopeEqualB
import Derived.Test.YtenhifihbhbicaaRefBase
namespace Go.Proofs.Ytenhifihbhbicaa
open Go.RowKit
attribute [local go_sem] Oper.semAt_some
namespace Rope

set_option maxRecDepth 100000 in
set_option maxHeartbeats 2000000 in
theorem bytes_any (S : Nat → Prop) (r : Value) (xs : List Int) (w : World) (h : RopeAt S w r xs) :
    Calls Try.prog 23 #[r] w fun e w' => ∃ g cap, e = .returned (.slice (some ⟨g, 0, none⟩) xs.length cap) ∧ Kept w w' ∧ ListAt Any w' (.slice (some ⟨g, 0, none⟩) xs.length cap) xs := by
  obtain ⟨b, rfl⟩ := h.form
  have HE := hide1 h
  have HB := hide1 h.byt
  clear h
  go_enter Try.func23, Try.ntmps23
  go_wp2_with fail
  refine (Bytes_any S _ xs _ HE.out).mono ?_
  rintro e w1 ⟨g, cap, rfl, hk1, _, how1⟩
  have HO := hide1 (how1.list HB.out)
  clear how1
  go_wp2
  go_ret
  exact ⟨g, cap, rfl, hk1, HO.out.mono (Kept.same (Kept.refl _) _) (fun _ _ => trivial)⟩

/-- A rope was told. -/
def Gave (w : World) (xs : List Int) (e : Ending) (w' : World) : Prop :=
  ∃ b, e = .returned (.tuple #[.pointer (some ⟨b, 0, none⟩), .int .i64 0]) ∧ Hid (Kept w w') ∧ Hid (RopeAt Any w' (.pointer (some ⟨b, 0, none⟩)) xs)

theorem new_gave (S : Nat → Prop) (v : Value) (xs : List Int) (w : World) (h : ListAt S w v xs) (hn : xs.length ≤ 16777216) : Calls Try.prog 10 #[v] w (Gave w xs) := by
  refine (new_any Any S v xs w h (any_open w) hn).mono ?_
  rintro e w' ⟨r, rfl, hk, hr⟩
  obtain ⟨b, rfl⟩ := hr.form
  exact ⟨b, rfl, hk, hr⟩
theorem cut_gave (r : Value) (xs ys : List Int) (f t : Int) (w : World) (h : RopeAt Any w r xs) (h0 : 0 ≤ f) (h1 : f ≤ t) (h2 : t ≤ xs.length) (hy : span xs f t = ys) : Calls Try.prog 17 #[r, .int .i64 f, .int .i64 t] w (Gave w ys) := by
  subst hy
  refine (Cut_in Any r xs f t w h (any_open w) h0 h1 h2).mono ?_
  rintro e w' ⟨r, rfl, hk, hr⟩
  obtain ⟨b, rfl⟩ := hr.form
  exact ⟨b, rfl, hk, hr⟩
theorem cat_gave (r o : Value) (xs ys : List Int) (w : World) (h : RopeAt Any w r xs) (ho : RopeAt Any w o ys) (hn : xs.length + ys.length ≤ 16777216) : Calls Try.prog 15 #[r, o] w (Gave w (xs ++ ys)) := by
  refine (Cat_in Any r o xs ys w h ho (any_open w) hn).mono ?_
  rintro e w' ⟨r, rfl, hk, hr⟩
  obtain ⟨b, rfl⟩ := hr.form
  exact ⟨b, rfl, hk, hr⟩
theorem splice_gave (S : Nat → Prop) (r v : Value) (xs ins ys : List Int) (f d : Int) (w : World) (h : RopeAt Any w r xs) (hv : ListAt S w v ins) (h0 : 0 ≤ f) (h1 : 0 ≤ d) (h2 : f + d ≤ xs.length) (hn : (xs.length : Int) - d + ins.length ≤ 16777216) (hy : spliced xs ins f d = ys) :
    Calls Try.prog 20 #[r, .int .i64 f, .int .i64 d, v] w (Gave w ys) := by
  subst hy
  refine (Splice_in Any S r v xs ins f d w h hv (any_open w) h0 h1 h2 hn).mono ?_
  rintro e w' ⟨r, rfl, hk, hr⟩
  obtain ⟨b, rfl⟩ := hr.form
  exact ⟨b, rfl, hk, hr⟩
theorem lend_list (S : Nat → Prop) (v : Value) (xs : List Int) (w : World) (h : ListAt S w v xs) (hn : xs.length ≤ 100000000) :
    Calls Try.prog 11 #[v] w fun e w' => ∃ g cap, e = .returned (.slice (some ⟨g, 0, none⟩) xs.length cap) ∧ Hid (Kept w w') ∧ Hid (ListAt Any w' (.slice (some ⟨g, 0, none⟩) xs.length cap) xs) := by
  refine (lend_any S v xs w h hn).mono ?_
  rintro e w' ⟨g, rfl, hk, _, ho⟩
  exact ⟨g, _, rfl, hk, (ho.list h.byt).mono (Kept.same (Kept.refl _) _) (fun _ _ => trivial)⟩
theorem equal_yes (r o : Value) (xs : List Int) (w : World) (h1 : RopeAt Any w r xs) (h2 : RopeAt Any w o xs) : Calls Try.prog 21 #[r, o] w fun e w' => e = .returned (.bool true) ∧ Hid (Kept w w') := by
  have := equal_any r o xs xs w h1 h2
  rw [decide_eq_true rfl] at this
  exact this
theorem same_yes (S S' : Nat → Prop) (u v : Value) (xs : List Int) (w : World) (h1 : ListAt S w u xs) (h2 : ListAt S' w v xs) (hn : xs.length ≤ 1000000000) : Calls Try.prog 22 #[u, v] w fun e w' => e = .returned (.bool true) ∧ Hid (Kept w w') := by
  have := same_any S S' u v xs xs w h1 h2 hn hn
  rw [decide_eq_true rfl] at this
  exact this

set_option maxRecDepth 100000 in
set_option maxHeartbeats 4000000 in
theorem splice_many (a b : Option Addr) (n m p q : Nat) (x y : Int) (w : World) (h1 : n ≤ 200000000000000) (h2 : m ≤ 200000000000000) (hn : 65536 < (n : Int) + (m : Int)) :
    Calls Try.prog 5 #[.slice a n p, .slice b m q, .int .i64 x, .int .i64 y] w fun e w' => e = .returned (.bool true) ∧ Kept w w' := by
  have g1 : (n : Int) ≤ 200000000000000 := by omega
  have g2 : (m : Int) ≤ 200000000000000 := by omega
  go_enter Try.func5, Try.ntmps5
  go_wp2_with fail
  refine (head_any _).mono ?_
  rintro e w1 ⟨rfl, hk1⟩
  go_wp2
  go_ret
  exact ⟨rfl, hk1⟩

set_option maxRecDepth 100000 in
set_option maxHeartbeats 4000000 in
theorem splice_none (S S' : Nat → Prop) (u v : Value) (bs is : List Int) (f d : Int) (w : World) (hu : ListAt S w u bs) (hv : ListAt S' w v is) (hn : (bs.length : Int) + (is.length : Int) ≤ 65536)
    (hf : -9223372036854775808 ≤ f ∧ f ≤ 9223372036854775807) (hd : -9223372036854775808 ≤ d ∧ d ≤ 9223372036854775807) (hno : ¬ (0 ≤ f ∧ 0 ≤ d ∧ f ≤ bs.length ∧ d ≤ bs.length - f)) :
    Calls Try.prog 5 #[u, v, .int .i64 f, .int .i64 d] w fun e w' => e = .returned (.bool true) ∧ Kept w w' := by
  obtain ⟨a, p, rfl⟩ := hu.form
  obtain ⟨b, q, rfl⟩ := hv.form
  have HU := hide1 hu
  have HV := hide1 hv
  clear hu hv
  go_enter Try.func5, Try.ntmps5
  go_wp2_with fail
  refine (head_any _).mono ?_
  rintro e w1 ⟨rfl, hk1'⟩
  have hk1 := hide1 hk1'
  clear hk1'
  go_wp2_with fail
  refine (lend_list S _ bs _ (HU.out.kept hk1.out) (by omega)).mono ?_
  rintro e w2 ⟨g2, c2, rfl, hk2', hl2⟩
  have hk2 := hide1 (gtrans hk1.out hk2'.out)
  clear hk2' hk1
  go_wp2_with fail
  refine (new_gave _ _ bs _ hl2.out (by omega)).mono ?_
  rintro e w3 ⟨b3, rfl, hk3', hr3⟩
  have hk3 := hide1 (gtrans hk2.out hk3'.out)
  clear hk3' hk2 hl2
  go_wp2_with fail
  refine (lend_list S' _ is _ (HV.out.kept hk3.out) (by omega)).mono ?_
  rintro e w4 ⟨g4, c4, rfl, hk4', hl4⟩
  have hk4 := hide1 (gtrans hk3.out hk4'.out)
  have hr4 := hide1 (hr3.out.kept hk4'.out)
  clear hk4' hk3 hr3
  go_wp2_with fail
  refine (new_gave _ _ is _ hl4.out (by omega)).mono ?_
  rintro e w5 ⟨b5, rfl, hk5', hr5⟩
  have hk5 := hide1 (gtrans hk4.out hk5'.out)
  have hr5' := hide1 (hr4.out.kept hk5'.out)
  clear hk5' hk4 hl4 hr4
  go_wp2_with fail
  refine (lend_list S' _ is _ (HV.out.kept hk5.out) (by omega)).mono ?_
  rintro e w6 ⟨g6, c6, rfl, hk6', hl6⟩
  have hk6 := hide1 (gtrans hk5.out hk6'.out)
  have hr6 := hide1 (hr5'.out.kept hk6'.out)
  clear hk6' hk5 hr5' hr5
  go_wp2_with fail
  refine (Splice_range Any _ _ _ _ bs f d _ hr6.out hno).mono ?_
  rintro e w7 ⟨rfl, hk7'⟩
  have hk7 := hide1 (gtrans hk6.out hk7')
  clear hk7' hk6 hl6 hr6
  by_cases h1 : f < 0
  · go_wp2
    go_ret
    exact ⟨rfl, hk7.out⟩
  · have e1 : decide (f < 0) = false := decide_eq_false h1
    by_cases h2 : d < 0
    · go_wp2
      go_ret
      exact ⟨rfl, hk7.out⟩
    · have e2 : decide (d < 0) = false := decide_eq_false h2
      by_cases h3 : (bs.length : Int) < f
      · go_wp2
        go_ret
        exact ⟨rfl, hk7.out⟩
      · have e3 : decide ((bs.length : Int) < f) = false := decide_eq_false h3
        have h4 : (bs.length : Int) - f < d := by omega
        go_wp2
        go_ret
        exact ⟨rfl, hk7.out⟩

end Rope
end Go.Proofs.Ytenhifihbhbicaa
