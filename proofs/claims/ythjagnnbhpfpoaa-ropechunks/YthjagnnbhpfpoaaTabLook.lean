import Derived.Test.YthjagnnbhpfpoaaTabSplice
namespace Go.Proofs.Ythjagnnbhpfpoaa
open Go.RowKit
attribute [local go_sem] Oper.semAt_some
namespace Rope

/-- What is told of a place, a row, a part: one answer of both ropes. -/
def AtIs (xs : List Int) (a x : Int) (ok : Bool) : Prop := (∃ i : Nat, a = i ∧ xs[i]? = some x ∧ ok = true) ∨ ((a < 0 ∨ xs.length ≤ a) ∧ x = 0 ∧ ok = false)
theorem at_is (xs : List Int) (a : Int) : ∃ x ok, AtIs xs a x ok := by
  by_cases h : a < 0 ∨ xs.length ≤ a
  · exact ⟨0, false, .inr ⟨h, rfl, rfl⟩⟩
  · obtain ⟨i, rfl⟩ : ∃ i : Nat, a = i := ⟨a.toNat, by omega⟩
    exact ⟨xs[i]'(by omega), true, .inl ⟨i, rfl, List.getElem?_eq_getElem _, rfl⟩⟩
theorem at_tells (S : Nat → Prop) (r : Value) (xs : List Int) (a x : Int) (ok : Bool) (w : World) (h : RopeAt S w r xs) (ha : AtIs xs a x ok) :
    Calls Try.prog 19 #[r, .int .i64 a] w fun e w' => e = .returned (.tuple #[.int .u8 x, .bool ok]) ∧ Kept w w' := by
  rcases ha with ⟨i, rfl, h1, rfl⟩ | ⟨h1, rfl, rfl⟩
  · exact at_in S r xs i x w h h1
  · exact at_out S r xs a w h h1
theorem rat_tells (S : Nat → Prop) (r : Value) (xs : List Int) (a x : Int) (ok : Bool) (w : World) (h : RefAt S w r xs) (ha : AtIs xs a x ok) :
    Calls Try.prog 45 #[r, .int .i64 a] w fun e w' => e = .returned (.tuple #[.int .u8 x, .bool ok]) ∧ Kept w w' := by
  rcases ha with ⟨i, rfl, h1, rfl⟩ | ⟨h1, rfl, rfl⟩
  · exact (rat_in S r xs i x w h h1).mono fun e w' h => ⟨h.1, h.2 ▸ Kept.refl _⟩
  · exact (rat_out S r xs a w h h1).mono fun e w' h => ⟨h.1, h.2 ▸ Kept.refl _⟩

def RowIs (xs : List Int) (a x y c : Int) : Prop := (∃ i : Nat, a = i ∧ i ≤ xs.length ∧ x = ends (xs.take i) ∧ y = (i : Int) - behind xs (ends (xs.take i)) ∧ c = 0) ∨ ((a < 0 ∨ xs.length < a) ∧ x = 0 ∧ y = 0 ∧ c = 3)
theorem row_is (xs : List Int) (a : Int) : ∃ x y c, RowIs xs a x y c := by
  by_cases h : a < 0 ∨ xs.length < a
  · exact ⟨0, 0, 3, .inr ⟨h, rfl, rfl, rfl⟩⟩
  · obtain ⟨i, rfl⟩ : ∃ i : Nat, a = i := ⟨a.toNat, by omega⟩
    exact ⟨_, _, 0, .inl ⟨i, rfl, by omega, rfl, rfl, rfl⟩⟩
theorem row_tells (S : Nat → Prop) (r : Value) (xs : List Int) (a x y c : Int) (w : World) (h : RopeAt S w r xs) (ha : RowIs xs a x y c) :
    Calls Try.prog 14 #[r, .int .i64 a] w fun e w' => e = .returned (.tuple #[.int .i64 x, .int .i64 y, .int .i64 c]) ∧ Kept w w' := by
  rcases ha with ⟨i, rfl, h1, rfl, rfl, rfl⟩ | ⟨h1, rfl, rfl, rfl⟩
  · exact row_in S r xs i w h h1
  · exact row_out S r xs a w h h1
theorem rrow_tells (S : Nat → Prop) (r : Value) (xs : List Int) (a x y c : Int) (w : World) (h : RefAt S w r xs) (ha : RowIs xs a x y c) :
    Calls Try.prog 46 #[r, .int .i64 a] w fun e w' => e = .returned (.tuple #[.int .i64 x, .int .i64 y, .int .i64 c]) ∧ Kept w w' := by
  rcases ha with ⟨i, rfl, h1, rfl, rfl, rfl⟩ | ⟨h1, rfl, rfl, rfl⟩
  · exact (rrow_in S r xs i w h h1).mono fun e w' h => ⟨h.1, h.2 ▸ Kept.refl _⟩
  · exact (rrow_out S r xs a w h h1).mono fun e w' h => ⟨h.1, h.2 ▸ Kept.refl _⟩

def StartIs (xs : List Int) (b x c : Int) : Prop := (∃ k : Nat, b = k ∧ k ≤ ends xs ∧ x = behind xs k ∧ c = 0) ∨ ((b < 0 ∨ (ends xs : Int) + 1 ≤ b) ∧ x = 0 ∧ c = 3)
theorem start_is (xs : List Int) (b : Int) : ∃ x c, StartIs xs b x c := by
  by_cases h : b < 0 ∨ (ends xs : Int) + 1 ≤ b
  · exact ⟨0, 3, .inr ⟨h, rfl, rfl⟩⟩
  · obtain ⟨k, rfl⟩ : ∃ k : Nat, b = k := ⟨b.toNat, by omega⟩
    exact ⟨_, 0, .inl ⟨k, rfl, by omega, rfl, rfl⟩⟩
theorem start_tells (S : Nat → Prop) (r : Value) (xs : List Int) (b x c : Int) (w : World) (h : RopeAt S w r xs) (ha : StartIs xs b x c) :
    Calls Try.prog 13 #[r, .int .i64 b] w fun e w' => e = .returned (.tuple #[.int .i64 x, .int .i64 c]) ∧ Kept w w' := by
  rcases ha with ⟨k, rfl, h1, rfl, rfl⟩ | ⟨h1, rfl, rfl⟩
  · exact start_in S r xs k w h h1
  · exact start_out S r xs b w h h1
theorem rstart_tells (S : Nat → Prop) (r : Value) (xs : List Int) (b x c : Int) (w : World) (h : RefAt S w r xs) (hb : b ≤ 9223372036854775807) (ha : StartIs xs b x c) :
    Calls Try.prog 29 #[r, .int .i64 b] w fun e w' => e = .returned (.tuple #[.int .i64 x, .int .i64 c]) ∧ Kept w w' := by
  rcases ha with ⟨k, rfl, h1, rfl, rfl⟩ | ⟨h1, rfl, rfl⟩
  · exact (rstart_any S r xs k w h (by omega)).mono fun e w' h => ⟨h.1 h1, h.2.2 ▸ Kept.refl _⟩
  · by_cases h0 : b < 0
    · exact (rstart_low r b w h0).mono fun e w' h => ⟨h.1, h.2 ▸ Kept.refl _⟩
    · obtain ⟨k, rfl⟩ : ∃ k : Nat, b = k := ⟨b.toNat, by omega⟩
      exact (rstart_any S r xs k w h (by omega)).mono fun e w' h => ⟨h.2.1 (by omega), h.2.2 ▸ Kept.refl _⟩

def PartIs (xs : List Int) (a b : Int) (ys : List Int) (c : Int) : Prop := (∃ f t : Nat, a = f ∧ b = t ∧ f ≤ t ∧ t ≤ xs.length ∧ ys = span xs f t ∧ c = 0) ∨ (¬ (0 ≤ a ∧ a ≤ b ∧ b ≤ xs.length) ∧ ys = [] ∧ c = 3)
theorem part_is (xs : List Int) (a b : Int) : ∃ ys c, PartIs xs a b ys c := by
  by_cases h : 0 ≤ a ∧ a ≤ b ∧ b ≤ xs.length
  · obtain ⟨f, rfl⟩ : ∃ f : Nat, a = f := ⟨a.toNat, by omega⟩
    obtain ⟨t, rfl⟩ : ∃ t : Nat, b = t := ⟨b.toNat, by omega⟩
    exact ⟨_, 0, .inl ⟨f, t, rfl, rfl, by omega, by omega, rfl, rfl⟩⟩
  · exact ⟨[], 3, .inr ⟨h, rfl, rfl⟩⟩
theorem PartIs.len {xs ys : List Int} {a b c : Int} (h : PartIs xs a b ys c) : ys.length ≤ xs.length := by
  rcases h with ⟨f, t, _, _, _, _, rfl, _⟩ | ⟨_, rfl, _⟩
  · exact span_take xs f t
  · simp
abbrev All : Nat → Prop := fun _ => True
theorem to_all {S : Nat → Prop} {w : World} {v : Value} {xs : List Int} (h : ListAt S w v xs) : ListAt All w v xs := h.mono (Same.refl _ _) (fun _ _ => trivial)
theorem part_tells (S : Nat → Prop) (rv : Option Addr) (xs : List Int) (a b : Int) (ys : List Int) (c : Int) (w : World) (h : RopeAt S w (.pointer rv) xs) (ha : PartIs xs a b ys c) :
    Calls Try.prog 47 #[.pointer rv, .int .i64 a, .int .i64 b] w fun e w' => ∃ d n q, e = .returned (.tuple #[.slice d n q, .int .i64 c]) ∧ Kept w w' ∧ ListAt All w' (.slice d n q) ys := by
  rcases ha with ⟨f, t, rfl, rfl, h1, h2, rfl, rfl⟩ | ⟨h1, rfl, rfl⟩
  · refine (Part_in S rv xs f t w h h1 h2).mono ?_
    rintro e w' ⟨g, cap, rfl, hk, _, ho⟩
    exact ⟨_, _, _, rfl, hk, to_all (ho.list ((h.byt.take _).drop _))⟩
  · refine (Part_out S rv xs a b w h h1).mono ?_
    rintro e w' ⟨rfl, hk⟩
    exact ⟨_, _, _, rfl, hk, .inl ⟨rfl, _, _, rfl⟩⟩
theorem rpart_tells (S : Nat → Prop) (r : Value) (xs : List Int) (a b : Int) (ys : List Int) (c : Int) (w : World) (h : RefAt S w r xs) (ha : PartIs xs a b ys c) :
    Calls Try.prog 48 #[r, .int .i64 a, .int .i64 b] w fun e w' => ∃ d n q, e = .returned (.tuple #[.slice d n q, .int .i64 c]) ∧ Kept w w' ∧ ListAt All w' (.slice d n q) ys := by
  rcases ha with ⟨f, t, rfl, rfl, h1, h2, rfl, rfl⟩ | ⟨h1, rfl, rfl⟩
  · refine (rpart_in S r xs f t w h h1 h2).mono ?_
    rintro e w' ⟨d, n, q, rfl, hk, ho⟩
    exact ⟨_, _, _, rfl, hk, to_all (ho.list ((h.byt.take _).drop _))⟩
  · refine (rpart_out S r xs a b w h h1).mono ?_
    rintro e w' ⟨rfl, rfl⟩
    exact ⟨_, _, _, rfl, Kept.refl _, .inl ⟨rfl, _, _, rfl⟩⟩
theorem rrows_kept (S : Nat → Prop) (r : Value) (xs : List Int) (w : World) (h : RefAt S w r xs) :
    Calls Try.prog 28 #[r] w fun e w' => e = .returned (.int .i64 ((ends xs : Int) + 1)) ∧ Kept w w' :=
  (rrows_any S r xs w h).mono fun _ _ h => ⟨h.1, h.2 ▸ Kept.refl _⟩
theorem same_true (S S' : Nat → Prop) (u v : Value) (xs : List Int) (w : World) (h1 : ListAt S w u xs) (h2 : ListAt S' w v xs) (hn : xs.length ≤ 1000000000) : Calls Try.prog 22 #[u, v] w fun e w' => e = .returned (.bool true) ∧ Kept w w' := by
  have := same_any S S' u v xs xs w h1 h2 hn hn
  rw [decide_eq_true rfl] at this
  exact this

set_option maxRecDepth 100000 in
set_option maxHeartbeats 8000000 in
theorem look_any (S S' : Nat → Prop) (bP bR : Nat) (xs : List Int) (a b : Int) (w : World) (hp : RopeAt S w (.pointer (some ⟨bP, 0, none⟩)) xs) (hr : RefAt S' w (.pointer (some ⟨bR, 0, none⟩)) xs) (hb : b ≤ 9223372036854775807) :
    Calls Try.prog 27 #[.pointer (some ⟨bP, 0, none⟩), .pointer (some ⟨bR, 0, none⟩), .int .i64 a, .int .i64 b] w fun e w' => e = .returned (.bool true) ∧ Kept w w' := by
  obtain ⟨x1, ok1, h1⟩ := at_is xs a
  obtain ⟨x2, y2, c2, h2⟩ := row_is xs a
  obtain ⟨x3, c3, h3⟩ := start_is xs b
  obtain ⟨ys, c4, h4⟩ := part_is xs a b
  have H1 := hide1 h1
  have H2 := hide1 h2
  have H3 := hide1 h3
  have H4 := hide1 h4
  have HP := hide1 hp
  have HR := hide1 hr
  have HYS : Hid (ys.length ≤ 1000000000) := Nat.le_trans h4.len (Nat.le_trans hp.len (by decide))
  have hlen : (xs.length : Int) ≤ 16777216 := by have := hp.len; omega
  obtain ⟨vb, hvb⟩ : ∃ v, w.cell? ⟨bR, 0, none⟩ = some v ∧ ListAt S' w v xs := by
    obtain ⟨b', v, e, _, hc, hl, _⟩ := hr
    injection e with e
    injection e with e
    injection e with e
    subst e
    exact ⟨v, hc, hl⟩
  obtain ⟨hcb, hlb⟩ := hvb
  obtain ⟨ab, qb, rfl⟩ := lform hlb
  have k0 := keeps hcb
  clear h1 h2 h3 h4 hp hr hlb hcb
  go_enter Try.func27, Try.ntmps27
  go_wp2_with fail
  refine (at_tells S _ xs a x1 ok1 _ HP.out H1.out).mono ?_
  rintro e w1 ⟨rfl, hk1'⟩
  have hk1 := hide1 hk1'
  clear hk1'
  go_wp2_with fail
  refine (rat_tells S' _ xs a x1 ok1 _ (HR.out.kept hk1.out) H1.out).mono ?_
  rintro e w2 ⟨rfl, hk2'⟩
  have hk2 := hide1 (gtrans hk1.out hk2')
  clear hk2' hk1
  have cb := k0 w2 hk2.out
  have kb := keeps cb
  have hkr : Kept w2 w2 := Kept.refl w2
  go_wp2_with fail
  go_region_held3 (fun w' => Kept w2 w') (first | assumption | exact Kept.refl _ | exact gtrans (by assumption) (by assumption))
    ((first | (go_at_call 16; refine (len_any S _ xs _ ((HP.out.kept hk2.out).kept (by assumption))).mono ?_; rintro e w3 ⟨rfl, hk3⟩) | (go_at_call 12; refine (rows_any S _ xs _ ((HP.out.kept hk2.out).kept (by assumption))).mono ?_; rintro e w4 ⟨rfl, hk4⟩) | (go_at_call 28; refine (rrows_kept S' _ xs _ ((HR.out.kept hk2.out).kept (by assumption))).mono ?_; rintro e w5 ⟨rfl, hk5⟩)))
  have hk25 : Kept w2 w5 := gtrans (gtrans (gtrans (drew_kept w2) hk3) hk4) hk5
  have hk6 := hide1 (gtrans hk2.out hk25)
  clear hk3 hk4 hk5 hk25 hk2 cb kb hkr k0
  go_wp2_with fail
  refine (row_tells S _ xs a x2 y2 c2 _ (HP.out.kept hk6.out) H2.out).mono ?_
  rintro e w7 ⟨rfl, hk7'⟩
  have hk7 := hide1 (gtrans hk6.out hk7')
  clear hk7' hk6
  go_wp2_with fail
  refine (rrow_tells S' _ xs a x2 y2 c2 _ (HR.out.kept hk7.out) H2.out).mono ?_
  rintro e w8 ⟨rfl, hk8'⟩
  have hk8 := hide1 (gtrans hk7.out hk8')
  clear hk8' hk7
  go_wp2_with fail
  refine (start_tells S _ xs b x3 c3 _ (HP.out.kept hk8.out) H3.out).mono ?_
  rintro e w9 ⟨rfl, hk9'⟩
  have hk9 := hide1 (gtrans hk8.out hk9')
  clear hk9' hk8
  go_wp2_with fail
  refine (rstart_tells S' _ xs b x3 c3 _ (HR.out.kept hk9.out) hb H3.out).mono ?_
  rintro e w10 ⟨rfl, hk10'⟩
  have hk10 := hide1 (gtrans hk9.out hk10')
  clear hk10' hk9
  go_wp2_with fail
  refine (part_tells S _ xs a b ys c4 _ (HP.out.kept hk10.out) H4.out).mono ?_
  rintro e w11 ⟨d11, n11, q11, rfl, hk11', hl11'⟩
  have hk11 := hide1 (gtrans hk10.out hk11')
  have hl11 := hide1 hl11'
  clear hk11' hk10 hl11'
  go_wp2_with fail
  refine (rpart_tells S' _ xs a b ys c4 _ (HR.out.kept hk11.out) H4.out).mono ?_
  rintro e w12 ⟨d12, n12, q12, rfl, hk12', hl12'⟩
  have hk12 := hide1 (gtrans hk11.out hk12')
  have hl12 := hide1 hl12'
  have hm12 := hide1 (hl11.out.kept hk12')
  clear hk12' hk11 hl12' hl11
  go_wp2_with fail
  refine (same_true All All _ _ ys _ hm12.out hl12.out HYS.out).mono ?_
  rintro e w13 ⟨rfl, hk13'⟩
  have hk13 := hide1 (gtrans hk12.out hk13')
  clear hk13' hk12
  go_wp2
  go_ret
  exact ⟨rfl, hk13.out⟩

end Rope
end Go.Proofs.Ythjagnnbhpfpoaa
