import Derived.Test.YthcllhoboiglcaaDoorMExFt1
import Derived.Test.YthcllhoboiglcaaDoorMExTw0
import Derived.Deep.RegionHeld3
import Derived.Deep.Cut
import Derived.Deep.CutRange
import Derived.BigQuiet
namespace Go.Proofs.YthcllhoboiglcaaDoor
open Go.RowKit
namespace Ex

/-- A pattern of two, and one that comes so many times. -/
def twoP {n : Nat} (k : Int) (p q : PatN (n + 1)) : PatN (n + 1 + 1) := (show PatN (n + 1 + 1) from (k, 0, 0, 0, 0, [p, q]))
def manyP {n : Nat} (mn mx : Int) (p : PatN (n + 1)) : PatN (n + 1 + 1) := (show PatN (n + 1 + 1) from (4, 0, 0, mn, mx, [p]))

theorem lang_both {n : Nat} (p q : PatN (n + 1)) (u : List Int) : LangN (n + 1) (twoP 3 p q) u ↔ LangN n p u ∨ LangN n q u := by
  rw [langS]
  show langF 3 0 0 0 0 ([p, q].map (LangN n)) u ↔ _
  unfold langF
  rw [if_neg (by omega), if_neg (by omega), if_pos rfl]
  simp
theorem lang_row {n : Nat} (p q : PatN (n + 1)) (u : List Int) : LangN (n + 1) (twoP 2 p q) u ↔ ∃ k, k ≤ u.length ∧ LangN n p (u.take k) ∧ LangN n q (u.drop k) := by
  rw [langS]
  show langF 2 0 0 0 0 ([p, q].map (LangN n)) u ↔ _
  unfold langF
  rw [if_neg (by omega), if_pos rfl]
  constructor
  · rintro ⟨x, y, e, hx, z, t, e2, hz, ht⟩
    have ht : t = [] := ht
    subst ht
    rw [List.append_nil] at e2
    subst e2 e
    exact ⟨x.length, by simp, by rw [List.take_left']; exact hx; rfl, by rw [List.drop_left']; exact hz; rfl⟩
  · rintro ⟨k, hk, h1, h2⟩
    exact ⟨u.take k, u.drop k, (List.take_append_drop _ _).symm, h1, u.drop k, [], by simp, h2, rfl⟩
theorem lang_many {n : Nat} (mn mx : Int) (p : PatN (n + 1)) (u : List Int) : LangN (n + 1) (manyP mn mx p) u ↔ TimesS (LangN n p) mn mx u := by
  rw [langS]
  show langF 4 0 0 mn mx ([p].map (LangN n)) u ↔ _
  unfold langF
  rw [if_neg (by omega), if_neg (by omega), if_neg (by omega)]
  rfl
/-- A power without rows of nothing ahead. -/
theorem pow_first {L : List Int → Prop} : ∀ (k : Nat) (u : List Int), PowL L k u → u ≠ [] → ∃ j x y, j < k ∧ u = x ++ y ∧ x ≠ [] ∧ L x ∧ PowL L j y
  | 0, u, h, hu => absurd h hu
  | k + 1, u, ⟨x, y, e, hx, hy⟩, hu => by
    by_cases h : x = []
    · subst h
      have e : u = y := e
      subst e
      obtain ⟨j, x2, y2, hj, h1⟩ := pow_first k u hy hu
      exact ⟨j, x2, y2, by omega, h1⟩
    · exact ⟨k, x, y, by omega, e, h, hx, hy⟩
/-- From so many to so many times: none, or one and behind it one time less. -/
theorem times_less {L : List Int → Prop} {mn mx fst les : Int} (h0 : 0 ≤ mn) (hm : mx = -1 ∨ mn ≤ mx) (hf : fst = max (mn - 1) 0) (hl : les = if mx = -1 then -1 else mx - 1) (u : List Int) :
    TimesS L mn mx u ↔ (mn = 0 ∧ u = []) ∨ (mx ≠ 0 ∧ ∃ k, k ≤ u.length ∧ L (u.take k) ∧ ¬ (k = 0 ∧ 0 < u.length ∧ mx < 0 ∧ mn = 0) ∧ TimesS L fst les (u.drop k)) := by
  constructor
  · rintro ⟨k, h1, h2, h3⟩
    cases k with
    | zero => exact .inl ⟨by simp at h1; omega, h3⟩
    | succ k =>
      have hx0 : mx ≠ 0 := by omega
      by_cases hs : mx < 0 ∧ mn = 0
      · have hmx : mx = -1 := by omega
        subst hmx
        rw [if_pos rfl] at hl
        subst hl
        by_cases hu : u = []
        · exact .inl ⟨hs.2, hu⟩
        · obtain ⟨j, x, y, hj, e, hx, hLx, hy⟩ := pow_first _ _ h3 hu
          subst e
          refine .inr ⟨hx0, x.length, by simp, by rw [List.take_left']; exact hLx; rfl, fun h => hx (List.length_eq_zero_iff.1 h.1), ?_⟩
          rw [List.drop_left' rfl]
          exact ⟨j, by omega, .inl rfl, hy⟩
      · obtain ⟨x, y, e, hx, hy⟩ := h3
        subst e
        refine .inr ⟨hx0, x.length, by simp, by rw [List.take_left']; exact hx; rfl, fun h => hs ⟨h.2.2.1, h.2.2.2⟩, ?_⟩
        rw [List.drop_left' rfl]
        refine ⟨k, by omega, ?_, hy⟩
        rcases h2 with h2 | h2
        · left; rw [hl, if_pos h2]
        · by_cases hm1 : mx = -1
          · left; rw [hl, if_pos hm1]
          · right; rw [hl, if_neg hm1]; omega
  · rintro (⟨h1, h2⟩ | ⟨h1, k, hk, hL, _, j, j1, j2, j3⟩)
    · refine ⟨0, by omega, ?_, h2⟩
      rcases hm with hm | hm
      · exact .inl hm
      · right; simp; omega
    · refine ⟨j + 1, by omega, ?_, u.take k, u.drop k, (List.take_append_drop _ _).symm, hL, j3⟩
      by_cases hm1 : mx = -1
      · exact .inl hm1
      · rw [if_neg hm1] at hl
        right
        rcases j2 with j2 | j2 <;> omega
/-- What Check says of it: nothing but that it is too great; and one time less is less. -/
theorem many_right {n : Nat} {mn mx : Int} {p : PatN (n + 1)} (h : checkP p = 0) (h0 : 0 ≤ mn) (h1 : mn ≤ 1000) (h2 : mx = -1 ∨ (mn ≤ mx ∧ mx ≤ 1000)) : rightP (n + 1 + 1) (manyP mn mx p) = true := by
  have hr := check_right h
  show (topP 4 0 0 mn mx 1 && [p].all (rightP (n + 1))) = true
  have e : timesP mn mx = true := by
    unfold timesP
    rcases h2 with h2 | h2
    · simp [h0, h1, h2]
    · simp [h0, h1, h2]
  simp [topP, e, hr]
theorem many_check {n : Nat} {mn mx : Int} {p : PatN (n + 1)} (h : checkP p = 0) (h0 : 0 ≤ mn) (h1 : mn ≤ 1000) (h2 : mx = -1 ∨ (mn ≤ mx ∧ mx ≤ 1000)) :
    checkP (manyP mn mx p) = 0 ∨ checkP (manyP mn mx p) = 21 ∨ checkP (manyP mn mx p) = 2 ∨ checkP (manyP mn mx p) = 5 := by
  have hr := many_right h h0 h1 h2
  unfold checkP
  rw [if_pos hr]
  unfold boundsP
  repeat' split
  all_goals simp
  all_goals omega
theorem many_bounds {n : Nat} (mn mx mn' mx' : Int) (p : PatN (n + 1)) : boundsP (manyP mn mx p) = boundsP (manyP mn' mx' p) := rfl
theorem many_pos {n : Nat} (mn mx : Int) (p : PatN (n + 1)) : posP (n + 1 + 1) (manyP mn mx p) = min (min (0 + posP (n + 1) p) 4097 * copiesP mn mx) 4097 := rfl
theorem many_less {n : Nat} {mn mx fst les : Int} {p : PatN (n + 1)} (h : checkP p = 0) (hp : 0 ≤ posP (n + 1) p) (h0 : 0 ≤ mn) (h1 : mn ≤ 1000) (h2 : mx = -1 ∨ (mn ≤ mx ∧ mx ≤ 1000)) (hx : mx ≠ 0) (hf : fst = max (mn - 1) 0) (hl : les = if mx = -1 then -1 else mx - 1)
    (hc : checkP (manyP mn mx p) = 0) : checkP (manyP fst les p) = 0 := by
  have hr := many_right h h0 h1 h2
  have hr2 : rightP (n + 1 + 1) (manyP fst les p) = true := many_right h (by omega) (by omega) (by
    by_cases e : mx = -1
    · left; rw [hl, if_pos e]
    · right; rw [hl, if_neg e]; omega)
  have hle : copiesP fst les ≤ copiesP mn mx := by
    unfold copiesP
    by_cases e : mx = -1
    · rw [if_pos e] at hl ⊢
      rw [if_pos hl]
      omega
    · rw [if_neg e] at hl ⊢
      rw [if_neg (by omega)]
      omega
  have hb : boundsP (manyP mn mx p) = 0 := by
    by_cases e : boundsP (manyP mn mx p) = 0
    · exact e
    · unfold checkP at hc
      rw [if_neg e] at hc
      exact hc
  have hps : posP (n + 1 + 1) (manyP mn mx p) ≤ 4096 := check_pos2 hc
  have hm : min (0 + posP (n + 1) p) 4097 * copiesP fst les ≤ min (0 + posP (n + 1) p) 4097 * copiesP mn mx := Int.mul_le_mul_of_nonneg_left hle (by omega)
  rw [many_pos] at hps
  unfold checkP
  rw [many_bounds fst les mn mx, if_pos hb, if_pos hr2, if_neg (by rw [many_pos]; omega)]

end Ex
end Go.Proofs.YthcllhoboiglcaaDoor
namespace Go.Proofs.YthcllhoboiglcaaDoor
open Go.RowKit
attribute [local go_sem] Oper.semAt_some
namespace Ex

theorem KidsAt.all {S : Nat → Prop} {w : World} {n : Nat} {l : List (PatN n)} {v : Value} (h : KidsAt S w n l v) : KidsAt (fun d => d < w.heap.size) w n l v :=
  KidsAt.mono (fun _ _ _ _ h => h) (fun _ h => h.2) _ _ _ (KidsAt.tight _ _ _ h)
theorem BytesIn.all {S : Nat → Prop} {w : World} {v : Value} {bs : List Int} (h : BytesIn S w v bs) : BytesIn (fun d => d < w.heap.size) w v bs := by
  obtain ⟨a, cap, h1, h2, h3, h4⟩ := h
  refine ⟨a, cap, h1, h2, h3, ?_⟩
  rcases h4 with h4 | ⟨c, o, h5, _, h7⟩
  · exact .inl h4
  · by_cases hx : bs = []
    · exact .inl hx
    · refine .inr ⟨c, o, h5, ?_, h7⟩
      obtain ⟨x, l, rfl⟩ := List.exists_cons_of_ne_nil hx
      exact World.block_lt_of_cell? w _ (h7 0 x rfl)
theorem kids_one {S : Nat → Prop} {w : World} {n : Nat} {p : PatN (n + 1)} {v : Value} {g : Nat} (hb : BoxAt w g (.int .i64 (kind p)) (.int .i64 (from_ p)) (.int .i64 (to_ p)) (.int .i64 (min_ p)) (.int .i64 (max_ p)) v) (hk : KidsAt S w n (kids p) v) (hg : S g) : KidsAt S w (n + 1) [p] (.slice (some ⟨g, 0, none⟩) 1 1) := by
  obtain ⟨⟨t0, t1, t2, t3, t4, t5⟩, _⟩ := hb.facts
  refine ⟨some ⟨g, 0, none⟩, 1, rfl, Nat.le_refl _, by simp, .inr ⟨g, 0, rfl, hg, fun i q hq => ?_⟩⟩
  cases i with
  | zero =>
    obtain rfl : p = q := by simpa using hq
    exact ⟨v, t0, t1, t2, t3, t4, t5, hk⟩
  | succ i => simp at hq
/-- What lies behind j bytes. -/
theorem BytesIn.back {S : Nat → Prop} {w : World} {a : Option Addr} {n cap : Nat} {bs : List Int} (h : BytesIn S w (.slice a n cap) bs) (hn : bs.length = n) (j : Nat) (hj : j ≤ n) : BytesIn S w (.slice (if cap = j then a else a.map (·.add j)) (n - j) (cap - j)) (bs.drop j) ∧ (bs.drop j).length = n - j := by
  have hl : (bs.drop j).length = n - j := by rw [List.length_drop]; omega
  refine ⟨?_, hl⟩
  obtain ⟨a', c', e, h1, h2, h3⟩ := h
  simp only [Value.slice.injEq] at e
  obtain ⟨rfl, _, rfl⟩ := e
  refine ⟨_, _, by rw [hl], by omega, by omega, ?_⟩
  by_cases hjn : j = n
  · left
    exact List.length_eq_zero_iff.1 (by omega)
  · rcases h3 with h3 | ⟨c1, o1, rfl, h5, h6⟩
    · left; rw [h3]; simp
    · refine .inr ⟨c1, o1 + j, ?_, h5, fun i x hi => ?_⟩
      · rw [if_neg (by omega), Option.map_some, Addr.add_lit]
      · rw [List.getElem?_drop] at hi
        have := h6 _ x hi
        rwa [← Nat.add_assoc] at this
/-- What times answers. -/
def TimG {n : Nat} (p : PatN (n + 1)) (mn mx : Int) (e : Ending) (w' : World) : Prop := ∃ v, e = .returned (valOf (manyP mn mx p) v) ∧ KidsAt (fun d => d < w'.heap.size) w' (n + 1) [p] v

set_option linter.unusedSimpArgs false in
set_option maxRecDepth 100000 in
set_option maxHeartbeats 4000000 in
theorem smallL_is (n : Int) (w : World) : Calls Tryd.prog 10 #[.int .i64 n] w fun e w' => (∃ k : Int, e = .returned (.int .i64 k) ∧ 0 ≤ k ∧ k ≤ 4) ∧ Kept w w' := by
  have h1 : -5 < n.tmod 5 := Int.lt_tmod_of_pos n (by omega)
  have h2 : n.tmod 5 < 5 := Int.tmod_lt_of_pos n (by omega)
  obtain ⟨m, hm⟩ : ∃ m, n.tmod 5 = m := ⟨_, rfl⟩
  rw [hm] at h1 h2
  have hw : IntKind.i64.wrap m = m := by rw [IntKind.wrap_i64]; omega
  go_enter Tryd.func10, Tryd.ntmps10
  by_cases hneg : m < 0
  · go_wp2_with fail
    go_ret
    exact ⟨⟨m + 5, rfl, by omega, by omega⟩, Kept.refl w⟩
  · go_wp2_with fail
    go_ret
    exact ⟨⟨m, rfl, by omega, by omega⟩, Kept.refl w⟩
set_option linter.unusedSimpArgs false in
set_option maxRecDepth 100000 in
set_option maxHeartbeats 4000000 in
theorem timesL_is (S : Nat → Prop) (n : Nat) (p : PatN (n + 1)) (v : Value) (mn mx : Int) (w : World) (h : KidsAt S w n (kids p) v) (hS : ∀ d, S d → d < w.heap.size) :
    Calls Tryd.prog 18 #[valOf p v, .int .i64 mn, .int .i64 mx] w fun e w' => TimG p mn mx e w' ∧ Kept w w' := by
  have HK := hide1 h
  have HS := hide1 hS
  obtain ⟨a, cap, rfl⟩ := h.form
  rw [valOf_eq]
  clear h hS
  obtain ⟨W, hW⟩ : ∃ W, (w.alloc (.cells #[.int .i64 (kind p), .int .i64 (from_ p), .int .i64 (to_ p), .int .i64 (min_ p), .int .i64 (max_ p), .slice a (kids p).length cap] 24)).alloc (.cells #[.int .i64 0, .int .i64 0, .int .i64 0, .int .i64 0, .int .i64 0, .slice none 0 0] 24) = W := ⟨_, rfl⟩
  have HB1 : Hid (BoxAt W (w.heap.size + 1) (.int .i64 0) (.int .i64 0) (.int .i64 0) (.int .i64 0) (.int .i64 0) (.slice none 0 0)) := by rw [← hW]; exact two_new w _ _ _ _ _ _ _
  have HWK : Hid (Kept w W) := by rw [← hW]; exact ((Kept.refl w).alloc _ _).alloc _ _
  have HWS : Hid (W.heap.size = w.heap.size + 2) := by rw [← hW]; show _ = _; simp
  have HW := hide1 hW
  clear hW
  go_enter Tryd.func18, Tryd.ntmps18
  go_wp2_with (go_at_call 5; rw [HW.out]; refine (TwinExpr_is S n p _ _ (HK.out.kept HWK.out)).mono ?_; rintro e w6 ⟨h6, hk6⟩; obtain ⟨v6, rfl, hk2, hm2⟩ := h6.out; rw [valOf_eq]; obtain ⟨a6, c6, e6⟩ := hk2.form; subst e6; have HK6 := hide1 hk6; have HQ6 := hide1 hk2; have HX1 := hide1 ((HB1.out.keep hk6).keep ((Kept.refl w6).alloc #[.int .i64 (kind p), .int .i64 (from_ p), .int .i64 (to_ p), .int .i64 (min_ p), .int .i64 (max_ p), .slice a6 (kids p).length c6] 24)); obtain ⟨⟨t0, t1, t2, t3, t4, t5⟩, s0, s1, s2, s3, s4, s5⟩ := HX1.out.facts; clear h6 hk6 hk2 hm2)
  clear t0 t1 t2 t3 t4 t5 s0 s1 s2 s3 s4 s5
  have hlt := (HB1.out.keep HK6.out).lt
  have hws := HWS.out
  have HG6 : Hid (KidsAt (fun d => d ≠ w.heap.size + 1 ∧ d ≤ w6.heap.size) w6 n (kids p) (.slice a6 (kids p).length c6)) := KidsAt.mono (fun _ _ _ _ h => h) (fun d h => by
    rcases h.1 with h1 | h1
    · have := HS.out d h1
      omega
    · have := h.2
      omega) _ _ _ (KidsAt.tight _ _ _ HQ6.out)
  obtain ⟨W6, hW6⟩ : ∃ W6, w6.alloc (.cells #[.int .i64 (kind p), .int .i64 (from_ p), .int .i64 (to_ p), .int .i64 (min_ p), .int .i64 (max_ p), .slice a6 (kids p).length c6] 24) = W6 := ⟨_, rfl⟩
  have hbn := BoxAt.new w6 (.int .i64 (kind p)) (.int .i64 (from_ p)) (.int .i64 (to_ p)) (.int .i64 (min_ p)) (.int .i64 (max_ p)) (.slice a6 (kids p).length c6)
  have hk7 := HG6.out.kept ((Kept.refl w6).alloc #[.int .i64 (kind p), .int .i64 (from_ p), .int .i64 (to_ p), .int .i64 (min_ p), .int .i64 (max_ p), .slice a6 (kids p).length c6] 24)
  have hkw := gtrans HWK.out (HK6.out.alloc #[.int .i64 (kind p), .int .i64 (from_ p), .int .i64 (to_ p), .int .i64 (min_ p), .int .i64 (max_ p), .slice a6 (kids p).length c6] 24)
  have hx1 := HX1.out
  have hsz : W6.heap.size = w6.heap.size + 1 := by rw [← hW6]; simp
  rw [hW6] at hbn hk7 hkw hx1 ⊢
  refine bodyPost_ret (box_returns rfl _ _ (w.heap.size + 1) _ _ _ _ _ _ rfl (BoxAt.set hx1)) rfl ?_
  refine ⟨⟨_, rfl, ?_⟩, put_kept (o := 0) hkw (by omega)⟩
  refine KidsAt.mono (set6_holds (S := fun d => d ≠ w.heap.size + 1 ∧ d ≤ w6.heap.size) (fun h => h.1 rfl)) (fun d hd => ?_) _ _ _ (kids_one hbn hk7 ⟨by omega, Nat.le_refl _⟩)
  have := hd.2
  show d < _
  simp
  omega

theorem timesK_is (w0 : World) (n : Nat) (p : PatN (n + 1)) (v : Value) (mn mx : Int) (w : World) (h : KidsAt (fun d => d < w0.heap.size) w0 n (kids p) v) (hk : Kept w0 w) :
    Calls Tryd.prog 18 #[valOf p v, .int .i64 mn, .int .i64 mx] w fun e w' => TimG p mn mx e w' ∧ Kept w w' :=
  timesL_is (fun d => d < w0.heap.size) n p v mn mx w (h.kept hk) (fun _ hd => Nat.lt_of_lt_of_le hd hk.size)

end Ex
end Go.Proofs.YthcllhoboiglcaaDoor
