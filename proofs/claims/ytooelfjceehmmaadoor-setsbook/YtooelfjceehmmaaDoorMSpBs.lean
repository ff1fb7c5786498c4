import Derived.Test.YtooelfjceehmmaaDoorMSpRx
namespace Go.Proofs.YtooelfjceehmmaaDoor
open Go.RowKit
set_option linter.unusedVariables false
namespace Ex
open Sh

/-- Two lists lie in blocks of their own. -/
def Dj (x y : SlV) : Prop := ∀ d, (val x).ownBlock = some d → (val y).ownBlock ≠ some d
theorem Dj.symm {x y : SlV} (h : Dj x y) : Dj y x := fun d h1 h2 => h d h2 h1
theorem lone_of : ∀ {vs : List SlV}, vs.Pairwise Dj → LoneS vs := fun {vs} h i j x y d hi hj hx hy => by
  obtain ⟨h1, e1⟩ := List.getElem?_eq_some_iff.1 hi
  obtain ⟨h2, e2⟩ := List.getElem?_eq_some_iff.1 hj
  rcases Nat.lt_trichotomy i j with hlt | hlt | hlt
  · have := List.pairwise_iff_getElem.1 h i j h1 h2 hlt
    rw [e1, e2] at this
    exact absurd hy (this d hx)
  · exact hlt
  · have := List.pairwise_iff_getElem.1 h j i h2 h1 hlt
    rw [e1, e2] at this
    exact absurd hx (this d hy)
theorem lone_pw {vs : List SlV} (h : LoneS vs) : vs.Pairwise Dj := List.pairwise_iff_getElem.2 fun i j h1 h2 hlt d hx hy => by
  have := h i j _ _ d (List.getElem?_eq_getElem h1) (List.getElem?_eq_getElem h2) hx hy
  omega
/-- The lists that are kept: all (qs; pa: yet to be put there), heads (hs, of the lists HL), outer (os, po), empty (bs, pb). -/
structure BkS (w1 w : World) (av : Value) (qs pa : List SlV) (hv : Value) (hs : List SlV) (HL : List (List Int)) (ov : Value) (os po : List SlV) (ev : Value) (bs pb : List SlV) : Prop where
  kept : Kept w1 w
  ha : LO slE w w1.heap.size av qs
  hh : LO slE w w1.heap.size hv hs
  ho : LO llE w w1.heap.size ov os
  he : LO blE w w1.heap.size ev bs
  ea : ∀ x ∈ qs ++ pa, ∃ l, LO inE w w1.heap.size (val x) l ∧ l.length ≤ 4096
  eo : ∀ x ∈ os ++ po, ∃ l, LO slE w w1.heap.size (val x) l ∧ l.length ≤ 4096
  eb : ∀ x ∈ bs ++ pb, ∃ l, LO boE w w1.heap.size (val x) l ∧ l.length ≤ 4096
  hl : hs.length = HL.length
  eh : ∀ (i : Nat) (x : SlV) (l : List Int), hs[i]? = some x → HL[i]? = some l → LO inE w w1.heap.size (val x) l
  la : (qs ++ pa).Pairwise Dj
  lo : (os ++ po).Pairwise Dj
  lb : (bs ++ pb).Pairwise Dj
  d1 : ∀ d, av.ownBlock = some d → hv.ownBlock ≠ some d
  d2 : ∀ x ∈ os ++ po, ∀ d, (val x).ownBlock = some d → av.ownBlock ≠ some d ∧ hv.ownBlock ≠ some d
  d3 : ∀ x ∈ qs ++ pa, ∀ y ∈ hs, Dj x y
theorem hs_el {hs : List SlV} {HL : List (List Int)} (hl : hs.length = HL.length) {y : SlV} (hy : y ∈ hs) : ∃ (i : Nat) (l : List Int), hs[i]? = some y ∧ HL[i]? = some l := by
  obtain ⟨i, hi⟩ := List.getElem?_of_mem hy
  exact ⟨i, _, hi, List.getElem?_eq_getElem (by rw [← hl]; exact (List.getElem?_eq_some_iff.1 hi).1)⟩
/-- What an append has done to a list's header. -/
def Moved (W w' : World) (v v' : Value) : Prop := W.grownBy w' v.ownBlock ∧ (v'.ownBlock = v.ownBlock ∨ v'.ownBlock = some W.heap.size)
theorem Moved.kt {W w' : World} {v v' : Value} (h : Moved W w' v v') : KT (fun k => v.ownBlock = some k) W w' := ⟨h.1.os, h.1.tape, h.1.output, h.1.size, fun k hk hn => h.1.block k hk (fun e => hn e.symm)⟩
theorem lo_ktH {α : Type} {E : ElK α} {W w' : World} {S : Nat → Prop} {b : Nat} {v : Value} {l : List α} (h : LO E W b v l) (hk : KT S W w') (hS : ∀ d, v.ownBlock = some d → ¬ S d) : LO E w' b v l := h.same (fun d hd => hk.2.2.2.2 d (h.lt' d hd).2 (hS d hd))
section
variable {w1 w W w' : World} {av : Value} {qs pa : List SlV} {hv : Value} {hs : List SlV} {HL : List (List Int)} {ov : Value} {os po : List SlV} {ev : Value} {bs pb : List SlV}
theorem BkS.start : BkS w1 w1 (.slice none 0 0) [] [] (.slice none 0 0) [] [] (.slice none 0 0) [] [] (.slice none 0 0) [] [] :=
  ⟨Kept.refl w1, LO.nil _ _, LO.nil _ _, LO.nil _ _, LO.nil _ _, fun x hx => (by cases hx), fun x hx => (by cases hx), fun x hx => (by cases hx), rfl, fun i x l hx => (by simp at hx), List.Pairwise.nil, List.Pairwise.nil, List.Pairwise.nil, fun d hd => (by cases hd), fun x hx => (by cases hx), fun x hx => (by cases hx)⟩
theorem BkS.keep (h : BkS w1 w av qs pa hv hs HL ov os po ev bs pb) (hk : Kept w w') : BkS w1 w' av qs pa hv hs HL ov os po ev bs pb :=
  ⟨gtrans h.kept hk, h.ha.keep hk, h.hh.keep hk, h.ho.keep hk, h.he.keep hk, fun x hx => by obtain ⟨l, h1, h2⟩ := h.ea x hx; exact ⟨l, h1.keep hk, h2⟩, fun x hx => by obtain ⟨l, h1, h2⟩ := h.eo x hx; exact ⟨l, h1.keep hk, h2⟩, fun x hx => by obtain ⟨l, h1, h2⟩ := h.eb x hx; exact ⟨l, h1.keep hk, h2⟩, h.hl, fun i x l hx hl => (h.eh i x l hx hl).keep hk, h.la, h.lo, h.lb, h.d1, h.d2, h.d3⟩
theorem own_ltA (h : BkS w1 w av qs pa hv hs HL ov os po ev bs pb) {x : SlV} (hx : x ∈ qs ++ pa) {d : Nat} (hd : (val x).ownBlock = some d) : d < w.heap.size := by
  obtain ⟨l, h1, _⟩ := h.ea x hx
  exact (h1.lt' d hd).2
theorem own_ltO (h : BkS w1 w av qs pa hv hs HL ov os po ev bs pb) {x : SlV} (hx : x ∈ os ++ po) {d : Nat} (hd : (val x).ownBlock = some d) : d < w.heap.size := by
  obtain ⟨l, h1, _⟩ := h.eo x hx
  exact (h1.lt' d hd).2
theorem own_ltB (h : BkS w1 w av qs pa hv hs HL ov os po ev bs pb) {x : SlV} (hx : x ∈ bs ++ pb) {d : Nat} (hd : (val x).ownBlock = some d) : d < w.heap.size := by
  obtain ⟨l, h1, _⟩ := h.eb x hx
  exact (h1.lt' d hd).2
theorem own_ltH (h : BkS w1 w av qs pa hv hs HL ov os po ev bs pb) {y : SlV} (hy : y ∈ hs) {d : Nat} (hd : (val y).ownBlock = some d) : d < w.heap.size := by
  obtain ⟨i, l, h1, h2⟩ := hs_el h.hl hy
  exact ((h.eh i y l h1 h2).lt' d hd).2
/-- Blocks of one header alone change: what else there is stays. -/
theorem kept_hd {α : Type} {L : ElK α} {v v' : Value} {l : List α} (h : Kept w1 W) (hl : LO L W w1.heap.size v l) (hm : Moved W w' v v') : Kept w1 w' := kept_loH h hl hm.1
/-- What waits is put to all. -/
theorem BkS.headA {av' : Value} {ys pa' : List SlV} (h0 : BkS w1 w av qs (ys ++ pa') hv hs HL ov os po ev bs pb) (hk : Kept w W) (ho : LO slE w' w1.heap.size av' (qs ++ ys)) (hm : Moved W w' av av') : BkS w1 w' av' (qs ++ ys) pa' hv hs HL ov os po ev bs pb := by
  have h := h0.keep hk
  have hkt := hm.kt
  refine ⟨kept_hd h.kept h.ha hm, ho, lo_ktH h.hh hkt (fun d hd e => h.d1 d e hd), lo_ktH h.ho hkt (fun d hd e => lo_ne h.ha h.ho (by decide) e hd), lo_ktH h.he hkt (fun d hd e => lo_ne h.ha h.he (by decide) e hd), fun x hx => ?_, fun x hx => ?_, fun x hx => ?_, h.hl, fun i x l hx hl => ?_, ?_, h.lo, h.lb, fun d hd => ?_, fun x hx d hd => ?_, fun x hx y hy => ?_⟩
  · rw [List.append_assoc] at hx
    obtain ⟨l, h1, h2⟩ := h.ea x hx
    exact ⟨l, lo_ktH h1 hkt (fun d hd e => lo_ne h.ha h1 (by decide) e hd), h2⟩
  · obtain ⟨l, h1, h2⟩ := h.eo x hx
    exact ⟨l, lo_ktH h1 hkt (fun d hd e => (h.d2 x hx d hd).1 e), h2⟩
  · obtain ⟨l, h1, h2⟩ := h.eb x hx
    exact ⟨l, lo_ktH h1 hkt (fun d hd e => lo_ne h.ha h1 (by decide) e hd), h2⟩
  · exact lo_ktH (h.eh i x l hx hl) hkt (fun d hd e => lo_ne h.ha (h.eh i x l hx hl) (by decide) e hd)
  · rw [List.append_assoc]; exact h.la
  · rcases hm.2 with e | e
    · exact h.d1 d (by rw [← e]; exact hd)
    · intro e2
      rw [e] at hd
      injection hd with hd
      have := (h.hh.lt' d e2).2
      omega
  · refine ⟨fun e2 => ?_, (h.d2 x hx d hd).2⟩
    rcases hm.2 with e | e
    · exact (h.d2 x hx d hd).1 (by rw [← e]; exact e2)
    · rw [e] at e2
      injection e2 with e2
      have := own_ltO h hx hd
      omega
  · rw [List.append_assoc] at hx
    exact h.d3 x hx y hy
/-- A list that was answered waits to be put to all. -/
theorem BkS.newA {b : Nat} {x : SlV} {l : List Int} (h0 : BkS w1 w av qs pa hv hs HL ov os po ev bs pb) (hk : Kept w W) (hx : LO inE W b (val x) l) (hb : w.heap.size ≤ b) (hl : l.length ≤ 4096) : BkS w1 W av qs (x :: pa) hv hs HL ov os po ev bs pb := by
  have h := h0.keep hk
  have h1 : w1.heap.size ≤ w.heap.size := h0.kept.size
  have hnew : ∀ d, (val x).ownBlock = some d → w.heap.size ≤ d := fun d hd => Nat.le_trans hb (hx.lt' d hd).1
  refine ⟨h.kept, h.ha, h.hh, h.ho, h.he, fun y hy => ?_, h.eo, h.eb, h.hl, h.eh, ?_, h.lo, h.lb, h.d1, h.d2, fun y hy z hz => ?_⟩
  · rcases List.mem_append.1 hy with hy | hy
    · exact h.ea y (List.mem_append.2 (.inl hy))
    · rcases List.mem_cons.1 hy with rfl | hy
      · exact ⟨l, lo_low hx (by omega), hl⟩
      · exact h.ea y (List.mem_append.2 (.inr hy))
  · have h2 := List.pairwise_append.1 h.la
    refine List.pairwise_append.2 ⟨h2.1, List.pairwise_cons.2 ⟨fun y hy d hd e => ?_, h2.2.1⟩, fun a ha y hy => ?_⟩
    · have q1 := hnew d hd
      have q2 := own_ltA h0 (List.mem_append.2 (.inr hy)) e
      omega
    · rcases List.mem_cons.1 hy with rfl | hy
      · intro d hd e
        have q1 := hnew d e
        have q2 := own_ltA h0 (List.mem_append.2 (.inl ha)) hd
        omega
      · exact h2.2.2 a ha y hy
  · rcases List.mem_append.1 hy with hy | hy
    · exact h.d3 y (List.mem_append.2 (.inl hy)) z hz
    · rcases List.mem_cons.1 hy with rfl | hy
      · intro d hd e
        have q1 := hnew d hd
        have q2 := own_ltH h0 hz e
        omega
      · exact h.d3 y (List.mem_append.2 (.inr hy)) z hz
/-- A copy is put to heads. -/
theorem BkS.headH {hv' : Value} {x : SlV} {l : List Int} (h0 : BkS w1 w av qs pa hv hs HL ov os po ev bs pb) (hk : Kept w W) (hx : LO inE W w.heap.size (val x) l) (ho : LO slE w' w1.heap.size hv' (hs ++ [x])) (hm : Moved W w' hv hv') : BkS w1 w' av qs pa hv' (hs ++ [x]) (HL ++ [l]) ov os po ev bs pb := by
  have h := h0.keep hk
  have hkt := hm.kt
  have h1 : w1.heap.size ≤ w.heap.size := h0.kept.size
  refine ⟨kept_hd h.kept h.hh hm, lo_ktH h.ha hkt (fun d hd e => h.d1 d hd e), ho, lo_ktH h.ho hkt (fun d hd e => lo_ne h.hh h.ho (by decide) e hd), lo_ktH h.he hkt (fun d hd e => lo_ne h.hh h.he (by decide) e hd), fun y hy => ?_, fun y hy => ?_, fun y hy => ?_, by rw [List.length_append, List.length_append, h.hl]; rfl, fun i y m hy hm' => ?_, h.la, h.lo, h.lb, fun d hd e2 => ?_, fun y hy d hd => ?_, fun y hy z hz => ?_⟩
  · obtain ⟨l, h1, h2⟩ := h.ea y hy
    exact ⟨l, lo_ktH h1 hkt (fun d hd e => lo_ne h.hh h1 (by decide) e hd), h2⟩
  · obtain ⟨l, h1, h2⟩ := h.eo y hy
    exact ⟨l, lo_ktH h1 hkt (fun d hd e => (h.d2 y hy d hd).2 e), h2⟩
  · obtain ⟨l, h1, h2⟩ := h.eb y hy
    exact ⟨l, lo_ktH h1 hkt (fun d hd e => lo_ne h.hh h1 (by decide) e hd), h2⟩
  · by_cases hi : i < hs.length
    · rw [List.getElem?_append_left hi] at hy
      rw [List.getElem?_append_left (by rw [← h.hl]; exact hi)] at hm'
      exact lo_ktH (h.eh i y m hy hm') hkt (fun d hd e => lo_ne h.hh (h.eh i y m hy hm') (by decide) e hd)
    · rw [List.getElem?_append_right (by omega)] at hy
      rw [List.getElem?_append_right (by rw [← h.hl]; omega)] at hm'
      have q1 : i - hs.length < 1 := by have := (List.getElem?_eq_some_iff.1 hy).1; simpa using this
      have q2 : i - hs.length = 0 := by omega
      rw [q2] at hy
      rw [← h.hl, q2] at hm'
      have e1 : x = y := by simpa using hy
      have e2 : l = m := by simpa using hm'
      subst e1 e2
      exact lo_ktH (lo_low hx (by omega)) hkt (fun d hd e => lo_ne h.hh hx (by decide) e hd)
  · rcases hm.2 with e | e
    · exact h.d1 d hd (by rw [← e]; exact e2)
    · rw [e] at e2
      injection e2 with e2
      have := (h.ha.lt' d hd).2
      omega
  · refine ⟨(h.d2 y hy d hd).1, fun e2 => ?_⟩
    rcases hm.2 with e | e
    · exact (h.d2 y hy d hd).2 (by rw [← e]; exact e2)
    · rw [e] at e2
      injection e2 with e2
      have := own_ltO h hy hd
      omega
  · rcases List.mem_append.1 hz with hz | hz
    · exact h.d3 y hy z hz
    · have e1 : z = x := by simpa using hz
      subst e1
      intro d hd e
      have q1 := own_ltA h0 hy hd
      have q2 := (hx.lt' d e).1
      omega
/-- What waits is put to outer, to empty. -/
theorem BkS.headO {ov' : Value} {ys po' : List SlV} (h0 : BkS w1 w av qs pa hv hs HL ov os (ys ++ po') ev bs pb) (hk : Kept w W) (ho : LO llE w' w1.heap.size ov' (os ++ ys)) (hm : Moved W w' ov ov') : BkS w1 w' av qs pa hv hs HL ov' (os ++ ys) po' ev bs pb := by
  have h := h0.keep hk
  have hkt := hm.kt
  refine ⟨kept_hd h.kept h.ho hm, lo_ktH h.ha hkt (fun d hd e => lo_ne h.ho h.ha (by decide) e hd), lo_ktH h.hh hkt (fun d hd e => lo_ne h.ho h.hh (by decide) e hd), ho, lo_ktH h.he hkt (fun d hd e => lo_ne h.ho h.he (by decide) e hd), fun x hx => ?_, fun x hx => ?_, fun x hx => ?_, h.hl, fun i x l hx hl => ?_, h.la, by rw [List.append_assoc]; exact h.lo, h.lb, h.d1, fun x hx => by rw [List.append_assoc] at hx; exact h.d2 x hx, h.d3⟩
  · obtain ⟨l, h1, h2⟩ := h.ea x hx
    exact ⟨l, lo_ktH h1 hkt (fun d hd e => lo_ne h.ho h1 (by decide) e hd), h2⟩
  · rw [List.append_assoc] at hx
    obtain ⟨l, h1, h2⟩ := h.eo x hx
    exact ⟨l, lo_ktH h1 hkt (fun d hd e => lo_ne h.ho h1 (by decide) e hd), h2⟩
  · obtain ⟨l, h1, h2⟩ := h.eb x hx
    exact ⟨l, lo_ktH h1 hkt (fun d hd e => lo_ne h.ho h1 (by decide) e hd), h2⟩
  · exact lo_ktH (h.eh i x l hx hl) hkt (fun d hd e => lo_ne h.ho (h.eh i x l hx hl) (by decide) e hd)
theorem BkS.headB {ev' : Value} {ys pb' : List SlV} (h0 : BkS w1 w av qs pa hv hs HL ov os po ev bs (ys ++ pb')) (hk : Kept w W) (ho : LO blE w' w1.heap.size ev' (bs ++ ys)) (hm : Moved W w' ev ev') : BkS w1 w' av qs pa hv hs HL ov os po ev' (bs ++ ys) pb' := by
  have h := h0.keep hk
  have hkt := hm.kt
  refine ⟨kept_hd h.kept h.he hm, lo_ktH h.ha hkt (fun d hd e => lo_ne h.he h.ha (by decide) e hd), lo_ktH h.hh hkt (fun d hd e => lo_ne h.he h.hh (by decide) e hd), lo_ktH h.ho hkt (fun d hd e => lo_ne h.he h.ho (by decide) e hd), ho, fun x hx => ?_, fun x hx => ?_, fun x hx => ?_, h.hl, fun i x l hx hl => ?_, h.la, h.lo, by rw [List.append_assoc]; exact h.lb, h.d1, h.d2, h.d3⟩
  · obtain ⟨l, h1, h2⟩ := h.ea x hx
    exact ⟨l, lo_ktH h1 hkt (fun d hd e => lo_ne h.he h1 (by decide) e hd), h2⟩
  · obtain ⟨l, h1, h2⟩ := h.eo x hx
    exact ⟨l, lo_ktH h1 hkt (fun d hd e => lo_ne h.he h1 (by decide) e hd), h2⟩
  · rw [List.append_assoc] at hx
    obtain ⟨l, h1, h2⟩ := h.eb x hx
    exact ⟨l, lo_ktH h1 hkt (fun d hd e => lo_ne h.he h1 (by decide) e hd), h2⟩
  · exact lo_ktH (h.eh i x l hx hl) hkt (fun d hd e => lo_ne h.he (h.eh i x l hx hl) (by decide) e hd)
/-- What told answers waits to be put to all three. -/
theorem BkS.told {T H1 H2 H3 : Nat} {v2 v3 v4 : SlV} {vb : SlV} {x2 x3 x4 : List SlV} {es : List Bool} {l2 l3 l4 : List (List Int)} (h0 : BkS w1 w av qs [] hv hs HL ov os [] ev bs []) (hk : Kept w W) (hT : w.heap.size ≤ T) (hH : T ≤ H1 ∧ H1 ≤ H2 ∧ H2 ≤ H3)
    (hb : LO boE W T (val vb) es) (hbl : es.length ≤ 4096)
    (r2 : LO slE W T (val v2) x2 ∧ (∀ d, (val v2).ownBlock = some d → d < H1) ∧ x2.length = l2.length ∧ (∀ (i : Nat) (x : SlV) (l : List Int), x2[i]? = some x → l2[i]? = some l → LO inE W T (val x) l ∧ ∀ d, (val x).ownBlock = some d → d < H1) ∧ LoneS x2)
    (r3 : LO slE W H1 (val v3) x3 ∧ (∀ d, (val v3).ownBlock = some d → d < H2) ∧ x3.length = l3.length ∧ (∀ (i : Nat) (x : SlV) (l : List Int), x3[i]? = some x → l3[i]? = some l → LO inE W H1 (val x) l ∧ ∀ d, (val x).ownBlock = some d → d < H2) ∧ LoneS x3)
    (r4 : LO slE W H2 (val v4) x4 ∧ (∀ d, (val v4).ownBlock = some d → d < H3) ∧ x4.length = l4.length ∧ (∀ (i : Nat) (x : SlV) (l : List Int), x4[i]? = some x → l4[i]? = some l → LO inE W H2 (val x) l ∧ ∀ d, (val x).ownBlock = some d → d < H3) ∧ LoneS x4)
    (hn : l2.length ≤ 4096 ∧ l3.length ≤ 4096 ∧ l4.length ≤ 4096) (m2 : ∀ l ∈ l2, l.length ≤ 4096) (m3 : ∀ l ∈ l3, l.length ≤ 4096) (m4 : ∀ l ∈ l4, l.length ≤ 4096) :
    BkS w1 W av qs (x2 ++ (x3 ++ x4)) hv hs HL ov os [v2, v3, v4] ev bs [vb] := by
  have h := h0.keep hk
  have h1 : w1.heap.size ≤ w.heap.size := h0.kept.size
  have el : ∀ {b : Nat} {top : Nat} {xs : List SlV} {ls : List (List Int)}, w1.heap.size ≤ b → xs.length = ls.length → (∀ l ∈ ls, l.length ≤ 4096) → (∀ (i : Nat) (x : SlV) (l : List Int), xs[i]? = some x → ls[i]? = some l → LO inE W b (val x) l ∧ ∀ d, (val x).ownBlock = some d → d < top) → ∀ x ∈ xs, (∃ l, LO inE W w1.heap.size (val x) l ∧ l.length ≤ 4096) ∧ ∀ d, (val x).ownBlock = some d → b ≤ d ∧ d < top := fun {b top xs ls} hb hl hm hx x hm' => by
    obtain ⟨i, hi⟩ := List.getElem?_of_mem hm'
    obtain ⟨l, hli⟩ : ∃ l, ls[i]? = some l := ⟨_, List.getElem?_eq_getElem (by rw [← hl]; exact (List.getElem?_eq_some_iff.1 hi).1)⟩
    obtain ⟨q1, q2⟩ := hx i x l hi hli
    exact ⟨⟨l, lo_low q1 hb, hm l (List.mem_of_getElem? hli)⟩, fun d hd => ⟨(q1.lt' d hd).1, q2 d hd⟩⟩
  have e2 := el (by omega : w1.heap.size ≤ T) r2.2.2.1 m2 r2.2.2.2.1
  have e3 := el (by omega : w1.heap.size ≤ H1) r3.2.2.1 m3 r3.2.2.2.1
  have e4 := el (by omega : w1.heap.size ≤ H2) r4.2.2.1 m4 r4.2.2.2.1
  have epa : ∀ x ∈ x2 ++ (x3 ++ x4), (∃ l, LO inE W w1.heap.size (val x) l ∧ l.length ≤ 4096) ∧ ∀ d, (val x).ownBlock = some d → w.heap.size ≤ d := fun x hx => by
    rcases List.mem_append.1 hx with hx | hx
    · exact ⟨(e2 x hx).1, fun d hd => by have := (e2 x hx).2 d hd; omega⟩
    · rcases List.mem_append.1 hx with hx | hx
      · exact ⟨(e3 x hx).1, fun d hd => by have := (e3 x hx).2 d hd; omega⟩
      · exact ⟨(e4 x hx).1, fun d hd => by have := (e4 x hx).2 d hd; omega⟩
  have epo : ∀ x ∈ [v2, v3, v4], (∃ l, LO slE W w1.heap.size (val x) l ∧ l.length ≤ 4096) ∧ ∀ d, (val x).ownBlock = some d → w.heap.size ≤ d := fun x hx => by
    rcases List.mem_cons.1 hx with rfl | hx
    · exact ⟨⟨_, lo_low r2.1 (by omega), by rw [r2.2.2.1]; exact hn.1⟩, fun d hd => by have := (r2.1.lt' d hd).1; omega⟩
    · rcases List.mem_cons.1 hx with rfl | hx
      · exact ⟨⟨_, lo_low r3.1 (by omega), by rw [r3.2.2.1]; exact hn.2.1⟩, fun d hd => by have := (r3.1.lt' d hd).1; omega⟩
      · rcases List.mem_cons.1 hx with rfl | hx
        · exact ⟨⟨_, lo_low r4.1 (by omega), by rw [r4.2.2.1]; exact hn.2.2⟩, fun d hd => by have := (r4.1.lt' d hd).1; omega⟩
        · cases hx
  refine ⟨h.kept, h.ha, h.hh, h.ho, h.he, fun x hx => ?_, fun x hx => ?_, fun x hx => ?_, h.hl, h.eh, ?_, ?_, ?_, h.d1, fun x hx d hd => ?_, fun x hx y hy => ?_⟩
  · rcases List.mem_append.1 hx with hx | hx
    · exact h.ea x (List.mem_append.2 (.inl hx))
    · exact (epa x hx).1
  · rcases List.mem_append.1 hx with hx | hx
    · exact h.eo x (List.mem_append.2 (.inl hx))
    · exact (epo x hx).1
  · rcases List.mem_append.1 hx with hx | hx
    · exact h.eb x (List.mem_append.2 (.inl hx))
    · have e1 : x = vb := by simpa using hx
      subst e1
      exact ⟨es, lo_low hb (by omega), hbl⟩
  · have q := h.la
    rw [List.append_nil] at q
    refine List.pairwise_append.2 ⟨q, List.pairwise_append.2 ⟨lone_pw r2.2.2.2.2, List.pairwise_append.2 ⟨lone_pw r3.2.2.2.2, lone_pw r4.2.2.2.2, fun a ha b hb d hd e => ?_⟩, fun a ha b hb d hd e => ?_⟩, fun a ha b hb d hd e => ?_⟩
    · have q1 := (e3 a ha).2 d hd
      have q2 := (e4 b hb).2 d e
      omega
    · have q1 := (e2 a ha).2 d hd
      rcases List.mem_append.1 hb with hb | hb
      · have q2 := (e3 b hb).2 d e; omega
      · have q2 := (e4 b hb).2 d e; omega
    · have q1 := own_ltA h0 (List.mem_append.2 (.inl ha)) hd
      have q2 := (epa b hb).2 d e
      omega
  · have q := h.lo
    rw [List.append_nil] at q
    refine List.pairwise_append.2 ⟨q, List.pairwise_cons.2 ⟨fun y hy d hd e => ?_, List.pairwise_cons.2 ⟨fun y hy d hd e => ?_, List.pairwise_cons.2 ⟨fun y hy => (by cases hy), List.Pairwise.nil⟩⟩⟩, fun a ha b hb d hd e => ?_⟩
    · have q1 := r2.2.1 d hd
      rcases List.mem_cons.1 hy with rfl | hy
      · have q2 := (r3.1.lt' d e).1; omega
      · have e1 : y = v4 := by simpa using hy
        subst e1
        have q2 := (r4.1.lt' d e).1; omega
    · have q1 := r3.2.1 d hd
      have e1 : y = v4 := by simpa using hy
      subst e1
      have q2 := (r4.1.lt' d e).1
      omega
    · have q1 := own_ltO h0 (List.mem_append.2 (.inl ha)) hd
      have q2 := (epo b hb).2 d e
      omega
  · have q := h.lb
    rw [List.append_nil] at q
    refine List.pairwise_append.2 ⟨q, List.pairwise_cons.2 ⟨fun y hy => (by cases hy), List.Pairwise.nil⟩, fun a ha b hb' d hd e => ?_⟩
    have e1 : b = vb := by simpa using hb'
    subst e1
    have q1 := own_ltB h0 (List.mem_append.2 (.inl ha)) hd
    have q2 := (hb.lt' d e).1
    omega
  · rcases List.mem_append.1 hx with hx | hx
    · exact h.d2 x (List.mem_append.2 (.inl hx)) d hd
    · have q1 := (epo x hx).2 d hd
      exact ⟨fun e => by have := (h0.ha.lt' d e).2; omega, fun e => by have := (h0.hh.lt' d e).2; omega⟩
  · rcases List.mem_append.1 hx with hx | hx
    · exact h.d3 x (List.mem_append.2 (.inl hx)) y hy
    · intro d hd e
      have q1 := (epa x hx).2 d hd
      have q2 := own_ltH h0 hy e
      omega
end
/-- A list's entries qs a bag. -/
theorem bag_of {α : Type} {E : ElK α} {w : World} {b : Nat} {vs : List SlV} (h : ∀ x ∈ vs, ∃ l, LO E w b (val x) l ∧ l.length ≤ 4096) : ∃ C : Nat → List α, BagL E w vs C ∧ ∀ (u : Nat) (x : SlV), vs[u]? = some x → x.2.1 ≤ 100000 := by
  have h2 : ∀ u : Nat, ∃ l : List α, ∀ x : SlV, vs[u]? = some x → LO E w b (val x) l ∧ l.length ≤ 4096 := fun u => by
    cases hu : vs[u]? with
    | none => exact ⟨[], fun x hx => by cases hx⟩
    | some x =>
      obtain ⟨l, hl⟩ := h x (List.mem_of_getElem? hu)
      exact ⟨l, fun y hy => by injection hy with hy; subst hy; exact hl⟩
  refine ⟨fun u => Classical.choose (h2 u), fun u x hx => lo_low (Classical.choose_spec (h2 u) x hx).1 (Nat.zero_le _), fun u x hx => ?_⟩
  obtain ⟨q1, q2⟩ := Classical.choose_spec (h2 u) x hx
  have := lo_lens (show LO E w b (.slice x.1 x.2.1 x.2.2) _ from q1)
  omega

end Ex
end Go.Proofs.YtooelfjceehmmaaDoor
namespace Go.Proofs.YtooelfjceehmmaaDoor
open Go.RowKit
attribute [local go_sem] Oper.semAt_some
set_option linter.unusedVariables false
namespace Ex
open Sh

set_option linter.unusedSimpArgs false in
set_option maxRecDepth 100000 in
set_option maxHeartbeats 4000000 in
/-- The same is told of both. -/
theorem sameToldG_is (a1 a2 a3 a4 b1 b2 b3 b4 : Option Addr) (n1 n2 n3 n4 m1 m2 m3 m4 u1 u2 u3 u4 t1 t2 t3 t4 : Nat) (f : Bool) (es : List Bool) (l2 l3 l4 : List (List Int)) (w : World)
    (p1 : es.length = n1) (p2 : l2.length = n2) (p3 : l3.length = n3) (p4 : l4.length = n4) (q1 : es.length = m1) (q2 : l2.length = m2) (q3 : l3.length = m3) (q4 : l4.length = m4)
    (h1 : BoolsR w (.slice a1 n1 u1) es) (h2 : RowsR w (.slice a2 n2 u2) l2) (h3 : RowsR w (.slice a3 n3 u3) l3) (h4 : RowsR w (.slice a4 n4 u4) l4)
    (k1 : BoolsR w (.slice b1 m1 t1) es) (k2 : RowsR w (.slice b2 m2 t2) l2) (k3 : RowsR w (.slice b3 m3 t3) l3) (k4 : RowsR w (.slice b4 m4 t4) l4) :
    Calls Tryd.prog 8 #[.agg #[.slice a1 n1 u1, .slice a2 n2 u2, .slice a3 n3 u3, .slice a4 n4 u4, .bool f], .agg #[.slice b1 m1 t1, .slice b2 m2 t2, .slice b3 m3 t3, .slice b4 m4 t4, .bool f]] w fun e w' => e = .returned (.bool true) ∧ Kept w w' := by
  have HB1 : Hid (TdBox ((w.alloc (.cells #[.slice a1 n1 u1, .slice a2 n2 u2, .slice a3 n3 u3, .slice a4 n4 u4, .bool f] 30)).alloc (.cells #[.slice b1 m1 t1, .slice b2 m2 t2, .slice b3 m3 t3, .slice b4 m4 t4, .bool f] 30)) w.heap.size (.slice a1 n1 u1) (.slice a2 n2 u2) (.slice a3 n3 u3) (.slice a4 n4 u4) f) := hp_keep (heap_alloc_new w _) ((Kept.refl _).alloc _ _)
  have HB2 : Hid (TdBox ((w.alloc (.cells #[.slice a1 n1 u1, .slice a2 n2 u2, .slice a3 n3 u3, .slice a4 n4 u4, .bool f] 30)).alloc (.cells #[.slice b1 m1 t1, .slice b2 m2 t2, .slice b3 m3 t3, .slice b4 m4 t4, .bool f] 30)) (w.heap.size + 1) (.slice b1 m1 t1) (.slice b2 m2 t2) (.slice b3 m3 t3) (.slice b4 m4 t4) f) := by
    have h := heap_alloc_new (w.alloc (.cells #[.slice a1 n1 u1, .slice a2 n2 u2, .slice a3 n3 u3, .slice a4 n4 u4, .bool f] 30)) (.cells #[.slice b1 m1 t1, .slice b2 m2 t2, .slice b3 m3 t3, .slice b4 m4 t4, .bool f] 30)
    rw [World.size_alloc] at h
    exact h
  have HK := hide1 (td_two w #[.slice a1 n1 u1, .slice a2 n2 u2, .slice a3 n3 u3, .slice a4 n4 u4, .bool f] #[.slice b1 m1 t1, .slice b2 m2 t2, .slice b3 m3 t3, .slice b4 m4 t4, .bool f])
  have P1 := hide1 p1
  have P2 := hide1 p2
  have P3 := hide1 p3
  have P4 := hide1 p4
  have Q1 := hide1 q1
  have Q2 := hide1 q2
  have Q3 := hide1 q3
  have Q4 := hide1 q4
  have H1 := hide1 h1
  have H2 := hide1 h2
  have H3 := hide1 h3
  have H4 := hide1 h4
  have K1 := hide1 k1
  have K2 := hide1 k2
  have K3 := hide1 k3
  have K4 := hide1 k4
  clear p1 p2 p3 p4 q1 q2 q3 q4 h1 h2 h3 h4 k1 k2 k3 k4
  go_enter Tryd.func8, Tryd.ntmps8
  go_upto_region 1 with fail
  obtain ⟨W, hW⟩ : ∃ W, (w.alloc (.cells #[.slice a1 n1 u1, .slice a2 n2 u2, .slice a3 n3 u3, .slice a4 n4 u4, .bool f] 30)).alloc (.cells #[.slice b1 m1 t1, .slice b2 m2 t2, .slice b3 m3 t3, .slice b4 m4 t4, .bool f] 30) = W := ⟨_, rfl⟩
  rw [hW] at HB1 HB2 HK ⊢
  clear hW
  have hf : (f == f) = true := by simp
  obtain ⟨⟨c0, c1, c2, c3, c4⟩, _⟩ := HB1.out.cells
  obtain ⟨⟨d0, d1, d2, d3, d4⟩, _⟩ := HB2.out.cells
  go_wp2_with fail
  refine (sameBoolsS_is _ _ _ _ _ _ es es _ P1.out Q1.out (H1.out.keep HK.out) (K1.out.keep HK.out)).mono ?_
  rintro e w1 ⟨rfl, hk1⟩
  rw [show decide (es = es) = true from by simp]
  have HK1 := hide1 (gtrans HK.out hk1)
  clear c0 c1 c2 c3 c4 d0 d1 d2 d3 d4
  obtain ⟨⟨c0, c1, c2, c3, c4⟩, _⟩ := (HB1.out.keep hk1).cells
  obtain ⟨⟨d0, d1, d2, d3, d4⟩, _⟩ := (HB2.out.keep hk1).cells
  have HW1 := hide1 hk1
  clear hk1
  go_wp2_with fail
  refine (sameRowsS_is _ _ _ _ _ _ l2 l2 _ P2.out Q2.out (H2.out.keep HK1.out) (K2.out.keep HK1.out)).mono ?_
  rintro e w2 ⟨rfl, hk2⟩
  rw [show decide (l2 = l2) = true from by simp]
  have HK2 := hide1 (gtrans HK1.out hk2)
  have HW2 := hide1 (gtrans HW1.out hk2)
  clear hk2 c0 c1 c2 c3 c4 d0 d1 d2 d3 d4
  obtain ⟨⟨c0, c1, c2, c3, c4⟩, _⟩ := (HB1.out.keep HW2.out).cells
  obtain ⟨⟨d0, d1, d2, d3, d4⟩, _⟩ := (HB2.out.keep HW2.out).cells
  go_wp2_with fail
  refine (sameRowsS_is _ _ _ _ _ _ l3 l3 _ P3.out Q3.out (H3.out.keep HK2.out) (K3.out.keep HK2.out)).mono ?_
  rintro e w3 ⟨rfl, hk3⟩
  rw [show decide (l3 = l3) = true from by simp]
  have HK3 := hide1 (gtrans HK2.out hk3)
  have HW3 := hide1 (gtrans HW2.out hk3)
  clear hk3 c0 c1 c2 c3 c4 d0 d1 d2 d3 d4
  obtain ⟨⟨c0, c1, c2, c3, c4⟩, _⟩ := (HB1.out.keep HW3.out).cells
  obtain ⟨⟨d0, d1, d2, d3, d4⟩, _⟩ := (HB2.out.keep HW3.out).cells
  go_wp2_with fail
  refine (sameRowsS_is _ _ _ _ _ _ l4 l4 _ P4.out Q4.out (H4.out.keep HK3.out) (K4.out.keep HK3.out)).mono ?_
  rintro e w4 ⟨rfl, hk4⟩
  rw [show decide (l4 = l4) = true from by simp]
  have HK4 := hide1 (gtrans HK3.out hk4)
  clear hk4
  go_wp2_with fail
  go_ret
  exact ⟨rfl, HK4.out⟩

theorem kept_newH {w w' : World} {cs : Array Value} {t : TypeId} (hg : (w.alloc (.cells cs t)).grownBy w' (Value.slice (some ⟨w.heap.size, 0, none⟩) 0 0).ownBlock) : Kept w w' := by
  have h := (Kept.refl w).alloc cs t
  refine ⟨hg.os.trans h.1, hg.tape.trans h.2.1, hg.output.trans h.2.2.1, Nat.le_trans h.size hg.size, fun k hk => (hg.block k (Nat.lt_of_lt_of_le hk h.size) (fun e => ?_)).trans (h.2.2.2.2 k hk)⟩
  simp only [Value.ownBlock, Option.some.injEq] at e
  omega
theorem lo_emptyH {α : Type} {E : ElK α} (w : World) {base : Nat} (hb : base ≤ w.heap.size) : LO E (w.alloc (.cells #[] E.T)) base (.slice (some ⟨w.heap.size, 0, none⟩) 0 0) [] := ⟨by simp [flatE], Or.inr ⟨w.heap.size, 0, #[], rfl, hb, heap_alloc_new w _, Nat.le_refl _, Nat.zero_le _, by simp, by simp [flatE]⟩⟩
theorem alloc_leH (w : World) (o : Obj) : w.heap.size ≤ (w.alloc o).heap.size := by simp
/-- While rows are copied. -/
def RwI (w : World) (ls : List (List Int)) (a : Option Addr) (j c : Nat) (xs : List SlV) (wr : World) : Prop := xs.length = j ∧ LO slE wr w.heap.size (.slice a j c) xs ∧ (∀ (i : Nat) (x : SlV) (l : List Int), xs[i]? = some x → ls[i]? = some l → LO inE wr w.heap.size (val x) l) ∧ Kept w wr
def RwJ (base : Nat) (ls : List (List Int)) (a : Option Addr) (n c : Nat) (wr : World) : Prop := ∃ xs : List SlV, xs.length = n ∧ LO slE wr base (.slice a n c) xs ∧ ∀ (i : Nat) (x : SlV) (l : List Int), xs[i]? = some x → ls[i]? = some l → LO inE wr base (val x) l
section
variable {base : Nat} {w w' : World} {ls : List (List Int)} {a : Option Addr} {n c : Nat}
theorem RwJ.keep (h : RwJ base ls a n c w) (hk : Kept w w') : RwJ base ls a n c w' := by
  obtain ⟨xs, h1, h2, h3⟩ := h
  exact ⟨xs, h1, h2.keep hk, fun i x l hx hl => (h3 i x l hx hl).keep hk⟩
theorem RwJ.but {b : Nat} (h : RwJ base ls a n c w) (hk : KeptBut b w w') (hb : b < base) : RwJ base ls a n c w' := by
  obtain ⟨xs, h1, h2, h3⟩ := h
  exact ⟨xs, h1, lo_but h2 hk hb, fun i x l hx hl => lo_but (h3 i x l hx hl) hk hb⟩
theorem RwJ.read (h : RwJ base ls a n c w) (hn : ls.length = n) (hb : n ≤ 4096) (hl : ∀ l ∈ ls, l.length ≤ 4096) : RowsR w (.slice a n c) ls := by
  obtain ⟨xs, h1, h2, h3⟩ := h
  refine ⟨a, c, by rw [hn], ?_, by rw [hn]; omega, ?_⟩
  · have := (h2.cap); omega
  · by_cases he : ls = []
    · exact .inl he
    · have hne : xs ≠ [] := fun e => he (List.length_eq_zero_iff.1 (by rw [hn, ← h1, e]; rfl))
      obtain ⟨g, rfl⟩ := h2.some hne
      refine .inr ⟨g, 0, rfl, (h2.lt' g rfl).2, fun i l hli => ?_⟩
      obtain ⟨x, hx⟩ : ∃ x, xs[i]? = some x := ⟨_, List.getElem?_eq_getElem (by rw [h1, ← hn]; exact (List.getElem?_eq_some_iff.1 hli).1)⟩
      refine ⟨[val x], rfl, fun j u hu => ?_, val x, rfl, (lo_ints (h3 i x l hx hli)).read (by have := hl l (List.mem_of_getElem? hli); omega)⟩
      rw [Nat.zero_add]
      exact h2.cell hx hu
end
set_option linter.unusedSimpArgs false in
set_option maxRecDepth 100000 in
set_option maxHeartbeats 4000000 in
/-- rows. -/
theorem rowsC_is (a : Option Addr) (n c : Nat) (ls : List (List Int)) (w : World) (hn : ls.length = n) (hb : n ≤ 4096) (hl : ∀ l ∈ ls, l.length ≤ 4096) (hR : RowsR w (.slice a n c) ls) :
    Calls Tryd.prog 25 #[.slice a n c] w fun e w' => ∃ (a' : Option Addr) (c' : Nat), e = .returned (.slice a' n c') ∧ RwJ w.heap.size ls a' n c' w' ∧ Kept w w' := by
  obtain ⟨_, _, q1, hc, _⟩ := SliceOf.len hR
  simp only [Value.slice.injEq] at q1
  obtain ⟨rfl, en, rfl⟩ := q1
  clear en
  rw [hn] at hc
  have gn : (n : Int) ≤ 4096 := by omega
  have gc : (n : Int) ≤ (c : Int) := by omega
  have HR := hide1 hR
  have HN := hide1 hn
  have HL := hide1 hl
  clear hR hn hl hc
  go_enter Tryd.func25, Tryd.ntmps25
  go_wp2_with fail
  go_loopw [3, 4] (fun o i wr => ∃ (j : Nat) (ra : Option Addr) (rc : Nat) (xs : List SlV), o = .slice ra j rc ∧ i = .int .i64 (j : Int) ∧ j ≤ n ∧ Hid (RwI w ls ra j rc xs wr)) (fun _ i _ => n - (intOf i).toNat)
  case atStart => exact ⟨0, none, 0, [], rfl, rfl, Nat.zero_le _, rfl, LO.nil _ _, fun i x l hx => (by simp at hx), Kept.refl w⟩
  case round =>
    obtain ⟨j, ra, rc, xs, rfl, rfl, hj, HI⟩ := hrel
    by_cases hlt : (j : Int) < (n : Int)
    · obtain ⟨l, hli⟩ : ∃ l, ls[j]? = some l := ⟨_, List.getElem?_eq_getElem (by have := HN.out; omega)⟩
      obtain ⟨g, o, u, ea, k1, hu⟩ := RowsR.at_ (HR.out.keep HI.out.2.2.2) hli
      subst ea
      obtain ⟨ua, uc, rfl, _⟩ := SliceOf.len hu
      obtain ⟨un, hun⟩ : ∃ un, l.length = un := ⟨_, rfl⟩
      rw [hun] at hu k1
      have HU := hide1 hu
      have HUN := hide1 hun
      have hub : un ≤ 4096 := by have := HL.out l (List.mem_of_getElem? hli); omega
      have HLI := hide1 hli
      have hjc : (j : Int) < (c : Int) := by omega
      have HK1 : Hid (Kept wr (wr.alloc (.cells #[] 3))) := (Kept.refl wr).alloc _ _
      have k2 := grown_cell HK1.out k1
      have HEB : Hid (LO inE (wr.alloc (.cells #[] 3)) wr.heap.size (.slice (some ⟨wr.heap.size, 0, none⟩) 0 0) []) := lo_emptyH wr (Nat.le_refl _)
      clear hu hun hli
      go_wp2_with (first
        | (at_builtin; have _g := HEB; clear _g; refine wpl_many (E := inE) rfl _ _ rfl wr.heap.size (.slice (some ⟨wr.heap.size, 0, none⟩) 0 0) [] l 0 un un rfl HUN.out (Nat.zero_add un) (by rfl) HEB.out ua uc (by rfl) (src_sl (E := inE) (HU.out.keep HK1.out)) (by show un * 8 ≤ 140737488355328; omega) (by unfold maxLen; omega) (alloc_leH wr _) ?_; intro aC cC wC hoC hgC horC; have hkC : Kept wr wC := kept_newH hgC; have HKC := hide1 hkC; have HOC := hide1 hoC; clear hoC hgC horC hkC HEB)
        | (at_builtin; have _g := HOC; clear _g; refine wpl_lo (E := slE) rfl _ _ rfl w.heap.size (.slice ra j rc) xs j HI.out.1 (by rfl) ((HI.out.2.1.keep HKC.out).keep ((Kept.refl wC).alloc _ _)) wC.heap.size (aC, un, cC) (by rfl) (heap_alloc_new wC _) (by show (j + 1) * 24 ≤ 140737488355328; omega) (by unfold maxLen; omega) (Nat.le_trans HI.out.2.2.2.size (Nat.le_trans HKC.out.size (alloc_leH wC _))) ?_; intro gD cD wD hoD hgD horD hlD; have HOD := hide1 hoD; have HGD := hide1 hgD; clear hoD hgD horD hlD))
      go_roundw
      case rel =>
        refine ⟨j + 1, some ⟨gD, 0, none⟩, cD, xs ++ [(aC, un, cC)], by first | rfl | trivial, by go_num, by omega, by rw [List.length_append, HI.out.1]; rfl, HOD.out, fun i x m hx hm => ?_, ?_⟩
        · have hW := (HI.out.2.1.keep HKC.out).keep ((Kept.refl wC).alloc #[.slice aC un cC] 41)
          have key : ∀ (b : Nat) (v : Value) (q : List Int), LO inE wC b v q → LO inE wD b v q := fun b v q hq => lo_othH (hq.keep ((Kept.refl wC).alloc _ _)) hW (by decide) HGD.out
          by_cases hi : i < xs.length
          · rw [List.getElem?_append_left hi] at hx
            exact key _ _ _ ((HI.out.2.2.1 i x m hx hm).keep HKC.out)
          · rw [List.getElem?_append_right (by omega)] at hx
            have q1 : i - xs.length < 1 := by have := (List.getElem?_eq_some_iff.1 hx).1; simpa using this
            have q2 : i - xs.length = 0 := by omega
            rw [q2] at hx
            have e1 : (aC, un, cC) = x := by simpa using hx
            have e2 : i = j := by rw [← HI.out.1]; omega
            subst e1
            subst e2
            have e3 : l = m := by have := HLI.out; rw [hm] at this; exact (Option.some.inj this).symm
            subst e3
            exact lo_low (key _ _ _ HOC.out) HI.out.2.2.2.size
        · exact kept_loH (gtrans HI.out.2.2.2 (gtrans HKC.out ((Kept.refl wC).alloc _ _))) ((HI.out.2.1.keep HKC.out).keep ((Kept.refl wC).alloc _ _)) HGD.out
      case measure => simp [intOf]; omega
    · obtain rfl : j = n := by omega
      go_wp2_with fail
      go_ret
      exact ⟨ra, rc, rfl, ⟨xs, HI.out.1, HI.out.2.1, HI.out.2.2.1⟩, HI.out.2.2.2⟩
section
variable {w : World} {b : Nat} {x0 x1 x2 x3 : Value} {f : Bool}
theorem TdBox.set0 (h : TdBox w b x0 x1 x2 x3 f) (y : Value) : TdBox (w.setCell ⟨b, 0, none⟩ y) b y x1 x2 x3 f := by
  unfold TdBox at h ⊢
  have hl : b < w.heap.size := (Array.getElem?_eq_some_iff.1 h).1
  have he : w.heap[b] = Obj.cells #[x0, x1, x2, x3, .bool f] 30 (0, 0) := by rw [Array.getElem?_eq_getElem hl] at h; exact Option.some.inj h
  simp [World.setCell, Array.getElem_modify, hl, he]
theorem TdBox.set1 (h : TdBox w b x0 x1 x2 x3 f) (y : Value) : TdBox (w.setCell ⟨b, 1, none⟩ y) b x0 y x2 x3 f := by
  unfold TdBox at h ⊢
  have hl : b < w.heap.size := (Array.getElem?_eq_some_iff.1 h).1
  have he : w.heap[b] = Obj.cells #[x0, x1, x2, x3, .bool f] 30 (0, 0) := by rw [Array.getElem?_eq_getElem hl] at h; exact Option.some.inj h
  simp [World.setCell, Array.getElem_modify, hl, he]
theorem TdBox.set2 (h : TdBox w b x0 x1 x2 x3 f) (y : Value) : TdBox (w.setCell ⟨b, 2, none⟩ y) b x0 x1 y x3 f := by
  unfold TdBox at h ⊢
  have hl : b < w.heap.size := (Array.getElem?_eq_some_iff.1 h).1
  have he : w.heap[b] = Obj.cells #[x0, x1, x2, x3, .bool f] 30 (0, 0) := by rw [Array.getElem?_eq_getElem hl] at h; exact Option.some.inj h
  simp [World.setCell, Array.getElem_modify, hl, he]
theorem TdBox.set3 (h : TdBox w b x0 x1 x2 x3 f) (y : Value) : TdBox (w.setCell ⟨b, 3, none⟩ y) b x0 x1 x2 y f := by
  unfold TdBox at h ⊢
  have hl : b < w.heap.size := (Array.getElem?_eq_some_iff.1 h).1
  have he : w.heap[b] = Obj.cells #[x0, x1, x2, x3, .bool f] 30 (0, 0) := by rw [Array.getElem?_eq_getElem hl] at h; exact Option.some.inj h
  simp [World.setCell, Array.getElem_modify, hl, he]
theorem TdBox.new (w : World) (x0 x1 x2 x3 : Value) (f : Bool) : TdBox (w.alloc (.cells #[x0, x1, x2, x3, .bool f] 30)) w.heap.size x0 x1 x2 x3 f := heap_alloc_new w _
end

end Ex
end Go.Proofs.YtooelfjceehmmaaDoor
