import Derived.Test.YtbnchnlogikecaaGreatDoorNGvN
import Derived.Test.YtbnchnlogikecaaGreatDoorNExO5
import Derived.Test.YtbnchnlogikecaaGreatDoorNExLook
import Derived.Test.YtbnchnlogikecaaGreatDoorNExWr9
import Derived.Test.YtbnchnlogikecaaGreatDoorNExO6
namespace Go.Proofs.YtbnchnlogikecaaGreatDoor
open Go.RowKit
namespace Ex
def FirstOk (zs : List Int) : Prop := ∃ x ys, zs = x :: ys ∧ x ≠ 124 ∧ x ≠ 41 ∧ x ≠ 42 ∧ x ≠ 43 ∧ x ≠ 63 ∧ x ≠ 123
theorem FirstOk.app {zs : List Int} (h : FirstOk zs) (ys : List Int) : FirstOk (zs ++ ys) := by
  obtain ⟨x, zs', rfl, h⟩ := h
  exact ⟨x, zs' ++ ys, rfl, h⟩
theorem byte_firstS (c : Int) (h0 : 0 ≤ c) (h1 : c ≤ 255) : FirstOk (byteW signsS c) := by
  have h : ∀ k : Fin 256, byteW signsS (k.val : Int) ≠ [] ∧ ∀ y ∈ [124, 41, 42, 43, 63, 123], (byteW signsS (k.val : Int)).head? ≠ some y := by decide +kernel
  have := h ⟨c.toNat, by omega⟩
  simp only [] at this
  rw [show ((c.toNat : Nat) : Int) = c by omega] at this
  obtain ⟨g1, g2⟩ := this
  cases e : byteW signsS c with
  | nil => exact absurd e g1
  | cons x zs =>
    rw [e] at g2
    refine ⟨x, zs, rfl, ?_, ?_, ?_, ?_, ?_, ?_⟩
    · have := g2 124 (by simp); simpa using this
    · have := g2 41 (by simp); simpa using this
    · have := g2 42 (by simp); simpa using this
    · have := g2 43 (by simp); simpa using this
    · have := g2 63 (by simp); simpa using this
    · have := g2 123 (by simp); simpa using this
theorem range_first {n : Nat} {p : PatN (n + 1)} (h0 : 0 ≤ from_ p) (h2 : to_ p ≤ 255) : FirstOk (rangeW p) := by
  unfold rangeW
  split
  · exact byte_firstS _ h0 (by omega)
  · split
    · exact ⟨46, [], rfl, by decide, by decide, by decide, by decide, by decide, by decide⟩
    · exact ⟨91, _, rfl, by decide, by decide, by decide, by decide, by decide, by decide⟩
theorem FirstOk.facts {T : ByteArray} {k : Int} {zs : List Int} (hf : FirstOk zs) (h : HasAt T k zs) : rowGo T k ∧ NoTimes T k ∧ 0 < zs.length := by
  obtain ⟨x, ys, rfl, g1, g2, g3, g4, g5, g6⟩ := hf
  obtain ⟨hp, hlt, _⟩ := h.cons
  refine ⟨⟨hlt, by rw [hp]; exact g1, by rw [hp]; exact g2⟩, ⟨by rw [hp]; exact g3, by rw [hp]; exact g4, by rw [hp]; exact g5, by rw [hp]; exact g6⟩, by simp⟩
def BackP (n : Nat) (p : PatN n) : Prop := ∀ (T : ByteArray) (k f : Int) (N : Nat), T.size ≤ 4096 → HasAt T k (writeA n p) → EndAt T (k + ((writeA n p).length : Int)) → (T.size : Int) < k + (N : Int) → ∃ q, sameT n p q ∧ patA T N (k, 0, f) = (q, k + ((writeA n p).length : Int), 0, f)
def BackI (n : Nat) (p : PatN n) (zs : List Int) : Prop := FirstOk zs ∧ ∀ (T : ByteArray) (k f : Int) (N : Nat), T.size ≤ 4096 → HasAt T k zs → (T.size : Int) < k + ((N + 1 : Nat) : Int) → ∃ q, sameT n p q ∧ ReadsItem (patA T N) T k f zs.length q
def BackR (n : Nat) (p : PatN n) (zs : List Int) : Prop := ∀ (T : ByteArray) (k f : Int) (N : Nat), T.size ≤ 4096 → HasAt T k zs → RowEnd T (k + (zs.length : Int)) → (T.size : Int) < k + ((N + 1 : Nat) : Int) → ∃ q, sameT n p q ∧ rowS (itemA (patA T N) T) T (k, 0, f) = (q, k + (zs.length : Int), 0, f)
theorem RowEnd.notGo {T : ByteArray} {k : Int} (h : RowEnd T k) : ¬ rowGo T k := by
  rintro ⟨g1, g2, g3⟩
  rcases h with (h | h) | h
  · omega
  · exact g3 h
  · exact g2 h
theorem rows_back {n : Nat} {g : PatN n → List Int} {T : ByteArray} {f : Int} {N : Nat} (hT : T.size ≤ 4096) : ∀ (L : List (PatN n)) (l : List Pat) (k : Int) (m : Nat), (∀ p ∈ L, BackI n p (g p)) → HasAt T k (L.flatMap g) → RowEnd T (k + ((L.flatMap g).length : Int)) → (T.size : Int) < k + ((N + 1 : Nat) : Int) → L.length < m →
    ∃ qs, All2 (sameT n) L qs ∧ rowG (itemA (patA T N) T) T m l (k, 0, f) = (l ++ qs, k + ((L.flatMap g).length : Int), 0, f)
  | [], l, k, m, _, h, he, _, hm => by
    obtain ⟨m, rfl⟩ : ∃ j, m = j + 1 := ⟨m - 1, by simp at hm; omega⟩
    refine ⟨[], trivial, ?_⟩
    have he2 : RowEnd T k := by simpa using he
    rw [rowG, if_neg he2.notGo]
    simp
  | p :: L, l, k, m, hL, h, he, hN, hm => by
    obtain ⟨m, rfl⟩ : ∃ j, m = j + 1 := ⟨m - 1, by simp at hm; omega⟩
    have hp := hL p (List.mem_cons_self ..)
    rw [List.flatMap_cons] at h he
    obtain ⟨ha, hb⟩ := h.app
    obtain ⟨q, hq, hi⟩ := hp.2 T k f N hT ha hN
    have hgo := hp.1.facts ha
    have he2 : RowEnd T (k + ((g p).length : Int) + ((L.flatMap g).length : Int)) := by
      have e : k + ((g p ++ L.flatMap g).length : Int) = k + ((g p).length : Int) + ((L.flatMap g).length : Int) := by rw [List.length_append]; omega
      rw [← e]; exact he
    have hno : NoTimes T (k + ((g p).length : Int)) := by
      cases L with
      | nil => exact RowEnd.noTimes (by simpa using he2)
      | cons p2 L2 =>
        have hb2 := hb
        rw [List.flatMap_cons] at hb2
        exact ((hL p2 (by simp)).1.facts hb2.app.1).2.1
    have hit := hi.stop hno
    obtain ⟨qs, h1, h2⟩ := rows_back (g := g) (f := f) (N := N) hT L (l ++ [q]) (k + ((g p).length : Int)) m (fun x hx => hL x (List.mem_cons_of_mem _ hx)) hb he2 (by omega) (by simp at hm; omega)
    refine ⟨q :: qs, ⟨hq, h1⟩, ?_⟩
    rw [rowG, if_pos hgo.1, hit]
    dsimp only
    rw [h2]
    simp only [List.append_assoc, List.singleton_append, List.flatMap_cons, List.length_append, Prod.mk.injEq, and_true, true_and]
    omega
theorem pats_back {n : Nat} {g : PatN n → List Int} {T : ByteArray} {f : Int} {N : Nat} (hT : T.size ≤ 4096) : ∀ (L : List (PatN n)) (l : List Pat) (k : Int) (m : Nat), (∀ p ∈ L, BackR n p (g p)) → HasAt T k (L.flatMap fun p => 124 :: g p) → EndAt T (k + ((L.flatMap fun p => 124 :: g p).length : Int)) → (T.size : Int) < k + ((N + 1 : Nat) : Int) → L.length < m →
    ∃ qs, All2 (sameT n) L qs ∧ patG (rowS (itemA (patA T N) T) T) T m l (k, 0, f) = (l ++ qs, k + ((L.flatMap fun p => 124 :: g p).length : Int), 0, f)
  | [], l, k, m, _, h, he, _, hm => by
    obtain ⟨m, rfl⟩ : ∃ j, m = j + 1 := ⟨m - 1, by simp at hm; omega⟩
    refine ⟨[], trivial, ?_⟩
    have hne : peekP T k ≠ 124 := by
      have he2 : EndAt T k := by simpa using he
      rcases he2 with e | e
      · rw [e, peek_end]; decide
      · rw [e]; decide
    rw [patG, if_neg hne]
    simp
  | p :: L, l, k, m, hL, h, he, hN, hm => by
    obtain ⟨m, rfl⟩ : ∃ j, m = j + 1 := ⟨m - 1, by simp at hm; omega⟩
    have hp := hL p (List.mem_cons_self ..)
    rw [List.flatMap_cons] at h he
    obtain ⟨ha, hb⟩ := h.app
    obtain ⟨hc, hlt, ha2⟩ := ha.cons
    have e0 : ((124 :: g p).length : Int) = ((g p).length : Int) + 1 := by simp
    rw [e0] at hb
    have he2 : EndAt T (k + (((g p).length : Int) + 1) + ((L.flatMap fun p => 124 :: g p).length : Int)) := by
      have e : k + ((124 :: g p ++ L.flatMap fun p => 124 :: g p).length : Int) = k + (((g p).length : Int) + 1) + ((L.flatMap fun p => 124 :: g p).length : Int) := by rw [List.length_append, List.length_cons]; omega
      rw [← e]; exact he
    have hre : RowEnd T (k + 1 + ((g p).length : Int)) := by
      cases L with
      | nil =>
        left
        have e : k + 1 + ((g p).length : Int) = k + (((g p).length : Int) + 1) := by omega
        rw [e]
        simpa using he2
      | cons p2 L2 =>
        right
        have hb2 := hb
        rw [List.flatMap_cons] at hb2
        have := hb2.app.1.cons.1
        rw [← this]
        congr 1
        omega
    obtain ⟨q, hq, hr⟩ := hp T (k + 1) f N hT ha2 hre (by omega)
    obtain ⟨qs, h1, h2⟩ := pats_back (g := g) (f := f) (N := N) hT L (l ++ [q]) (k + (((g p).length : Int) + 1)) m (fun x hx => hL x (List.mem_cons_of_mem _ hx)) hb he2 (by omega) (by simp at hm; omega)
    refine ⟨q :: qs, ⟨hq, h1⟩, ?_⟩
    rw [patG, if_pos hc]
    dsimp only
    rw [hr]
    dsimp only
    rw [show k + 1 + ((g p).length : Int) = k + (((g p).length : Int) + 1) by omega, h2]
    simp only [List.append_assoc, List.singleton_append, List.flatMap_cons, List.length_append, List.length_cons, Prod.mk.injEq, and_true, true_and]
    omega
theorem top_cases {n : Nat} {p : PatN (n + 1)} (h : topOf p = true) :
    (kind p = 1 ∧ 0 ≤ from_ p ∧ from_ p ≤ to_ p ∧ to_ p ≤ 255 ∧ kids p = [] ∧ min_ p = 0 ∧ max_ p = 0) ∨
    (kind p = 2 ∧ (kids p).length ≠ 1 ∧ from_ p = 0 ∧ to_ p = 0 ∧ min_ p = 0 ∧ max_ p = 0) ∨
    (kind p = 3 ∧ 2 ≤ (kids p).length ∧ from_ p = 0 ∧ to_ p = 0 ∧ min_ p = 0 ∧ max_ p = 0) ∨
    (kind p = 4 ∧ (kids p).length = 1 ∧ 0 ≤ min_ p ∧ min_ p ≤ 1000 ∧ (max_ p = -1 ∨ min_ p ≤ max_ p ∧ max_ p ≤ 1000) ∧ from_ p = 0 ∧ to_ p = 0) := by
  unfold topOf topP at h
  split at h
  · rename_i hk
    simp at h
    exact .inl ⟨hk, by omega, by omega, by omega, by simpa using h.1.1.2, by omega, by omega⟩
  split at h
  · rename_i hk
    unfold bareP at h
    simp at h
    exact .inr (.inl ⟨hk, by omega, by omega, by omega, by omega, by omega⟩)
  split at h
  · rename_i hk
    unfold bareP at h
    simp at h
    exact .inr (.inr (.inl ⟨hk, by omega, by omega, by omega, by omega, by omega⟩))
  split at h
  · rename_i hk
    unfold timesP at h
    simp at h
    exact .inr (.inr (.inr ⟨hk, by omega, by omega, by omega, by omega, by omega, by omega⟩))
  · exact absurd h (by decide)
theorem row_one {T : ByteArray} {k f : Int} {N : Nat} {zs : List Int} {q : Pat} (hf : FirstOk zs) (h : HasAt T k zs) (hi : ReadsItem (patA T N) T k f zs.length q) (he : RowEnd T (k + (zs.length : Int))) : rowS (itemA (patA T N) T) T (k, 0, f) = (q, k + (zs.length : Int), 0, f) := by
  have hit := hi.stop he.noTimes
  unfold rowS
  have e : rowG (itemA (patA T N) T) T 4097 [] (k, 0, f) = ([q], k + (zs.length : Int), 0, f) := by
    rw [show 4097 = 4096 + 1 from rfl, rowG, if_pos (hf.facts h).1, hit]
    dsimp only
    rw [show 4096 = 4095 + 1 from rfl, rowG, if_neg he.notGo]
    rfl
  rw [e]
  rfl
theorem pat_one {T : ByteArray} {k f k2 : Int} {N : Nat} {q : Pat} (hr : rowS (itemA (patA T N) T) T (k, 0, f) = (q, k2, 0, f)) (he : EndAt T k2) : patA T (N + 1) (k, 0, f) = (q, k2, 0, f) := by
  have hne : peekP T k2 ≠ 124 := by
    rcases he with e | e
    · rw [e, peek_end]; decide
    · rw [e]; decide
  show patO (rowS (itemA (patA T N) T) T) T (k, 0, f) = _
  unfold patO patL
  rw [hr]
  dsimp only
  rw [show 4097 = 4096 + 1 from rfl, patG, if_neg hne]
  rfl
theorem BackP.bracket {n : Nat} {p : PatN (n + 1)} (h : BackP (n + 1) p) : BackI (n + 1) p (40 :: (writeA (n + 1) p ++ [41])) := by
  refine ⟨⟨40, _, rfl, by decide, by decide, by decide, by decide, by decide, by decide⟩, fun T k f N hT hh hN => ?_⟩
  obtain ⟨hp, hlt, h2⟩ := hh.cons
  obtain ⟨ha, hb⟩ := h2.app
  obtain ⟨hc, _, _⟩ := hb.cons
  obtain ⟨q, hq, hr⟩ := h T (k + 1) f N hT ha (.inr hc) (by omega)
  refine ⟨q, hq, item_atom ?_⟩
  unfold atomA
  dsimp only
  rw [hp, if_neg (by decide), if_neg (by decide), if_neg (by decide), if_pos rfl, hr]
  dsimp only
  rw [if_pos hc]
  simp only [List.length_cons, List.length_append, List.length_nil, Prod.mk.injEq, and_true, true_and]
  omega
def BackN (n : Nat) : Prop := ∀ p : PatN n, rightP n p = true → (∀ kd : Int, kd ≠ 3 → BackI n p (partN n p kd (writeA n p))) ∧ BackR n p (partN n p 3 (writeA n p))
theorem ranges_same {n : Nat} : ∀ (L : List (PatN (n + 1))), (∀ q ∈ L, kind q = 1 ∧ topOf q = true) → All2 (sameT (n + 1)) L (rangesP (L.map fun q => (from_ q, to_ q)))
  | [], _ => trivial
  | q :: L, h => by
    have hq := h q (List.mem_cons_self ..)
    refine ⟨?_, ranges_same L (fun x hx => h x (List.mem_cons_of_mem _ hx))⟩
    rcases top_cases hq.2 with ⟨g1, g2, g3, g4, g5, g6, g7⟩ | ⟨g1, _⟩ | ⟨g1, _⟩ | ⟨g1, _⟩
    · refine ⟨[], ?_, by rw [g5]; trivial⟩
      show rangeP (from_ q) (to_ q) = _
      unfold rangeP
      rw [g1, g6, g7]
    · rw [hq.1] at g1; exact absurd g1 (by decide)
    · rw [hq.1] at g1; exact absurd g1 (by decide)
    · rw [hq.1] at g1; exact absurd g1 (by decide)
def Unit {n : Nat} (p : PatN (n + 1)) : Prop := kind p = 1 ∨ kind p = 4 ∨ isClassP p = true
theorem unit_back {n : Nat} (hB : BackN n) (p : PatN (n + 1)) (hr : rightP (n + 1) p = true) (hu : Unit p) : BackI (n + 1) p (writeA (n + 1) p) := by
  rw [rightP] at hr
  simp only [Bool.and_eq_true, List.all_eq_true] at hr
  obtain ⟨ht, hk⟩ := hr
  rcases top_cases ht with ⟨g1, g2, g3, g4, g5, g6, g7⟩ | ⟨g1, g2, g3, g4, g5, g6⟩ | ⟨g1, g2, g3, g4, g5, g6⟩ | ⟨g1, g2, g3, g4, g5, g6, g7⟩
  · have e : writeA (n + 1) p = rangeW p := by rw [writeA, if_pos g1]
    rw [e]
    refine ⟨range_first g2 g4, fun T k f N hT hh hN => ⟨rangeP (from_ p) (to_ p), ⟨[], ?_, by rw [g5]; trivial⟩, range_item g2 g3 g4 hh⟩⟩
    unfold rangeP
    rw [g1, g6, g7]
  · rcases hu with h | h | h
    · rw [g1] at h; exact absurd h (by decide)
    · rw [g1] at h; exact absurd h (by decide)
    · unfold isClassP at h; rw [g1] at h; simp at h
  · have hc : isClassP p = true := by
      rcases hu with h | h | h
      · rw [g1] at h; exact absurd h (by decide)
      · rw [g1] at h; exact absurd h (by decide)
      · exact h
    have e : writeA (n + 1) p = classN n (kids p) := by rw [writeA, if_neg (by rw [g1]; decide), if_neg (by rw [g1]; decide), if_pos hc]
    cases n with
    | zero => rw [none_of (kids p)] at g2; simp at g2
    | succ n =>
      have hall : ∀ q ∈ kids p, kind q = 1 ∧ topOf q = true := by
        intro q hq
        have h1 := hk q hq
        rw [rightP] at h1
        simp only [Bool.and_eq_true] at h1
        unfold isClassP at hc
        simp only [Bool.and_eq_true, List.all_eq_true] at hc
        have := hc.2 q hq
        exact ⟨by simpa [kindN] using this, h1.1⟩
      have ew : classW (kids p) = 91 :: (((kids p).map fun q => (from_ q, to_ q)).flatMap memP ++ [93]) := by
        unfold classW
        rw [List.flatMap_map]
        rfl
      have e2 : writeA (n + 1 + 1) p = 91 :: (((kids p).map fun q => (from_ q, to_ q)).flatMap memP ++ [93]) := by rw [e]; exact ew
      rw [e2]
      refine ⟨⟨91, _, rfl, by decide, by decide, by decide, by decide, by decide, by decide⟩, fun T k f N hT hh hN => ?_⟩
      have hM : ∀ x ∈ (kids p).map fun q => (from_ q, to_ q), GoodR x := by
        intro x hx
        obtain ⟨q, hq, rfl⟩ := List.mem_map.1 hx
        have h1 := hall q hq
        rcases top_cases h1.2 with ⟨_, b2, b3, b4, _⟩ | ⟨b1, _⟩ | ⟨b1, _⟩ | ⟨b1, _⟩
        · exact ⟨b2, b3, b4⟩
        · rw [h1.1] at b1; exact absurd b1 (by decide)
        · rw [h1.1] at b1; exact absurd b1 (by decide)
        · rw [h1.1] at b1; exact absurd b1 (by decide)
      have hlen : ((kids p).map fun q => (from_ q, to_ q)).length ≤ 4096 := by
        have h1 : ((kids p).map fun q => (from_ q, to_ q)).length ≤ (((kids p).map fun q => (from_ q, to_ q)).flatMap memP).length := by
          generalize ((kids p).map fun q => (from_ q, to_ q)) = M at hM
          clear hh
          induction M with
          | nil => simp
          | cons x M ih =>
            have h2 := ih (fun y hy => hM y (List.mem_cons_of_mem _ hy))
            obtain ⟨c, zs, e3, _⟩ := memP_first (hM x (List.mem_cons_self ..))
            rw [List.flatMap_cons, List.length_append, e3, List.length_cons, List.length_cons]
            omega
        have h2 := hh.le.2
        have h3 := hh.le.1
        simp only [List.length_cons, List.length_append] at h2
        omega
      have hne : ((kids p).map fun q => (from_ q, to_ q)) ≠ [] := by intro h0; have := congrArg List.length h0; simp at this; rw [this] at g2; simp at g2
      have hb := class_back (f := f) hM hne hlen hh
      refine ⟨mkP 3 0 0 0 0 (rangesP ((kids p).map fun q => (from_ q, to_ q))), ⟨_, by rw [g1, g3, g4, g5, g6], ranges_same (kids p) hall⟩, item_atom ?_⟩
      have hp := hh.cons.1
      unfold atomA
      dsimp only
      rw [hp, if_neg (by decide), if_pos rfl, hb, oneOf_more (by rw [rangesP_len]; simp; omega)]
      simp only [List.length_cons, List.length_append, List.length_nil, Prod.mk.injEq, and_true, true_and]
      omega
  · have e : writeA (n + 1) p = ((kids p).take 1).flatMap (fun q => partN n q 4 (writeA n q)) ++ timesA (min_ p) (max_ p) := by rw [writeA, if_neg (by rw [g1]; decide), if_pos g1]
    obtain ⟨q, hq⟩ : ∃ q, kids p = [q] := List.length_eq_one_iff.1 g2
    have e2 : writeA (n + 1) p = partN n q 4 (writeA n q) ++ timesA (min_ p) (max_ p) := by rw [e, hq]; simp
    rw [e2]
    have hI := (hB q (hk q (by rw [hq]; simp))).1 4 (by decide)
    refine ⟨hI.1.app _, fun T k f N hT hh hN => ?_⟩
    obtain ⟨ha, hb⟩ := hh.app
    obtain ⟨q', hs, j, hj, hit⟩ := hI.2 T k f N hT ha hN
    have hlen := hh.le
    have hpos : 0 < (timesA (min_ p) (max_ p)).length := by
      unfold timesA
      (repeat' split) <;> simp
    refine ⟨mkP 4 0 0 (min_ p) (max_ p) [q'], ⟨[q'], by rw [g1, g6, g7], by rw [hq]; exact ⟨hs, trivial⟩⟩, j + 1, by rw [List.length_append]; omega, ?_⟩
    have hj2 : j ≤ 4096 := by
      simp only [List.length_append] at hlen
      omega
    rw [hit, show 4097 - j = (4097 - (j + 1)) + 1 by omega, times_back _ g3 g4 g5 hb]
    congr 2
    rw [List.length_append]
    omega
theorem zip_plain {α : Type} (g : α → List Int) : ∀ (L : List α) (i : Nat), (L.zipIdx i).flatMap (fun x => g x.1) = L.flatMap g
  | [], _ => rfl
  | a :: L, i => by rw [List.zipIdx_cons, List.flatMap_cons, List.flatMap_cons, zip_plain g L]
theorem zip_bar {α : Type} (g : α → List Int) : ∀ (L : List α) (i : Nat), 0 < i → (L.zipIdx i).flatMap (fun x => (if 0 < x.2 then [124] else []) ++ g x.1) = L.flatMap fun p => 124 :: g p
  | [], _, _ => rfl
  | a :: L, i, hi => by rw [List.zipIdx_cons, List.flatMap_cons, List.flatMap_cons, zip_bar g L (i + 1) (by omega), if_pos (by exact hi)]; rfl
theorem not_unit {n : Nat} {p : PatN (n + 1)} (ht : topOf p = true) (hu : ¬ Unit p) : kind p = 2 ∨ kind p = 3 ∧ isClassP p = false := by
  rcases top_cases ht with ⟨g1, _⟩ | ⟨g1, _⟩ | ⟨g1, _⟩ | ⟨g1, _⟩
  · exact absurd (.inl g1) hu
  · exact .inl g1
  · refine .inr ⟨g1, ?_⟩
    cases hc : isClassP p with
    | false => rfl
    | true => exact absurd (.inr (.inr hc)) hu
  · exact absurd (.inr (.inl g1)) hu
theorem write_row {n : Nat} {p : PatN (n + 1)} (h : kind p = 2) : writeA (n + 1) p = (kids p).flatMap fun q => partN n q 2 (writeA n q) := by
  have hc : isClassP p = false := by unfold isClassP; rw [h]; rfl
  rw [writeA, if_neg (by rw [h]; decide), if_neg (by rw [h]; decide), hc, if_neg (by decide), h]
  rw [← zip_plain (fun q => partN n q 2 (writeA n q)) (kids p) 0]
  congr 1
  funext x
  rw [if_neg (by omega)]
  rfl
theorem write_alt {n : Nat} {p : PatN (n + 1)} (h : kind p = 3) (hc : isClassP p = false) {a : PatN n} {L : List (PatN n)} (hL : kids p = a :: L) : writeA (n + 1) p = partN n a 3 (writeA n a) ++ L.flatMap fun q => 124 :: partN n q 3 (writeA n q) := by
  rw [writeA, if_neg (by rw [h]; decide), if_neg (by rw [h]; decide), hc, if_neg (by decide), h, hL, List.zipIdx_cons, List.flatMap_cons]
  rw [← zip_bar (fun q => partN n q 3 (writeA n q)) L 1 (by decide)]
  simp
theorem row_list {n : Nat} (hB : BackN n) {p : PatN (n + 1)} (hk : kind p = 2) (ht : topOf p = true) (hr : ∀ q ∈ kids p, rightP n q = true) : BackR (n + 1) p (writeA (n + 1) p) := by
  intro T k f N hT hh he hN
  rw [write_row hk] at hh he ⊢
  have hlen : (kids p).length ≤ 4096 := by
    have h1 : (kids p).length ≤ ((kids p).flatMap fun q => partN n q 2 (writeA n q)).length := by
      clear hh he ht
      generalize kids p = L at hr
      induction L with
      | nil => simp
      | cons x L ih =>
        have h2 := ih (fun y hy => hr y (List.mem_cons_of_mem _ hy))
        obtain ⟨c, zs, e3, _⟩ := ((hB x (hr x (List.mem_cons_self ..))).1 2 (by decide)).1
        rw [List.flatMap_cons, List.length_append, e3, List.length_cons, List.length_cons]
        omega
    have h2 := hh.le
    omega
  obtain ⟨qs, hq, hg⟩ := rows_back (g := fun q => partN n q 2 (writeA n q)) (f := f) (N := N) hT (kids p) [] k 4097 (fun q hq => (hB q (hr q hq)).1 2 (by decide)) hh he hN (by omega)
  rcases top_cases ht with ⟨g1, _⟩ | ⟨g1, g2, g3, g4, g5, g6⟩ | ⟨g1, _⟩ | ⟨g1, _⟩
  · rw [hk] at g1; exact absurd g1 (by decide)
  · refine ⟨mkP 2 0 0 0 0 qs, ⟨qs, by rw [g1, g3, g4, g5, g6], hq⟩, ?_⟩
    unfold rowS
    rw [hg]
    dsimp only
    rw [List.nil_append, oneOf_more (by rw [hq.len]; exact g2)]
  · rw [hk] at g1; exact absurd g1 (by decide)
  · rw [hk] at g1; exact absurd g1 (by decide)
theorem level_back {n : Nat} (hB : BackN n) (p : PatN (n + 1)) (hr : rightP (n + 1) p = true) : BackP (n + 1) p := by
  have hr0 := hr
  rw [rightP] at hr
  simp only [Bool.and_eq_true, List.all_eq_true] at hr
  obtain ⟨ht, hk⟩ := hr
  intro T k f N hT hh he hN
  have hk0 := hh.le
  obtain ⟨N, rfl⟩ : ∃ j, N = j + 1 := ⟨N - 1, by omega⟩
  by_cases hu : Unit p
  · obtain ⟨h1, h2⟩ := unit_back hB p hr0 hu
    obtain ⟨q, hq, hi⟩ := h2 T k f N hT hh hN
    exact ⟨q, hq, pat_one (row_one h1 hh hi (.inl he)) he⟩
  · rcases not_unit ht hu with h2 | ⟨h3, hc⟩
    · obtain ⟨q, hq, hrow⟩ := row_list hB h2 ht hk T k f N hT hh (.inl he) hN
      exact ⟨q, hq, pat_one hrow he⟩
    · rcases top_cases ht with ⟨g1, _⟩ | ⟨g1, _⟩ | ⟨g1, g2, g3, g4, g5, g6⟩ | ⟨g1, _⟩
      · rw [h3] at g1; exact absurd g1 (by decide)
      · rw [h3] at g1; exact absurd g1 (by decide)
      · obtain ⟨a, L, hL⟩ : ∃ a L, kids p = a :: L := List.exists_cons_of_ne_nil (by intro h0; rw [h0] at g2; simp at g2)
        rw [write_alt h3 hc hL] at hh he ⊢
        obtain ⟨ha, hb⟩ := hh.app
        have he2 : EndAt T (k + ((partN n a 3 (writeA n a)).length : Int) + ((L.flatMap fun q => 124 :: partN n q 3 (writeA n q)).length : Int)) := by
          have e : k + ((partN n a 3 (writeA n a) ++ L.flatMap fun q => 124 :: partN n q 3 (writeA n q)).length : Int) = k + ((partN n a 3 (writeA n a)).length : Int) + ((L.flatMap fun q => 124 :: partN n q 3 (writeA n q)).length : Int) := by rw [List.length_append]; omega
          rw [← e]; exact he
        have hre : RowEnd T (k + ((partN n a 3 (writeA n a)).length : Int)) := by
          cases L with
          | nil => left; simpa using he2
          | cons a2 L2 =>
            right
            rw [List.flatMap_cons] at hb
            exact hb.app.1.cons.1
        obtain ⟨q1, hq1, hr1⟩ := (hB a (hk a (by rw [hL]; simp))).2 T k f N hT ha hre hN
        have hlen : L.length ≤ 4096 := by
          have h1 : L.length ≤ (L.flatMap fun q => 124 :: partN n q 3 (writeA n q)).length := by
            clear hb he2 hre hh he hL hk
            induction L with
            | nil => simp
            | cons x L ih =>
              rw [List.flatMap_cons, List.length_append, List.length_cons, List.length_cons]
              omega
          have h2 := hb.le
          omega
        obtain ⟨qs, hqs, hg⟩ := pats_back (g := fun q => partN n q 3 (writeA n q)) (f := f) (N := N) hT L [q1] (k + ((partN n a 3 (writeA n a)).length : Int)) 4097 (fun q hq => (hB q (hk q (by rw [hL]; exact List.mem_cons_of_mem _ hq))).2) hb he2 (by omega) (by omega)
        refine ⟨mkP 3 0 0 0 0 (q1 :: qs), ⟨q1 :: qs, by rw [g1, g3, g4, g5, g6], by rw [hL]; exact ⟨hq1, hqs⟩⟩, ?_⟩
        show patO (rowS (itemA (patA T N) T) T) T (k, 0, f) = _
        unfold patO patL
        rw [hr1]
        dsimp only
        rw [hg]
        dsimp only
        rw [List.singleton_append, oneOf_more (by rw [List.length_cons, hqs.len]; rw [hL, List.length_cons] at g2; omega)]
        simp only [List.length_append, Prod.mk.injEq, and_true, true_and]
        omega
      · rw [h3] at g1; exact absurd g1 (by decide)
theorem all_back : ∀ n, BackN n
  | 0 => fun p _ => absurd (none_of [p]) (by simp)
  | n + 1 => fun p hr => by
    have hB := all_back n
    have hP := level_back hB p hr
    have hr0 := hr
    rw [rightP] at hr
    simp only [Bool.and_eq_true, List.all_eq_true] at hr
    obtain ⟨ht, hk⟩ := hr
    have hI : ∀ kd : Int, (bracketP p kd = false → Unit p) → BackI (n + 1) p (partN (n + 1) p kd (writeA (n + 1) p)) := by
      intro kd hu
      show BackI (n + 1) p (partW p kd (writeA (n + 1) p))
      unfold partW
      cases hb : bracketP p kd with
      | true => rw [if_pos rfl]; exact hP.bracket
      | false => rw [if_neg (by decide)]; exact unit_back hB p hr0 (hu hb)
    have hun : ∀ kd : Int, kd ≠ 3 → bracketP p kd = false → Unit p := by
      intro kd hkd hb
      by_cases hu : Unit p
      · exact hu
      · exfalso
        rcases not_unit ht hu with h2 | ⟨h3, hc⟩
        · unfold bracketP at hb
          rw [if_neg (by rw [h2]; decide), if_pos h2] at hb
          simp [hkd] at hb
        · unfold bracketP at hb
          rw [if_pos h3, hc] at hb
          simp at hb
    refine ⟨fun kd hkd => hI kd (hun kd hkd), ?_⟩
    by_cases hu : bracketP p 3 = false → Unit p
    · obtain ⟨h1, h2⟩ := hI 3 hu
      intro T k f N hT hh he hN
      obtain ⟨q, hq, hi⟩ := h2 T k f N hT hh hN
      exact ⟨q, hq, row_one h1 hh hi he⟩
    · have hb : bracketP p 3 = false := by
        cases hb : bracketP p 3 with
        | false => rfl
        | true => exact absurd (fun h => by rw [hb] at h; exact absurd h (by decide)) hu
      have hnu : ¬ Unit p := fun h => hu (fun _ => h)
      have h2 : kind p = 2 := by
        rcases not_unit ht hnu with h2 | ⟨h3, hc⟩
        · exact h2
        · exfalso
          unfold bracketP at hb
          rw [if_pos h3, hc] at hb
          simp at hb
      show BackR (n + 1) p (partW p 3 (writeA (n + 1) p))
      unfold partW
      rw [hb, if_neg (by decide)]
      exact row_list hB h2 ht hk
theorem round_back {n : Nat} {p : PatN (n + 1)} (hr : rightP (n + 1) p = true) {T : ByteArray} (hT : T.size ≤ 4096) (h : HasAt T 0 (writeA (n + 1) p)) (hs : ((writeA (n + 1) p).length : Int) = T.size) : ∃ q, sameT (n + 1) p q ∧ wholeA T (0, 0, 0) = (q, (T.size : Int), 0, 0) := by
  obtain ⟨q, hq, he⟩ := level_back (all_back n) p hr T 0 0 4098 hT h (.inl (by omega)) (by omega)
  refine ⟨q, hq, ?_⟩
  unfold wholeA
  rw [he]
  dsimp only
  rw [if_neg (by omega)]
  simp only [Prod.mk.injEq, and_true, true_and]
  omega
def fitp {n : Nat} (m : Nat) (p : PatN (n + 1)) : PatN (m + 1) := (show PatN (m + 1) from (kind p, from_ p, to_ p, min_ p, max_ p, fitL m n (kids p)))
theorem fitL_zero (m : Nat) (l : List (PatN 0)) : fitL m 0 l = [] := by cases m <;> rfl
theorem fitL_succ (m n : Nat) (l : List (PatN (n + 1))) : fitL (m + 1) (n + 1) l = l.map (fitp m) := rfl
theorem kids_fit {n : Nat} (m : Nat) (p : PatN (n + 1)) : kids (fitp m p) = fitL m n (kids p) := rfl
theorem top_fit {n m : Nat} (h : n ≤ m) (p : PatN (n + 1)) : topOf (fitp m p) = topOf p := by
  have e : (kids (fitp m p)).length = (kids p).length := by
    rw [kids_fit]
    match n, m, h with
    | 0, m, _ => rw [fitL_zero, none_of (kids p)]; rfl
    | n + 1, m + 1, _ => rw [fitL_succ, List.length_map]
  unfold topOf
  rw [e]
  rfl
theorem fit_right : ∀ (n m : Nat), n ≤ m → ∀ p : PatN (n + 1), rightP (m + 1) (fitp m p) = rightP (n + 1) p
  | 0, m, h, p => by
    rw [rightP, rightP, top_fit h, kids_fit, fitL_zero, none_of (kids p)]
    rfl
  | n + 1, m + 1, h, p => by
    rw [rightP, rightP, top_fit h, kids_fit, fitL_succ, List.all_map]
    congr 2
    funext q
    exact fit_right n m (by omega) q
theorem fit_pos : ∀ (n m : Nat), n ≤ m → ∀ p : PatN (n + 1), posP (m + 1) (fitp m p) = posP (n + 1) p
  | 0, m, _, p => by
    rw [posP, posP, kids_fit, fitL_zero, none_of (kids p)]
    rfl
  | n + 1, m + 1, h, p => by
    rw [posP, posP, kids_fit, fitL_succ, List.foldl_map]
    simp only [fun q => fit_pos n m (by omega) q]
    rfl
theorem fit_size : ∀ (n m : Nat), n ≤ m → ∀ p : PatN (n + 1), sizeP (m + 1) (fitp m p) = sizeP (n + 1) p
  | 0, m, _, p => by
    rw [sizeP, sizeP, kids_fit, fitL_zero, none_of (kids p)]
    rfl
  | n + 1, m + 1, h, p => by
    rw [sizeP, sizeP, kids_fit, fitL_succ, List.foldl_map]
    simp only [fun q => fit_size n m (by omega) q]
theorem fit_depth : ∀ (n m : Nat), n ≤ m → ∀ p : PatN (n + 1), depthP (m + 1) (fitp m p) = depthP (n + 1) p
  | 0, m, _, p => by
    rw [depthP, depthP, kids_fit, fitL_zero, none_of (kids p)]
    rfl
  | n + 1, m + 1, h, p => by
    rw [depthP, depthP, kids_fit, fitL_succ, List.foldl_map]
    simp only [fun q => fit_depth n m (by omega) q]
theorem fit_check {n m : Nat} (h : n ≤ m) (p : PatN (n + 1)) : checkP (fitp m p) = checkP p := by
  unfold checkP
  rw [bounds_eq, bounds_eq, fit_size n m h, fit_depth n m h, fit_right n m h, fit_pos n m h]
theorem fit_class {n m : Nat} (h : n ≤ m) (p : PatN (n + 1)) : isClassP (fitp m p) = isClassP p := by
  unfold isClassP
  rw [kids_fit]
  match n, m, h with
  | 0, m, _ => rw [fitL_zero, none_of (kids p)]; rfl
  | n + 1, m + 1, _ => rw [fitL_succ, List.all_map]; rfl
theorem fit_bracket {n m : Nat} (h : n ≤ m) (p : PatN (n + 1)) (k : Int) : bracketP (fitp m p) k = bracketP p k := by
  have e : (kids (fitp m p)).length = (kids p).length := by
    rw [kids_fit]
    match n, m, h with
    | 0, m, _ => rw [fitL_zero, none_of (kids p)]; rfl
    | n + 1, m + 1, _ => rw [fitL_succ, List.length_map]
  unfold bracketP
  rw [fit_class h, e]
  rfl
theorem zip_map {α β : Type} (g : α → β) (F : β × Nat → List Int) : ∀ (L : List α) (i : Nat), ((L.map g).zipIdx i).flatMap F = (L.zipIdx i).flatMap fun x => F (g x.1, x.2)
  | [], _ => rfl
  | a :: L, i => by rw [List.map_cons, List.zipIdx_cons, List.zipIdx_cons, List.flatMap_cons, List.flatMap_cons, zip_map g F L]
theorem fit_write : ∀ (n m : Nat), n ≤ m → ∀ p : PatN (n + 1), writeA (m + 1) (fitp m p) = writeA (n + 1) p
  | 0, m, h, p => by
    rw [writeA, writeA, fit_class h, kids_fit, fitL_zero, none_of (kids p)]
    show (if kind p = 1 then rangeW (fitp m p) else _) = _
    have er : rangeW (fitp m p) = rangeW p := rfl
    rw [er]
    by_cases hc : isClassP p = true
    · cases m with
      | zero => rfl
      | succ m =>
        rw [hc]
        rfl
    · have hc2 : isClassP p = false := by simpa using hc
      rw [hc2]
      rfl
  | n + 1, m + 1, h, p => by
    have ih := fit_write n m (by omega)
    have hpart : ∀ (q : PatN (n + 1)) (k : Int), partN (m + 1) (fitp m q) k (writeA (m + 1) (fitp m q)) = partN (n + 1) q k (writeA (n + 1) q) := by
      intro q k
      show partW (fitp m q) k _ = partW q k _
      unfold partW
      rw [fit_bracket (by omega), ih]
    rw [writeA, writeA, fit_class h, kids_fit, fitL_succ]
    have er : rangeW (fitp (m + 1) p) = rangeW p := rfl
    have ec : classN (m + 1) ((kids p).map (fitp m)) = classN (n + 1) (kids p) := by
      show classW _ = classW _
      unfold classW
      rw [List.flatMap_map]
      rfl
    have e4 : (((kids p).map (fitp m)).take 1).flatMap (fun q => partN (m + 1) q 4 (writeA (m + 1) q)) = ((kids p).take 1).flatMap (fun q => partN (n + 1) q 4 (writeA (n + 1) q)) := by
      rw [← List.map_take, List.flatMap_map]
      congr 1
      funext q
      exact hpart q 4
    rw [er, ec, e4, zip_map]
    simp only [hpart]
    rfl
theorem fit_fit : ∀ (n m M : Nat), n ≤ m → m ≤ M → ∀ p : PatN (n + 1), fitp M (fitp m p) = fitp M p
  | 0, m, M, _, _, p => by
    show (show PatN (M + 1) from (kind p, from_ p, to_ p, min_ p, max_ p, fitL M m (fitL m 0 (kids p)))) = (show PatN (M + 1) from (kind p, from_ p, to_ p, min_ p, max_ p, fitL M 0 (kids p)))
    rw [fitL_zero, fitL_zero]
    have e : fitL M m ([] : List (PatN m)) = [] := by cases M <;> cases m <;> rfl
    rw [e]
  | n + 1, m + 1, M + 1, h1, h2, p => by
    show (show PatN (M + 1 + 1) from (kind p, from_ p, to_ p, min_ p, max_ p, fitL (M + 1) (m + 1) (fitL (m + 1) (n + 1) (kids p)))) = (show PatN (M + 1 + 1) from (kind p, from_ p, to_ p, min_ p, max_ p, fitL (M + 1) (n + 1) (kids p)))
    rw [fitL_succ, fitL_succ, fitL_succ, List.map_map]
    have e : (fitp M ∘ fitp m : PatN (n + 1) → PatN (M + 1)) = fitp M := by
      funext q
      exact fit_fit n m M (by omega) (by omega) q
    rw [e]
theorem same_fit : ∀ (n : Nat) (p : PatN (n + 1)) (q : Pat), sameT (n + 1) p q → ∀ M, n ≤ M → q.1 ≤ M → fitp M p = fitp M q.2 := by
  intro n
  induction n with
  | zero =>
    rintro p q ⟨l, rfl, hl⟩ M _ hM
    have hk : kids p = [] := none_of _
    rw [hk] at hl
    have hl0 : l = [] := by
      cases l with
      | nil => rfl
      | cons _ _ => exact absurd hl (by simp [All2])
    subst hl0
    cases M <;> rfl
  | succ n ih =>
    rintro p q ⟨l, rfl, hl⟩ M hn hM
    obtain ⟨M, rfl⟩ : ∃ j, M = j + 1 := ⟨M - 1, by omega⟩
    have hM2 : topL l ≤ M + 1 := hM
    show (show PatN (M + 1 + 1) from (kind p, from_ p, to_ p, min_ p, max_ p, fitL (M + 1) (n + 1) (kids p))) = (show PatN (M + 1 + 1) from (kind p, from_ p, to_ p, min_ p, max_ p, fitL (M + 1) (topL l) (kidsOf (topL l) l)))
    have key : ∀ (L : List (PatN (n + 1))) (l : List Pat), All2 (sameT (n + 1)) L l → (∀ x ∈ l, x.1 ≤ M) → L.map (fitp M) = l.map fun x => fitp M x.2 := by
      intro L
      induction L with
      | nil =>
        intro l h _
        cases l with
        | nil => rfl
        | cons _ _ => exact absurd h (by simp [All2])
      | cons a L ih2 =>
        intro l h hx
        cases l with
        | nil => exact absurd h (by simp [All2])
        | cons x l => rw [List.map_cons, List.map_cons, ih a x h.1 M (by omega) (hx x (by simp)), ih2 l h.2 (fun y hy => hx y (by simp [hy]))]
    have hx : ∀ x ∈ l, x.1 ≤ M := fun x hx => by have := top_le hx; omega
    rw [fitL_succ, key (kids p) l hl hx]
    by_cases h0 : topL l = 0
    · have hl0 : l = [] := by
        cases l with
        | nil => rfl
        | cons x l => have := top_le (List.mem_cons_self (a := x) (l := l)); omega
      subst hl0
      rfl
    · obtain ⟨t, ht⟩ : ∃ t, topL l = t + 1 := ⟨topL l - 1, by omega⟩
      have e : fitL (M + 1) (topL l) (kidsOf (topL l) l) = l.map fun x => fitp M x.2 := by
        rw [ht, kidsOf_succ]
        show (l.map fun x => fitp t x.2).map (fitp M) = _
        rw [List.map_map]
        apply List.map_congr_left
        intro x hx2
        exact fit_fit x.1 t M (by have := top_le hx2; omega) (by omega) x.2
      rw [e]
theorem same_check {n : Nat} {p : PatN (n + 1)} {q : Pat} (h : sameT (n + 1) p q) : checkP q.2 = checkP p := by
  have e := same_fit n p q h (n + q.1) (by omega) (by omega)
  rw [← fit_check (m := n + q.1) (by omega) p, e, fit_check (by omega)]
theorem same_write {n : Nat} {p : PatN (n + 1)} {q : Pat} (h : sameT (n + 1) p q) : writeA (q.1 + 1) q.2 = writeA (n + 1) p := by
  have e := same_fit n p q h (n + q.1) (by omega) (by omega)
  rw [← fit_write n (n + q.1) (by omega) p, e, fit_write q.1 (n + q.1) (by omega)]
theorem byteW_bytes (s : ByteArray) (c : Int) (h0 : 0 ≤ c) (h1 : c ≤ 255) : ∀ z ∈ byteW s c, IsB z := by
  have hh : ∀ d : Int, 0 ≤ d → d < 16 → IsB (hexd d) := fun d g0 g1 => by unfold hexd IsB; split <;> omega
  unfold byteW
  (repeat' split) <;> intro z hz <;> simp only [List.mem_cons, List.not_mem_nil, or_false] at hz
  · rcases hz with rfl | rfl <;> (unfold IsB; omega)
  · rcases hz with rfl | rfl <;> (unfold IsB; omega)
  · rcases hz with rfl | rfl <;> (unfold IsB; omega)
  · rcases hz with rfl | rfl | rfl | rfl
    · unfold IsB; omega
    · unfold IsB; omega
    · exact hh _ (by omega) (by omega)
    · exact hh _ (by omega) (by omega)
  · rcases hz with rfl | rfl <;> (unfold IsB; omega)
  · subst hz; exact ⟨h0, h1⟩
theorem decW_bytes (i : Int) (h0 : 0 ≤ i) : ∀ z ∈ decW i, IsB z := by
  unfold decW
  (repeat' split) <;> intro z hz <;> simp only [List.mem_cons, List.not_mem_nil, or_false] at hz
  · subst hz; unfold IsB; omega
  · rcases hz with rfl | rfl <;> (unfold IsB; omega)
  · rcases hz with rfl | rfl | rfl <;> (unfold IsB; omega)
  · rcases hz with rfl | rfl | rfl | rfl <;> (unfold IsB; omega)
theorem app_bytes {xs ys : List Int} (h1 : ∀ z ∈ xs, IsB z) (h2 : ∀ z ∈ ys, IsB z) : ∀ z ∈ xs ++ ys, IsB z := by
  intro z hz
  rcases List.mem_append.1 hz with h | h
  · exact h1 z h
  · exact h2 z h
theorem lit_bytes {xs : List Int} (h : xs.all (fun z => decide (0 ≤ z) && decide (z ≤ 255)) = true) : ∀ z ∈ xs, IsB z := by
  intro z hz
  have := List.all_eq_true.1 h z hz
  simp only [Bool.and_eq_true, decide_eq_true_eq] at this
  exact this
theorem cons_bytes {x : Int} {xs : List Int} (hx : 0 ≤ x ∧ x ≤ 255) (h : ∀ z ∈ xs, IsB z) : ∀ z ∈ x :: xs, IsB z := by
  intro z hz
  rcases List.mem_cons.1 hz with rfl | hz
  · exact hx
  · exact h z hz
theorem timesA_bytes (mn mx : Int) (h0 : 0 ≤ mn) (h1 : mx = -1 ∨ 0 ≤ mx) : ∀ z ∈ timesA mn mx, IsB z := by
  unfold timesA
  split
  · exact lit_bytes rfl
  split
  · exact lit_bytes rfl
  split
  · exact lit_bytes rfl
  split
  · exact cons_bytes (by omega) (app_bytes (decW_bytes _ h0) (lit_bytes rfl))
  split
  · exact cons_bytes (by omega) (app_bytes (decW_bytes _ h0) (lit_bytes rfl))
  · exact cons_bytes (by omega) (app_bytes (decW_bytes _ h0) (cons_bytes (by omega) (app_bytes (decW_bytes _ (by omega)) (lit_bytes rfl))))
theorem flat_bytes {α : Type} {f : α → List Int} {L : List α} (h : ∀ a ∈ L, ∀ z ∈ f a, IsB z) : ∀ z ∈ L.flatMap f, IsB z := by
  intro z hz
  obtain ⟨a, ha, hz⟩ := List.mem_flatMap.1 hz
  exact h a ha z hz
theorem memW_bytes {n : Nat} {q : PatN (n + 1)} (h0 : 0 ≤ from_ q) (h1 : from_ q ≤ to_ q) (h2 : to_ q ≤ 255) : ∀ z ∈ memW q, IsB z := by
  unfold memW
  refine app_bytes (byteW_bytes _ _ h0 (by omega)) ?_
  split
  · exact cons_bytes (by omega) (byteW_bytes _ _ (by omega) h2)
  · intro z hz; cases hz
theorem rangeW_bytes {n : Nat} {p : PatN (n + 1)} (h0 : 0 ≤ from_ p) (h1 : from_ p ≤ to_ p) (h2 : to_ p ≤ 255) : ∀ z ∈ rangeW p, IsB z := by
  unfold rangeW
  split
  · exact byteW_bytes _ _ h0 (by omega)
  · split
    · exact lit_bytes rfl
    · unfold classW
      refine cons_bytes (by omega) (app_bytes (flat_bytes fun a ha => ?_) (lit_bytes rfl))
      rw [List.mem_singleton] at ha
      subst ha
      exact memW_bytes h0 h1 h2
theorem part_bytes {n : Nat} {q : PatN n} {k : Int} {ys : List Int} (h : ∀ z ∈ ys, IsB z) : ∀ z ∈ partN n q k ys, IsB z := by
  cases n with
  | zero => intro z hz; cases hz
  | succ n =>
    show ∀ z ∈ partW q k ys, IsB z
    unfold partW
    split
    · exact cons_bytes (by omega) (app_bytes h (lit_bytes rfl))
    · exact h
theorem write_bytes : ∀ (n : Nat) (p : PatN n), rightP n p = true → ∀ z ∈ writeA n p, IsB z
  | 0, _, _ => by intro z hz; cases hz
  | n + 1, p, hr => by
    rw [rightP] at hr
    simp only [Bool.and_eq_true, List.all_eq_true] at hr
    obtain ⟨ht, hk⟩ := hr
    have ih := fun q hq => write_bytes n q (hk q hq)
    rw [writeA]
    split
    · rename_i h1
      rcases top_cases ht with ⟨_, g2, g3, g4, _⟩ | ⟨g1, _⟩ | ⟨g1, _⟩ | ⟨g1, _⟩
      · exact rangeW_bytes g2 g3 g4
      · rw [h1] at g1; exact absurd g1 (by decide)
      · rw [h1] at g1; exact absurd g1 (by decide)
      · rw [h1] at g1; exact absurd g1 (by decide)
    split
    · rename_i h4
      rcases top_cases ht with ⟨g1, _⟩ | ⟨g1, _⟩ | ⟨g1, _⟩ | ⟨_, _, g3, _, g5, _⟩
      · rw [h4] at g1; exact absurd g1 (by decide)
      · rw [h4] at g1; exact absurd g1 (by decide)
      · rw [h4] at g1; exact absurd g1 (by decide)
      · exact app_bytes (flat_bytes fun q hq => part_bytes (ih q (List.mem_of_mem_take hq))) (timesA_bytes _ _ g3 (by omega))
    split
    · rename_i hc
      cases n with
      | zero => exact lit_bytes rfl
      | succ n =>
        show ∀ z ∈ classW (kids p), IsB z
        unfold classW
        refine cons_bytes (by omega) (app_bytes (flat_bytes fun q hq => ?_) (lit_bytes rfl))
        unfold isClassP at hc
        simp only [Bool.and_eq_true, List.all_eq_true] at hc
        have h1 : kind q = 1 := by have := hc.2 q hq; simpa [kindN] using this
        have h2 := hk q hq
        rw [rightP] at h2
        simp only [Bool.and_eq_true] at h2
        rcases top_cases h2.1 with ⟨_, g2, g3, g4, _⟩ | ⟨g1, _⟩ | ⟨g1, _⟩ | ⟨g1, _⟩
        · exact memW_bytes g2 g3 g4
        · rw [h1] at g1; exact absurd g1 (by decide)
        · rw [h1] at g1; exact absurd g1 (by decide)
        · rw [h1] at g1; exact absurd g1 (by decide)
    · refine flat_bytes fun x hx => app_bytes ?_ (part_bytes (ih x.1 (List.fst_mem_of_mem_zipIdx hx)))
      split
      · exact lit_bytes rfl
      · intro z hz; cases hz
theorem has_str {zs : List Int} (h : ∀ z ∈ zs, IsB z) : HasAt (strOf zs) 0 zs ∧ (strOf zs).size = zs.length := by
  have e := strI_of h
  have es : (strOf zs).size = zs.length := by rw [← strI_len, e]
  refine ⟨⟨by omega, by omega, fun i c hc => ?_⟩, es⟩
  have hi : i < zs.length := (List.getElem?_eq_some_iff.1 hc).1
  rw [peekP, dif_pos ⟨by omega, by omega⟩]
  rw [← e] at hc
  unfold strI at hc
  rw [List.getElem?_map, Array.getElem?_toList] at hc
  obtain ⟨b, hb, rfl⟩ := Option.map_eq_some_iff.1 hc
  obtain ⟨hb1, hb2⟩ := Array.getElem?_eq_some_iff.1 hb
  subst hb2
  simp only [Int.zero_add, Int.toNat_natCast]
  rfl
theorem parse_print {n : Nat} {p : PatN (n + 1)} (hc : checkP p = 0) (hl : (writeA (n + 1) p).length ≤ 4096) : ∃ q, sameT (n + 1) p q ∧ parseM (printS p) = (q, 0, 0) := by
  have hr := check_right hc
  have hb := write_bytes (n + 1) p hr
  obtain ⟨h1, h2⟩ := has_str hb
  have ep : printS p = strOf (writeA (n + 1) p) := by unfold printS; rw [if_pos hc, if_neg (by omega)]
  obtain ⟨q, hq, hw⟩ := round_back hr (T := strOf (writeA (n + 1) p)) (by omega) h1 (by omega)
  refine ⟨q, hq, ?_⟩
  rw [ep]
  unfold parseM
  rw [if_neg (by omega), hw]
  dsimp only
  rw [if_neg (by simp), if_neg (by rw [same_check hq]; simpa using hc)]
end Ex
end Go.Proofs.YtbnchnlogikecaaGreatDoor
namespace Go.Proofs.YtbnchnlogikecaaGreatDoor
open Go.RowKit
set_option linter.unusedVariables false
namespace Ex
namespace Gu
open Sh Gs
theorem ints_strI (s : ByteArray) : ints (bl s) = strI s := rfl
theorem pat_hook {n : Nat} {p : PatN (n + 1)} (h : printE p = 0) : passL (ints (bl (printS p))) = true ∧ ∃ q, sameT (n + 1) p q ∧ parseM (printS p) = (q, 0, 0) := by
  unfold printE at h
  split at h
  · rename_i hc
    split at h
    · cases h
    · rename_i hl
      refine ⟨?_, parse_print hc (by omega)⟩
      have hr := check_right hc
      rw [ints_strI]
      unfold printS
      rw [if_pos hc, if_neg hl, strI_of (write_bytes (n + 1) p hr)]
      exact write_pass (n + 1) p hr
  · rename_i hc
    exact absurd h hc
noncomputable def backQ (x : LxM) : Pat := (parseM (printS x.2.2.2)).1
theorem round_back_spec {sp : SpV} {r : CkS} (hc : checkC sp = .ok r) {T : ByteArray} (hT : bl T = linesM sp) (hs : T.size ≤ 65536) :
    ∃ s, parseG T = .ok s ∧ spv s = { lex := sp.lex.map fun x => (x.1, x.2.1, backQ x), nam := sp.nam, start := sp.start, prd := sp.prd } ∧ ∀ x ∈ sp.lex, sameT (x.2.2.1 + 1) x.2.2.2 (backQ x) := by
  have hg := (check_good hc).1
  have hk : ∀ x ∈ sp.lex, passL (ints (bl (printS x.2.2.2))) = true ∧ ∃ q, sameT (x.2.2.1 + 1) x.2.2.2 q ∧ parseM (printS x.2.2.2) = (q, 0, 0) := fun x hx => pat_hook (hg.lnm x hx).2
  obtain ⟨s, h1, h2⟩ := round_spec hc backQ (fun x hx => by
    obtain ⟨a, q, b, c⟩ := hk x hx
    refine ⟨a, 0, ?_⟩
    unfold backQ
    rw [c]) hT hs
  refine ⟨s, h1, h2, fun x hx => ?_⟩
  obtain ⟨a, q, b, c⟩ := hk x hx
  unfold backQ
  rw [c]
  exact b
end Gu
end Ex
end Go.Proofs.YtbnchnlogikecaaGreatDoor
