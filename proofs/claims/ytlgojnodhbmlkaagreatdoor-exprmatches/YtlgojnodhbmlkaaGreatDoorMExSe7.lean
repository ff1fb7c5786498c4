import Derived.Test.YtlgojnodhbmlkaaGreatDoorMExSe1
import Derived.Test.YtlgojnodhbmlkaaGreatDoorMExStB
import Derived.Test.YtlgojnodhbmlkaaGreatDoorMExSh1
namespace Go.Proofs.YtlgojnodhbmlkaaGreatDoor
open Go.RowKit
namespace Ex

section
variable {ts : List (Int × Int × Nat)} {fs : List (Nat × Nat)}
/-- What reach has come to: it is still to do, or it is found, or it was seen. -/
def DoneP (st : List Nat) (seen : List Bool) (A c : Nat) : Prop := c ∈ st ∨ (c < 4097 ∧ A.testBit c = true) ∨ (4097 ≤ c ∧ seen[c - 4097]? = some true)
theorem reach_sound : ∀ (N : Nat) (st : List Nat) (seen : List Bool) (A t : Nat), seen.length = fs.length → (reachG fs N st seen A).testBit t = true → A.testBit t = true ∨ ∃ s ∈ st, t < 4097 ∧ ∀ bs, Acc ts fs bs t → Acc ts fs bs s
  | 0, _, _, _, _, _, h => .inl h
  | _ + 1, [], _, _, _, _, h => .inl h
  | N + 1, p :: st, seen, A, t, hl, h => by
    rw [reachG] at h
    split at h
    · rename_i hp
      rcases reach_sound N _ _ _ t hl h with h | ⟨s, hs, h1, h2⟩
      · rw [Nat.testBit_or, Bool.or_eq_true] at h
        rcases h with h | h
        · exact .inl h
        · rw [Nat.testBit_two_pow] at h
          have e := of_decide_eq_true h
          subst e
          exact .inr ⟨p, List.mem_cons_self .., hp, fun _ h => h⟩
      · exact .inr ⟨s, List.mem_cons_of_mem _ hs, h1, h2⟩
    · rename_i hp
      split at h
      · rcases reach_sound N _ _ _ t hl h with h | ⟨s, hs, h1, h2⟩
        · exact .inl h
        · exact .inr ⟨s, List.mem_cons_of_mem _ hs, h1, h2⟩
      · rename_i hs0
        have hi : p - 4097 < fs.length := by
          rw [← hl]
          apply Classical.byContradiction
          intro hn
          apply hs0
          rw [List.getD_eq_getElem?_getD, List.getElem?_eq_none (by omega)]
          rfl
        have hf : fs[p - 4097]? = some (fs.getD (p - 4097) (0, 0)) := by
          rw [List.getD_eq_getElem?_getD, List.getElem?_eq_getElem hi]
          rfl
        rcases reach_sound N _ _ _ t (by rw [List.length_set]; exact hl) h with h | ⟨s, hs, h1, h2⟩
        · exact .inl h
        · refine .inr ?_
          have hpp : p = 4097 + (p - 4097) := by omega
          rcases List.mem_cons.1 hs with rfl | hs
          · exact ⟨p, List.mem_cons_self .., h1, fun bs hb => by rw [hpp]; exact acc_fork hf (.inr (h2 bs hb))⟩
          · rcases List.mem_cons.1 hs with rfl | hs
            · exact ⟨p, List.mem_cons_self .., h1, fun bs hb => by rw [hpp]; exact acc_fork hf (.inl (h2 bs hb))⟩
            · exact ⟨s, List.mem_cons_of_mem _ hs, h1, h2⟩
theorem count_set2 {i : Nat} : ∀ {l : List Bool}, l[i]? = some false → (l.set i true).count false + 1 = l.count false := by
  induction i with
  | zero =>
    intro l h
    cases l with
    | nil => simp at h
    | cons x l => simp at h; subst h; simp
  | succ i ih =>
    intro l h
    cases l with
    | nil => simp at h
    | cons x l =>
      have := ih (l := l) (by simpa using h)
      simp only [List.set_cons_succ, List.count_cons]
      omega
theorem reach_closed (hF : ∀ f ∈ fs, PlaceOk fs.length f.1 ∧ PlaceOk fs.length f.2) : ∀ (N : Nat) (st : List Nat) (seen : List Bool) (A : Nat), seen.length = fs.length → (∀ p ∈ st, PlaceOk fs.length p) → reachK st seen ≤ N →
    (∀ (i : Nat) (f : Nat × Nat), fs[i]? = some f → seen[i]? = some true → DoneP st seen A f.1 ∧ DoneP st seen A f.2) →
    ∃ seen', (∀ c, DoneP st seen A c → DoneP [] seen' (reachG fs N st seen A) c) ∧ ∀ (i : Nat) (f : Nat × Nat), fs[i]? = some f → seen'[i]? = some true → DoneP [] seen' (reachG fs N st seen A) f.1 ∧ DoneP [] seen' (reachG fs N st seen A) f.2
  | 0, st, seen, A, _, _, hN, hI => by
    have e : st = [] := List.length_eq_zero_iff.1 (by unfold reachK at hN; omega)
    subst e
    exact ⟨seen, fun c h => h, hI⟩
  | _ + 1, [], seen, A, _, _, _, hI => ⟨seen, fun c h => h, hI⟩
  | N + 1, p :: st, seen, A, hl, hP, hN, hI => by
    rw [reachG]
    by_cases hp : p < 4097
    · rw [if_pos hp]
      have hd : ∀ c, DoneP (p :: st) seen A c → DoneP st seen (A ||| 2 ^ p) c := fun c h => by
        rcases h with h | h | h
        · rcases List.mem_cons.1 h with rfl | h
          · exact .inr (.inl ⟨hp, by rw [Nat.testBit_or, Nat.testBit_two_pow]; simp⟩)
          · exact .inl h
        · exact .inr (.inl ⟨h.1, by rw [Nat.testBit_or, h.2]; rfl⟩)
        · exact .inr (.inr h)
      obtain ⟨seen', h1, h2⟩ := reach_closed hF N st seen (A ||| 2 ^ p) hl (fun q hq => hP q (List.mem_cons_of_mem _ hq)) (by unfold reachK at hN ⊢; simp at hN; omega) (fun i f hf hs => ⟨hd _ (hI i f hf hs).1, hd _ (hI i f hf hs).2⟩)
      exact ⟨seen', fun c h => h1 c (hd c h), h2⟩
    · rw [if_neg hp]
      have hi : p - 4097 < fs.length := by
        have := hP p (List.mem_cons_self ..)
        unfold PlaceOk at this
        omega
      have hse : seen[p - 4097]? = some (seen.getD (p - 4097) true) := by
        rw [List.getD_eq_getElem?_getD, List.getElem?_eq_getElem (by omega)]
        rfl
      by_cases hs0 : seen.getD (p - 4097) true = true
      · rw [if_pos hs0]
        rw [hs0] at hse
        have hd : ∀ c, DoneP (p :: st) seen A c → DoneP st seen A c := fun c h => by
          rcases h with h | h | h
          · rcases List.mem_cons.1 h with rfl | h
            · exact .inr (.inr ⟨by omega, hse⟩)
            · exact .inl h
          · exact .inr (.inl h)
          · exact .inr (.inr h)
        obtain ⟨seen', h1, h2⟩ := reach_closed hF N st seen A hl (fun q hq => hP q (List.mem_cons_of_mem _ hq)) (by unfold reachK at hN ⊢; simp at hN; omega) (fun i f hf hs => ⟨hd _ (hI i f hf hs).1, hd _ (hI i f hf hs).2⟩)
        exact ⟨seen', fun c h => h1 c (hd c h), h2⟩
      · rw [if_neg hs0]
        have hsf : seen.getD (p - 4097) true = false := by simpa using hs0
        rw [hsf] at hse
        have hf : fs[p - 4097]? = some (fs.getD (p - 4097) (0, 0)) := by
          rw [List.getD_eq_getElem?_getD, List.getElem?_eq_getElem hi]
          rfl
        generalize fs.getD (p - 4097) (0, 0) = f at hf ⊢
        have hset : (seen.set (p - 4097) true)[p - 4097]? = some true := List.getElem?_set_self (by omega)
        have hd : ∀ c, DoneP (p :: st) seen A c → DoneP (f.2 :: f.1 :: st) (seen.set (p - 4097) true) A c := fun c h => by
          rcases h with h | h | h
          · rcases List.mem_cons.1 h with rfl | h
            · exact .inr (.inr ⟨by omega, hset⟩)
            · exact .inl (List.mem_cons_of_mem _ (List.mem_cons_of_mem _ h))
          · exact .inr (.inl h)
          · refine .inr (.inr ⟨h.1, ?_⟩)
            by_cases e : p - 4097 = c - 4097
            · rw [← e]; exact hset
            · rw [List.getElem?_set_ne e]; exact h.2
        have hfp := hF f (List.mem_of_getElem? hf)
        have hcnt := count_set2 hse
        obtain ⟨seen', h1, h2⟩ := reach_closed hF N (f.2 :: f.1 :: st) (seen.set (p - 4097) true) A (by rw [List.length_set]; exact hl) (fun q hq => by
          rcases List.mem_cons.1 hq with rfl | hq
          · exact hfp.2
          · rcases List.mem_cons.1 hq with rfl | hq
            · exact hfp.1
            · exact hP q (List.mem_cons_of_mem _ hq)) (by unfold reachK at hN ⊢; simp at hN ⊢; omega) (fun i g hg hs => by
          by_cases e : p - 4097 = i
          · subst e
            rw [hf] at hg
            cases hg
            exact ⟨.inl (by simp), .inl (by simp)⟩
          · rw [List.getElem?_set_ne e] at hs
            exact ⟨hd _ (hI i g hg hs).1, hd _ (hI i g hg hs).2⟩)
        exact ⟨seen', fun c h => h1 c (hd c h), h2⟩
/-- What a place takes is what the places take that it reaches. -/
theorem reach_acc (hF : ∀ f ∈ fs, PlaceOk fs.length f.1 ∧ PlaceOk fs.length f.2) {p : Nat} (hp : PlaceOk fs.length p) (bs : List Int) : Acc ts fs bs p ↔ ∃ t, (reachM fs p).testBit t = true ∧ t < 4097 ∧ Acc ts fs bs t := by
  constructor
  · rintro ⟨k, hk⟩
    obtain ⟨seen, h1, h2⟩ := reach_closed hF (2 * fs.length + 1) [p] (List.replicate fs.length false) 0 (by simp) (fun q hq => by rw [List.mem_singleton.1 hq]; exact hp) (by unfold reachK; simp) (fun i f _ hs => by
      rw [List.getElem?_replicate] at hs
      split at hs
      · cases hs
      · cases hs)
    have key : ∀ (k c : Nat), DoneP [] seen (reachM fs p) c → AccN ts fs k bs c → ∃ t, (reachM fs p).testBit t = true ∧ t < 4097 ∧ AccN ts fs k bs t := by
      intro k
      induction k with
      | zero => intro c _ h; exact h.elim
      | succ k ih =>
        intro c hd ha
        rcases hd with hd | hd | hd
        · cases hd
        · exact ⟨c, hd.2, hd.1, ha⟩
        · rcases ha with ha | ⟨_, _, _, ha, _⟩ | ⟨f, _, hf, ha⟩
          · omega
          · omega
          · have := h2 _ f hf hd.2
            rcases ha with ha | ha
            · obtain ⟨t, t1, t2, t3⟩ := ih _ this.1 ha
              exact ⟨t, t1, t2, t3.more⟩
            · obtain ⟨t, t1, t2, t3⟩ := ih _ this.2 ha
              exact ⟨t, t1, t2, t3.more⟩
    obtain ⟨t, t1, t2, t3⟩ := key k p (h1 p (.inl (by simp))) hk
    exact ⟨t, t1, t2, k, t3⟩
  · rintro ⟨t, t1, _, ht⟩
    rcases reach_sound (ts := ts) (fs := fs) _ _ _ _ t (by simp) t1 with h | ⟨s, hs, _, h2⟩
    · simp at h
    · rw [List.mem_singleton.1 hs] at h2
      exact h2 bs ht
theorem wordTo_bit (c : Int) (k x t : Nat) : ∀ p, (wordTo ts fs c k x p).testBit t = true ↔ ∃ j, j < p ∧ x.testBit j = true ∧ k * 64 + j ≠ 4096 ∧ (takeM ts fs (k * 64 + j) c).testBit t = true
  | 0 => by simp [wordTo]
  | p + 1 => by
    rw [wordTo, Nat.testBit_or, Bool.or_eq_true, wordTo_bit c k x t p]
    constructor
    · rintro (⟨j, h1, h2⟩ | h)
      · exact ⟨j, by omega, h2⟩
      · split at h
        · rename_i hc
          exact ⟨p, by omega, hc.1, hc.2, h⟩
        · simp at h
    · rintro ⟨j, h1, h2, h3, h4⟩
      by_cases e : j = p
      · subst e
        right
        rw [if_pos ⟨h2, h3⟩]
        exact h4
      · exact .inl ⟨j, by omega, h2, h3, h4⟩
theorem stepTo_bit (A : Nat) (c : Int) (t : Nat) : ∀ j, (stepsL ts fs c (chunkTo A j)).testBit t = true ↔ ∃ i, i < 64 * j ∧ A.testBit i = true ∧ i ≠ 4096 ∧ (takeM ts fs i c).testBit t = true
  | 0 => by simp [chunkTo, stepsL]
  | j + 1 => by
    have hw : ∀ i, (wordAt A j).testBit i = (decide (i < 64) && A.testBit (64 * j + i)) := word_bit A j
    rw [chunkTo_succ]
    by_cases h0 : wordAt A j = 0
    · rw [if_pos h0, stepTo_bit A c t j]
      constructor
      · rintro ⟨i, h1, h2⟩
        exact ⟨i, by omega, h2⟩
      · rintro ⟨i, h1, h2, h3⟩
        by_cases e : i < 64 * j
        · exact ⟨i, e, h2, h3⟩
        · have := hw (i - 64 * j)
          rw [h0, show 64 * j + (i - 64 * j) = i by omega, h2] at this
          simp at this
          omega
    · rw [if_neg h0, stepsL_snoc, Nat.testBit_or, Bool.or_eq_true, stepTo_bit A c t j, wordTo_bit]
      constructor
      · rintro (⟨i, h1, h2⟩ | ⟨i, h1, h2, h3, h4⟩)
        · exact ⟨i, by omega, h2⟩
        · rw [hw] at h2
          simp at h2
          dsimp only at h3 h4
          rw [show j * 64 + i = 64 * j + i by omega] at h3 h4
          exact ⟨64 * j + i, by omega, h2.2, h3, h4⟩
      · rintro ⟨i, h1, h2, h3, h4⟩
        by_cases e : i < 64 * j
        · exact .inl ⟨i, e, h2, h3, h4⟩
        · right
          refine ⟨i - 64 * j, by omega, ?_, ?_, ?_⟩
          · rw [hw, show 64 * j + (i - 64 * j) = i by omega, h2]
            simp
            omega
          · show j * 64 + (i - 64 * j) ≠ 4096
            omega
          · show (takeM ts fs (j * 64 + (i - 64 * j)) c).testBit t = true
            rw [show j * 64 + (i - 64 * j) = i by omega]
            exact h4
theorem step_bit {A : Nat} (hA : A < top) (c : Int) (t : Nat) : (stepM ts fs A c).testBit t = true ↔ ∃ i, A.testBit i = true ∧ i ≠ 4096 ∧ (takeM ts fs i c).testBit t = true := by
  have := stepTo_bit (ts := ts) (fs := fs) A c t 65
  unfold stepM
  rw [show chunkL A = chunkTo A 65 from rfl, this]
  constructor
  · rintro ⟨i, _, h⟩
    exact ⟨i, h⟩
  · rintro ⟨i, h1, h⟩
    refine ⟨i, ?_, h1, h⟩
    apply Classical.byContradiction
    intro hn
    rw [bit_top hA (by omega)] at h1
    cases h1
end

end Ex
end Go.Proofs.YtlgojnodhbmlkaaGreatDoor
namespace Go.Proofs.YtlgojnodhbmlkaaGreatDoor
open Go.RowKit
namespace Ex

/-- All that is laid can come to the end, if next can. -/
def CoL (M : Nat → St → Nat × St) : Prop := ∀ next st ts fs, (M next st).2.1.length ≤ 4096 → HasL ts fs st (M next st).2 → (∃ v, Acc ts fs v next) → (∃ v, Acc ts fs v (M next st).1) ∧ ∀ i, st.1.length ≤ i → i < (M next st).2.1.length → ∃ v, Acc ts fs v i
theorem co_none : CoL (fun next st => (next, st)) := fun _ _ _ _ _ _ h => ⟨h, fun _ h1 h2 => absurd (Nat.lt_of_lt_of_le h2 h1) (Nat.lt_irrefl _)⟩
theorem co_range {n : Nat} (q : PatN (n + 1)) (h : IntKind.u8.wrap (from_ q) ≤ IntKind.u8.wrap (to_ q)) : CoL (rangeL q) := fun next st ts fs hb hH ⟨v, hv⟩ => by
  have d := (range_means q next st hb ts fs hH).1 [IntKind.u8.wrap (from_ q)] v ⟨_, rfl, Int.le_refl _, h⟩ hv
  refine ⟨⟨_, d⟩, fun i h1 h2 => ?_⟩
  have h2 : i < (st.1 ++ [(IntKind.u8.wrap (from_ q), IntKind.u8.wrap (to_ q), next)]).length := h2
  rw [List.length_append, List.length_singleton] at h2
  obtain rfl : i = st.1.length := by omega
  exact ⟨_, d⟩
theorem co_row {n : Nat} {F : PatN (n + 1) → Nat → St → Nat × St} : ∀ (l : List (PatN (n + 1))), (∀ q ∈ l, Adds (F q)) → (∀ q ∈ l, CoL (F q)) → CoL (rowL F l)
  | [], _, _ => co_none
  | q :: l, hA, hC => fun next st ts fs hb hH hv => by
    have a1 := (hA q (by simp)).inL next st
    have a2 := (row_adds l (fun r hr => hA r (by simp [hr]))).inL (F q next st).1 (F q next st).2
    have hb' : (rowL F l (F q next st).1 (F q next st).2).2.1.length ≤ 4096 := hb
    obtain ⟨g1, g2⟩ := hC q (by simp) next st ts fs (Nat.le_trans a2.len.1 hb') (hH.fore a2) hv
    obtain ⟨k1, k2⟩ := co_row l (fun r hr => hA r (by simp [hr])) (fun r hr => hC r (by simp [hr])) (F q next st).1 (F q next st).2 ts fs hb' (hH.rest a1) g1
    refine ⟨k1, fun i h1 h2 => ?_⟩
    by_cases e : i < (F q next st).2.1.length
    · exact g2 i h1 e
    · exact k2 i (by omega) h2
theorem co_copies {L : Nat → St → Nat × St} (hA : Adds L) (hC : CoL L) : ∀ m, CoL (copiesL L m)
  | 0 => co_none
  | m + 1 => fun next st ts fs hb hH hv => by
    have a1 := hA.inL next st
    have a2 := (copies_adds hA m).inL (L next st).1 (L next st).2
    have hb' : (copiesL L m (L next st).1 (L next st).2).2.1.length ≤ 4096 := hb
    obtain ⟨g1, g2⟩ := hC next st ts fs (Nat.le_trans a2.len.1 hb') (hH.fore a2) hv
    obtain ⟨k1, k2⟩ := co_copies hA hC m (L next st).1 (L next st).2 ts fs hb' (hH.rest a1) g1
    refine ⟨k1, fun i h1 h2 => ?_⟩
    by_cases e : i < (L next st).2.1.length
    · exact g2 i h1 e
    · exact k2 i (by omega) h2
theorem co_alt {n : Nat} {F : PatN (n + 1) → Nat → St → Nat × St} {ts : List (Int × Int × Nat)} {fs : List (Nat × Nat)} {next : Nat} (hv : ∃ v, Acc ts fs v next) : ∀ (l : List (PatN (n + 1))), (∀ q ∈ l, Adds (F q)) → (∀ q ∈ l, CoL (F q)) → ∀ (first : Nat) (st : St), (altL F l first next st).2.1.length ≤ 4096 → HasL ts fs st (altL F l first next st).2 → (∃ v, Acc ts fs v first) → (∃ v, Acc ts fs v (altL F l first next st).1) ∧ ∀ i, st.1.length ≤ i → i < (altL F l first next st).2.1.length → ∃ v, Acc ts fs v i
  | [], _, _, _, _, _, _, h => ⟨h, fun _ h1 h2 => absurd (Nat.lt_of_lt_of_le h2 h1) (Nat.lt_irrefl _)⟩
  | q :: l, hA, hC, first, st, hb, hH, hf0 => by
    have a1 := (hA q (by simp)).inL next st
    have a12 := in_fork (F q next st).2.1 (F q next st).2.2 [(first, (F q next st).1)]
    have a2 := (alt_adds l (fun r hr => hA r (by simp [hr])) (4097 + (F q next st).2.2.length)).inL next ((F q next st).2.1, (F q next st).2.2 ++ [(first, (F q next st).1)])
    have hb' : (altL F l (4097 + (F q next st).2.2.length) next ((F q next st).2.1, (F q next st).2.2 ++ [(first, (F q next st).1)])).2.1.length ≤ 4096 := hb
    have hH' : HasL ts fs st (altL F l (4097 + (F q next st).2.2.length) next ((F q next st).2.1, (F q next st).2.2 ++ [(first, (F q next st).1)])).2 := hH
    obtain ⟨g1, g2⟩ := hC q (by simp) next st ts fs (Nat.le_trans (a12.trans a2).len.1 hb') (hH'.fore (a12.trans a2)) hv
    have hf : fs[(F q next st).2.2.length]? = some (first, (F q next st).1) := (hH'.fore a2).2 _ _ a1.len.2 (by simp)
    obtain ⟨v0, hv0⟩ := hf0
    obtain ⟨k1, k2⟩ := co_alt hv l (fun r hr => hA r (by simp [hr])) (fun r hr => hC r (by simp [hr])) _ _ hb' (hH'.rest (a1.trans a12)) ⟨v0, acc_fork hf (.inl hv0)⟩
    refine ⟨k1, fun i h1 h2 => ?_⟩
    by_cases e : i < (F q next st).2.1.length
    · exact g2 i h1 e
    · exact k2 i (by show (F q next st).2.1.length ≤ i; omega) h2
theorem co_alts {n : Nat} {F : PatN (n + 1) → Nat → St → Nat × St} (q : PatN (n + 1)) (l : List (PatN (n + 1))) (hA : ∀ r ∈ q :: l, Adds (F r)) (hC : ∀ r ∈ q :: l, CoL (F r)) : CoL (altsL F q l) := fun next st ts fs hb hH hv => by
  have a1 := (hA q (by simp)).inL next st
  have a2 := (alt_adds l (fun r hr => hA r (by simp [hr])) (F q next st).1).inL next (F q next st).2
  have hb' : (altL F l (F q next st).1 next (F q next st).2).2.1.length ≤ 4096 := hb
  obtain ⟨g1, g2⟩ := hC q (by simp) next st ts fs (Nat.le_trans a2.len.1 hb') (hH.fore a2) hv
  obtain ⟨k1, k2⟩ := co_alt hv l (fun r hr => hA r (by simp [hr])) (fun r hr => hC r (by simp [hr])) (F q next st).1 (F q next st).2 hb' (hH.rest a1) g1
  refine ⟨k1, fun i h1 h2 => ?_⟩
  by_cases e : i < (F q next st).2.1.length
  · exact g2 i h1 e
  · exact k2 i (by omega) h2
theorem co_opt {L : Nat → St → Nat × St} (hA : Adds L) (hC : CoL L) {ts : List (Int × Int × Nat)} {fs : List (Nat × Nat)} {after : Nat} : ∀ (m next : Nat) (st : St), (optL L after m next st).2.1.length ≤ 4096 → HasL ts fs st (optL L after m next st).2 → (∃ v, Acc ts fs v next) → (∃ v, Acc ts fs v (optL L after m next st).1) ∧ ∀ i, st.1.length ≤ i → i < (optL L after m next st).2.1.length → ∃ v, Acc ts fs v i
  | 0, _, _, _, _, h => ⟨h, fun _ h1 h2 => absurd (Nat.lt_of_lt_of_le h2 h1) (Nat.lt_irrefl _)⟩
  | m + 1, next, st, hb, hH, hv => by
    have a1 := hA.inL next st
    have a12 := in_fork (L next st).2.1 (L next st).2.2 [((L next st).1, after)]
    have a2 := (opt_adds hA after m).inL (4097 + (L next st).2.2.length) ((L next st).2.1, (L next st).2.2 ++ [((L next st).1, after)])
    have hb' : (optL L after m (4097 + (L next st).2.2.length) ((L next st).2.1, (L next st).2.2 ++ [((L next st).1, after)])).2.1.length ≤ 4096 := hb
    have hH' : HasL ts fs st (optL L after m (4097 + (L next st).2.2.length) ((L next st).2.1, (L next st).2.2 ++ [((L next st).1, after)])).2 := hH
    obtain ⟨⟨v1, g1⟩, g2⟩ := hC next st ts fs (Nat.le_trans (a12.trans a2).len.1 hb') (hH'.fore (a12.trans a2)) hv
    have hf : fs[(L next st).2.2.length]? = some ((L next st).1, after) := (hH'.fore a2).2 _ _ a1.len.2 (by simp)
    obtain ⟨k1, k2⟩ := co_opt hA hC m _ _ hb' (hH'.rest (a1.trans a12)) ⟨v1, acc_fork hf (.inl g1)⟩
    refine ⟨k1, fun i h1 h2 => ?_⟩
    by_cases e : i < (L next st).2.1.length
    · exact g2 i h1 e
    · exact k2 i (by show (L next st).2.1.length ≤ i; omega) h2
theorem co_bound {L : Nat → St → Nat × St} (hA : Adds L) (hC : CoL L) (mn mx : Int) : CoL (boundL L mn mx) := fun next st ts fs hb hH hv => by
  have a1 := (opt_adds hA next (mx - mn).toNat).inL next st
  have a2 := (copies_adds hA mn.toNat).inL (optL L next (mx - mn).toNat next st).1 (optL L next (mx - mn).toNat next st).2
  have hb' : (copiesL L mn.toNat (optL L next (mx - mn).toNat next st).1 (optL L next (mx - mn).toNat next st).2).2.1.length ≤ 4096 := hb
  have hH' : HasL ts fs st (copiesL L mn.toNat (optL L next (mx - mn).toNat next st).1 (optL L next (mx - mn).toNat next st).2).2 := hH
  obtain ⟨g1, g2⟩ := co_opt hA hC (ts := ts) (fs := fs) (after := next) (mx - mn).toNat next st (Nat.le_trans a2.len.1 hb') (hH'.fore a2) hv
  obtain ⟨k1, k2⟩ := co_copies hA hC mn.toNat _ _ ts fs hb' (hH'.rest a1) g1
  refine ⟨k1, fun i h1 h2 => ?_⟩
  by_cases e : i < (optL L next (mx - mn).toNat next st).2.1.length
  · exact g2 i h1 e
  · exact k2 i (by omega) h2
theorem co_endless {L : Nat → St → Nat × St} (hA : Adds L) (hC : CoL L) (mn : Int) : CoL (endlessL L mn) := fun next st ts fs hb hH hv => by
  have a1 := (loop_adds hA mn).inL next st
  have a2 := (copies_adds hA (max mn 1 - 1).toNat).inL (loopL L mn next st).1 (loopL L mn next st).2
  have hb' : (copiesL L (max mn 1 - 1).toNat (loopL L mn next st).1 (loopL L mn next st).2).2.1.length ≤ 4096 := hb
  have hH' : HasL ts fs st (copiesL L (max mn 1 - 1).toNat (loopL L mn next st).1 (loopL L mn next st).2).2 := hH
  have hHl := hH'.fore a2
  obtain ⟨_, e1, e2, e3⟩ := loop_in hA mn next st
  have hf := hHl.2 _ _ (Nat.le_refl _) e1
  have hH2 : HasL ts fs (st.1, st.2 ++ [(next, next)]) (L (4097 + st.2.length) (st.1, st.2 ++ [(next, next)])).2 := ⟨fun i t hi e => hHl.1 i t hi (by rw [e2]; exact e), fun i f hi e => by
    have hi : st.2.length + 1 ≤ i := by simpa using hi
    exact hHl.2 i f (by omega) (by rw [e3 i (by omega)]; exact e)⟩
  obtain ⟨v, hv⟩ := hv
  have hag : ∃ v, Acc ts fs v (4097 + st.2.length) := ⟨v, acc_fork hf (.inr hv)⟩
  obtain ⟨g1, g2⟩ := hC (4097 + st.2.length) (st.1, st.2 ++ [(next, next)]) ts fs (by rw [← e2]; exact Nat.le_trans a2.len.1 hb') hH2 hag
  have hfi : ∃ v, Acc ts fs v (loopL L mn next st).1 := by
    show ∃ v, Acc ts fs v (if mn = 0 then 4097 + st.2.length else _)
    split
    · exact hag
    · exact g1
  obtain ⟨k1, k2⟩ := co_copies hA hC (max mn 1 - 1).toNat _ _ ts fs hb' (hH'.rest a1) hfi
  refine ⟨k1, fun i h1 h2 => ?_⟩
  by_cases e : i < (loopL L mn next st).2.1.length
  · exact g2 i h1 (by rw [← e2]; exact e)
  · exact k2 i (by omega) h2
theorem lay_co : ∀ (n : Nat) (q : PatN (n + 1)), (foldN leanF n q).2 = true → CoL (layV n q)
  | 0, q, h => by
    have h' : (leanF (kind q) (from_ q) (to_ q) (min_ q) (max_ q) []).2 = true := h
    rw [lean_snd] at h'
    unfold layV
    rcases lean_ok 0 q h with k | k
    · rw [if_neg (by omega)]
      rw [if_pos k] at h'
      simp at h'
      exact co_range q (by rw [IntKind.wrap_u8, IntKind.wrap_u8]; omega)
    · rw [if_pos k]
      exact co_none
  | n + 1, q, h => by
    have h' : (leanF (kind q) (from_ q) (to_ q) (min_ q) (max_ q) ((kids q).map (foldN leanF n))).2 = true := h
    have hl := lean_ok (n + 1) q h
    have ih := lay_co n
    rw [lean_snd] at h'
    have hk : kind q ≠ 1 → ∀ r ∈ kids q, (foldN leanF n r).2 = true := by
      intro k1 r hr
      rw [if_neg k1] at h'
      have hm := List.mem_map_of_mem (f := foldN leanF n) hr
      by_cases k2 : kind q = 2
      · rw [if_pos k2] at h'
        have := List.all_eq_true.1 h' _ hm
        simp at this
        exact this.2
      rw [if_neg k2] at h'
      by_cases k3 : kind q = 3
      · rw [if_pos k3] at h'
        simp only [Bool.and_eq_true] at h'
        exact List.all_eq_true.1 h'.1.2 _ hm
      · rw [if_neg k3] at h'
        simp only [Bool.and_eq_true] at h'
        have := List.all_eq_true.1 h'.2 _ hm
        simp at this
        exact this.2
    have iA : ∀ r, LeanOk n r → Adds (layV n r) := fun r hr => (lay_means n r hr).1
    rcases hl with k | ⟨k, h2⟩ | ⟨k, h1, h2⟩ | ⟨k, h1, h2, h3, h4, h5⟩
    · unfold layV
      rw [if_pos k]
      rw [if_pos k] at h'
      simp at h'
      exact co_range q (by rw [IntKind.wrap_u8, IntKind.wrap_u8]; omega)
    · have hk := hk (by omega)
      unfold layV
      rw [if_neg (by omega), if_pos k]
      exact co_row _ (fun r hr => iA r (h2 r (List.mem_reverse.1 hr))) (fun r hr => ih r (hk r (List.mem_reverse.1 hr)))
    · have hk := hk (by omega)
      unfold layV
      rw [if_neg (by omega), if_neg (by omega), if_pos k]
      obtain ⟨ks, hks⟩ : ∃ x, kids q = x := ⟨_, rfl⟩
      rw [hks] at h1 h2 hk ⊢
      cases ks with
      | nil => simp at h1
      | cons r l => exact co_alts r l (fun z hz => iA z (h2 z hz)) (fun z hz => ih z (hk z hz))
    · have hk := hk (by omega)
      unfold layV
      rw [if_neg (by omega), if_neg (by omega), if_neg (by omega)]
      obtain ⟨ks, hks⟩ : ∃ x, kids q = x := ⟨_, rfl⟩
      rw [hks] at h4 h5 hk ⊢
      cases ks with
      | nil => simp at h4
      | cons r l =>
        have hr := h5 r (by simp)
        have hc := ih r (hk r (by simp))
        show CoL (if max_ q = -1 then endlessL (layV n r) (min_ q) else boundL (layV n r) (min_ q) (max_ q))
        split
        · exact co_endless (iA r hr) hc _
        · exact co_bound (iA r hr) hc _ _
/-- The net of a pattern. -/
def netP (n : Nat) (p : PatN (n + 1)) : Nat × St := layV (thinW n p).1 (thinW n p).2 4096 ([], [])
theorem acc_end (ts : List (Int × Int × Nat)) (fs : List (Nat × Nat)) : Acc ts fs [] 4096 := ⟨1, .inl ⟨rfl, rfl⟩⟩
theorem acc_end_inv {ts : List (Int × Int × Nat)} {fs : List (Nat × Nat)} {k : Nat} {v : List Int} (h : AccN ts fs k v 4096) : v = [] := by
  cases k with
  | zero => exact h.elim
  | succ k =>
    rcases h with h | ⟨_, _, _, h, _⟩ | ⟨_, h, _⟩
    · exact h.2
    · omega
    · omega
theorem well_of : ∀ (n : Nat) (p : PatN n), rightP n p = true → sizeP n p ≤ 4096 → WellP n p
  | 0, _, _, _ => trivial
  | n + 1, p, hr, hs => by
    have h' : (topOf p && (kids p).all (rightP n)) = true := hr
    rw [Bool.and_eq_true] at h'
    have hk := List.all_eq_true.1 h'.2
    have key : ∀ (l : List (PatN n)) (a : Int), (l.length : Int) + a ≤ l.foldl (fun m q => m + sizeP n q) a ∧ ∀ q ∈ l, a + sizeP n q ≤ l.foldl (fun m q => m + sizeP n q) a := by
      intro l
      induction l with
      | nil => intro a; exact ⟨by simp, fun q hq => by cases hq⟩
      | cons x l ih =>
        intro a
        rw [List.foldl_cons, List.length_cons]
        have h1 := ih (a + sizeP n x)
        have hx : 1 ≤ sizeP n x := by
          cases n with
          | zero => exact (show Empty from x).elim
          | succ n => exact sum_ge (size_pos n) (kids x) 1
        refine ⟨by omega, fun q hq => ?_⟩
        have hl : 0 ≤ (l.length : Int) := by omega
        rcases List.mem_cons.1 hq with rfl | hq
        · omega
        · have := h1.2 q hq
          omega
    have hs' : (kids p).foldl (fun m q => m + sizeP n q) 1 ≤ 4096 := hs
    have hk2 := key (kids p) 1
    exact ⟨fun e => right_one hr e, by omega, fun q hq => well_of n q (hk q hq) (by have := hk2.2 q hq; omega)⟩
theorem check_bounds {n : Nat} {p : PatN (n + 1)} (h : checkP p = 0) : sizeP (n + 1) p ≤ 4096 ∧ depthP (n + 1) p ≤ 64 := by
  have hb : boundsP p = 0 := by
    unfold checkP at h
    split at h
    · assumption
    · exact absurd h (by assumption)
  rw [bounds_eq] at hb
  split at hb
  · cases hb
  · split at hb
    · cases hb
    · omega
theorem check_pos2 {n : Nat} {p : PatN (n + 1)} (h : checkP p = 0) : posP (n + 1) p ≤ 4096 := by
  unfold checkP at h
  split at h
  · split at h
    · split at h
      · cases h
      · omega
    · cases h
  · exact absurd h (by assumption)
theorem reach_places {s : St} (hs : GoodS s) : ∀ (N : Nat) (st : List Nat) (seen : List Bool) (A t : Nat), seen.length = s.2.length → (∀ p ∈ st, OkP s p) → (reachG s.2 N st seen A).testBit t = true → A.testBit t = true ∨ t = 4096 ∨ t < s.1.length
  | 0, _, _, _, _, _, _, h => .inl h
  | _ + 1, [], _, _, _, _, _, h => .inl h
  | N + 1, p :: st, seen, A, t, hl, hP, h => by
    have hP' : ∀ q ∈ st, OkP s q := fun q hq => hP q (List.mem_cons_of_mem _ hq)
    rw [reachG] at h
    split at h
    · rename_i hp
      rcases reach_places hs N _ _ _ t hl hP' h with h | h
      · rw [Nat.testBit_or, Bool.or_eq_true] at h
        rcases h with h | h
        · exact .inl h
        · rw [Nat.testBit_two_pow] at h
          have e := of_decide_eq_true h
          subst e
          rcases hP p (List.mem_cons_self ..) with k | k | k
          · exact .inr (.inr k)
          · exact .inr (.inl k)
          · omega
      · exact .inr h
    · split at h
      · exact reach_places hs N _ _ _ t hl hP' h
      · rename_i hs0
        have hi : p - 4097 < s.2.length := by
          rw [← hl]
          apply Classical.byContradiction
          intro hn
          apply hs0
          rw [List.getD_eq_getElem?_getD, List.getElem?_eq_none (by omega)]
          rfl
        have hf : s.2.getD (p - 4097) (0, 0) ∈ s.2 := by
          rw [List.getD_eq_getElem?_getD, List.getElem?_eq_getElem hi]
          exact List.getElem_mem hi
        refine reach_places hs N _ _ _ t (by rw [List.length_set]; exact hl) (fun q hq => ?_) h
        rcases List.mem_cons.1 hq with rfl | hq
        · exact (hs.2 _ hf).2
        · rcases List.mem_cons.1 hq with rfl | hq
          · exact (hs.2 _ hf).1
          · exact hP' q hq
theorem net_places {s : St} (hs : GoodS s) {p : Nat} (hp : OkP s p) : PlacesOk (reachM s.2 p) s.1.length := fun t ht => by
  rcases reach_places hs _ [p] (List.replicate s.2.length false) 0 t (by simp) (fun q hq => by rw [List.mem_singleton.1 hq]; exact hp) ht with h | h
  · simp at h
  · exact h
/-- What is known of the net of a checked pattern. -/
theorem net_all {n : Nat} {p : PatN (n + 1)} (hch : checkP p = 0) : ThinC n p (thinW n p) ∧ LeanOk (thinW n p).1 (thinW n p).2 ∧ GoodS (netP n p).2 ∧ OkP (netP n p).2 (netP n p).1 ∧ (netP n p).2.1.length ≤ 4096 ∧ (netP n p).2.2.length ≤ 262144 ∧ ((netP n p).2.1 ≠ [] ∨ (netP n p).2.1 = [] ∧ (netP n p).2.2 = []) ∧
    (∀ u, Acc (netP n p).2.1 (netP n p).2.2 u (netP n p).1 ↔ LangN n p u) ∧ (∃ u, LangN n p u) ∧ ∀ i, i < (netP n p).2.1.length → ∃ v, Acc (netP n p).2.1 (netP n p).2.2 v i := by
  have hr := check_right hch
  have hb := check_bounds hch
  have hp := check_pos2 hch
  obtain ⟨t1, t2⟩ := thin_ok n p hr
  have hlean := lean_ok _ _ t1
  have hcnt := lay_count _ _ hlean 4096 ([], [])
  have htk := thin_tk n p hr hp
  have hdp := thin_dp n p hr
  have hfk := fk_le _ _ t1
  have e1 : (netP n p).2.1.length = foldP tkF (thinW n p) := hcnt.1.trans (Nat.zero_add _)
  have e2 : (netP n p).2.2.length = foldP fkF (thinW n p) := hcnt.2.trans (Nat.zero_add _)
  have hf1 : foldP fkF (thinW n p) ≤ foldP tkF (thinW n p) * foldP dpF (thinW n p) := hfk.1
  have hT : foldP tkF (thinW n p) ≤ 4096 := by omega
  have hD : foldP dpF (thinW n p) ≤ 64 := by omega
  have hF : foldP fkF (thinW n p) ≤ 262144 := Nat.le_trans hf1 (Nat.mul_le_mul hT hD)
  have hlen : (netP n p).2.1.length ≤ 4096 := by omega
  obtain ⟨g1, g2⟩ := lay_good _ _ hlean 4096 ([], []) ⟨(fun t ht => by cases ht), (fun f hf => by cases hf)⟩ (.inr (.inl rfl))
  have hH : HasL (netP n p).2.1 (netP n p).2.2 ([], []) (netP n p).2 := ⟨fun i t _ e => e, fun i f _ e => e⟩
  have hM := (lay_means _ _ hlean).2 4096 ([], []) hlen (netP n p).2.1 (netP n p).2.2 hH
  have hlang : ∀ u, Acc (netP n p).2.1 (netP n p).2.2 u (netP n p).1 ↔ LangN n p u := fun u => by
    have e : LangN n p = LangN (thinW n p).1 (thinW n p).2 := t2.symm
    rw [e]
    constructor
    · rintro ⟨k, hk⟩
      obtain ⟨x, v, e, hx, hv⟩ := hM.2 k u hk
      rw [acc_end_inv hv, List.append_nil] at e
      rw [e]
      exact hx
    · intro h
      have := hM.1 u [] h (acc_end _ _)
      rwa [List.append_nil] at this
  obtain ⟨c1, c2⟩ := lay_co _ _ t1 4096 ([], []) (netP n p).2.1 (netP n p).2.2 hlen hH ⟨[], acc_end _ _⟩
  refine ⟨thin_is n p (well_of (n + 1) p hr hb.1), hlean, g1, g2, hlen, by omega, ?_, hlang, ?_, fun i hi => c2 i (Nat.zero_le _) hi⟩
  · by_cases h0 : foldP tkF (thinW n p) = 0
    · refine .inr ⟨List.length_eq_zero_iff.1 (by omega), List.length_eq_zero_iff.1 ?_⟩
      rw [h0, Nat.zero_mul] at hf1
      omega
    · exact .inl (fun e => by rw [e] at e1; simp at e1; omega)
  · obtain ⟨v, hv⟩ := c1
    exact ⟨v, (hlang v).1 hv⟩

end Ex
end Go.Proofs.YtlgojnodhbmlkaaGreatDoor
namespace Go.Proofs.YtlgojnodhbmlkaaGreatDoor
open Go.RowKit
namespace Ex

section
variable {ts : List (Int × Int × Nat)} {fs : List (Nat × Nat)} {first : Nat}
/-- A set stands for what can follow a front. -/
def Rep (ts : List (Int × Int × Nat)) (fs : List (Nat × Nat)) (first A : Nat) (pre : List Int) : Prop := A < top ∧ (∀ t, A.testBit t = true → t = 4096 ∨ t < ts.length) ∧ ∀ bs, Acc ts fs (pre ++ bs) first ↔ ∃ t, A.testBit t = true ∧ Acc ts fs bs t
/-- What is known of a net that runs. -/
structure Runs (ts : List (Int × Int × Nat)) (fs : List (Nat × Nat)) (first : Nat) : Prop where
  len : ts.length ≤ 4096
  forks : ∀ f ∈ fs, PlaceOk fs.length f.1 ∧ PlaceOk fs.length f.2
  takers : ∀ t ∈ ts, PlaceOk fs.length t.2.2
  start : PlaceOk fs.length first
  places : NetOk ts fs first
  co : ∀ i, i < ts.length → ∃ v, Acc ts fs v i
theorem rep_first (h : Runs ts fs first) : Rep ts fs first (reachM fs first) [] := by
  refine ⟨reachM_top _ _, fun t ht => h.places.1 t ht, fun bs => ?_⟩
  rw [List.nil_append, reach_acc h.forks h.start]
  constructor
  · rintro ⟨t, h1, _, h2⟩
    exact ⟨t, h1, h2⟩
  · rintro ⟨t, h1, h2⟩
    have := h.places.1 t h1
    have := h.len
    exact ⟨t, h1, by omega, h2⟩
theorem rep_next (h : Runs ts fs first) {A : Nat} {pre : List Int} (hA : Rep ts fs first A pre) (c : Int) : Rep ts fs first (stepM ts fs A c) (pre ++ [c]) := by
  refine ⟨stepsL_top _ _ _ _, fun t ht => h.places.step A c t ht, fun bs => ?_⟩
  have e : pre ++ [c] ++ bs = pre ++ (c :: bs) := by simp
  rw [e, hA.2.2]
  have hlen := h.len
  constructor
  · rintro ⟨t, h1, k, hk⟩
    cases k with
    | zero => exact hk.elim
    | succ k =>
      rcases hk with hk | ⟨c', bs', τ, h2, h3, h4, h5, h6, h7⟩ | ⟨f, h2, _⟩
      · exact absurd hk.2 (by simp)
      · simp only [List.cons.injEq] at h3
        obtain ⟨rfl, rfl⟩ := h3
        obtain ⟨t', g1, _, g2⟩ := (reach_acc h.forks (h.takers τ (List.mem_of_getElem? h4)) bs).1 ⟨k, h7⟩
        refine ⟨t', (step_bit hA.1 c t').2 ⟨t, h1, by omega, ?_⟩, g2⟩
        unfold takeM
        rw [h4]
        dsimp only
        rw [if_neg (by omega)]
        exact g1
      · have := hA.2.1 t h1
        omega
  · rintro ⟨t', h1, h2⟩
    obtain ⟨i, i1, i2, i3⟩ := (step_bit hA.1 c t').1 h1
    unfold takeM at i3
    cases hi : ts[i]? with
    | none => rw [hi] at i3; simp at i3
    | some τ =>
      rw [hi] at i3
      dsimp only at i3
      split at i3
      · simp at i3
      · rename_i hc
        have hpl := h.places.2 τ (List.mem_of_getElem? hi) t' i3
        obtain ⟨k, hk⟩ := (reach_acc h.forks (h.takers τ (List.mem_of_getElem? hi)) bs).2 ⟨t', i3, by omega, h2⟩
        have := hA.2.1 i i1
        exact ⟨i, i1, k + 1, .inr (.inl ⟨c, bs, τ, by omega, rfl, hi, by omega, by omega, hk⟩)⟩
theorem rep_end {A : Nat} {pre : List Int} (h : Runs ts fs first) (hA : Rep ts fs first A pre) : A.testBit 4096 = true ↔ Acc ts fs pre first := by
  have := hA.2.2 []
  rw [List.append_nil] at this
  rw [this]
  constructor
  · exact fun e => ⟨4096, e, acc_end _ _⟩
  · rintro ⟨t, h1, k, hk⟩
    have hl := h.len
    have ht := hA.2.1 t h1
    cases k with
    | zero => exact hk.elim
    | succ k =>
      rcases hk with hk | ⟨_, _, _, _, e, _⟩ | ⟨_, e, _⟩
      · rw [← hk.1]; exact h1
      · cases e
      · omega
theorem bit_of {A : Nat} (h : A ≠ 0) : ∃ t, A.testBit t = true := by
  apply Classical.byContradiction
  intro hn
  apply h
  apply Nat.eq_of_testBit_eq
  intro i
  rw [Nat.zero_testBit]
  cases hb : A.testBit i with
  | false => rfl
  | true => exact absurd ⟨i, hb⟩ hn
theorem rep_live {A : Nat} {pre : List Int} (h : Runs ts fs first) (hA : Rep ts fs first A pre) : A ≠ 0 ↔ ∃ v, Acc ts fs (pre ++ v) first := by
  constructor
  · intro h0
    obtain ⟨t, ht⟩ := bit_of h0
    rcases hA.2.1 t ht with e | e
    · subst e
      exact ⟨[], (hA.2.2 []).2 ⟨4096, ht, acc_end _ _⟩⟩
    · obtain ⟨v, hv⟩ := h.co t e
      exact ⟨v, (hA.2.2 v).2 ⟨t, ht, hv⟩⟩
  · rintro ⟨v, hv⟩ e
    obtain ⟨t, ht, _⟩ := (hA.2.2 v).1 hv
    rw [e] at ht
    simp at ht
end
/-- The last of the first fronts that L holds of. -/
def BestK (L : List Int → Prop) (bs : List Int) (l : Int) (k : Nat) : Prop := (l = -1 ∧ ∀ j, j < k → ¬ L (bs.take j)) ∨ ∃ m : Nat, m < k ∧ l = (m : Int) ∧ L (bs.take m) ∧ ∀ j, m < j → j < k → ¬ L (bs.take j)
def LiveL (L : List Int → Prop) (u : List Int) : Prop := ∃ v, L (u ++ v)
theorem best_next {L : List Int → Prop} {bs : List Int} {l : Int} {k : Nat} (h : BestK L bs l k) (b : Bool) (hb : b = true ↔ L (bs.take k)) : BestK L bs (if b = true then (k : Int) else l) (k + 1) := by
  by_cases e : b = true
  · rw [if_pos e]
    exact .inr ⟨k, by omega, rfl, hb.1 e, fun j h1 h2 => by omega⟩
  · rw [if_neg e]
    have hn : ¬ L (bs.take k) := fun h => e (hb.2 h)
    rcases h with ⟨h1, h2⟩ | ⟨m, h1, h2, h3, h4⟩
    · refine .inl ⟨h1, fun j hj => ?_⟩
      by_cases ej : j = k
      · rw [ej]; exact hn
      · exact h2 j (by omega)
    · refine .inr ⟨m, by omega, h2, h3, fun j j1 j2 => ?_⟩
      by_cases ej : j = k
      · rw [ej]; exact hn
      · exact h4 j j1 (by omega)
theorem take_snoc {bs : List Int} {k : Nat} {c : Int} (h : bs[k]? = some c) : bs.take (k + 1) = bs.take k ++ [c] := by
  obtain ⟨hl, rfl⟩ := List.getElem?_eq_some_iff.1 h
  rw [List.take_succ_eq_append_getElem hl]
theorem runG_spec {ts : List (Int × Int × Nat)} {fs : List (Nat × Nat)} {first : Nat} (h : Runs ts fs first) (bs : List Int) : ∀ (N A k : Nat) (l : Int), N + k = bs.length + 1 → k ≤ bs.length → Rep ts fs first A (bs.take k) → A ≠ 0 → BestK (fun u => Acc ts fs u first) bs l k →
    ∃ r : Nat, (runG ts fs bs N A k l).2 = (r : Int) ∧ r ≤ bs.length ∧ LiveL (fun u => Acc ts fs u first) (bs.take r) ∧ (r < bs.length → ¬ LiveL (fun u => Acc ts fs u first) (bs.take (r + 1))) ∧ BestK (fun u => Acc ts fs u first) bs (runG ts fs bs N A k l).1 (r + 1)
  | 0, A, k, l, hN, hk, _, _, _ => by omega
  | N + 1, A, k, l, hN, hk, hA, h0, hB => by
    have hB' := best_next hB (A.testBit 4096) (rep_end h hA)
    have hL := (rep_live h hA).1 h0
    unfold runG
    cases hc : bs[k]? with
    | none =>
      dsimp only
      have hkl : k = bs.length := by
        have := List.getElem?_eq_none_iff.1 hc
        omega
      exact ⟨k, rfl, hk, hL, fun e => by omega, hB'⟩
    | some c =>
      dsimp only
      have hlt := (List.getElem?_eq_some_iff.1 hc).1
      have hA' := rep_next h hA c
      rw [← take_snoc hc] at hA'
      by_cases hz : stepM ts fs A c = 0
      · rw [if_pos hz]
        exact ⟨k, rfl, hk, hL, fun _ hl => (rep_live h hA').2 hl hz, hB'⟩
      · rw [if_neg hz]
        exact runG_spec h bs N (stepM ts fs A c) (k + 1) _ (by omega) (by omega) hA' hz hB'
/-- What a run tells. -/
theorem runM_spec {ts : List (Int × Int × Nat)} {fs : List (Nat × Nat)} {first : Nat} (h : Runs ts fs first) (hne : ∃ u, Acc ts fs u first) (bs : List Int) :
    ∃ r : Nat, (runM ts fs first bs).2 = (r : Int) ∧ r ≤ bs.length ∧ LiveL (fun u => Acc ts fs u first) (bs.take r) ∧ (r < bs.length → ¬ LiveL (fun u => Acc ts fs u first) (bs.take (r + 1))) ∧ BestK (fun u => Acc ts fs u first) bs (runM ts fs first bs).1 (bs.length + 1) := by
  have hr := rep_first h
  obtain ⟨u, hu⟩ := hne
  obtain ⟨r, h1, h2, h3, h4, h5⟩ := runG_spec h bs (bs.length + 1) (reachM fs first) 0 (-1) rfl (Nat.zero_le _) (by simpa using hr) ((rep_live h hr).2 ⟨u, hu⟩) (.inl ⟨rfl, fun j hj => by omega⟩)
  refine ⟨r, h1, h2, h3, h4, ?_⟩
  have hno : ∀ j, r < j → j ≤ bs.length → ¬ Acc ts fs (bs.take j) first := fun j j1 j2 hj => by
    refine h4 (by omega) ⟨(bs.take j).drop (r + 1), ?_⟩
    have e : bs.take (r + 1) = (bs.take j).take (r + 1) := by rw [List.take_take, Nat.min_eq_left (by omega)]
    show Acc ts fs (bs.take (r + 1) ++ (bs.take j).drop (r + 1)) first
    rw [e, List.take_append_drop]
    exact hj
  rcases h5 with ⟨e1, e2⟩ | ⟨m, e1, e2, e3, e4⟩
  · refine .inl ⟨e1, fun j hj => ?_⟩
    by_cases hjr : j < r + 1
    · exact e2 j hjr
    · exact hno j (by omega) (by omega)
  · refine .inr ⟨m, by omega, e2, e3, fun j j1 j2 => ?_⟩
    by_cases hjr : j < r + 1
    · exact e4 j j1 hjr
    · exact hno j (by omega) (by omega)
theorem net_runs {n : Nat} {p : PatN (n + 1)} (hch : checkP p = 0) : Runs (netP n p).2.1 (netP n p).2.2 (netP n p).1 := by
  obtain ⟨_, _, g1, g2, hl, _, _, _, _, hco⟩ := net_all hch
  have hpl : ∀ q, OkP (netP n p).2 q → PlaceOk (netP n p).2.2.length q := fun q hq => by
    unfold PlaceOk
    rcases hq with h | h | h <;> omega
  exact ⟨hl, fun f hf => ⟨hpl _ (g1.2 f hf).1, hpl _ (g1.2 f hf).2⟩, fun t ht => hpl _ (g1.1 t ht), hpl _ g2, ⟨net_places g1 g2, fun t ht => net_places g1 (g1.1 t ht)⟩, hco⟩
/-- How long the longest front is, and how many bytes are live. -/
def runP (n : Nat) (p : PatN (n + 1)) (bs : List Int) : Int × Int := runM (netP n p).2.1 (netP n p).2.2 (netP n p).1 bs
theorem runP_spec {n : Nat} {p : PatN (n + 1)} (hch : checkP p = 0) (bs : List Int) : ∃ r : Nat, (runP n p bs).2 = (r : Int) ∧ r ≤ bs.length ∧ LiveL (LangN n p) (bs.take r) ∧ (r < bs.length → ¬ LiveL (LangN n p) (bs.take (r + 1))) ∧ BestK (LangN n p) bs (runP n p bs).1 (bs.length + 1) := by
  obtain ⟨_, _, _, _, _, _, _, hlang, ⟨u, hu⟩, _⟩ := net_all hch
  have e : (fun u => Acc (netP n p).2.1 (netP n p).2.2 u (netP n p).1) = LangN n p := funext (fun u => propext (hlang u))
  have := runM_spec (net_runs hch) ⟨u, (hlang u).2 hu⟩ bs
  rw [e] at this
  exact this
/-- Match, of all. -/
theorem run_match {n : Nat} {p : PatN (n + 1)} (hch : checkP p = 0) (bs : List Int) : (runP n p bs).1 = (bs.length : Int) ↔ LangN n p bs := by
  obtain ⟨r, h1, h2, h3, h4, h5⟩ := runP_spec hch bs
  constructor
  · intro e
    rcases h5 with ⟨e1, _⟩ | ⟨m, _, e2, e3, _⟩
    · omega
    · obtain rfl : m = bs.length := by omega
      rwa [List.take_length] at e3
  · intro h
    rcases h5 with ⟨_, e2⟩ | ⟨m, e1, e2, e3, e4⟩
    · exact absurd (by rw [List.take_length]; exact h) (e2 bs.length (by omega))
    · by_cases e : m = bs.length
      · omega
      · exact absurd (by rw [List.take_length]; exact h) (e4 bs.length (by omega) (by omega))
/-- Live, of all. -/
theorem run_live {n : Nat} {p : PatN (n + 1)} (hch : checkP p = 0) (bs : List Int) : (runP n p bs).2 = (bs.length : Int) ↔ LiveL (LangN n p) bs := by
  obtain ⟨r, h1, h2, h3, h4, h5⟩ := runP_spec hch bs
  constructor
  · intro e
    obtain rfl : r = bs.length := by omega
    rwa [List.take_length] at h3
  · rintro ⟨v, hv⟩
    by_cases e : r = bs.length
    · omega
    · exfalso
      refine h4 (by omega) ⟨bs.drop (r + 1) ++ v, ?_⟩
      rw [← List.append_assoc, List.take_append_drop]
      exact hv

end Ex
end Go.Proofs.YtlgojnodhbmlkaaGreatDoor
namespace Go.Proofs.YtlgojnodhbmlkaaGreatDoor
open Go.RowKit
namespace Ex

/-- s is no worse than u. -/
def LeS (s u : List Int) : Prop := shorter u s = false
theorem les_iff (s u : List Int) : LeS s u ↔ s.length < u.length ∨ (s.length = u.length ∧ lessI u s = false) := by
  unfold LeS shorter
  by_cases h1 : u.length < s.length
  · simp [h1]
    omega
  · by_cases h2 : u.length = s.length
    · simp [h2]
    · simp [h1, h2]
      omega
theorem lessI_app : ∀ (a b x y : List Int), a.length = b.length → lessI a b = false → lessI x y = false → lessI (a ++ x) (b ++ y) = false
  | [], [], _, _, _, _, h => h
  | [], _ :: _, _, _, e, _, _ => by simp at e
  | _ :: _, [], _, _, e, _, _ => by simp at e
  | c :: a, d :: b, x, y, e, h1, h2 => by
    have ih := lessI_app a b x y (by simpa using e)
    simp only [List.cons_append, lessI, Bool.or_eq_false_iff, Bool.and_eq_false_iff, beq_eq_false_iff_ne] at h1 ⊢
    refine ⟨h1.1, ?_⟩
    rcases h1.2 with h | h
    · exact .inl h
    · exact .inr (ih h h2)
theorem LeS.app {s1 s2 u1 u2 : List Int} (h1 : LeS s1 u1) (h2 : LeS s2 u2) : LeS (s1 ++ s2) (u1 ++ u2) := by
  rw [les_iff] at h1 h2 ⊢
  rw [List.length_append, List.length_append]
  rcases h1 with h1 | h1
  · rcases h2 with h2 | h2 <;> exact .inl (by omega)
  · rcases h2 with h2 | h2
    · exact .inl (by omega)
    · exact .inr ⟨by omega, lessI_app _ _ _ _ h1.1.symm h1.2 h2.2⟩
theorem LeS.nil (u : List Int) : LeS [] u := by
  rw [les_iff]
  cases u with
  | nil => exact .inr ⟨rfl, rfl⟩
  | cons x u => exact .inl (by simp)
theorem lessI_irr : ∀ (a : List Int), lessI a a = false
  | [] => rfl
  | x :: a => by simp [lessI, lessI_irr a]
theorem LeS.refl (s : List Int) : LeS s s := by rw [les_iff]; exact .inr ⟨rfl, lessI_irr s⟩
theorem lessI_trans : ∀ (a b c : List Int), a.length = b.length → b.length = c.length → lessI b a = false → lessI c b = false → lessI c a = false
  | [], [], [], _, _, _, _ => rfl
  | x :: a, y :: b, z :: c, e1, e2, h1, h2 => by
    have ih := lessI_trans a b c (by simpa using e1) (by simpa using e2)
    simp only [lessI, Bool.or_eq_false_iff, Bool.and_eq_false_iff, beq_eq_false_iff_ne, decide_eq_false_iff_not] at h1 h2 ⊢
    refine ⟨by omega, ?_⟩
    by_cases e : z = x
    · right
      have e1 : y = x := by omega
      have e2 : z = y := by omega
      exact ih (h1.2.resolve_left (fun h => h e1)) (h2.2.resolve_left (fun h => h e2))
    · exact .inl e
  | [], [], _ :: _, _, e, _, _ => by simp at e
  | [], _ :: _, _, e, _, _, _ => by simp at e
  | _ :: _, [], _, e, _, _, _ => by simp at e
  | _ :: _, _ :: _, [], _, e, _, _ => by simp at e
theorem LeS.trans {a b c : List Int} (h1 : LeS a b) (h2 : LeS b c) : LeS a c := by
  rw [les_iff] at h1 h2 ⊢
  rcases h1 with h1 | h1
  · rcases h2 with h2 | h2 <;> exact .inl (by omega)
  · rcases h2 with h2 | h2
    · exact .inl (by omega)
    · exact .inr ⟨by omega, lessI_trans a b c h1.1 h2.1 h1.2 h2.2⟩
theorem lessI_asym : ∀ (a b : List Int), lessI a b = true → lessI b a = false
  | [], _ :: _, _ => rfl
  | _ :: _, [], h => by simp [lessI] at h
  | [], [], h => by simp [lessI] at h
  | x :: a, y :: b, h => by
    simp only [lessI, Bool.or_eq_true, Bool.and_eq_true, beq_iff_eq, decide_eq_true_eq] at h
    simp only [lessI, Bool.or_eq_false_iff, Bool.and_eq_false_iff, beq_eq_false_iff_ne, decide_eq_false_iff_not]
    rcases h with h | h
    · exact ⟨by omega, .inl (by omega)⟩
    · exact ⟨by omega, .inr (lessI_asym a b h.2)⟩
theorem les_of {a b : List Int} (h : shorter a b = true) : LeS a b := by
  rw [les_iff]
  unfold shorter at h
  simp only [Bool.or_eq_true, Bool.and_eq_true, beq_iff_eq, decide_eq_true_eq] at h
  rcases h with h | h
  · exact .inl h
  · exact .inr ⟨h.1, lessI_asym _ _ h.2⟩
theorem best_le : ∀ (xs : List (List Int)) (b : List Int), LeS (xs.foldl (fun b y => if shorter y b then y else b) b) b ∧ ∀ y ∈ xs, LeS (xs.foldl (fun b y => if shorter y b then y else b) b) y
  | [], b => ⟨LeS.refl b, fun y hy => by cases hy⟩
  | x :: xs, b => by
    rw [List.foldl_cons]
    have h := best_le xs (if shorter x b then x else b)
    have hb : LeS (if shorter x b then x else b) b ∧ LeS (if shorter x b then x else b) x := by
      by_cases e : shorter x b = true
      · rw [if_pos e]
        exact ⟨les_of e, LeS.refl x⟩
      · rw [if_neg e]
        exact ⟨LeS.refl b, (by simpa using e : shorter x b = false)⟩
    refine ⟨h.1.trans hb.1, fun y hy => ?_⟩
    rcases List.mem_cons.1 hy with rfl | hy
    · exact h.1.trans hb.2
    · exact h.2 y hy
theorem bestOf_le {l : List (List Int)} {y : List Int} (hy : y ∈ l) : LeS (bestOf l) y := by
  cases l with
  | nil => cases hy
  | cons x xs =>
    have h := best_le xs x
    rcases List.mem_cons.1 hy with rfl | hy
    · exact h.1
    · exact h.2 y hy
theorem pow_rep {L : List Int → Prop} {s : List Int} (h : L s) : ∀ k, PowL L k (List.replicate k s).flatten
  | 0 => rfl
  | k + 1 => ⟨s, (List.replicate k s).flatten, by rw [List.replicate_succ, List.flatten_cons], h, pow_rep h k⟩
theorem pow_le {L : List Int → Prop} {s : List Int} (h : ∀ u, L u → LeS s u) : ∀ (k : Nat) (u : List Int), PowL L k u → LeS (List.replicate k s).flatten u
  | 0, u, hu => by
    have hu : u = [] := hu
    rw [hu]
    exact LeS.nil _
  | k + 1, u, ⟨x, y, e, hx, hy⟩ => by
    rw [e, List.replicate_succ, List.flatten_cons]
    exact (h x hx).app (pow_le h k y hy)
theorem cat_short {α : Type} {S : α → List Int → Prop} {f : α → List Int} : ∀ (l : List α), (∀ q ∈ l, S q (f q) ∧ ∀ u, S q u → LeS (f q) u) → CatS (l.map S) (l.flatMap f) ∧ ∀ u, CatS (l.map S) u → LeS (l.flatMap f) u
  | [], _ => ⟨rfl, fun u _ => LeS.nil u⟩
  | q :: l, h => by
    have h1 := h q (by simp)
    have h2 := cat_short l (fun r hr => h r (by simp [hr]))
    rw [List.map_cons, List.flatMap_cons]
    refine ⟨⟨f q, _, rfl, h1.1, h2.1⟩, ?_⟩
    rintro u ⟨x, y, e, hx, hy⟩
    rw [e]
    exact (h1.2 x hx).app (h2.2 y hy)
theorem short_best : ∀ (n : Nat) (p : PatN (n + 1)), rightP (n + 1) p = true → LangN n p (shortA (n + 1) p) ∧ ∀ u, LangN n p u → LeS (shortA (n + 1) p) u
  | n, p, hr => by
    have h' : (topOf p && (kids p).all (rightP n)) = true := hr
    rw [Bool.and_eq_true] at h'
    have hk := List.all_eq_true.1 h'.2
    have ht := h'.1
    unfold topOf topP at ht
    have hL : ∃ S : PatN n → List Int → Prop, (∀ u, LangN n p u = langF (kind p) (from_ p) (to_ p) (min_ p) (max_ p) ((kids p).map S) u) ∧ ∀ q ∈ kids p, S q (shortA n q) ∧ ∀ u, S q u → LeS (shortA n q) u := by
      cases n with
      | zero => exact ⟨fun _ _ => False, fun u => by rw [none_of (kids p)]; rfl, fun q => (show Empty from q).elim⟩
      | succ n => exact ⟨LangN n, fun u => rfl, fun q hq => short_best n q (hk q hq)⟩
    obtain ⟨S, e, hs⟩ := hL
    have es : shortA (n + 1) p = if kind p = 1 then [from_ p] else if kind p = 3 then bestOf ((kids p).map (shortA n)) else if kind p = 4 then (List.replicate (min_ p).toNat (((kids p).take 1).flatMap (shortA n))).flatten else (kids p).flatMap (shortA n) := rfl
    by_cases k1 : kind p = 1
    · rw [if_pos k1] at ht
      simp at ht
      have w1 : IntKind.u8.wrap (from_ p) = from_ p := by rw [IntKind.wrap_u8]; omega
      have w2 : IntKind.u8.wrap (to_ p) = to_ p := by rw [IntKind.wrap_u8]; omega
      have eL : ∀ u, LangN n p u ↔ ∃ c, u = [c] ∧ from_ p ≤ c ∧ c ≤ to_ p := fun u => by rw [e]; unfold langF; rw [if_pos k1, w1, w2]
      have eS : shortA (n + 1) p = [from_ p] := by rw [es, if_pos k1]
      rw [eS]
      refine ⟨(eL _).2 ⟨_, rfl, Int.le_refl _, by omega⟩, fun u hu => ?_⟩
      obtain ⟨c, rfl, h1, h2⟩ := (eL u).1 hu
      rw [les_iff]
      refine .inr ⟨rfl, ?_⟩
      simp [lessI]
      omega
    rw [if_neg k1] at ht
    by_cases k2 : kind p = 2
    · have eL : ∀ u, LangN n p u ↔ CatS ((kids p).map S) u := fun u => by rw [e]; unfold langF; rw [if_neg k1, if_pos k2]
      have eS : shortA (n + 1) p = (kids p).flatMap (shortA n) := by rw [es, if_neg k1, if_neg (by omega), if_neg (by omega)]
      rw [eS]
      have := cat_short (kids p) hs
      exact ⟨(eL _).2 this.1, fun u hu => this.2 u ((eL u).1 hu)⟩
    rw [if_neg k2] at ht
    by_cases k3 : kind p = 3
    · rw [if_pos k3] at ht
      have eL : ∀ u, LangN n p u ↔ ∃ L ∈ (kids p).map S, L u := fun u => by rw [e]; unfold langF; rw [if_neg k1, if_neg k2, if_pos k3]
      have eS : shortA (n + 1) p = bestOf ((kids p).map (shortA n)) := by rw [es, if_neg k1, if_pos k3]
      rw [eS]
      have hne : (kids p).map (shortA n) ≠ [] := by
        intro e
        have := congrArg List.length e
        simp at this ht
        rw [this] at ht
        simp at ht
      refine ⟨(eL _).2 ?_, fun u hu => ?_⟩
      · obtain ⟨q, hq, e⟩ := List.mem_map.1 (bestOf_in hne)
        exact ⟨S q, List.mem_map_of_mem hq, by rw [← e]; exact (hs q hq).1⟩
      · obtain ⟨L, hL, hu⟩ := (eL u).1 hu
        obtain ⟨q, hq, rfl⟩ := List.mem_map.1 hL
        exact (bestOf_le (List.mem_map_of_mem hq)).trans ((hs q hq).2 u hu)
    rw [if_neg k3] at ht
    by_cases k4 : kind p = 4
    · rw [if_pos k4] at ht
      obtain ⟨q, hq⟩ := List.length_eq_one_iff.1 (right_one hr k4)
      have hsq := hs q (by rw [hq]; exact List.mem_cons_self ..)
      simp [timesP] at ht
      have eL : ∀ u, LangN n p u ↔ TimesS (S q) (min_ p) (max_ p) u := fun u => by rw [e]; unfold langF; rw [if_neg k1, if_neg k2, if_neg k3, hq]; exact Iff.rfl
      have eS : shortA (n + 1) p = (List.replicate (min_ p).toNat (shortA n q)).flatten := by
        rw [es, if_neg k1, if_neg k3, if_pos k4, hq]
        simp
      rw [eS]
      refine ⟨(eL _).2 ⟨(min_ p).toNat, by omega, by omega, pow_rep hsq.1 _⟩, fun u hu => ?_⟩
      obtain ⟨k, h1, _, h3⟩ := (eL u).1 hu
      obtain ⟨x, y, e, hx, hy⟩ := (pow_add (min_ p).toNat (k - (min_ p).toNat) u).2 (by rw [show (min_ p).toNat + (k - (min_ p).toNat) = k by omega]; exact h3)
      have := (pow_le hsq.2 _ _ hx).app (LeS.nil y)
      rw [List.append_nil] at this
      rw [e]
      exact this
    · rw [if_neg k4] at ht
      cases ht
theorem empty_lang : ∀ (n : Nat) (p : PatN (n + 1)), rightP (n + 1) p = true → (emptyP (n + 1) p = true ↔ LangN n p [])
  | n, p, hr => by
    have h' : (topOf p && (kids p).all (rightP n)) = true := hr
    rw [Bool.and_eq_true] at h'
    have hk := List.all_eq_true.1 h'.2
    have ht := h'.1
    unfold topOf topP at ht
    have hL : ∃ S : PatN n → List Int → Prop, LangN n p = langF (kind p) (from_ p) (to_ p) (min_ p) (max_ p) ((kids p).map S) ∧ ∀ q ∈ kids p, (emptyP n q = true ↔ S q []) := by
      cases n with
      | zero => exact ⟨fun _ _ => False, by rw [none_of (kids p)]; rfl, fun q => (show Empty from q).elim⟩
      | succ n => exact ⟨LangN n, rfl, fun q hq => empty_lang n q (hk q hq)⟩
    obtain ⟨S, e, hs⟩ := hL
    rw [e]
    have es : emptyP (n + 1) p = if kind p = 1 then false else if kind p = 3 then (kids p).any (emptyP n) else if kind p = 4 then min_ p == 0 || ((kids p).head?.map (emptyP n)).getD false else (kids p).all (emptyP n) := rfl
    rw [es]
    unfold langF
    by_cases k1 : kind p = 1
    · rw [if_pos k1, if_pos k1]
      constructor
      · intro h; cases h
      · rintro ⟨c, h, _⟩; cases h
    rw [if_neg k1, if_neg k1]
    by_cases k2 : kind p = 2
    · rw [if_neg (by omega), if_neg (by omega), if_pos k2]
      have key : ∀ l : List (PatN n), (∀ q ∈ l, (emptyP n q = true ↔ S q [])) → (l.all (emptyP n) = true ↔ CatS (l.map S) []) := by
        intro l
        induction l with
        | nil => intro _; simp [CatS]
        | cons q l ih =>
          intro h
          have h1 := h q (by simp)
          have h2 := ih (fun r hr => h r (by simp [hr]))
          rw [List.all_cons, Bool.and_eq_true, h1, h2, List.map_cons]
          constructor
          · rintro ⟨a, b⟩
            exact ⟨[], [], rfl, a, b⟩
          · rintro ⟨u, v, e, a, b⟩
            have e' := List.append_eq_nil_iff.1 e.symm
            rw [e'.1] at a
            rw [e'.2] at b
            exact ⟨a, b⟩
      exact key _ hs
    rw [if_neg k2]
    by_cases k3 : kind p = 3
    · rw [if_pos k3, if_pos k3, List.any_eq_true]
      constructor
      · rintro ⟨q, hq, h⟩
        exact ⟨S q, List.mem_map_of_mem hq, (hs q hq).1 h⟩
      · rintro ⟨L, hL, h⟩
        obtain ⟨q, hq, rfl⟩ := List.mem_map.1 hL
        exact ⟨q, hq, (hs q hq).2 h⟩
    rw [if_neg k3, if_neg k3]
    rw [if_neg k1, if_neg k2, if_neg k3] at ht
    by_cases k4 : kind p = 4
    · rw [if_pos k4] at ht ⊢
      obtain ⟨q, hq⟩ := List.length_eq_one_iff.1 (right_one hr k4)
      have hsq := hs q (by rw [hq]; exact List.mem_cons_self ..)
      simp [timesP] at ht
      rw [hq]
      show (min_ p == 0 || emptyP n q) = true ↔ TimesS (S q) (min_ p) (max_ p) []
      rw [Bool.or_eq_true, beq_iff_eq, hsq]
      constructor
      · rintro (h | h)
        · exact ⟨0, by omega, by omega, rfl⟩
        · refine ⟨(min_ p).toNat, by omega, by omega, ?_⟩
          have := pow_rep h (min_ p).toNat
          have e : ∀ k : Nat, (List.replicate k ([] : List Int)).flatten = [] := fun k => by simp
          rwa [e] at this
      · rintro ⟨k, h1, _, h3⟩
        cases k with
        | zero => exact .inl (by omega)
        | succ k =>
          obtain ⟨x, y, e, hx, _⟩ := h3
          have e' := List.append_eq_nil_iff.1 e.symm
          rw [e'.1] at hx
          exact .inr hx
    · rw [if_neg k4] at ht
      cases ht

end Ex
end Go.Proofs.YtlgojnodhbmlkaaGreatDoor
