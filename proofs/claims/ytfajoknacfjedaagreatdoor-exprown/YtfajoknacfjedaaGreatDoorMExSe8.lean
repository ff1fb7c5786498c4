import Derived.Test.YtfajoknacfjedaaGreatDoorMExSe3
import Derived.Test.YtfajoknacfjedaaGreatDoorMExStB
import Derived.Test.YtfajoknacfjedaaGreatDoorMExNn2
import Derived.Test.YtfajoknacfjedaaGreatDoorMExTw2
import Derived.Lib.Tables
import Derived.Deep.Cut
namespace Go.Proofs.YtfajoknacfjedaaGreatDoor
open Go.RowKit
namespace Ex

/-- All that is laid can come to the end, if next can. -/
def CoL (M : Nat → St → Nat × St) : Prop := ∀ next st ts fs, (M next st).2.1.length ≤ 4096 → HasL ts fs st (M next st).2 → (∃ v, Acc ts fs v next) → (∃ v, Acc ts fs v (M next st).1) ∧ ∀ i, st.1.length ≤ i → i < (M next st).2.1.length → ∃ v, Acc ts fs v i
theorem co_none : CoL (fun next st => (next, st)) := fun _ _ _ _ _ _ h => ⟨h, fun _ h1 h2 => absurd (Nat.lt_of_lt_of_le h2 h1) (Nat.lt_irrefl _)⟩
theorem co_range {n : Nat} (q : PatN (n + 1)) (h : IntKind.u8.wrap (from_ q) ≤ IntKind.u8.wrap (to_ q)) : CoL (rangeL q) := fun next st ts fs hb hH ⟨v, hv⟩ => by
  have d := (range_means q next st hb ts fs hH).1 [IntKind.u8.wrap (from_ q)] v ⟨_, rfl, Int.le_refl _, h⟩ hv
  refine ⟨⟨_, d⟩, fun i h1 h2 => ?_⟩
  have h2 : i < (st.1 ++ [(IntKind.u8.wrap (from_ q), IntKind.u8.wrap (to_ q), next)]).length := h2
  rw [List.length_append, List.length_singleton] at h2
  obtain rfl : i = st.1.length := by omega
  exact ⟨_, d⟩
theorem co_row {n : Nat} {F : PatN (n + 1) → Nat → St → Nat × St} : ∀ (l : List (PatN (n + 1))), (∀ q ∈ l, Adds (F q)) → (∀ q ∈ l, CoL (F q)) → CoL (rowL F l)
  | [], _, _ => co_none
  | q :: l, hA, hC => fun next st ts fs hb hH hv => by
    have a1 := (hA q (by simp)).inL next st
    have a2 := (row_adds l (fun r hr => hA r (by simp [hr]))).inL (F q next st).1 (F q next st).2
    have hb' : (rowL F l (F q next st).1 (F q next st).2).2.1.length ≤ 4096 := hb
    obtain ⟨g1, g2⟩ := hC q (by simp) next st ts fs (Nat.le_trans a2.len.1 hb') (hH.fore a2) hv
    obtain ⟨k1, k2⟩ := co_row l (fun r hr => hA r (by simp [hr])) (fun r hr => hC r (by simp [hr])) (F q next st).1 (F q next st).2 ts fs hb' (hH.rest a1) g1
    refine ⟨k1, fun i h1 h2 => ?_⟩
    by_cases e : i < (F q next st).2.1.length
    · exact g2 i h1 e
    · exact k2 i (by omega) h2
theorem co_copies {L : Nat → St → Nat × St} (hA : Adds L) (hC : CoL L) : ∀ m, CoL (copiesL L m)
  | 0 => co_none
  | m + 1 => fun next st ts fs hb hH hv => by
    have a1 := hA.inL next st
    have a2 := (copies_adds hA m).inL (L next st).1 (L next st).2
    have hb' : (copiesL L m (L next st).1 (L next st).2).2.1.length ≤ 4096 := hb
    obtain ⟨g1, g2⟩ := hC next st ts fs (Nat.le_trans a2.len.1 hb') (hH.fore a2) hv
    obtain ⟨k1, k2⟩ := co_copies hA hC m (L next st).1 (L next st).2 ts fs hb' (hH.rest a1) g1
    refine ⟨k1, fun i h1 h2 => ?_⟩
    by_cases e : i < (L next st).2.1.length
    · exact g2 i h1 e
    · exact k2 i (by omega) h2
theorem co_alt {n : Nat} {F : PatN (n + 1) → Nat → St → Nat × St} {ts : List (Int × Int × Nat)} {fs : List (Nat × Nat)} {next : Nat} (hv : ∃ v, Acc ts fs v next) : ∀ (l : List (PatN (n + 1))), (∀ q ∈ l, Adds (F q)) → (∀ q ∈ l, CoL (F q)) → ∀ (first : Nat) (st : St), (altL F l first next st).2.1.length ≤ 4096 → HasL ts fs st (altL F l first next st).2 → (∃ v, Acc ts fs v first) → (∃ v, Acc ts fs v (altL F l first next st).1) ∧ ∀ i, st.1.length ≤ i → i < (altL F l first next st).2.1.length → ∃ v, Acc ts fs v i
  | [], _, _, _, _, _, _, h => ⟨h, fun _ h1 h2 => absurd (Nat.lt_of_lt_of_le h2 h1) (Nat.lt_irrefl _)⟩
  | q :: l, hA, hC, first, st, hb, hH, hf0 => by
    have a1 := (hA q (by simp)).inL next st
    have a12 := in_fork (F q next st).2.1 (F q next st).2.2 [(first, (F q next st).1)]
    have a2 := (alt_adds l (fun r hr => hA r (by simp [hr])) (4097 + (F q next st).2.2.length)).inL next ((F q next st).2.1, (F q next st).2.2 ++ [(first, (F q next st).1)])
    have hb' : (altL F l (4097 + (F q next st).2.2.length) next ((F q next st).2.1, (F q next st).2.2 ++ [(first, (F q next st).1)])).2.1.length ≤ 4096 := hb
    have hH' : HasL ts fs st (altL F l (4097 + (F q next st).2.2.length) next ((F q next st).2.1, (F q next st).2.2 ++ [(first, (F q next st).1)])).2 := hH
    obtain ⟨g1, g2⟩ := hC q (by simp) next st ts fs (Nat.le_trans (a12.trans a2).len.1 hb') (hH'.fore (a12.trans a2)) hv
    have hf : fs[(F q next st).2.2.length]? = some (first, (F q next st).1) := (hH'.fore a2).2 _ _ a1.len.2 (by simp)
    obtain ⟨v0, hv0⟩ := hf0
    obtain ⟨k1, k2⟩ := co_alt hv l (fun r hr => hA r (by simp [hr])) (fun r hr => hC r (by simp [hr])) _ _ hb' (hH'.rest (a1.trans a12)) ⟨v0, acc_fork hf (.inl hv0)⟩
    refine ⟨k1, fun i h1 h2 => ?_⟩
    by_cases e : i < (F q next st).2.1.length
    · exact g2 i h1 e
    · exact k2 i (by show (F q next st).2.1.length ≤ i; omega) h2
theorem co_alts {n : Nat} {F : PatN (n + 1) → Nat → St → Nat × St} (q : PatN (n + 1)) (l : List (PatN (n + 1))) (hA : ∀ r ∈ q :: l, Adds (F r)) (hC : ∀ r ∈ q :: l, CoL (F r)) : CoL (altsL F q l) := fun next st ts fs hb hH hv => by
  have a1 := (hA q (by simp)).inL next st
  have a2 := (alt_adds l (fun r hr => hA r (by simp [hr])) (F q next st).1).inL next (F q next st).2
  have hb' : (altL F l (F q next st).1 next (F q next st).2).2.1.length ≤ 4096 := hb
  obtain ⟨g1, g2⟩ := hC q (by simp) next st ts fs (Nat.le_trans a2.len.1 hb') (hH.fore a2) hv
  obtain ⟨k1, k2⟩ := co_alt hv l (fun r hr => hA r (by simp [hr])) (fun r hr => hC r (by simp [hr])) (F q next st).1 (F q next st).2 hb' (hH.rest a1) g1
  refine ⟨k1, fun i h1 h2 => ?_⟩
  by_cases e : i < (F q next st).2.1.length
  · exact g2 i h1 e
  · exact k2 i (by omega) h2
theorem co_opt {L : Nat → St → Nat × St} (hA : Adds L) (hC : CoL L) {ts : List (Int × Int × Nat)} {fs : List (Nat × Nat)} {after : Nat} : ∀ (m next : Nat) (st : St), (optL L after m next st).2.1.length ≤ 4096 → HasL ts fs st (optL L after m next st).2 → (∃ v, Acc ts fs v next) → (∃ v, Acc ts fs v (optL L after m next st).1) ∧ ∀ i, st.1.length ≤ i → i < (optL L after m next st).2.1.length → ∃ v, Acc ts fs v i
  | 0, _, _, _, _, h => ⟨h, fun _ h1 h2 => absurd (Nat.lt_of_lt_of_le h2 h1) (Nat.lt_irrefl _)⟩
  | m + 1, next, st, hb, hH, hv => by
    have a1 := hA.inL next st
    have a12 := in_fork (L next st).2.1 (L next st).2.2 [((L next st).1, after)]
    have a2 := (opt_adds hA after m).inL (4097 + (L next st).2.2.length) ((L next st).2.1, (L next st).2.2 ++ [((L next st).1, after)])
    have hb' : (optL L after m (4097 + (L next st).2.2.length) ((L next st).2.1, (L next st).2.2 ++ [((L next st).1, after)])).2.1.length ≤ 4096 := hb
    have hH' : HasL ts fs st (optL L after m (4097 + (L next st).2.2.length) ((L next st).2.1, (L next st).2.2 ++ [((L next st).1, after)])).2 := hH
    obtain ⟨⟨v1, g1⟩, g2⟩ := hC next st ts fs (Nat.le_trans (a12.trans a2).len.1 hb') (hH'.fore (a12.trans a2)) hv
    have hf : fs[(L next st).2.2.length]? = some ((L next st).1, after) := (hH'.fore a2).2 _ _ a1.len.2 (by simp)
    obtain ⟨k1, k2⟩ := co_opt hA hC m _ _ hb' (hH'.rest (a1.trans a12)) ⟨v1, acc_fork hf (.inl g1)⟩
    refine ⟨k1, fun i h1 h2 => ?_⟩
    by_cases e : i < (L next st).2.1.length
    · exact g2 i h1 e
    · exact k2 i (by show (L next st).2.1.length ≤ i; omega) h2
theorem co_bound {L : Nat → St → Nat × St} (hA : Adds L) (hC : CoL L) (mn mx : Int) : CoL (boundL L mn mx) := fun next st ts fs hb hH hv => by
  have a1 := (opt_adds hA next (mx - mn).toNat).inL next st
  have a2 := (copies_adds hA mn.toNat).inL (optL L next (mx - mn).toNat next st).1 (optL L next (mx - mn).toNat next st).2
  have hb' : (copiesL L mn.toNat (optL L next (mx - mn).toNat next st).1 (optL L next (mx - mn).toNat next st).2).2.1.length ≤ 4096 := hb
  have hH' : HasL ts fs st (copiesL L mn.toNat (optL L next (mx - mn).toNat next st).1 (optL L next (mx - mn).toNat next st).2).2 := hH
  obtain ⟨g1, g2⟩ := co_opt hA hC (ts := ts) (fs := fs) (after := next) (mx - mn).toNat next st (Nat.le_trans a2.len.1 hb') (hH'.fore a2) hv
  obtain ⟨k1, k2⟩ := co_copies hA hC mn.toNat _ _ ts fs hb' (hH'.rest a1) g1
  refine ⟨k1, fun i h1 h2 => ?_⟩
  by_cases e : i < (optL L next (mx - mn).toNat next st).2.1.length
  · exact g2 i h1 e
  · exact k2 i (by omega) h2
theorem co_endless {L : Nat → St → Nat × St} (hA : Adds L) (hC : CoL L) (mn : Int) : CoL (endlessL L mn) := fun next st ts fs hb hH hv => by
  have a1 := (loop_adds hA mn).inL next st
  have a2 := (copies_adds hA (max mn 1 - 1).toNat).inL (loopL L mn next st).1 (loopL L mn next st).2
  have hb' : (copiesL L (max mn 1 - 1).toNat (loopL L mn next st).1 (loopL L mn next st).2).2.1.length ≤ 4096 := hb
  have hH' : HasL ts fs st (copiesL L (max mn 1 - 1).toNat (loopL L mn next st).1 (loopL L mn next st).2).2 := hH
  have hHl := hH'.fore a2
  obtain ⟨_, e1, e2, e3⟩ := loop_in hA mn next st
  have hf := hHl.2 _ _ (Nat.le_refl _) e1
  have hH2 : HasL ts fs (st.1, st.2 ++ [(next, next)]) (L (4097 + st.2.length) (st.1, st.2 ++ [(next, next)])).2 := ⟨fun i t hi e => hHl.1 i t hi (by rw [e2]; exact e), fun i f hi e => by
    have hi : st.2.length + 1 ≤ i := by simpa using hi
    exact hHl.2 i f (by omega) (by rw [e3 i (by omega)]; exact e)⟩
  obtain ⟨v, hv⟩ := hv
  have hag : ∃ v, Acc ts fs v (4097 + st.2.length) := ⟨v, acc_fork hf (.inr hv)⟩
  obtain ⟨g1, g2⟩ := hC (4097 + st.2.length) (st.1, st.2 ++ [(next, next)]) ts fs (by rw [← e2]; exact Nat.le_trans a2.len.1 hb') hH2 hag
  have hfi : ∃ v, Acc ts fs v (loopL L mn next st).1 := by
    show ∃ v, Acc ts fs v (if mn = 0 then 4097 + st.2.length else _)
    split
    · exact hag
    · exact g1
  obtain ⟨k1, k2⟩ := co_copies hA hC (max mn 1 - 1).toNat _ _ ts fs hb' (hH'.rest a1) hfi
  refine ⟨k1, fun i h1 h2 => ?_⟩
  by_cases e : i < (loopL L mn next st).2.1.length
  · exact g2 i h1 (by rw [← e2]; exact e)
  · exact k2 i (by omega) h2
theorem lay_co : ∀ (n : Nat) (q : PatN (n + 1)), (foldN leanF n q).2 = true → CoL (layV n q)
  | 0, q, h => by
    have h' : (leanF (kind q) (from_ q) (to_ q) (min_ q) (max_ q) []).2 = true := h
    rw [lean_snd] at h'
    unfold layV
    rcases lean_ok 0 q h with k | k
    · rw [if_neg (by omega)]
      rw [if_pos k] at h'
      simp at h'
      exact co_range q (by rw [IntKind.wrap_u8, IntKind.wrap_u8]; omega)
    · rw [if_pos k]
      exact co_none
  | n + 1, q, h => by
    have h' : (leanF (kind q) (from_ q) (to_ q) (min_ q) (max_ q) ((kids q).map (foldN leanF n))).2 = true := h
    have hl := lean_ok (n + 1) q h
    have ih := lay_co n
    rw [lean_snd] at h'
    have hk : kind q ≠ 1 → ∀ r ∈ kids q, (foldN leanF n r).2 = true := by
      intro k1 r hr
      rw [if_neg k1] at h'
      have hm := List.mem_map_of_mem (f := foldN leanF n) hr
      by_cases k2 : kind q = 2
      · rw [if_pos k2] at h'
        have := List.all_eq_true.1 h' _ hm
        simp at this
        exact this.2
      rw [if_neg k2] at h'
      by_cases k3 : kind q = 3
      · rw [if_pos k3] at h'
        simp only [Bool.and_eq_true] at h'
        exact List.all_eq_true.1 h'.1.2 _ hm
      · rw [if_neg k3] at h'
        simp only [Bool.and_eq_true] at h'
        have := List.all_eq_true.1 h'.2 _ hm
        simp at this
        exact this.2
    have iA : ∀ r, LeanOk n r → Adds (layV n r) := fun r hr => (lay_means n r hr).1
    rcases hl with k | ⟨k, h2⟩ | ⟨k, h1, h2⟩ | ⟨k, h1, h2, h3, h4, h5⟩
    · unfold layV
      rw [if_pos k]
      rw [if_pos k] at h'
      simp at h'
      exact co_range q (by rw [IntKind.wrap_u8, IntKind.wrap_u8]; omega)
    · have hk := hk (by omega)
      unfold layV
      rw [if_neg (by omega), if_pos k]
      exact co_row _ (fun r hr => iA r (h2 r (List.mem_reverse.1 hr))) (fun r hr => ih r (hk r (List.mem_reverse.1 hr)))
    · have hk := hk (by omega)
      unfold layV
      rw [if_neg (by omega), if_neg (by omega), if_pos k]
      obtain ⟨ks, hks⟩ : ∃ x, kids q = x := ⟨_, rfl⟩
      rw [hks] at h1 h2 hk ⊢
      cases ks with
      | nil => simp at h1
      | cons r l => exact co_alts r l (fun z hz => iA z (h2 z hz)) (fun z hz => ih z (hk z hz))
    · have hk := hk (by omega)
      unfold layV
      rw [if_neg (by omega), if_neg (by omega), if_neg (by omega)]
      obtain ⟨ks, hks⟩ : ∃ x, kids q = x := ⟨_, rfl⟩
      rw [hks] at h4 h5 hk ⊢
      cases ks with
      | nil => simp at h4
      | cons r l =>
        have hr := h5 r (by simp)
        have hc := ih r (hk r (by simp))
        show CoL (if max_ q = -1 then endlessL (layV n r) (min_ q) else boundL (layV n r) (min_ q) (max_ q))
        split
        · exact co_endless (iA r hr) hc _
        · exact co_bound (iA r hr) hc _ _
/-- The net of a pattern. -/
def netP (n : Nat) (p : PatN (n + 1)) : Nat × St := layV (thinW n p).1 (thinW n p).2 4096 ([], [])
theorem acc_end (ts : List (Int × Int × Nat)) (fs : List (Nat × Nat)) : Acc ts fs [] 4096 := ⟨1, .inl ⟨rfl, rfl⟩⟩
theorem acc_end_inv {ts : List (Int × Int × Nat)} {fs : List (Nat × Nat)} {k : Nat} {v : List Int} (h : AccN ts fs k v 4096) : v = [] := by
  cases k with
  | zero => exact h.elim
  | succ k =>
    rcases h with h | ⟨_, _, _, h, _⟩ | ⟨_, h, _⟩
    · exact h.2
    · omega
    · omega
theorem well_of : ∀ (n : Nat) (p : PatN n), rightP n p = true → sizeP n p ≤ 4096 → WellP n p
  | 0, _, _, _ => trivial
  | n + 1, p, hr, hs => by
    have h' : (topOf p && (kids p).all (rightP n)) = true := hr
    rw [Bool.and_eq_true] at h'
    have hk := List.all_eq_true.1 h'.2
    have key : ∀ (l : List (PatN n)) (a : Int), (l.length : Int) + a ≤ l.foldl (fun m q => m + sizeP n q) a ∧ ∀ q ∈ l, a + sizeP n q ≤ l.foldl (fun m q => m + sizeP n q) a := by
      intro l
      induction l with
      | nil => intro a; exact ⟨by simp, fun q hq => by cases hq⟩
      | cons x l ih =>
        intro a
        rw [List.foldl_cons, List.length_cons]
        have h1 := ih (a + sizeP n x)
        have hx : 1 ≤ sizeP n x := by
          cases n with
          | zero => exact (show Empty from x).elim
          | succ n => exact sum_ge (size_pos n) (kids x) 1
        refine ⟨by omega, fun q hq => ?_⟩
        have hl : 0 ≤ (l.length : Int) := by omega
        rcases List.mem_cons.1 hq with rfl | hq
        · omega
        · have := h1.2 q hq
          omega
    have hs' : (kids p).foldl (fun m q => m + sizeP n q) 1 ≤ 4096 := hs
    have hk2 := key (kids p) 1
    exact ⟨fun e => right_one hr e, by omega, fun q hq => well_of n q (hk q hq) (by have := hk2.2 q hq; omega)⟩
theorem check_bounds {n : Nat} {p : PatN (n + 1)} (h : checkP p = 0) : sizeP (n + 1) p ≤ 4096 ∧ depthP (n + 1) p ≤ 64 := by
  have hb : boundsP p = 0 := by
    unfold checkP at h
    split at h
    · assumption
    · exact absurd h (by assumption)
  rw [bounds_eq] at hb
  split at hb
  · cases hb
  · split at hb
    · cases hb
    · omega
theorem check_pos2 {n : Nat} {p : PatN (n + 1)} (h : checkP p = 0) : posP (n + 1) p ≤ 4096 := by
  unfold checkP at h
  split at h
  · split at h
    · split at h
      · cases h
      · omega
    · cases h
  · exact absurd h (by assumption)
theorem reach_places {s : St} (hs : GoodS s) : ∀ (N : Nat) (st : List Nat) (seen : List Bool) (A t : Nat), seen.length = s.2.length → (∀ p ∈ st, OkP s p) → (reachG s.2 N st seen A).testBit t = true → A.testBit t = true ∨ t = 4096 ∨ t < s.1.length
  | 0, _, _, _, _, _, _, h => .inl h
  | _ + 1, [], _, _, _, _, _, h => .inl h
  | N + 1, p :: st, seen, A, t, hl, hP, h => by
    have hP' : ∀ q ∈ st, OkP s q := fun q hq => hP q (List.mem_cons_of_mem _ hq)
    rw [reachG] at h
    split at h
    · rename_i hp
      rcases reach_places hs N _ _ _ t hl hP' h with h | h
      · rw [Nat.testBit_or, Bool.or_eq_true] at h
        rcases h with h | h
        · exact .inl h
        · rw [Nat.testBit_two_pow] at h
          have e := of_decide_eq_true h
          subst e
          rcases hP p (List.mem_cons_self ..) with k | k | k
          · exact .inr (.inr k)
          · exact .inr (.inl k)
          · omega
      · exact .inr h
    · split at h
      · exact reach_places hs N _ _ _ t hl hP' h
      · rename_i hs0
        have hi : p - 4097 < s.2.length := by
          rw [← hl]
          apply Classical.byContradiction
          intro hn
          apply hs0
          rw [List.getD_eq_getElem?_getD, List.getElem?_eq_none (by omega)]
          rfl
        have hf : s.2.getD (p - 4097) (0, 0) ∈ s.2 := by
          rw [List.getD_eq_getElem?_getD, List.getElem?_eq_getElem hi]
          exact List.getElem_mem hi
        refine reach_places hs N _ _ _ t (by rw [List.length_set]; exact hl) (fun q hq => ?_) h
        rcases List.mem_cons.1 hq with rfl | hq
        · exact (hs.2 _ hf).2
        · rcases List.mem_cons.1 hq with rfl | hq
          · exact (hs.2 _ hf).1
          · exact hP' q hq
theorem net_places {s : St} (hs : GoodS s) {p : Nat} (hp : OkP s p) : PlacesOk (reachM s.2 p) s.1.length := fun t ht => by
  rcases reach_places hs _ [p] (List.replicate s.2.length false) 0 t (by simp) (fun q hq => by rw [List.mem_singleton.1 hq]; exact hp) ht with h | h
  · simp at h
  · exact h
/-- What is known of the net of a checked pattern. -/
theorem net_all {n : Nat} {p : PatN (n + 1)} (hch : checkP p = 0) : ThinC n p (thinW n p) ∧ LeanOk (thinW n p).1 (thinW n p).2 ∧ GoodS (netP n p).2 ∧ OkP (netP n p).2 (netP n p).1 ∧ (netP n p).2.1.length ≤ 4096 ∧ (netP n p).2.2.length ≤ 262144 ∧ ((netP n p).2.1 ≠ [] ∨ (netP n p).2.1 = [] ∧ (netP n p).2.2 = []) ∧
    (∀ u, Acc (netP n p).2.1 (netP n p).2.2 u (netP n p).1 ↔ LangN n p u) ∧ (∃ u, LangN n p u) ∧ ∀ i, i < (netP n p).2.1.length → ∃ v, Acc (netP n p).2.1 (netP n p).2.2 v i := by
  have hr := check_right hch
  have hb := check_bounds hch
  have hp := check_pos2 hch
  obtain ⟨t1, t2⟩ := thin_ok n p hr
  have hlean := lean_ok _ _ t1
  have hcnt := lay_count _ _ hlean 4096 ([], [])
  have htk := thin_tk n p hr hp
  have hdp := thin_dp n p hr
  have hfk := fk_le _ _ t1
  have e1 : (netP n p).2.1.length = foldP tkF (thinW n p) := hcnt.1.trans (Nat.zero_add _)
  have e2 : (netP n p).2.2.length = foldP fkF (thinW n p) := hcnt.2.trans (Nat.zero_add _)
  have hf1 : foldP fkF (thinW n p) ≤ foldP tkF (thinW n p) * foldP dpF (thinW n p) := hfk.1
  have hT : foldP tkF (thinW n p) ≤ 4096 := by omega
  have hD : foldP dpF (thinW n p) ≤ 64 := by omega
  have hF : foldP fkF (thinW n p) ≤ 262144 := Nat.le_trans hf1 (Nat.mul_le_mul hT hD)
  have hlen : (netP n p).2.1.length ≤ 4096 := by omega
  obtain ⟨g1, g2⟩ := lay_good _ _ hlean 4096 ([], []) ⟨(fun t ht => by cases ht), (fun f hf => by cases hf)⟩ (.inr (.inl rfl))
  have hH : HasL (netP n p).2.1 (netP n p).2.2 ([], []) (netP n p).2 := ⟨fun i t _ e => e, fun i f _ e => e⟩
  have hM := (lay_means _ _ hlean).2 4096 ([], []) hlen (netP n p).2.1 (netP n p).2.2 hH
  have hlang : ∀ u, Acc (netP n p).2.1 (netP n p).2.2 u (netP n p).1 ↔ LangN n p u := fun u => by
    have e : LangN n p = LangN (thinW n p).1 (thinW n p).2 := t2.symm
    rw [e]
    constructor
    · rintro ⟨k, hk⟩
      obtain ⟨x, v, e, hx, hv⟩ := hM.2 k u hk
      rw [acc_end_inv hv, List.append_nil] at e
      rw [e]
      exact hx
    · intro h
      have := hM.1 u [] h (acc_end _ _)
      rwa [List.append_nil] at this
  obtain ⟨c1, c2⟩ := lay_co _ _ t1 4096 ([], []) (netP n p).2.1 (netP n p).2.2 hlen hH ⟨[], acc_end _ _⟩
  refine ⟨thin_is n p (well_of (n + 1) p hr hb.1), hlean, g1, g2, hlen, by omega, ?_, hlang, ?_, fun i hi => c2 i (Nat.zero_le _) hi⟩
  · by_cases h0 : foldP tkF (thinW n p) = 0
    · refine .inr ⟨List.length_eq_zero_iff.1 (by omega), List.length_eq_zero_iff.1 ?_⟩
      rw [h0, Nat.zero_mul] at hf1
      omega
    · exact .inl (fun e => by rw [e] at e1; simp at e1; omega)
  · obtain ⟨v, hv⟩ := c1
    exact ⟨v, (hlang v).1 hv⟩

end Ex
end Go.Proofs.YtfajoknacfjedaaGreatDoor
namespace Go.Proofs.YtfajoknacfjedaaGreatDoor
open Go.RowKit
namespace Ex

section
variable {ts : List (Int × Int × Nat)} {fs : List (Nat × Nat)} {first : Nat}
/-- What is known of a net that runs. -/
structure Runs (ts : List (Int × Int × Nat)) (fs : List (Nat × Nat)) (first : Nat) : Prop where
  len : ts.length ≤ 4096
  forks : ∀ f ∈ fs, PlaceOk fs.length f.1 ∧ PlaceOk fs.length f.2
  takers : ∀ t ∈ ts, PlaceOk fs.length t.2.2
  start : PlaceOk fs.length first
  places : NetOk ts fs first
  co : ∀ i, i < ts.length → ∃ v, Acc ts fs v i
end
theorem net_runs {n : Nat} {p : PatN (n + 1)} (hch : checkP p = 0) : Runs (netP n p).2.1 (netP n p).2.2 (netP n p).1 := by
  obtain ⟨_, _, g1, g2, hl, _, _, _, _, hco⟩ := net_all hch
  have hpl : ∀ q, OkP (netP n p).2 q → PlaceOk (netP n p).2.2.length q := fun q hq => by
    unfold PlaceOk
    rcases hq with h | h | h <;> omega
  exact ⟨hl, fun f hf => ⟨hpl _ (g1.2 f hf).1, hpl _ (g1.2 f hf).2⟩, fun t ht => hpl _ (g1.1 t ht), hpl _ g2, ⟨net_places g1 g2, fun t ht => net_places g1 (g1.1 t ht)⟩, hco⟩
/-- How long the longest front is, and how many bytes are live. -/
def runP (n : Nat) (p : PatN (n + 1)) (bs : List Int) : Int × Int := runM (netP n p).2.1 (netP n p).2.2 (netP n p).1 bs
end Ex
end Go.Proofs.YtfajoknacfjedaaGreatDoor
namespace Go.Proofs.YtfajoknacfjedaaGreatDoor
open Go.RowKit
attribute [local go_sem] Oper.semAt_some
namespace Ex

/-- What run tells. -/
def runL {n : Nat} (p : PatN (n + 1)) (bs : List Int) : Int := if checkP p = 0 then (runP n p bs).1 else 0
def runR {n : Nat} (p : PatN (n + 1)) (bs : List Int) : Int := if checkP p = 0 then (runP n p bs).2 else 0
set_option linter.unusedSimpArgs false in
set_option maxRecDepth 100000 in
set_option maxHeartbeats 4000000 in
theorem run_bad (n : Nat) (p : PatN (n + 1)) (ck : Int) (hck : checkP p = ck) (hch : ¬ ck = 0) (S : Nat → Prop) (vk : Value) (w : World) (hk : KidsAt S w n (kids p) vk) (hS : ∀ d, S d → d < w.heap.size) (b : Option Addr) (cap len : Nat) :
    Calls Tryz.prog 32 #[valOf p vk, .slice b len cap] w fun e w' => e = .returned (.tuple #[.int .i64 0, .int .i64 0, .int .i64 ck]) ∧ Kept w w' := by
  have HCH := hide1 hck
  have HK := hide1 hk
  have HS := hide1 hS
  have ec : (ck == 0) = false := by simpa using hch
  obtain ⟨ak, ck', rfl⟩ := hk.form
  rw [valOf_eq]
  clear hck hk hS hch
  go_enter Tryz.func32, Tryz.ntmps32
  go_wp2_with (go_at_call 14; refine (Check_is S n p _ _ (HK.out.kept ((Kept.refl w).alloc _ _)) (fun b hb => Nat.lt_of_lt_of_le (HS.out b hb) ((Kept.refl w).alloc _ _).size)).mono ?_; rintro e w6 ⟨rfl, hk6⟩; rw [HCH.out]; have HK6 := hide1 (gtrans ((Kept.refl w).alloc _ _) hk6); clear hk6)
  go_ret3
  exact ⟨rfl, HK6.out⟩
theorem run_all (n : Nat) (p : PatN (n + 1)) (S : Nat → Prop) (vk : Value) (w : World) (hk : KidsAt S w n (kids p) vk) (hS : ∀ d, S d → d < w.heap.size) (hT : TabAt w) (b : Option Addr) (cap : Nat) (bs : List Int) (hb : BytesIn (fun c => c < w.heap.size) w (.slice b bs.length cap) bs) (hbl : bs.length ≤ 262144) :
    Calls Tryz.prog 32 #[valOf p vk, .slice b bs.length cap] w fun e w' => e = .returned (.tuple #[.int .i64 (runL p bs), .int .i64 (runR p bs), .int .i64 (checkP p)]) ∧ Kept w w' := by
  by_cases hch : checkP p = 0
  · obtain ⟨h1, h2, h3, h4, h5, h6, h7, _⟩ := net_all hch
    have hr := net_runs hch
    have := run_g n p hch (thinW n p) h1 (layV (thinW n p).1 (thinW n p).2) (lay_all _ _ h2).1 (netP n p).1 (netP n p).2 rfl h7 ⟨⟨by omega, hr.forks⟩, hr.len, hr.takers⟩ (by omega) hr.start hr.places S vk w hk hS hT b cap bs hb hbl
    unfold runL runR
    rw [if_pos hch, if_pos hch, hch]
    exact this
  · unfold runL runR
    rw [if_neg hch, if_neg hch]
    exact run_bad n p _ rfl hch S vk w hk hS b cap bs.length
theorem run_at (n : Nat) (p : PatN (n + 1)) (S : Nat → Prop) (ak : Option Addr) (ck : Nat) (w : World) (hk : KidsAt S w n (kids p) (.slice ak (kids p).length ck)) (hS : ∀ d, S d → d < w.heap.size) (hT : TabAt w) (b : Option Addr) (cap len : Nat) (bs : List Int) (hn : bs.length = len) (hb : BytesIn (fun c => c < w.heap.size) w (.slice b len cap) bs) (hbl : bs.length ≤ 262144) (x y z : Int) (hx : runL p bs = x) (hy : runR p bs = y) (hz : checkP p = z) :
    Calls Tryz.prog 32 #[.agg #[.int .i64 (kind p), .int .i64 (from_ p), .int .i64 (to_ p), .int .i64 (min_ p), .int .i64 (max_ p), .slice ak (kids p).length ck], .slice b len cap] w fun e w' => e = .returned (.tuple #[.int .i64 x, .int .i64 y, .int .i64 z]) ∧ Kept w w' := by
  subst hx hy hz hn
  exact run_all n p S _ w hk hS hT b cap bs hb hbl
set_option linter.unusedSimpArgs false in
set_option maxRecDepth 100000 in
set_option maxHeartbeats 4000000 in
theorem Longest_is (n : Nat) (p : PatN (n + 1)) (S : Nat → Prop) (vk : Value) (w : World) (hk : KidsAt S w n (kids p) vk) (hS : ∀ d, S d → d < w.heap.size) (hT : TabAt w) (b : Option Addr) (cap len : Nat) (bs : List Int) (hn : bs.length = len) (hb : BytesIn (fun c => c < w.heap.size) w (.slice b len cap) bs) (hbl : bs.length ≤ 262144) :
    Calls Tryz.prog 21 #[valOf p vk, .slice b len cap] w fun e w' => e = .returned (.tuple #[.int .i64 (runL p bs), .int .i64 (checkP p)]) ∧ Kept w w' := by
  have HK := hide1 hk
  have HS := hide1 hS
  have HT := hide1 hT
  have HB := hide1 hb
  have HN := hide1 hn
  have HL := hide1 hbl
  obtain ⟨ak, ck, rfl⟩ := hk.form
  obtain ⟨x, hx⟩ : ∃ x, runL p bs = x := ⟨_, rfl⟩
  obtain ⟨y, hy⟩ : ∃ y, runR p bs = y := ⟨_, rfl⟩
  obtain ⟨z, hz⟩ : ∃ z, checkP p = z := ⟨_, rfl⟩
  rw [hx, hz, valOf_eq]
  have HX := hide1 hx
  have HY := hide1 hy
  have HZ := hide1 hz
  clear hk hS hT hb hn hbl hx hy hz
  go_enter Tryz.func21, Tryz.ntmps21
  go_wp2_with (go_at_call 32; refine (run_at n p S ak ck _ (HK.out.kept ((Kept.refl w).alloc _ _)) (fun d hd => Nat.lt_of_lt_of_le (HS.out d hd) ((Kept.refl w).alloc _ _).size) (HT.out.keep ((Kept.refl w).alloc _ _)) b cap len bs HN.out (HB.out.keepS ((Kept.refl w).alloc _ _) (fun c hc => Nat.lt_of_lt_of_le hc ((Kept.refl w).alloc _ _).size)) HL.out x y z HX.out HY.out HZ.out).mono ?_; rintro e w6 ⟨rfl, hk6⟩; have HK6 := hide1 (gtrans ((Kept.refl w).alloc _ _) hk6); clear hk6)
  go_ret2
  exact ⟨rfl, HK6.out⟩
/-- Match and Live, as they answer. -/
def matchP {n : Nat} (p : PatN (n + 1)) (bs : List Int) : Bool := checkP p == 0 && runL p bs == (bs.length : Int)
def liveP {n : Nat} (p : PatN (n + 1)) (bs : List Int) : Bool := checkP p == 0 && runR p bs == (bs.length : Int)
set_option linter.unusedSimpArgs false in
set_option maxRecDepth 100000 in
set_option maxHeartbeats 4000000 in
theorem Match_is (n : Nat) (p : PatN (n + 1)) (S : Nat → Prop) (vk : Value) (w : World) (hk : KidsAt S w n (kids p) vk) (hS : ∀ d, S d → d < w.heap.size) (hT : TabAt w) (b : Option Addr) (cap len : Nat) (bs : List Int) (hn : bs.length = len) (hb : BytesIn (fun c => c < w.heap.size) w (.slice b len cap) bs) (hbl : bs.length ≤ 262144) :
    Calls Tryz.prog 22 #[valOf p vk, .slice b len cap] w fun e w' => e = .returned (.tuple #[.bool (matchP p bs), .int .i64 (checkP p)]) ∧ Kept w w' := by
  have HK := hide1 hk
  have HS := hide1 hS
  have HT := hide1 hT
  have HB := hide1 hb
  have HN := hide1 hn
  have HL := hide1 hbl
  obtain ⟨ak, ck, rfl⟩ := hk.form
  have HM : Hid (matchP p bs = (checkP p == 0 && runL p bs == (bs.length : Int))) := rfl
  obtain ⟨x, hx⟩ : ∃ x, runL p bs = x := ⟨_, rfl⟩
  obtain ⟨y, hy⟩ : ∃ y, runR p bs = y := ⟨_, rfl⟩
  obtain ⟨z, hz⟩ : ∃ z, checkP p = z := ⟨_, rfl⟩
  rw [hx, hz, hn] at HM
  rw [hz, valOf_eq]
  have HX := hide1 hx
  have HY := hide1 hy
  have HZ := hide1 hz
  clear hk hS hT hb hn hbl hx hy hz
  go_enter Tryz.func22, Tryz.ntmps22
  by_cases hz0 : z = 0
  · have ez : (z == 0) = true := by simpa using hz0
    have HE := hide1 ez
    clear hz0
    go_wp2_with (go_at_call 32; refine (run_at n p S ak ck _ (HK.out.kept ((Kept.refl w).alloc _ _)) (fun d hd => Nat.lt_of_lt_of_le (HS.out d hd) ((Kept.refl w).alloc _ _).size) (HT.out.keep ((Kept.refl w).alloc _ _)) b cap len bs HN.out (HB.out.keepS ((Kept.refl w).alloc _ _) (fun c hc => Nat.lt_of_lt_of_le hc ((Kept.refl w).alloc _ _).size)) HL.out x y z HX.out HY.out HZ.out).mono ?_; rintro e w6 ⟨rfl, hk6⟩; have HK6 := hide1 (gtrans ((Kept.refl w).alloc _ _) hk6); clear hk6)
    go_ret2
    exact ⟨by rw [HM.out, HE.out]; rfl, HK6.out⟩
  · have ez : (z == 0) = false := by simpa using hz0
    have HE := hide1 ez
    clear hz0
    go_wp2_with (go_at_call 32; refine (run_at n p S ak ck _ (HK.out.kept ((Kept.refl w).alloc _ _)) (fun d hd => Nat.lt_of_lt_of_le (HS.out d hd) ((Kept.refl w).alloc _ _).size) (HT.out.keep ((Kept.refl w).alloc _ _)) b cap len bs HN.out (HB.out.keepS ((Kept.refl w).alloc _ _) (fun c hc => Nat.lt_of_lt_of_le hc ((Kept.refl w).alloc _ _).size)) HL.out x y z HX.out HY.out HZ.out).mono ?_; rintro e w6 ⟨rfl, hk6⟩; have HK6 := hide1 (gtrans ((Kept.refl w).alloc _ _) hk6); clear hk6)
    go_ret2
    exact ⟨by rw [HM.out, HE.out]; rfl, HK6.out⟩
set_option linter.unusedSimpArgs false in
set_option maxRecDepth 100000 in
set_option maxHeartbeats 4000000 in
theorem Live_is (n : Nat) (p : PatN (n + 1)) (S : Nat → Prop) (vk : Value) (w : World) (hk : KidsAt S w n (kids p) vk) (hS : ∀ d, S d → d < w.heap.size) (hT : TabAt w) (b : Option Addr) (cap len : Nat) (bs : List Int) (hn : bs.length = len) (hb : BytesIn (fun c => c < w.heap.size) w (.slice b len cap) bs) (hbl : bs.length ≤ 262144) :
    Calls Tryz.prog 23 #[valOf p vk, .slice b len cap] w fun e w' => e = .returned (.tuple #[.bool (liveP p bs), .int .i64 (checkP p)]) ∧ Kept w w' := by
  have HK := hide1 hk
  have HS := hide1 hS
  have HT := hide1 hT
  have HB := hide1 hb
  have HN := hide1 hn
  have HL := hide1 hbl
  obtain ⟨ak, ck, rfl⟩ := hk.form
  have HM : Hid (liveP p bs = (checkP p == 0 && runR p bs == (bs.length : Int))) := rfl
  obtain ⟨x, hx⟩ : ∃ x, runL p bs = x := ⟨_, rfl⟩
  obtain ⟨y, hy⟩ : ∃ y, runR p bs = y := ⟨_, rfl⟩
  obtain ⟨z, hz⟩ : ∃ z, checkP p = z := ⟨_, rfl⟩
  rw [hy, hz, hn] at HM
  rw [hz, valOf_eq]
  have HX := hide1 hx
  have HY := hide1 hy
  have HZ := hide1 hz
  clear hk hS hT hb hn hbl hx hy hz
  go_enter Tryz.func23, Tryz.ntmps23
  by_cases hz0 : z = 0
  · have ez : (z == 0) = true := by simpa using hz0
    have HE := hide1 ez
    clear hz0
    go_wp2_with (go_at_call 32; refine (run_at n p S ak ck _ (HK.out.kept ((Kept.refl w).alloc _ _)) (fun d hd => Nat.lt_of_lt_of_le (HS.out d hd) ((Kept.refl w).alloc _ _).size) (HT.out.keep ((Kept.refl w).alloc _ _)) b cap len bs HN.out (HB.out.keepS ((Kept.refl w).alloc _ _) (fun c hc => Nat.lt_of_lt_of_le hc ((Kept.refl w).alloc _ _).size)) HL.out x y z HX.out HY.out HZ.out).mono ?_; rintro e w6 ⟨rfl, hk6⟩; have HK6 := hide1 (gtrans ((Kept.refl w).alloc _ _) hk6); clear hk6)
    go_ret2
    exact ⟨by rw [HM.out, HE.out]; rfl, HK6.out⟩
  · have ez : (z == 0) = false := by simpa using hz0
    have HE := hide1 ez
    clear hz0
    go_wp2_with (go_at_call 32; refine (run_at n p S ak ck _ (HK.out.kept ((Kept.refl w).alloc _ _)) (fun d hd => Nat.lt_of_lt_of_le (HS.out d hd) ((Kept.refl w).alloc _ _).size) (HT.out.keep ((Kept.refl w).alloc _ _)) b cap len bs HN.out (HB.out.keepS ((Kept.refl w).alloc _ _) (fun c hc => Nat.lt_of_lt_of_le hc ((Kept.refl w).alloc _ _).size)) HL.out x y z HX.out HY.out HZ.out).mono ?_; rintro e w6 ⟨rfl, hk6⟩; have HK6 := hide1 (gtrans ((Kept.refl w).alloc _ _) hk6); clear hk6)
    go_ret2
    exact ⟨by rw [HM.out, HE.out]; rfl, HK6.out⟩

end Ex
end Go.Proofs.YtfajoknacfjedaaGreatDoor
namespace Go.Proofs.YtfajoknacfjedaaGreatDoor
open Go.RowKit
attribute [local go_sem] Oper.semAt_some
namespace Ex

def L8 (k : Nat) : Nat := if k < 1 then 0 else if k < 2 then 1 else if k < 4 then 2 else if k < 8 then 3 else if k < 16 then 4 else if k < 32 then 5 else if k < 64 then 6 else if k < 128 then 7 else 8
theorem len8_all : ∀ k : Fin 256, (Lib.len8tab[k.val]'(by rw [Lib.len8tab_size]; exact k.isLt)).toNat = L8 k.val := by decide +kernel
theorem len8_at (x : Nat) (h : x < Lib.len8tab.size) : (Lib.len8tab[x]'h).toNat = L8 x := len8_all ⟨x, by rw [← Lib.len8tab_size]; exact h⟩
theorem wrap_small {z : Int} (h0 : 0 ≤ z) (h1 : z ≤ 100000) : wrap64 z = z := by
  unfold wrap64
  omega
theorem ret_i {z y : Int} (h : z = y) : Ending.returned (Value.int .i64 z) = Ending.returned (Value.int .i64 y) := by rw [h]
set_option linter.unusedSimpArgs false in
set_option maxRecDepth 100000 in
set_option maxHeartbeats 4000000 in
theorem len64_is (x : Int) (w : World) (h0 : 100 ≤ x) (h1 : x ≤ 1000) : Calls Tryz.prog 107 #[.int .u64 x] w fun r w' => r = .returned (.int .i64 (if x < 128 then 7 else if x < 256 then 8 else if x < 512 then 9 else 10)) ∧ w' = w := by
  have hs8 := Lib.len8tab_size
  by_cases h7 : x < 128
  · rw [if_pos h7]
    go_enter Tryz.func107, Tryz.ntmps107
    go_wp2_with fail
    go_ret
    have e : (Lib.len8tab[x.toNat]'(by rw [Lib.len8tab_size]; omega)).toNat = 7 := (len8_at x.toNat _).trans (by unfold L8; (repeat' split) <;> omega)
    exact ⟨ret_i (Eq.trans (congrArg (fun n : Nat => wrap64 (wrap64 (n : Int))) e) (by rw [wrap_small (z := ((_ : Nat) : Int)) (by omega) (by omega), wrap_small (by omega) (by omega)]; rfl)), rfl⟩
  · by_cases h8 : x < 256
    · rw [if_neg h7, if_pos h8]
      go_enter Tryz.func107, Tryz.ntmps107
      go_wp2_with fail
      go_ret
      have e : (Lib.len8tab[x.toNat]'(by rw [Lib.len8tab_size]; omega)).toNat = 8 := (len8_at x.toNat _).trans (by unfold L8; (repeat' split) <;> omega)
      exact ⟨ret_i (Eq.trans (congrArg (fun n : Nat => wrap64 (wrap64 (n : Int))) e) (by rw [wrap_small (z := ((_ : Nat) : Int)) (by omega) (by omega), wrap_small (by omega) (by omega)]; rfl)), rfl⟩
    · by_cases h9 : x < 512
      · rw [if_neg h7, if_neg h8, if_pos h9]
        go_enter Tryz.func107, Tryz.ntmps107
        go_wp2_with fail
        go_ret
        have e : (Lib.len8tab[(x / 256).toNat]'(by rw [Lib.len8tab_size]; omega)).toNat = 1 := (len8_at (x / 256).toNat _).trans (by unfold L8; (repeat' split) <;> omega)
        exact ⟨ret_i (Eq.trans (congrArg (fun n : Nat => wrap64 (8 + wrap64 (n : Int))) e) (by rw [wrap_small (z := ((_ : Nat) : Int)) (by omega) (by omega), wrap_small (by omega) (by omega)]; rfl)), rfl⟩
      · rw [if_neg h7, if_neg h8, if_neg h9]
        go_enter Tryz.func107, Tryz.ntmps107
        go_wp2_with fail
        go_ret
        have e : (Lib.len8tab[(x / 256).toNat]'(by rw [Lib.len8tab_size]; omega)).toNat = 2 := (len8_at (x / 256).toNat _).trans (by unfold L8; (repeat' split) <;> omega)
        exact ⟨ret_i (Eq.trans (congrArg (fun n : Nat => wrap64 (8 + wrap64 (n : Int))) e) (by rw [wrap_small (z := ((_ : Nat) : Int)) (by omega) (by omega), wrap_small (by omega) (by omega)]; rfl)), rfl⟩
set_option linter.unusedSimpArgs false in
set_option maxRecDepth 100000 in
set_option maxHeartbeats 4000000 in
theorem log_is (x : Int) (w : World) (h0 : 0 ≤ x) (h1 : x ≤ 100) : Calls Tryz.prog 106 #[.int .i64 x] w fun r w' => r = .returned (.int .i64 (x * 78913 / 262144)) ∧ w' = w := by
  go_enter Tryz.func106, Tryz.ntmps106
  go_wp2_with fail
  go_ret
  exact ⟨rfl, rfl⟩
set_option linter.unusedSimpArgs false in
set_option maxRecDepth 100000 in
set_option maxHeartbeats 4000000 in
theorem bool2_is (b : Bool) (w : World) : Calls Tryz.prog 108 #[.bool b] w fun r w' => r = .returned (.int .i64 (if b then 1 else 0)) ∧ w' = w := by
  go_enter Tryz.func108, Tryz.ntmps108
  cases b with
  | true =>
    go_wp2
    go_ret
    exact ⟨rfl, rfl⟩
  | false =>
    go_wp2
    go_ret
    exact ⟨rfl, rfl⟩

end Ex
end Go.Proofs.YtfajoknacfjedaaGreatDoor
namespace Go.Proofs.YtfajoknacfjedaaGreatDoor
open Go.RowKit
attribute [local go_sem] Oper.semAt_some
namespace Ex

/-- The table of powers lies in its variable (as far as it is read here). -/
def PowAt (w : World) : Prop := w.cell? ⟨2, 2, none⟩ = some (.int .u64 100) ∧ w.cell? ⟨2, 3, none⟩ = some (.int .u64 1000)
theorem PowAt.keep {w w' : World} (h : PowAt w) (hk : Kept w w') : PowAt w' := ⟨grown_cell hk h.1, grown_cell hk h.2⟩
set_option linter.unusedSimpArgs false in
set_option maxRecDepth 100000 in
set_option maxHeartbeats 4000000 in
theorem digits_is (x : Int) (w : World) (h0 : 100 ≤ x) (h1 : x ≤ 1000) (hP : PowAt w) : Calls Tryz.prog 103 #[.int .u64 x] w fun r w' => r = .returned (.int .i64 (if x < 1000 then 3 else 4)) ∧ Kept w w' := by
  obtain ⟨p2, p3⟩ := hP
  have hl : ∃ l : Int, (if x < 128 then 7 else if x < 256 then 8 else if x < 512 then 9 else 10) = l ∧ 7 ≤ l ∧ l ≤ 10 ∧ (l = 10 ↔ 512 ≤ x) := by
    refine ⟨_, rfl, ?_⟩
    (repeat' split) <;> omega
  obtain ⟨l, hl, l7, l10, lx⟩ := hl
  have HL := hide1 hl
  clear hl
  by_cases hx : 512 ≤ x
  · have HN : Hid (l * 78913 / 262144 = 3) := by show _ = _; have := lx.2 hx; subst this; rfl
    clear l7 l10 lx
    have l7 : 0 ≤ l := by have := HL.out; (repeat' split at this) <;> omega
    have l10 : l ≤ 100 := by have := HL.out; (repeat' split at this) <;> omega
    by_cases hk : x < 1000
    · rw [if_pos hk]
      go_enter Tryz.func103, Tryz.ntmps103
      go_wp2_with (first
        | (go_at_call 107; refine (len64_is x _ h0 h1).mono ?_; rintro e w6 ⟨rfl, rfl⟩; rw [HL.out])
        | (go_at_call 106; refine (log_is l _ (by omega) (by omega)).mono ?_; rintro e w6 ⟨rfl, rfl⟩; rw [HN.out])
        | (go_at_call 108; refine (bool2_is _ _).mono ?_; rintro e w6 ⟨rfl, rfl⟩))
      go_ret
      exact ⟨rfl, Kept.refl _⟩
    · rw [if_neg hk]
      go_enter Tryz.func103, Tryz.ntmps103
      go_wp2_with (first
        | (go_at_call 107; refine (len64_is x _ h0 h1).mono ?_; rintro e w6 ⟨rfl, rfl⟩; rw [HL.out])
        | (go_at_call 106; refine (log_is l _ (by omega) (by omega)).mono ?_; rintro e w6 ⟨rfl, rfl⟩; rw [HN.out])
        | (go_at_call 108; refine (bool2_is _ _).mono ?_; rintro e w6 ⟨rfl, rfl⟩))
      go_ret
      exact ⟨rfl, Kept.refl _⟩
  · have HN : Hid (l * 78913 / 262144 = 2) := by show _ = _; have : l ≠ 10 := fun e => hx (lx.1 e); omega
    clear lx
    rw [if_pos (by omega)]
    go_enter Tryz.func103, Tryz.ntmps103
    go_wp2_with (first
      | (go_at_call 107; refine (len64_is x _ h0 h1).mono ?_; rintro e w6 ⟨rfl, rfl⟩; rw [HL.out])
      | (go_at_call 106; refine (log_is l _ (by omega) (by omega)).mono ?_; rintro e w6 ⟨rfl, rfl⟩; rw [HN.out])
      | (go_at_call 108; refine (bool2_is _ _).mono ?_; rintro e w6 ⟨rfl, rfl⟩))
    go_ret
    exact ⟨rfl, Kept.refl _⟩

end Ex
end Go.Proofs.YtfajoknacfjedaaGreatDoor
