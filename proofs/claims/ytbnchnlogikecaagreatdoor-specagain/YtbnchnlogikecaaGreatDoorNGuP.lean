import Derived.Test.YtbnchnlogikecaaGreatDoorNGsF
import Derived.Test.YtbnchnlogikecaaGreatDoorNGt4
import Derived.Test.YtbnchnlogikecaaGreatDoorNGu9
import Derived.Test.YtbnchnlogikecaaGreatDoorNGuE
namespace Go.Proofs.YtbnchnlogikecaaGreatDoor
open Go.RowKit
set_option linter.unusedVariables false
namespace Ex
namespace Gu
open Sh Gs
theorem slash_lt {T : ByteArray} {j : Nat} (h : slashes T j = true) : j + 2 ≤ T.size := by
  unfold slashes slash2 at h
  simp only [Bool.and_eq_true, decide_eq_true_eq] at h
  have h1 := h.1
  rw [ByteArray.size_extract] at h1
  omega
def comG (T : ByteArray) (j : Nat) : Nat := comF T (T.size - j) j
theorem comG_stop {T : ByteArray} {j : Nat} (hc : ¬ slashes T j = true) : comG T j = j := com_stop hc
def wordG (T : ByteArray) (j : Nat) : Nat := wordF T (T.size - j) j
theorem next_pl (T : ByteArray) (k : Nat) : (nextM T k).pl = comB T k := by
  unfold nextM
  split
  · split <;> rfl
  · rfl
def Rest (T : ByteArray) (k : Nat) (l : List UInt8) : Prop := k ≤ T.size ∧ (bl T).drop k = l
theorem Rest.all (T : ByteArray) : Rest T 0 (bl T) := ⟨Nat.zero_le _, rfl⟩
theorem Rest.size {T : ByteArray} {k : Nat} {l : List UInt8} (h : Rest T k l) : k + l.length = T.size := by
  have h1 := congrArg List.length h.2
  rw [List.length_drop, bl_len] at h1
  have := h.1
  omega
theorem Rest.app {T : ByteArray} {k : Nat} {a l : List UInt8} (h : Rest T k (a ++ l)) : Rest T (k + a.length) l := by
  have hs := h.size
  rw [List.length_append] at hs
  refine ⟨by omega, ?_⟩
  rw [← List.drop_drop, h.2, List.drop_left]
theorem Rest.next {T : ByteArray} {k : Nat} {c : UInt8} {l : List UInt8} (h : Rest T k (c :: l)) : k < T.size ∧ peekP T (k : Int) = (c.toNat : Int) ∧ Rest T (k + 1) l := by
  have hs := h.size
  rw [List.length_cons] at hs
  have hk : k < T.size := by omega
  refine ⟨hk, ?_, Rest.app (a := [c]) h⟩
  have h1 := congrArg (fun x => x[0]?) h.2
  simp only [List.getElem?_drop, Nat.add_zero, List.getElem?_cons_zero] at h1
  unfold bl at h1
  rw [Array.getElem?_toList] at h1
  obtain ⟨h2, h3⟩ := Array.getElem?_eq_some_iff.1 h1
  unfold peekP
  rw [dif_pos ⟨by omega, by omega⟩]
  have h4 : T[k]'hk = c := h3
  simp only [Int.toNat_natCast, h4]
theorem Rest.ext {T : ByteArray} {k : Nat} {a l : List UInt8} (h : Rest T k (a ++ l)) : T.extract k (k + a.length) = ⟨a.toArray⟩ := by
  have hs := h.size
  rw [List.length_append] at hs
  have e : bl (T.extract k (k + a.length)) = a := by
    unfold bl
    rw [ByteArray.data_extract, Array.toList_extract]
    have h2 : T.data.toList.drop k = a ++ l := h.2
    rw [List.extract_eq_take_drop, h2, show k + a.length - k = a.length by omega, List.take_left]
  have e2 : T.extract k (k + a.length) = ⟨(bl (T.extract k (k + a.length))).toArray⟩ := by
    unfold bl
    rw [Array.toArray_toList]
  rw [e] at e2
  exact e2
def StopL (l : List UInt8) : Prop := ∀ c l', l = c :: l' → blankB (c.toNat : Int) = false ∧ c.toNat ≠ 47
theorem skip_rest {T : ByteArray} : ∀ (f : List UInt8) {k : Nat} {l : List UInt8}, Rest T k (f ++ l) → (∀ c ∈ f, blankB (c.toNat : Int) = true) → (∀ c l', l = c :: l' → blankB (c.toNat : Int) = false) → skipB T k = k + f.length
  | [], k, l, h, _, hl => by
    refine skip_stop (fun e => ?_)
    cases l with
    | nil => have := h.size; simp at this; omega
    | cons c l =>
      have h2 := hl c l rfl
      rw [← (Rest.next h).2.1] at h2
      rw [h2] at e
      cases e.2
  | c :: f, k, l, h, hf, hl => by
    obtain ⟨h1, h2, h3⟩ := Rest.next h
    rw [skip_step h1 (by rw [h2]; exact hf c (List.mem_cons_self ..)), skip_rest f h3 (fun d hd => hf d (List.mem_cons_of_mem _ hd)) hl, List.length_cons]
    omega
theorem com_rest {T : ByteArray} {f l : List UInt8} {k : Nat} (h : Rest T k (f ++ l)) (hf : ∀ c ∈ f, blankB (c.toNat : Int) = true) (hl : StopL l) : comB T k = k + f.length := by
  have h1 := skip_rest f h hf (fun c l' e => (hl c l' e).1)
  show comG T (skipB T k) = _
  rw [h1]
  refine comG_stop (fun e => ?_)
  have h2 := Rest.app h
  cases l with
  | nil => have := slash_lt e; have := h2.size; simp at this; omega
  | cons c l =>
    have h3 := (slash_byte h2.1 e).2
    rw [(Rest.next h2).2.1] at h3
    exact (hl c l rfl).2 (by omega)
def isWd (j : Nat) (c : UInt8) : Prop := lettU (c.toNat : Int) = true ∨ 0 < j ∧ digitP (c.toNat : Int) = true
theorem word_rest {X : ByteArray} : ∀ (w : List UInt8) {j : Nat} {l : List UInt8}, Rest X j (w ++ l) → (∀ i c, w[i]? = some c → isWd (j + i) c) → (∀ c l', l = c :: l' → ¬ isWd (j + w.length) c) → wordG X j = j + w.length
  | [], j, l, h, _, hl => by
    by_cases hj : j < X.size
    · refine wordF_stop (fun e => ?_)
      cases l with
      | nil => have := h.size; simp at this; omega
      | cons c l =>
        rw [(Rest.next h).2.1] at e
        exact hl c l rfl e
    · unfold wordG
      rw [show X.size - j = 0 by omega]
      rfl
  | c :: w, j, l, h, hw, hl => by
    obtain ⟨h1, h2, h3⟩ := Rest.next h
    have e : wordG X j = wordG X (j + 1) := wordF_step h1 (by rw [h2]; exact hw 0 c rfl)
    rw [e, word_rest w h3 (fun i d hd => by have := hw (i + 1) d (by simpa using hd); rwa [show j + 1 + i = j + (i + 1) by omega]) (fun d l' e => by have := hl d l' e; rw [List.length_cons] at this; rwa [show j + 1 + w.length = j + (w.length + 1) by omega]), List.length_cons]
    omega
def WordL (w : List UInt8) : Prop := (∃ c w', w = c :: w' ∧ lettU (c.toNat : Int) = true) ∧ ∀ i c, w[i]? = some c → isWd i c
theorem rest_tail {T : ByteArray} {k : Nat} {l : List UInt8} (h : Rest T k l) : Rest (T.extract k T.size) 0 l := by
  have h1 := h.size
  have e := Rest.ext (a := l) (l := []) (by rw [List.append_nil]; exact h)
  rw [h1] at e
  rw [e]
  exact ⟨Nat.zero_le _, rfl⟩
theorem next_word {T : ByteArray} {k c : Nat} {w l : List UInt8} (hc : comB T k = c) (h : Rest T c (w ++ l)) (hw : WordL w) (hl : ∀ d l', l = d :: l' → ¬ isWd 1 d) : nextM T k = ⟨2, c, ⟨w.toArray⟩, c + w.length⟩ := by
  obtain ⟨⟨x, w', rfl, hx⟩, hw2⟩ := hw
  obtain ⟨h1, h2, _⟩ := Rest.next (l := w' ++ l) h
  have hk : kindU (peekP T (c : Int)) = 2 := by rw [h2]; unfold kindU; rw [if_pos hx]
  have hn : wordN (T.extract c T.size) = (x :: w').length := by
    have := word_rest (X := T.extract c T.size) (x :: w') (rest_tail h) (fun i d hd => by rw [Nat.zero_add]; exact hw2 i d hd) (fun d l' e hi => hl d l' e (by
      rcases hi with hi | hi
      · exact .inl hi
      · exact .inr ⟨by decide, hi.2⟩))
    rw [Nat.zero_add] at this
    exact this
  unfold nextM
  rw [hc, if_pos h1, if_pos hk, hn, Rest.ext h]
theorem next_sign {T : ByteArray} {k c : Nat} {x : UInt8} {l : List UInt8} (hc : comB T k = c) (h : Rest T c (x :: l)) (hx : x.toNat = 61 ∨ x.toNat = 124 ∨ x.toNat = 59) : nextM T k = ⟨(x.toNat : Int), c, ⟨#[]⟩, c + 1⟩ := by
  obtain ⟨h1, h2, _⟩ := Rest.next h
  have hl : lettU (x.toNat : Int) = false := by
    unfold lettU
    rcases hx with e | e | e <;> rw [e] <;> decide
  have hk : kindU (peekP T (c : Int)) = (x.toNat : Int) := by
    rw [h2]
    unfold kindU
    rw [if_neg (by rw [hl]; decide), if_pos (by omega)]
  unfold nextM
  rw [hc, if_pos h1, hk, if_neg (by omega)]
  rfl
theorem next_end {T : ByteArray} {k c : Nat} (hc : comB T k = c) (h : Rest T c []) : nextM T k = ⟨0, c, ⟨#[]⟩, c⟩ := by
  have hs := h.size
  unfold nextM
  rw [hc, if_neg (by simp at hs; omega)]
  rfl
def ints (P : List UInt8) : List Int := P.map fun c => (c.toNat : Int)
theorem pass_no10 : ∀ (n : Nat) (a : List Int), a.length ≤ n → passL a = true → (10 : Int) ∉ a
  | _, [], _, _ => by simp
  | 0, _ :: _, hn, _ => by simp at hn
  | n + 1, [c], hn, ha => by
    simp only [passL, Bool.and_eq_true, decide_eq_true_eq] at ha
    intro h
    simp only [List.mem_cons, List.not_mem_nil, or_false] at h
    exact ha.2 h.symm
  | n + 1, c :: d :: l, hn, ha => by
    rw [passL] at ha
    intro h
    by_cases hc : c = 92
    · rw [if_pos hc] at ha
      simp only [Bool.and_eq_true, decide_eq_true_eq] at ha
      rcases List.mem_cons.1 h with e | h
      · omega
      rcases List.mem_cons.1 h with e | h
      · exact ha.1 e.symm
      · exact pass_no10 n l (by simp at hn; omega) ha.2 h
    · rw [if_neg hc] at ha
      simp only [Bool.and_eq_true, decide_eq_true_eq] at ha
      rcases List.mem_cons.1 h with e | h
      · exact ha.1.2 e.symm
      · exact pass_no10 n (d :: l) (by simp at hn ⊢; omega) ha.2 h
theorem clos_rest {T : ByteArray} : ∀ (n : Nat) (P : List UInt8) {l : List UInt8} {i f : Nat}, P.length ≤ n → Rest T i (P ++ 47 :: l) → passL (ints P) = true → T.size ≤ f + i → closF T f i = some (i + P.length)
  | _, [], l, i, f, _, h, _, hf => by
    obtain ⟨h1, h2, _⟩ := Rest.next (show Rest T i (47 :: l) from h)
    obtain ⟨g, rfl⟩ : ∃ g, f = g + 1 := ⟨f - 1, by omega⟩
    have h3 : peekP T (i : Int) = 47 := h2
    rw [closF, if_pos h1, h3, if_neg (by decide), if_pos rfl]
    rfl
  | 0, _ :: _, l, i, f, hn, _, _, _ => by simp at hn
  | n + 1, [c], l, i, f, hn, h, hp, hf => by
    obtain ⟨h1, h2, h3⟩ := Rest.next (show Rest T i (c :: 47 :: l) from h)
    obtain ⟨g, rfl⟩ : ∃ g, f = g + 1 := ⟨f - 1, by omega⟩
    have hp : passL [(c.toNat : Int)] = true := hp
    simp only [passL, Bool.and_eq_true, decide_eq_true_eq] at hp
    rw [closF, if_pos h1, h2, if_neg hp.1.1, if_neg hp.1.2]
    exact clos_rest n [] (by simp) h3 rfl (by omega)
  | n + 1, c :: d :: P, l, i, f, hn, h, hp, hf => by
    obtain ⟨h1, h2, h3⟩ := Rest.next (show Rest T i (c :: (d :: P ++ 47 :: l)) from h)
    obtain ⟨h4, h5, h6⟩ := Rest.next (show Rest T (i + 1) (d :: (P ++ 47 :: l)) from h3)
    obtain ⟨g, rfl⟩ : ∃ g, f = g + 1 := ⟨f - 1, by omega⟩
    have hp : passL ((c.toNat : Int) :: (d.toNat : Int) :: ints P) = true := hp
    rw [passL] at hp
    rw [closF, if_pos h1, h2]
    by_cases hc : (c.toNat : Int) = 92
    · rw [if_pos hc] at hp ⊢
      simp only [Bool.and_eq_true, decide_eq_true_eq] at hp
      have e := clos_rest n P (f := g) (i := i + 2) (by simp at hn; omega) h6 hp.2 (by omega)
      rw [e]
      simp only [List.length_cons]
      congr 1
      omega
    · rw [if_neg hc] at hp ⊢
      simp only [Bool.and_eq_true, decide_eq_true_eq] at hp
      rw [if_neg hp.1.1]
      have e := clos_rest n (d :: P) (f := g) (i := i + 1) (by simp at hn ⊢; omega) h3 hp.2 (by omega)
      rw [e]
      simp only [List.length_cons]
      congr 1
      omega
theorem pat_rest {T : ByteArray} {k : Nat} {f P l : List UInt8} {q : Pat} {pl : Int} (h : Rest T k (f ++ 47 :: (P ++ 47 :: l))) (hf : ∀ c ∈ f, blankB (c.toNat : Int) = true) (hp : passL (ints P) = true) (hq : parseM ⟨P.toArray⟩ = (q, 0, pl)) : patM T k = .ok (q, k + f.length + 1 + P.length + 1) := by
  have h1 : skipB T k = k + f.length := skip_rest f h hf (fun c l' e => by
    injection e with e1 e2
    subst e1
    decide +kernel)
  obtain ⟨h2, h3, h4⟩ := Rest.next (Rest.app h)
  have h3' : peekP T ((k + f.length : Nat) : Int) = 47 := h3
  have hc : closU T (k + f.length) = some (k + f.length + 1 + P.length) := clos_rest P.length P (Nat.le_refl _) h4 hp (by omega)
  have e1 : T.extract (k + f.length) (k + f.length + 1 + P.length) = ⟨(47 :: P).toArray⟩ := by
    have := Rest.ext (a := 47 :: P) (l := 47 :: l) (Rest.app h)
    rw [List.length_cons] at this
    rw [← this]
    congr 1
    omega
  have e2 : T.extract (k + f.length + 1) (k + f.length + 1 + P.length) = ⟨P.toArray⟩ := Rest.ext h4
  have hn : firstIdx (T.extract (k + f.length) (k + f.length + 1 + P.length)) 10 = -1 := by
    rw [e1]
    refine firstIdx_none _ _ (fun b hb e => ?_)
    subst e
    have hb : (10 : UInt8) ∈ (47 : UInt8) :: P := by simpa using hb
    rcases List.mem_cons.1 hb with e | hb
    · exact absurd e (by decide)
    · exact pass_no10 _ _ (Nat.le_refl _) hp (List.mem_map.2 ⟨10, hb, rfl⟩)
  have hE : Gs.clE T (k + f.length) = some (k + f.length + 1 + P.length) := by
    unfold Gs.clE
    rw [hc]
    dsimp only
    rw [hn, if_pos (by decide)]
  unfold patM
  rw [h1, if_pos ⟨h2, h3'⟩, hE]
  dsimp only
  rw [e2, hq]
  simp
def Fil (f : List UInt8) : Prop := (∀ T k l, Rest T k (f ++ l) → StopL l → comB T k = k + f.length) ∧ ∀ c f', f = c :: f' → ¬ isWd 1 c
def Bla (f : List UInt8) : Prop := ∀ c ∈ f, blankB (c.toNat : Int) = true
theorem blank_byte : ∀ c : UInt8, blankB (c.toNat : Int) = true → c = 9 ∨ c = 10 ∨ c = 13 ∨ c = 32 := by
  intro c h
  unfold blankB at h
  rw [firstIdx_nonneg] at h
  have e : (c.toNat : Int).toNat.toUInt8 = c := by simp
  rw [e] at h
  simp only [List.any_cons, List.any_nil, Bool.or_false, Bool.or_eq_true, beq_iff_eq] at h
  rcases h with h | h | h | h
  · exact .inl h.symm
  · exact .inr (.inl h.symm)
  · exact .inr (.inr (.inl h.symm))
  · exact .inr (.inr (.inr h.symm))
theorem blank_nowd {c : UInt8} (h : blankB (c.toNat : Int) = true) : ¬ isWd 1 c := by
  unfold isWd lettU digitP
  rcases blank_byte c h with rfl | rfl | rfl | rfl <;> decide
theorem Bla.fil {f : List UInt8} (h : Bla f) : Fil f :=
  ⟨fun T k l hr hl => com_rest hr h hl, fun c f' e => blank_nowd (h c (by rw [e]; exact List.mem_cons_self ..))⟩
theorem bla_nil : Bla [] := fun c h => by cases h
theorem bla_one : Bla [32] := fun c h => by
  simp only [List.mem_cons, List.not_mem_nil, or_false] at h
  subst h
  decide +kernel
theorem bla_line : Bla [10] := fun c h => by
  simp only [List.mem_cons, List.not_mem_nil, or_false] at h
  subst h
  decide +kernel
theorem sign_stop {x : UInt8} {l : List UInt8} (hx : x.toNat = 61 ∨ x.toNat = 124 ∨ x.toNat = 59) : StopL (x :: l) := by
  intro c l' e
  injection e with e1 e2
  subst e1
  refine ⟨?_, by omega⟩
  have : x = 61 ∨ x = 124 ∨ x = 59 := by
    rcases hx with h | h | h
    · exact .inl (UInt8.toNat_inj.1 h)
    · exact .inr (.inl (UInt8.toNat_inj.1 h))
    · exact .inr (.inr (UInt8.toNat_inj.1 h))
  rcases this with rfl | rfl | rfl <;> decide +kernel
theorem lett_stop {c : UInt8} (h : lettU (c.toNat : Int) = true) : blankB (c.toNat : Int) = false ∧ c.toNat ≠ 47 := by
  refine ⟨?_, fun e => ?_⟩
  · cases hb : blankB (c.toNat : Int) with
    | false => rfl
    | true => exact absurd (Or.inl h) (blank_nowd hb)
  · rw [e] at h
    revert h
    decide
theorem word_stop {w l : List UInt8} (h : WordL w) : StopL (w ++ l) := by
  obtain ⟨⟨c, w', rfl, hc⟩, _⟩ := h
  intro d l' e
  injection e with e1 e2
  subst e1
  exact lett_stop hc
theorem sign_nowd {x : UInt8} (hx : x.toNat = 61 ∨ x.toNat = 124 ∨ x.toNat = 59) : ¬ isWd 1 x := by
  unfold isWd lettU digitP
  rcases hx with e | e | e <;> rw [e] <;> decide
theorem fil_nowd {f l : List UInt8} (hf : Fil f) (hl : f = [] → ∀ d l', l = d :: l' → ¬ isWd 1 d) : ∀ d l', f ++ l = d :: l' → ¬ isWd 1 d := by
  intro d l' e
  cases f with
  | nil => exact hl rfl d l' e
  | cons c f' =>
    injection e with e1 e2
    subst e1
    exact hf.2 c f' rfl
theorem word_at {T : ByteArray} {k : Nat} {f w l : List UInt8} (h : Rest T k (f ++ (w ++ l))) (hf : Fil f) (hw : WordL w) (hl : ∀ d l', l = d :: l' → ¬ isWd 1 d) :
    nextM T k = ⟨2, k + f.length, ⟨w.toArray⟩, k + f.length + w.length⟩ ∧ Rest T (k + f.length + w.length) l :=
  ⟨next_word (hf.1 T k _ h (word_stop hw)) (Rest.app h) hw hl, Rest.app (Rest.app h)⟩
theorem sign_at_ {T : ByteArray} {k : Nat} {f l : List UInt8} {x : UInt8} (h : Rest T k (f ++ x :: l)) (hf : Fil f) (hx : x.toNat = 61 ∨ x.toNat = 124 ∨ x.toNat = 59) :
    nextM T k = ⟨(x.toNat : Int), k + f.length, ⟨#[]⟩, k + f.length + 1⟩ ∧ Rest T (k + f.length + 1) l :=
  ⟨next_sign (hf.1 T k _ h (sign_stop hx)) (Rest.app h) hx, (Rest.next (Rest.app h)).2.2⟩
theorem signM_at {T : ByteArray} {s : RSt} {f l : List UInt8} {x : UInt8} (h : Rest T s.k (f ++ x :: l)) (hf : Fil f) (hx : x.toNat = 61 ∨ x.toNat = 124 ∨ x.toNat = 59) :
    signM T (x.toNat : Int) s = .ok { s with k := s.k + f.length + 1 } ∧ Rest T (s.k + f.length + 1) l := by
  obtain ⟨h1, h2⟩ := sign_at_ h hf hx
  refine ⟨?_, h2⟩
  unfold signM
  rw [h1, if_pos rfl]
theorem rule_rest {T : ByteArray} {pl pp : Int} {tr : Bool} {s : RSt} {f1 nm f2 f3 P f4 l : List UInt8} {q : Pat}
    (h : Rest T s.k (f1 ++ (nm ++ (f2 ++ 61 :: (f3 ++ 47 :: (P ++ 47 :: (f4 ++ 59 :: l))))))) (h1 : Fil f1) (h2 : Fil f2) (h3 : Bla f3) (h4 : Fil f4) (hw : WordL nm) (hn : nmE 2 ⟨nm.toArray⟩ = 0)
    (hg : (given s.giv ⟨nm.toArray⟩).1 = 0) (hx : s.lex.length ≠ 64) (hp : passL (ints P) = true) (hq : parseM ⟨P.toArray⟩ = (q, 0, pp)) :
    ∃ k', ruleM T pl tr s = .ok { s with k := k', giv := putG s.giv ⟨nm.toArray⟩ (1, (s.lex.length : Int)), gn := s.gn + 1, lex := s.lex ++ [(⟨nm.toArray⟩, tr, q)] } ∧ Rest T k' l := by
  obtain ⟨e1, r1⟩ := word_at h h1 hw (fil_nowd h2 (fun _ d l' e => by injection e with e1 e2; subst e1; exact sign_nowd (.inl rfl)))
  unfold ruleM
  rw [if_neg hx, e1]
  have eg : giveM ⟨2, s.k + f1.length, ⟨nm.toArray⟩, s.k + f1.length + nm.length⟩ 1 (s.lex.length : Int) { s with k := s.k + f1.length + nm.length } = .ok { s with k := s.k + f1.length + nm.length, giv := putG s.giv ⟨nm.toArray⟩ (1, (s.lex.length : Int)), gn := s.gn + 1 } := by
    unfold giveM
    rw [if_neg (by rw [hn]; decide), if_neg (by rw [hg]; decide)]
  dsimp only
  rw [eg]
  obtain ⟨e2, r2⟩ := signM_at (x := 61) (s := { s with k := s.k + f1.length + nm.length, giv := putG s.giv ⟨nm.toArray⟩ (1, (s.lex.length : Int)), gn := s.gn + 1 }) r1 h2 (.inl rfl)
  have e2' : signM T 61 { s with k := s.k + f1.length + nm.length, giv := putG s.giv ⟨nm.toArray⟩ (1, (s.lex.length : Int)), gn := s.gn + 1 } = _ := e2
  show ∃ k', (((signM T 61 { s with k := s.k + f1.length + nm.length, giv := putG s.giv ⟨nm.toArray⟩ (1, (s.lex.length : Int)), gn := s.gn + 1 }).bind _) = _) ∧ _
  rw [e2']
  have e3 := pat_rest r2 h3 hp hq
  have r3 := Rest.app (a := [47]) (Rest.app (Rest.app (a := [47]) (Rest.app r2)))
  show ∃ k', (((patM T _).bind _) = _) ∧ _
  dsimp only at e3 r3 ⊢
  rw [e3]
  obtain ⟨e4, r4⟩ := signM_at (x := 59) (s := { s with k := s.k + f1.length + nm.length + f2.length + 1 + f3.length + 1 + P.length + 1, giv := putG s.giv ⟨nm.toArray⟩ (1, (s.lex.length : Int)), gn := s.gn + 1, lex := s.lex ++ [(⟨nm.toArray⟩, tr, q)] }) r3 h4 (.inr (.inr rfl))
  exact ⟨_, e4, r4⟩
theorem start_rest {T : ByteArray} {pl : Int} {s : RSt} {f1 nm f2 l : List UInt8} (h : Rest T s.k (f1 ++ (nm ++ (f2 ++ 59 :: l)))) (h1 : Fil f1) (h2 : Fil f2) (hw : WordL nm) (hn : nmE 2 ⟨nm.toArray⟩ = 0) (hs : s.sd = false) :
    ∃ k' : Nat, ∃ p : Nat, startM T pl s = .ok { s with k := k', sd := true, use := s.use ++ [(2, (p : Int), ⟨nm.toArray⟩, -1)] } ∧ Rest T k' l := by
  obtain ⟨e1, r1⟩ := word_at h h1 hw (fil_nowd h2 (fun _ d l' e => by injection e with e1 e2; subst e1; exact sign_nowd (.inr (.inr rfl))))
  unfold startM
  rw [if_neg (by rw [hs]; decide), e1]
  dsimp only
  rw [if_neg (by rw [hn]; decide)]
  obtain ⟨e4, r4⟩ := signM_at (x := 59) (s := { s with sd := true, k := s.k + f1.length + nm.length, use := s.use ++ [(2, ((s.k + f1.length : Nat) : Int), ⟨nm.toArray⟩, -1)] }) r1 h2 (.inr (.inr rfl))
  exact ⟨_, s.k + f1.length, e4, r4⟩
abbrev WdF : Type := List UInt8 × List UInt8
def rowL (ws : List WdF) : List UInt8 := ws.flatMap fun x => x.1 ++ x.2
def keyU (u : Use) : ByteArray × Int := (u.2.2.1, u.2.2.2)
def PartW (w : List UInt8) : Prop := WordL w ∧ ((⟨w.toArray⟩ : ByteArray) = errW ∨ nmE 2 ⟨w.toArray⟩ = 0)
theorem part_word {T : ByteArray} {k : Nat} {f w l : List UInt8} (h : Rest T k (f ++ (w ++ l))) (hf : Fil f) (hw : PartW w) (hl : ∀ d l', l = d :: l' → ¬ isWd 1 d) :
    partM T k = .ok ⟨2, k + f.length, ⟨w.toArray⟩, k + f.length + w.length⟩ ∧ Rest T (k + f.length + w.length) l := by
  obtain ⟨h1, h2⟩ := word_at h hf hw.1 hl
  refine ⟨?_, h2⟩
  unfold partM
  have hp : paE ⟨2, k + f.length, ⟨w.toArray⟩, k + f.length + w.length⟩ = 0 := by
    unfold paE
    by_cases he : (⟨w.toArray⟩ : ByteArray) = errW
    · rw [if_neg (fun e => e.2 he), if_neg (fun e => e.1 rfl)]
    · rw [if_pos ⟨rfl, he⟩]
      exact hw.2.resolve_left he
  rw [h1, if_pos hp]
theorem part_sign {T : ByteArray} {k : Nat} {f l : List UInt8} {x : UInt8} (h : Rest T k (f ++ x :: l)) (hf : Fil f) (hx : x.toNat = 124 ∨ x.toNat = 59) :
    partM T k = .ok ⟨(x.toNat : Int), k + f.length, ⟨#[]⟩, k + f.length + 1⟩ ∧ Rest T (k + f.length + 1) l := by
  obtain ⟨h1, h2⟩ := sign_at_ h hf (.inr hx)
  refine ⟨?_, h2⟩
  unfold partM
  have hp : paE ⟨(x.toNat : Int), k + f.length, ⟨#[]⟩, k + f.length + 1⟩ = 0 := by
    unfold paE
    rw [if_neg (fun e => by have := e.1; dsimp only at this; omega), if_neg (fun e => by have := e.2; dsimp only at this; omega)]
  rw [h1, if_pos hp]
theorem side_stop {T : ByteArray} {pr : Int} {g n : Nat} {N : Tok} {s : RSt} (h : N.kd ≠ 2) : sideM T pr g n N s = .ok (decide (N.kd = 124), s) := by
  cases g with
  | zero => rfl
  | succ g => rw [sideM, if_neg h]
theorem side_rest {T : ByteArray} {pr : Int} {x : UInt8} {ff l : List UInt8} (hx : x.toNat = 124 ∨ x.toNat = 59) (hff : Fil ff) : ∀ (ws : List WdF) (g n : Nat) (N : Tok) (s : RSt), N.kd = 2 → n + ws.length < 16 → ws.length ≤ g →
    Rest T s.k (rowL ws ++ (ff ++ x :: l)) → (∀ y ∈ ws, Fil y.1 ∧ y.1 ≠ [] ∧ PartW y.2) →
    ∃ (k' : Nat) (us : List Use), sideM T pr (g + 1) n N s = .ok (decide (x.toNat = 124), { s with k := k', use := s.use ++ us }) ∧ Rest T k' l ∧ us.map keyU = (N.wd, pr) :: ws.map fun y => (⟨y.2.toArray⟩, pr)
  | [], g, n, N, s, hN, hn, hg, h, hw => by
    obtain ⟨e1, r1⟩ := part_sign (f := ff) h hff hx
    refine ⟨s.k + ff.length + 1, [(N.kd, (N.pl : Int), N.wd, pr)], ?_, r1, rfl⟩
    simp only [List.length_nil] at hn
    rw [sideM, if_pos hN, if_neg (by omega), e1]
    show sideM T pr g (n + 1) _ _ = _
    rw [side_stop (by dsimp only; omega)]
    congr 2
    dsimp only
    rw [decide_eq_decide]
    omega
  | y :: ws, g, n, N, s, hN, hn, hg, h, hw => by
    obtain ⟨hy1, hy2, hy3⟩ := hw y (List.mem_cons_self ..)
    have hw' : ∀ y ∈ ws, Fil y.1 ∧ y.1 ≠ [] ∧ PartW y.2 := fun z hz => hw z (List.mem_cons_of_mem _ hz)
    have h' : Rest T s.k (y.1 ++ (y.2 ++ (rowL ws ++ (ff ++ x :: l)))) := by
      have : rowL (y :: ws) = y.1 ++ y.2 ++ rowL ws := List.flatMap_cons
      rw [this] at h
      simpa only [List.append_assoc] using h
    have hl : ∀ d l', rowL ws ++ (ff ++ x :: l) = d :: l' → ¬ isWd 1 d := by
      cases ws with
      | nil =>
        show ∀ d l', ff ++ x :: l = d :: l' → ¬ isWd 1 d
        exact fil_nowd hff (fun _ d l' e => by injection e with e1 e2; subst e1; exact sign_nowd (.inr hx))
      | cons z ws =>
        obtain ⟨hz1, hz2, hz3⟩ := hw' z (List.mem_cons_self ..)
        have : rowL (z :: ws) ++ (ff ++ x :: l) = z.1 ++ (z.2 ++ (rowL ws ++ (ff ++ x :: l))) := by
          have e : rowL (z :: ws) = z.1 ++ z.2 ++ rowL ws := List.flatMap_cons
          rw [e]
          simp only [List.append_assoc]
        rw [this]
        exact fil_nowd hz1 (fun e => absurd e hz2)
    obtain ⟨e1, r1⟩ := part_word h' hy1 hy3 hl
    simp only [List.length_cons] at hn hg
    obtain ⟨g', rfl⟩ : ∃ g', g = g' + 1 := ⟨g - 1, by omega⟩
    obtain ⟨k', us, e2, r2, u2⟩ := side_rest hx hff ws g' (n + 1) ⟨2, s.k + y.1.length, ⟨y.2.toArray⟩, s.k + y.1.length + y.2.length⟩ { s with k := s.k + y.1.length + y.2.length, use := s.use ++ [(N.kd, (N.pl : Int), N.wd, pr)] } rfl (by omega) (by omega) r1 hw'
    refine ⟨k', (N.kd, (N.pl : Int), N.wd, pr) :: us, ?_, r2, ?_⟩
    · rw [sideM, if_pos hN, if_neg (by omega), e1]
      show sideM T pr (g' + 1) (n + 1) _ _ = _
      rw [e2]
      simp only [List.append_assoc, List.singleton_append]
    · rw [List.map_cons, u2]
      rfl
abbrev RowF : Type := List WdF × List UInt8
def RowOk (r : RowF) : Prop := r.1.length ≤ 16 ∧ Fil r.2 ∧ (∀ y ∈ r.1, Fil y.1 ∧ PartW y.2) ∧ ∀ y ∈ r.1.drop 1, y.1 ≠ []
theorem right_rest {T : ByteArray} {left : Int} {x : UInt8} {l : List UInt8} {s : RSt} {r : RowF} (hx : x.toNat = 124 ∨ x.toNat = 59) (hr : RowOk r) (h : Rest T s.k (rowL r.1 ++ (r.2 ++ x :: l))) (hp : s.prd.length ≠ 512) :
    ∃ (k' : Nat) (us : List Use), rightM T left s = .ok (decide (x.toNat = 124), { s with k := k', prd := s.prd ++ [left], sds := s.sds ++ [[]], use := s.use ++ us }) ∧ Rest T k' l ∧ us.map keyU = r.1.map fun y => (⟨y.2.toArray⟩, (s.prd.length : Int)) := by
  obtain ⟨ws, ff⟩ := r
  obtain ⟨h16, hff, hw, hne⟩ := hr
  dsimp only at h h16 hff hw hne ⊢
  cases ws with
  | nil =>
    obtain ⟨e1, r1⟩ := part_sign (f := ff) h hff hx
    refine ⟨s.k + ff.length + 1, [], ?_, r1, rfl⟩
    unfold rightM
    rw [e1]
    show (if s.prd.length = 512 then _ else sideM T _ 18 0 _ _) = _
    rw [if_neg hp, side_stop (by dsimp only; omega), List.append_nil]
    congr 2
    dsimp only
    rw [decide_eq_decide]
    omega
  | cons y ws =>
    obtain ⟨hy1, hy3⟩ := hw y (List.mem_cons_self ..)
    have hw' : ∀ y ∈ ws, Fil y.1 ∧ y.1 ≠ [] ∧ PartW y.2 := fun z hz => ⟨(hw z (List.mem_cons_of_mem _ hz)).1, hne z hz, (hw z (List.mem_cons_of_mem _ hz)).2⟩
    have h' : Rest T s.k (y.1 ++ (y.2 ++ (rowL ws ++ (ff ++ x :: l)))) := by
      have : rowL (y :: ws) = y.1 ++ y.2 ++ rowL ws := List.flatMap_cons
      rw [this] at h
      simpa only [List.append_assoc] using h
    have hl : ∀ d l', rowL ws ++ (ff ++ x :: l) = d :: l' → ¬ isWd 1 d := by
      cases ws with
      | nil =>
        show ∀ d l', ff ++ x :: l = d :: l' → ¬ isWd 1 d
        exact fil_nowd hff (fun _ d l' e => by injection e with e1 e2; subst e1; exact sign_nowd (.inr hx))
      | cons z ws =>
        obtain ⟨hz1, hz2, hz3⟩ := hw' z (List.mem_cons_self ..)
        have : rowL (z :: ws) ++ (ff ++ x :: l) = z.1 ++ (z.2 ++ (rowL ws ++ (ff ++ x :: l))) := by
          have e : rowL (z :: ws) = z.1 ++ z.2 ++ rowL ws := List.flatMap_cons
          rw [e]
          simp only [List.append_assoc]
        rw [this]
        exact fil_nowd hz1 (fun e => absurd e hz2)
    obtain ⟨e1, r1⟩ := part_word h' hy1 hy3 hl
    simp only [List.length_cons] at h16
    obtain ⟨k', us, e2, r2, u2⟩ := side_rest (pr := (s.prd.length : Int)) hx hff ws 17 0 ⟨2, s.k + y.1.length, ⟨y.2.toArray⟩, s.k + y.1.length + y.2.length⟩ { s with k := s.k + y.1.length + y.2.length, prd := s.prd ++ [left], sds := s.sds ++ [[]] } rfl (by omega) (by omega) r1 hw'
    refine ⟨k', us, ?_, r2, by rw [u2]; rfl⟩
    unfold rightM
    rw [e1]
    show (if s.prd.length = 512 then _ else sideM T _ 18 0 _ _) = _
    rw [if_neg hp]
    exact e2
def rowsL : RowF → List RowF → List UInt8 → List UInt8
  | r, [], l => rowL r.1 ++ (r.2 ++ 59 :: l)
  | r, r' :: rs, l => rowL r.1 ++ (r.2 ++ 124 :: rowsL r' rs l)
def keysL (pr : Nat) : List RowF → List (ByteArray × Int)
  | [] => []
  | r :: rs => (r.1.map fun y => (⟨y.2.toArray⟩, (pr : Int))) ++ keysL (pr + 1) rs
theorem sides_rest {T : ByteArray} {left : Int} : ∀ (rs : List RowF) (r : RowF) (l : List UInt8) (g : Nat) (s : RSt), (∀ y ∈ r :: rs, RowOk y) → Rest T s.k (rowsL r rs l) → s.prd.length + rs.length < 512 → rs.length < g →
    ∃ (k' : Nat) (us : List Use), sidesM T left g s = .ok { s with k := k', prd := s.prd ++ List.replicate (rs.length + 1) left, sds := s.sds ++ List.replicate (rs.length + 1) [], use := s.use ++ us } ∧ Rest T k' l ∧ us.map keyU = keysL s.prd.length (r :: rs)
  | [], r, l, g, s, hr, h, hp, hg => by
    obtain ⟨g', rfl⟩ : ∃ g', g = g' + 1 := ⟨g - 1, by omega⟩
    simp only [List.length_nil] at hp
    obtain ⟨k', us, e1, r1, u1⟩ := right_rest (left := left) (x := 59) (.inr rfl) (hr r (List.mem_cons_self ..)) h (by omega)
    refine ⟨k', us, ?_, r1, by rw [u1]; simp [keysL]⟩
    rw [sidesM, e1]
    rfl
  | r' :: rs, r, l, g, s, hr, h, hp, hg => by
    obtain ⟨g', rfl⟩ : ∃ g', g = g' + 1 := ⟨g - 1, by omega⟩
    simp only [List.length_cons] at hp hg
    obtain ⟨k', us, e1, r1, u1⟩ := right_rest (left := left) (x := 124) (.inl rfl) (hr r (List.mem_cons_self ..)) h (by omega)
    obtain ⟨k2, us2, e2, r2, u2⟩ := sides_rest rs r' l g' { s with k := k', prd := s.prd ++ [left], sds := s.sds ++ [[]], use := s.use ++ us } (fun y hy => hr y (List.mem_cons_of_mem _ hy)) r1 (by simp only [List.length_append, List.length_singleton]; omega) (by omega)
    refine ⟨k2, us ++ us2, ?_, r2, ?_⟩
    · rw [sidesM, e1]
      show sidesM T left g' _ = _
      rw [e2]
      simp only [List.append_assoc, List.length_cons, List.replicate_succ, List.singleton_append]
    · rw [List.map_append, u1, u2]
      simp only [List.length_append, List.length_singleton]
      rfl
end Gu
end Ex
end Go.Proofs.YtbnchnlogikecaaGreatDoor
