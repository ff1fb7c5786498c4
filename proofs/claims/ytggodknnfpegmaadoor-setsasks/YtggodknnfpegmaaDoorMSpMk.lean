import Derived.Test.YtggodknnfpegmaaDoorMSpArg
namespace Go.Proofs.YtggodknnfpegmaaDoor
open Go.RowKit
namespace Ex

/-- Is a symbol made, where S are the names that are: of a terminal t says so. -/
def SymOk (t : Bool) (S : Nat → Prop) (x : SymM) : Prop := (x.1 = 3 → S x.2.toNat) ∧ (x.1 ≠ 3 → t = true)
/-- Whatever is made of S is in S. -/
def MkClosed (t : Bool) (ps : List ProdM) (S : Nat → Prop) : Prop := ∀ p ∈ ps, (∀ x ∈ p.2, SymOk t S x) → S p.1.toNat
/-- The names that make a row of terminals (t), or the empty row. -/
def Mk (t : Bool) (ps : List ProdM) (n : Nat) : Prop := ∀ S, MkClosed t ps S → S n
theorem SymOk.mono {t : Bool} {S S' : Nat → Prop} (h : ∀ n, S n → S' n) {x : SymM} (hx : SymOk t S x) : SymOk t S' x := ⟨fun e => h _ (hx.1 e), hx.2⟩
theorem mk_closed (t : Bool) (ps : List ProdM) : MkClosed t ps (Mk t ps) := by
  intro p hp hx S hS
  exact hS p hp (fun x hm => (hx x hm).mono (fun n hn => hn S hS))
/-- A set of bits: what is in it is made, and whatever is made of it is in it. -/
theorem mk_is {t : Bool} {ps : List ProdM} {A : Nat} (h1 : ∀ n, A.testBit n = true → Mk t ps n) (h2 : MkClosed t ps (fun n => A.testBit n = true)) (n : Nat) : A.testBit n = true ↔ Mk t ps n := ⟨h1 n, fun h => h _ h2⟩
/-- One step over the first j productions of ps: from old to A. -/
structure MkStep (t : Bool) (ps : List ProdM) (old A j : Nat) : Prop where
  up : ∀ n, old.testBit n = true → A.testBit n = true
  sound : (∀ n, old.testBit n = true → Mk t ps n) → ∀ n, A.testBit n = true → Mk t ps n
  closed : ∀ i p, i < j → ps[i]? = some p → (∀ x ∈ p.2, SymOk t (fun n => old.testBit n = true) x) → A.testBit p.1.toNat = true
  bound : old < 2 ^ 128 → A < 2 ^ 128
theorem MkStep.start (t : Bool) (ps : List ProdM) (old : Nat) : MkStep t ps old old 0 := ⟨fun _ h => h, fun h => h, fun i p h => by omega, fun h => h⟩
theorem testBit_with (A p n : Nat) : (A ||| 2 ^ p).testBit n = true ↔ A.testBit n = true ∨ n = p := by
  rw [Nat.testBit_or, Bool.or_eq_true, Nat.testBit_two_pow]
  constructor
  · rintro (h | h)
    · exact Or.inl h
    · exact Or.inr (by have := of_decide_eq_true h; omega)
  · rintro (h | h)
    · exact Or.inl h
    · exact Or.inr (by simp [h])
theorem MkStep.put {t : Bool} {ps : List ProdM} {old A j : Nat} (h : MkStep t ps old A j) {p : ProdM} (hp : ps[j]? = some p) (hx : ∀ x ∈ p.2, SymOk t (fun n => A.testBit n = true) x) (hl : p.1.toNat < 128) : MkStep t ps old (A ||| 2 ^ p.1.toNat) (j + 1) := by
  refine ⟨fun n hn => (testBit_with A _ n).2 (Or.inl (h.up n hn)), fun ho n hn => ?_, fun i q hi hq hxq => ?_, fun ho => Nat.or_lt_two_pow (h.bound ho) (Nat.pow_lt_pow_right (by decide) hl)⟩
  · rcases (testBit_with A _ n).1 hn with hn | rfl
    · exact h.sound ho n hn
    · exact mk_closed t ps p (List.mem_of_getElem? hp) (fun x hm => (hx x hm).mono (h.sound ho))
  · rcases Nat.lt_or_ge i j with hij | hij
    · exact (testBit_with A _ _).2 (Or.inl (h.closed i q hij hq hxq))
    · have e : i = j := by omega
      subst e
      rw [hp] at hq
      injection hq with hq
      subst hq
      exact (testBit_with A _ _).2 (Or.inr rfl)
theorem MkStep.skip {t : Bool} {ps : List ProdM} {old A j : Nat} (h : MkStep t ps old A j) {p : ProdM} (hp : ps[j]? = some p) {x : SymM} (hm : x ∈ p.2) (hx : ¬ SymOk t (fun n => A.testBit n = true) x) : MkStep t ps old A (j + 1) := by
  refine ⟨h.up, h.sound, fun i q hi hq hxq => ?_, h.bound⟩
  rcases Nat.lt_or_ge i j with hij | hij
  · exact h.closed i q hij hq hxq
  · have e : i = j := by omega
    subst e
    rw [hp] at hq
    injection hq with hq
    subst hq
    exact absurd ((hxq x hm).mono h.up) hx
/-- Where a whole step has added nothing. -/
theorem MkStep.done {t : Bool} {ps : List ProdM} {A : Nat} (h : MkStep t ps A A ps.length) : MkClosed t ps (fun n => A.testBit n = true) := by
  intro p hp hx
  obtain ⟨i, hi⟩ := List.getElem?_of_mem hp
  exact h.closed i p (List.getElem?_eq_some_iff.1 hi).1 hi hx
/-- How many of the first 128 names are not yet in a set. -/
def leftS (A : Nat) : Nat := ((List.range 128).filter fun n => !A.testBit n).length
theorem leftS_lt {A B : Nat} (h : ∀ n, A.testBit n = true → B.testBit n = true) (hA : A < 2 ^ 128) (hB : B < 2 ^ 128) (hne : A ≠ B) : leftS B < leftS A := by
  have hbit : ∃ n, n < 128 ∧ B.testBit n = true ∧ A.testBit n = false := by
    by_cases hex : ∃ n, n < 128 ∧ B.testBit n = true ∧ A.testBit n = false
    · exact hex
    · exfalso
      apply hne
      refine Nat.eq_of_testBit_eq (fun n => ?_)
      by_cases hn : n < 128
      · cases hb : B.testBit n with
        | true =>
          cases ha : A.testBit n with
          | true => rfl
          | false => exact absurd ⟨n, hn, hb, ha⟩ hex
        | false =>
          cases ha : A.testBit n with
          | true => rw [h n ha] at hb; cases hb
          | false => rfl
      · rw [Nat.testBit_lt_two_pow (Nat.lt_of_lt_of_le hA (Nat.pow_le_pow_right (by decide) (by omega))), Nat.testBit_lt_two_pow (Nat.lt_of_lt_of_le hB (Nat.pow_le_pow_right (by decide) (by omega)))]
  obtain ⟨n, hn, hb, ha⟩ := hbit
  unfold leftS
  have key : ∀ l : List Nat, (l.filter fun k => !B.testBit k).length ≤ (l.filter fun k => !A.testBit k).length ∧ (n ∈ l → (l.filter fun k => !B.testBit k).length < (l.filter fun k => !A.testBit k).length) := by
    intro l
    induction l with
    | nil => exact ⟨Nat.le_refl _, fun h => by cases h⟩
    | cons k l ih =>
      rw [List.filter_cons, List.filter_cons]
      cases hka : A.testBit k with
      | true =>
        rw [h k hka]
        simp only [Bool.not_true, Bool.false_eq_true, if_false]
        refine ⟨ih.1, fun hm => ?_⟩
        rcases List.mem_cons.1 hm with rfl | hm
        · rw [hka] at ha; cases ha
        · exact ih.2 hm
      | false =>
        cases hkb : B.testBit k with
        | true =>
          simp only [Bool.not_true, Bool.false_eq_true, if_false, Bool.not_false, if_true, List.length_cons]
          exact ⟨by have := ih.1; omega, fun _ => by have := ih.1; omega⟩
        | false =>
          simp only [Bool.not_false, if_true, List.length_cons]
          refine ⟨by have := ih.1; omega, fun hm => ?_⟩
          rcases List.mem_cons.1 hm with rfl | hm
          · rw [hkb] at hb; cases hb
          · have := ih.2 hm; omega
  exact (key _).2 (List.mem_range.2 hn)

end Ex
end Go.Proofs.YtggodknnfpegmaaDoor
namespace Go.Proofs.YtggodknnfpegmaaDoor
open Go.RowKit
namespace Ex

/-- The number of a symbol that is no name, of a spec with nl rules. -/
def termN (nl : Nat) (x : SymM) : Nat := if x.1 = 2 then nl else x.2.toNat
/-- Names that stand in rows that are made of the start. -/
def RcClosed (ps : List ProdM) (st : Nat) (S : Nat → Prop) : Prop := S st ∧ ∀ p ∈ ps, S p.1.toNat → ∀ x ∈ p.2, x.1 = 3 → S x.2.toNat
def Rc (ps : List ProdM) (st n : Nat) : Prop := ∀ S, RcClosed ps st S → S n
/-- Terminals that do. -/
def RcT (ps : List ProdM) (nl st t : Nat) : Prop := ∃ p ∈ ps, Rc ps st p.1.toNat ∧ ∃ x ∈ p.2, x.1 ≠ 3 ∧ termN nl x = t
theorem rc_closed (ps : List ProdM) (st : Nat) : RcClosed ps st (Rc ps st) := ⟨fun _ h => h.1, fun p hp hl x hx hk S hS => hS.2 p hp (hl S hS) x hx hk⟩
theorem rc_is {ps : List ProdM} {st A : Nat} (h1 : ∀ n, A.testBit n = true → Rc ps st n) (h2 : RcClosed ps st (fun n => A.testBit n = true)) (n : Nat) : A.testBit n = true ↔ Rc ps st n := ⟨h1 n, fun h => h _ h2⟩
/-- A step over the first j productions, and the first m symbols of the next one (if it counts): from old to (A, B). -/
structure RcStep (ps : List ProdM) (nl st old A B j m : Nat) : Prop where
  up : ∀ n, old.testBit n = true → A.testBit n = true
  sound : (∀ n, old.testBit n = true → Rc ps st n) → ∀ n, A.testBit n = true → Rc ps st n
  closed : ∀ i p, ps[i]? = some p → old.testBit p.1.toNat = true → ∀ k x, p.2[k]? = some x → (i < j ∨ (i = j ∧ k < m)) → (x.1 = 3 → A.testBit x.2.toNat = true) ∧ (x.1 ≠ 3 → B.testBit (termN nl x) = true)
  bound : old < 2 ^ 128 → A < 2 ^ 128
/-- Terminals are sound by themselves. -/
def TSound (ps : List ProdM) (nl st B : Nat) : Prop := ∀ t, B.testBit t = true → RcT ps nl st t
theorem RcStep.start (ps : List ProdM) (nl st old B : Nat) : RcStep ps nl st old old B 0 0 := ⟨fun _ h => h, fun h => h, fun i p _ _ k x _ h => by omega, fun h => h⟩
section
variable {ps : List ProdM} {nl st old A B j m : Nat}
/-- A production that does not count (yet). -/
theorem RcStep.skip (h : RcStep ps nl st old A B j 0) {p : ProdM} (hp : ps[j]? = some p) (hl : A.testBit p.1.toNat = false) : RcStep ps nl st old A B (j + 1) 0 := by
  refine ⟨h.up, h.sound, fun i q hq ho k x hx hi => ?_, h.bound⟩
  rcases Nat.lt_or_ge i j with hij | hij
  · exact h.closed i q hq ho k x hx (Or.inl hij)
  · have e : i = j := by omega
    subst e
    rw [hp] at hq
    injection hq with hq
    subst hq
    rw [h.up _ ho] at hl
    cases hl
theorem RcStep.name (h : RcStep ps nl st old A B j m) {p : ProdM} (hp : ps[j]? = some p) (hl : A.testBit p.1.toNat = true) {x : SymM} (hx : p.2[m]? = some x) (hk : x.1 = 3) (hn : x.2.toNat < 128) : RcStep ps nl st old (A ||| 2 ^ x.2.toNat) B j (m + 1) := by
  refine ⟨fun n hn => (testBit_with A _ n).2 (Or.inl (h.up n hn)), fun ho n hn => ?_, fun i q hq ho k y hy hi => ?_, fun ho => Nat.or_lt_two_pow (h.bound ho) (Nat.pow_lt_pow_right (by decide) hn)⟩
  · rcases (testBit_with A _ n).1 hn with hn | rfl
    · exact h.sound ho n hn
    · exact (rc_closed ps st).2 p (List.mem_of_getElem? hp) (h.sound ho _ hl) x (List.mem_of_getElem? hx) hk
  · rcases (by omega : (i < j ∨ (i = j ∧ k < m)) ∨ (i = j ∧ k = m)) with hi | ⟨rfl, rfl⟩
    · have := h.closed i q hq ho k y hy hi
      exact ⟨fun e => (testBit_with A _ _).2 (Or.inl (this.1 e)), this.2⟩
    · rw [hp] at hq
      injection hq with hq
      subst hq
      rw [hx] at hy
      injection hy with hy
      subst hy
      exact ⟨fun _ => (testBit_with A _ _).2 (Or.inr rfl), fun e => absurd hk e⟩
theorem RcStep.term (h : RcStep ps nl st old A B j m) {p : ProdM} (hp : ps[j]? = some p) {x : SymM} (hx : p.2[m]? = some x) (hk : x.1 ≠ 3) : RcStep ps nl st old A (B ||| 2 ^ termN nl x) j (m + 1) := by
  refine ⟨h.up, h.sound, fun i q hq ho k y hy hi => ?_, h.bound⟩
  rcases (by omega : (i < j ∨ (i = j ∧ k < m)) ∨ (i = j ∧ k = m)) with hi | ⟨rfl, rfl⟩
  · have := h.closed i q hq ho k y hy hi
    exact ⟨this.1, fun e => (testBit_with B _ _).2 (Or.inl (this.2 e))⟩
  · rw [hp] at hq
    injection hq with hq
    subst hq
    rw [hx] at hy
    injection hy with hy
    subst hy
    exact ⟨fun e => absurd e hk, fun _ => (testBit_with B _ _).2 (Or.inr rfl)⟩
theorem RcStep.next (h : RcStep ps nl st old A B j m) {p : ProdM} (hp : ps[j]? = some p) (hm : p.2.length = m) : RcStep ps nl st old A B (j + 1) 0 := by
  refine ⟨h.up, h.sound, fun i q hq ho k x hx hi => h.closed i q hq ho k x hx ?_, h.bound⟩
  rcases (by omega : i < j ∨ i = j) with hij | rfl
  · exact Or.inl hij
  · rw [hp] at hq
    injection hq with hq
    subst hq
    have := (List.getElem?_eq_some_iff.1 hx).1
    exact Or.inr ⟨rfl, by omega⟩
theorem TSound.put (h : TSound ps nl st B) {p : ProdM} (hp : p ∈ ps) (hl : Rc ps st p.1.toNat) {x : SymM} (hx : x ∈ p.2) (hk : x.1 ≠ 3) : TSound ps nl st (B ||| 2 ^ termN nl x) := by
  intro t ht
  rcases (testBit_with B _ t).1 ht with ht | rfl
  · exact h t ht
  · exact ⟨p, hp, hl, x, hx, hk, rfl⟩
/-- Where a whole step has added nothing. -/
theorem RcStep.done (h : RcStep ps nl st A A B ps.length 0) (hst : A.testBit st = true) (hs : ∀ n, A.testBit n = true → Rc ps st n) (hT : TSound ps nl st B) : (∀ n, A.testBit n = true ↔ Rc ps st n) ∧ ∀ t, B.testBit t = true ↔ RcT ps nl st t := by
  have hc : RcClosed ps st (fun n => A.testBit n = true) := by
    refine ⟨hst, fun p hp hl x hx hk => ?_⟩
    obtain ⟨i, hi⟩ := List.getElem?_of_mem hp
    obtain ⟨k, hk'⟩ := List.getElem?_of_mem hx
    exact (h.closed i p hi hl k x hk' (Or.inl (List.getElem?_eq_some_iff.1 hi).1)).1 hk
  refine ⟨rc_is hs hc, fun t => ⟨hT t, ?_⟩⟩
  rintro ⟨p, hp, hl, x, hx, hk, rfl⟩
  obtain ⟨i, hi⟩ := List.getElem?_of_mem hp
  obtain ⟨k, hk'⟩ := List.getElem?_of_mem hx
  exact (h.closed i p hi ((rc_is hs hc _).2 hl) k x hk' (Or.inl (List.getElem?_eq_some_iff.1 hi).1)).2 hk
end

end Ex
end Go.Proofs.YtggodknnfpegmaaDoor
namespace Go.Proofs.YtggodknnfpegmaaDoor
open Go.RowKit
namespace Ex

/-- What rules G make of B, again and again: the least set. -/
def LfClosed {I K : Type} (B : K → Prop) (J : I → Prop) (G : I → (K → Prop) → K → Prop) (S : K → Prop) : Prop := (∀ x, B x → S x) ∧ ∀ i, J i → ∀ x, G i S x → S x
def Lf {I K : Type} (B : K → Prop) (J : I → Prop) (G : I → (K → Prop) → K → Prop) (x : K) : Prop := ∀ S, LfClosed B J G S → S x
def Up {I K : Type} (G : I → (K → Prop) → K → Prop) : Prop := ∀ i (S S' : K → Prop), (∀ x, S x → S' x) → ∀ x, G i S x → G i S' x
section
variable {I K : Type} {B : K → Prop} {J : I → Prop} {G : I → (K → Prop) → K → Prop}
theorem lf_closed (hG : Up G) : LfClosed B J G (Lf B J G) := ⟨fun x hx _ hS => hS.1 x hx, fun i hi x hx _ hS => hS.2 i hi x (hG i _ _ (fun _ hy => hy _ hS) x hx)⟩
/-- A step from old to A, in which the rules D have been gone through. -/
structure LfStep (B : K → Prop) (J : I → Prop) (G : I → (K → Prop) → K → Prop) (old A : K → Prop) (D : I → Prop) : Prop where
  up : ∀ x, old x → A x
  sound : (∀ x, old x → Lf B J G x) → ∀ x, A x → Lf B J G x
  closed : ∀ i, D i → ∀ x, G i old x → A x
theorem LfStep.start (old : K → Prop) {D : I → Prop} (hD : ∀ i, ¬ D i) : LfStep B J G old old D := ⟨fun _ h => h, fun h => h, fun i h => absurd h (hD i)⟩
theorem LfStep.put (hG : Up G) {old A A' : K → Prop} {D D' : I → Prop} (h : LfStep B J G old A D) {i : I} (hi : J i) (hD : ∀ k, D' k → D k ∨ k = i) (hup : ∀ x, A x → A' x) (hin : ∀ x, A' x → A x ∨ G i A x) (hall : ∀ x, G i A x → A' x) : LfStep B J G old A' D' := by
  refine ⟨fun x hx => hup x (h.up x hx), fun ho x hx => ?_, fun k hk x hx => ?_⟩
  · rcases hin x hx with hx | hx
    · exact h.sound ho x hx
    · exact (lf_closed hG).2 i hi x (hG i _ _ (h.sound ho) x hx)
  · rcases hD k hk with hk | rfl
    · exact hup x (h.closed k hk x hx)
    · exact hall x (hG k _ _ h.up x hx)
/-- Rules that make nothing, or no rules at all. -/
theorem LfStep.skip {old A : K → Prop} {D D' : I → Prop} (h : LfStep B J G old A D) (hD : ∀ k, D' k → D k ∨ ∀ x, ¬ G k old x) : LfStep B J G old A D' :=
  ⟨h.up, h.sound, fun k hk x hx => (hD k hk).elim (fun hk => h.closed k hk x hx) (fun hn => absurd hx (hn x))⟩
theorem LfStep.same {old A A' : K → Prop} {D : I → Prop} (h : LfStep B J G old A D) (hs : ∀ x, A x ↔ A' x) : LfStep B J G old A' D :=
  ⟨fun x hx => (hs x).1 (h.up x hx), fun ho x hx => h.sound ho x ((hs x).2 hx), fun k hk x hx => (hs x).1 (h.closed k hk x hx)⟩
theorem LfStep.done {A : K → Prop} {D : I → Prop} (h : LfStep B J G A A D) (hD : ∀ i, J i → D i) (hB : ∀ x, B x → A x) (hs : ∀ x, A x → Lf B J G x) (x : K) : A x ↔ Lf B J G x :=
  ⟨hs x, fun hx => hx A ⟨hB, fun i hi => h.closed i (hD i hi)⟩⟩
end

/-- With what a row begins, behind which nx stands. -/
def HeadS (nl : Nat) (E : Nat → Prop) (F : Nat × Nat → Prop) (nx : Nat → Prop) : List SymM → Nat → Prop
  | [], t => nx t
  | x :: xs, t => (x.1 = 3 ∧ (F (x.2.toNat, t) ∨ (E x.2.toNat ∧ HeadS nl E F nx xs t))) ∨ (x.1 ≠ 3 ∧ t = termN nl x)
theorem HeadS.mono {nl : Nat} {E : Nat → Prop} {F F' : Nat × Nat → Prop} {nx nx' : Nat → Prop} (hF : ∀ x, F x → F' x) (hn : ∀ t, nx t → nx' t) : ∀ {r : List SymM} {t : Nat}, HeadS nl E F nx r t → HeadS nl E F' nx' r t
  | [], _, h => hn _ h
  | _ :: _, _, .inl ⟨h1, .inl h⟩ => .inl ⟨h1, .inl (hF _ h)⟩
  | _ :: _, _, .inl ⟨h1, .inr ⟨h2, h⟩⟩ => .inl ⟨h1, .inr ⟨h2, HeadS.mono hF hn h⟩⟩
  | _ :: _, _, .inr h => .inr h
/-- The rules of First: one a production. -/
def FiG (nl : Nat) (E : Nat → Prop) (ps : List ProdM) (i : Nat) (F : Nat × Nat → Prop) (x : Nat × Nat) : Prop := ∃ p, ps[i]? = some p ∧ x.1 = p.1.toNat ∧ HeadS nl E F (fun _ => False) p.2 x.2
def Fi (nl : Nat) (E : Nat → Prop) (ps : List ProdM) : Nat × Nat → Prop := Lf (fun _ => False) (fun i => i < ps.length) (FiG nl E ps)
theorem fi_up (nl : Nat) (E : Nat → Prop) (ps : List ProdM) : Up (FiG nl E ps) := fun _ _ _ h _ ⟨p, h1, h2, h3⟩ => ⟨p, h1, h2, h3.mono h (fun _ h => h)⟩
/-- The rules of Follow: one a name in a right side. -/
def FoG (nl : Nat) (E : Nat → Prop) (F : Nat × Nat → Prop) (ps : List ProdM) (i : Nat × Nat) (S : Nat × Nat → Prop) (x : Nat × Nat) : Prop := ∃ p y, ps[i.1]? = some p ∧ p.2[i.2]? = some y ∧ y.1 = 3 ∧ x.1 = y.2.toNat ∧ HeadS nl E F (fun t => S (p.1.toNat, t)) (p.2.drop (i.2 + 1)) x.2
def FoB (nl st : Nat) (x : Nat × Nat) : Prop := x = (st, nl + 1)
def FoJ (ps : List ProdM) (i : Nat × Nat) : Prop := ∃ p, ps[i.1]? = some p ∧ i.2 < p.2.length
def Fo (nl st : Nat) (E : Nat → Prop) (F : Nat × Nat → Prop) (ps : List ProdM) : Nat × Nat → Prop := Lf (FoB nl st) (FoJ ps) (FoG nl E F ps)
theorem fo_up (nl : Nat) (E : Nat → Prop) (F : Nat × Nat → Prop) (ps : List ProdM) : Up (FoG nl E F ps) := fun _ _ _ h _ ⟨p, y, h1, h2, h3, h4, h5⟩ => ⟨p, y, h1, h2, h3, h4, h5.mono (fun _ h => h) (fun _ ht => h _ ht)⟩
/-- Families of sets, a number each. -/
def famS (F : Nat → Nat) (x : Nat × Nat) : Prop := (F x.1).testBit x.2 = true
def orV (F : Nat → Nat) (n A : Nat) : Nat → Nat := fun i => if i = n then F i ||| A else F i
theorem fam_set (F : Nat → Nat) (n A : Nat) (x : Nat × Nat) : famS (orV F n A) x ↔ famS F x ∨ (x.1 = n ∧ A.testBit x.2 = true) := by
  unfold famS orV
  by_cases e : x.1 = n
  · rw [if_pos e, Nat.testBit_or, Bool.or_eq_true]
    exact ⟨fun h => h.imp id (fun h => ⟨e, h⟩), fun h => h.imp id (·.2)⟩
  · rw [if_neg e]
    exact ⟨Or.inl, fun h => h.elim id (fun h => absurd h.1 e)⟩
/-- The heads of a row, by numbers. -/
def headsM (nl E : Nat) (F : Nat → Nat) (nx : Nat) : List SymM → Nat → Nat
  | [], out => out ||| nx
  | x :: xs, out => if x.1 = 3 then (if E.testBit x.2.toNat then headsM nl E F nx xs (out ||| F x.2.toNat) else out ||| F x.2.toNat) else out ||| 2 ^ termN nl x
theorem heads_bit (nl E : Nat) (F : Nat → Nat) (nx : Nat) : ∀ (r : List SymM) (out t : Nat), (headsM nl E F nx r out).testBit t = true ↔ out.testBit t = true ∨ HeadS nl (fun n => E.testBit n = true) (famS F) (fun t => nx.testBit t = true) r t
  | [], out, t => by
    show (out ||| nx).testBit t = true ↔ _
    rw [Nat.testBit_or, Bool.or_eq_true]
    exact Iff.rfl
  | x :: xs, out, t => by
    show (if x.1 = 3 then _ else _ : Nat).testBit t = true ↔ out.testBit t = true ∨ ((x.1 = 3 ∧ _) ∨ _)
    by_cases h3 : x.1 = 3
    · rw [if_pos h3]
      by_cases hE : E.testBit x.2.toNat = true
      · rw [if_pos hE, heads_bit nl E F nx xs, Nat.testBit_or, Bool.or_eq_true]
        constructor
        · rintro ((h | h) | h)
          · exact .inl h
          · exact .inr (.inl ⟨h3, .inl h⟩)
          · exact .inr (.inl ⟨h3, .inr ⟨hE, h⟩⟩)
        · rintro (h | ⟨_, h | ⟨_, h⟩⟩ | ⟨h, _⟩)
          · exact .inl (.inl h)
          · exact .inl (.inr h)
          · exact .inr h
          · exact absurd h3 h
      · rw [if_neg hE, Nat.testBit_or, Bool.or_eq_true]
        constructor
        · rintro (h | h)
          · exact .inl h
          · exact .inr (.inl ⟨h3, .inl h⟩)
        · rintro (h | ⟨_, h | ⟨h, _⟩⟩ | ⟨h, _⟩)
          · exact .inl h
          · exact .inr h
          · exact absurd h hE
          · exact absurd h3 h
    · rw [if_neg h3, testBit_with]
      constructor
      · rintro (h | h)
        · exact .inl h
        · exact .inr (.inr ⟨h3, h⟩)
      · rintro (h | ⟨h, _⟩ | ⟨_, h⟩)
        · exact .inl h
        · exact absurd h h3
        · exact .inr h
theorem heads_lt {nl E : Nat} {F : Nat → Nat} {nx : Nat} (hnl : nl < 128) (hF : ∀ n, F n < 2 ^ 128) (hx : nx < 2 ^ 128) : ∀ (r : List SymM) (out : Nat), out < 2 ^ 128 → (∀ x ∈ r, x.1 ≠ 3 → termN nl x < 128) → headsM nl E F nx r out < 2 ^ 128
  | [], out, ho, _ => Nat.or_lt_two_pow ho hx
  | x :: xs, out, ho, hr => by
    show (if x.1 = 3 then _ else _ : Nat) < _
    split
    · split
      · exact heads_lt hnl hF hx xs _ (Nat.or_lt_two_pow ho (hF _)) (fun y hy => hr y (List.mem_cons_of_mem _ hy))
      · exact Nat.or_lt_two_pow ho (hF _)
    · exact Nat.or_lt_two_pow ho (Nat.pow_lt_pow_right (by decide) (hr x List.mem_cons_self (by assumption)))

end Ex
end Go.Proofs.YtggodknnfpegmaaDoor
namespace Go.Proofs.YtggodknnfpegmaaDoor
open Go.RowKit
namespace Ex

/-- The empty trees below a row have so many nodes, where R says it of names. -/
def EzRow (R : Nat → Nat → Prop) : List SymM → Nat → Prop
  | [], k => k = 0
  | x :: xs, k => x.1 = 3 ∧ ∃ a b, R x.2.toNat a ∧ EzRow R xs b ∧ k = a + b
def EzClosed (ps : List ProdM) (R : Nat → Nat → Prop) : Prop := ∀ p ∈ ps, ∀ k, EzRow R p.2 k → R p.1.toNat (k + 1)
/-- The name has an empty tree of k nodes. -/
def Ez (ps : List ProdM) (n k : Nat) : Prop := ∀ R, EzClosed ps R → R n k
theorem EzRow.mono {R R' : Nat → Nat → Prop} (h : ∀ n k, R n k → R' n k) : ∀ {r : List SymM} {k : Nat}, EzRow R r k → EzRow R' r k
  | [], _, e => e
  | _ :: _, _, ⟨h3, a, b, ha, hb, e⟩ => ⟨h3, a, b, h _ _ ha, EzRow.mono h hb, e⟩
theorem ez_closed (ps : List ProdM) : EzClosed ps (Ez ps) := fun p hp k hk R hR => hR p hp k (hk.mono (fun _ _ h => h R hR))
/-- The nodes of a tree by the numbers that are known; 257 at what is no name. -/
def treeC (v : Nat → Nat) : List SymM → Nat → Nat
  | [], c => c
  | x :: xs, c => if x.1 = 3 then treeC v xs (c + v x.2.toNat) else 257
theorem tree_mono {v v' : Nat → Nat} (h : ∀ n, v n ≤ v' n) : ∀ (r : List SymM) (c c' : Nat), c ≤ c' → treeC v r c ≤ treeC v' r c'
  | [], _, _, hc => hc
  | x :: xs, c, c', hc => by
    show (if x.1 = 3 then _ else _) ≤ (if x.1 = 3 then _ else _)
    split
    · exact tree_mono h xs _ _ (by have := h x.2.toNat; omega)
    · exact Nat.le_refl _
theorem tree_ge (v : Nat → Nat) : ∀ (r : List SymM) (c : Nat), c ≤ 257 ∨ 257 ≤ treeC v r c → min c 257 ≤ treeC v r c
  | [], c, _ => Nat.min_le_left _ _
  | x :: xs, c, _ => by
    show _ ≤ (if x.1 = 3 then _ else _)
    split
    · have := tree_ge v xs (c + v x.2.toNat) (by
        by_cases h : c + v x.2.toNat ≤ 257
        · exact .inl h
        · right
          have h2 : ∀ (r : List SymM) (c : Nat), 257 ≤ c → 257 ≤ treeC v r c := by
            intro r
            induction r with
            | nil => intro c hc; exact hc
            | cons y ys ih =>
              intro c hc
              show _ ≤ (if y.1 = 3 then _ else _)
              split
              · exact ih _ (by omega)
              · exact Nat.le_refl _
          exact h2 xs _ (by omega))
      omega
    · omega
theorem tree_big (v : Nat → Nat) : ∀ (r : List SymM) (c : Nat), 257 ≤ c → 257 ≤ treeC v r c
  | [], _, h => h
  | x :: xs, c, h => by
    show _ ≤ (if x.1 = 3 then _ else _)
    split
    · exact tree_big v xs _ (by omega)
    · exact Nat.le_refl _
/-- Numbers that are small enough are those of trees. -/
def EzSound (ps : List ProdM) (v : Nat → Nat) : Prop := ∀ n, v n ≤ 257 ∧ (v n ≤ 256 → Ez ps n (v n))
theorem tree_sound {ps : List ProdM} {v : Nat → Nat} (h : EzSound ps v) : ∀ (r : List SymM) (c : Nat), treeC v r c ≤ 256 → ∃ k, EzRow (Ez ps) r k ∧ treeC v r c = c + k
  | [], c, _ => ⟨0, rfl, rfl⟩
  | x :: xs, c, hc => by
    have e : treeC v (x :: xs) c = if x.1 = 3 then treeC v xs (c + v x.2.toNat) else 257 := rfl
    rw [e] at hc ⊢
    by_cases h3 : x.1 = 3
    · rw [if_pos h3] at hc ⊢
      obtain ⟨k, hk, ek⟩ := tree_sound h xs _ hc
      have hv : v x.2.toNat ≤ 256 := by
        rcases Nat.lt_or_ge 256 (v x.2.toNat) with hh | hh
        · have := tree_big v xs (c + v x.2.toNat) (by omega)
          omega
        · exact hh
      exact ⟨v x.2.toNat + k, ⟨h3, _, _, (h _).2 hv, hk, rfl⟩, by rw [ek]; omega⟩
    · rw [if_neg h3] at hc
      omega
theorem tree_le {v : Nat → Nat} : ∀ {r : List SymM} {k : Nat} (c : Nat), EzRow (fun n k => v n ≤ k) r k → treeC v r c ≤ c + k
  | [], _, c, e => by cases e; exact Nat.le_refl _
  | x :: xs, k, c, ⟨h3, a, b, ha, hb, e⟩ => by
    show (if x.1 = 3 then _ else _) ≤ _
    rw [if_pos h3]
    have := tree_le (v := v) (c + v x.2.toNat) hb
    omega
/-- A step over the first j productions. -/
structure EzStep (ps : List ProdM) (old v : Nat → Nat) (j : Nat) : Prop where
  down : ∀ n, v n ≤ old n
  sound : EzSound ps old → EzSound ps v
  closed : ∀ i p, i < j → ps[i]? = some p → v p.1.toNat ≤ treeC old p.2 1
theorem EzStep.start (ps : List ProdM) (old : Nat → Nat) : EzStep ps old old 0 := ⟨fun _ => Nat.le_refl _, fun h => h, fun i p h => by omega⟩
theorem EzStep.put {ps : List ProdM} {old v v' : Nat → Nat} {j : Nat} (h : EzStep ps old v j) {p : ProdM} (hp : ps[j]? = some p) (e1 : v' p.1.toNat = min (v p.1.toNat) (treeC v p.2 1)) (e2 : ∀ n, n ≠ p.1.toNat → v' n = v n) : EzStep ps old v' (j + 1) := by
  have hle : ∀ n, v' n ≤ v n := by
    intro n
    by_cases hn : n = p.1.toNat
    · subst hn; rw [e1]; exact Nat.min_le_left _ _
    · rw [e2 n hn]; exact Nat.le_refl _
  refine ⟨fun n => Nat.le_trans (hle n) (h.down n), fun ho n => ?_, fun i q hi hq => ?_⟩
  · have hs := h.sound ho
    by_cases hn : n = p.1.toNat
    · subst hn
      refine ⟨Nat.le_trans (hle _) (hs _).1, fun hl => ?_⟩
      rw [e1] at hl ⊢
      rcases Nat.lt_or_ge (treeC v p.2 1) (v p.1.toNat) with hh | hh
      · rw [Nat.min_eq_right (Nat.le_of_lt hh)] at hl ⊢
        obtain ⟨k, hk, ek⟩ := tree_sound hs p.2 1 hl
        rw [ek, Nat.add_comm]
        exact ez_closed ps p (List.mem_of_getElem? hp) k hk
      · rw [Nat.min_eq_left hh] at hl ⊢
        exact (hs _).2 hl
    · rw [e2 n hn]
      exact hs n
  · rcases Nat.lt_or_ge i j with hij | hij
    · exact Nat.le_trans (hle _) (h.closed i q hij hq)
    · have e : i = j := by omega
      subst e
      rw [hp] at hq
      injection hq with hq
      subst hq
      rw [e1]
      exact Nat.le_trans (Nat.min_le_right _ _) (tree_mono h.down p.2 1 1 (Nat.le_refl _))
/-- The numbers of the least empty trees; 257 where there is none of at most 256 nodes. -/
def EzIs (ps : List ProdM) (v : Nat → Nat) : Prop := ∀ n, v n ≤ 257 ∧ (v n ≤ 256 → Ez ps n (v n)) ∧ ∀ k, Ez ps n k → v n ≤ k ∨ 257 ≤ k
theorem EzStep.done {ps : List ProdM} {v : Nat → Nat} (h : EzStep ps v v ps.length) (hs : EzSound ps v) : EzIs ps v := by
  intro n
  refine ⟨(hs n).1, (hs n).2, fun k hk => Or.inl (hk (fun n k => v n ≤ k) (fun p hp k hr => ?_))⟩
  obtain ⟨i, hi⟩ := List.getElem?_of_mem hp
  have := h.closed i p (List.getElem?_eq_some_iff.1 hi).1 hi
  have := tree_le (v := v) 1 hr
  omega
theorem ez_one {ps : List ProdM} {v v' : Nat → Nat} (h : EzIs ps v) (h' : EzIs ps v') (n : Nat) : v n = v' n := by
  have key : ∀ {a b : Nat → Nat}, EzIs ps a → EzIs ps b → a n ≤ b n := by
    intro a b ha hb
    rcases Nat.lt_or_ge 256 (b n) with hh | hh
    · have := (ha n).1; omega
    · rcases (ha n).2.2 _ ((hb n).2.1 hh) with h | h <;> omega
  exact Nat.le_antisymm (key h h') (key h' h)
/-- The sum of the first m numbers: what falls. -/
def sumV (v : Nat → Nat) : Nat → Nat
  | 0 => 0
  | m + 1 => sumV v m + v m
theorem sumV_le {v v' : Nat → Nat} (h : ∀ n, v n ≤ v' n) : ∀ m, sumV v m ≤ sumV v' m
  | 0 => Nat.le_refl _
  | m + 1 => by have := sumV_le h m; have := h m; show sumV v m + v m ≤ sumV v' m + v' m; omega
theorem sumV_lt {v v' : Nat → Nat} (h : ∀ n, v n ≤ v' n) : ∀ {m n : Nat}, n < m → v n < v' n → sumV v m < sumV v' m
  | 0, _, hn, _ => by omega
  | m + 1, n, hn, hl => by
    show sumV v m + v m < sumV v' m + v' m
    have := sumV_le h m
    have := h m
    by_cases e : n = m
    · subst e; omega
    · have := sumV_lt h (m := m) (n := n) (by omega) hl; omega

end Ex
end Go.Proofs.YtggodknnfpegmaaDoor
