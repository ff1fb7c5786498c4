import Derived.Test.YtooelfjceehmmaaDoorMSpOr
import Derived.Deep.RegionHeld3
import Derived.ChangeKeysEq
namespace Go.Proofs.YtooelfjceehmmaaDoor
open Go.RowKit
namespace Ex

/-- What rules G make of B, again and again: the least set. -/
def LfClosed {I K : Type} (B : K → Prop) (J : I → Prop) (G : I → (K → Prop) → K → Prop) (S : K → Prop) : Prop := (∀ x, B x → S x) ∧ ∀ i, J i → ∀ x, G i S x → S x
def Lf {I K : Type} (B : K → Prop) (J : I → Prop) (G : I → (K → Prop) → K → Prop) (x : K) : Prop := ∀ S, LfClosed B J G S → S x
def Up {I K : Type} (G : I → (K → Prop) → K → Prop) : Prop := ∀ i (S S' : K → Prop), (∀ x, S x → S' x) → ∀ x, G i S x → G i S' x
section
variable {I K : Type} {B : K → Prop} {J : I → Prop} {G : I → (K → Prop) → K → Prop}
theorem lf_closed (hG : Up G) : LfClosed B J G (Lf B J G) := ⟨fun x hx _ hS => hS.1 x hx, fun i hi x hx _ hS => hS.2 i hi x (hG i _ _ (fun _ hy => hy _ hS) x hx)⟩
/-- A step from old to A, in which the rules D have been gone through. -/
structure LfStep (B : K → Prop) (J : I → Prop) (G : I → (K → Prop) → K → Prop) (old A : K → Prop) (D : I → Prop) : Prop where
  up : ∀ x, old x → A x
  sound : (∀ x, old x → Lf B J G x) → ∀ x, A x → Lf B J G x
  closed : ∀ i, D i → ∀ x, G i old x → A x
theorem LfStep.start (old : K → Prop) {D : I → Prop} (hD : ∀ i, ¬ D i) : LfStep B J G old old D := ⟨fun _ h => h, fun h => h, fun i h => absurd h (hD i)⟩
theorem LfStep.put (hG : Up G) {old A A' : K → Prop} {D D' : I → Prop} (h : LfStep B J G old A D) {i : I} (hi : J i) (hD : ∀ k, D' k → D k ∨ k = i) (hup : ∀ x, A x → A' x) (hin : ∀ x, A' x → A x ∨ G i A x) (hall : ∀ x, G i A x → A' x) : LfStep B J G old A' D' := by
  refine ⟨fun x hx => hup x (h.up x hx), fun ho x hx => ?_, fun k hk x hx => ?_⟩
  · rcases hin x hx with hx | hx
    · exact h.sound ho x hx
    · exact (lf_closed hG).2 i hi x (hG i _ _ (h.sound ho) x hx)
  · rcases hD k hk with hk | rfl
    · exact hup x (h.closed k hk x hx)
    · exact hall x (hG k _ _ h.up x hx)
/-- Rules that make nothing, or no rules at all. -/
theorem LfStep.skip {old A : K → Prop} {D D' : I → Prop} (h : LfStep B J G old A D) (hD : ∀ k, D' k → D k ∨ ∀ x, ¬ G k old x) : LfStep B J G old A D' :=
  ⟨h.up, h.sound, fun k hk x hx => (hD k hk).elim (fun hk => h.closed k hk x hx) (fun hn => absurd hx (hn x))⟩
theorem LfStep.same {old A A' : K → Prop} {D : I → Prop} (h : LfStep B J G old A D) (hs : ∀ x, A x ↔ A' x) : LfStep B J G old A' D :=
  ⟨fun x hx => (hs x).1 (h.up x hx), fun ho x hx => h.sound ho x ((hs x).2 hx), fun k hk x hx => (hs x).1 (h.closed k hk x hx)⟩
theorem LfStep.done {A : K → Prop} {D : I → Prop} (h : LfStep B J G A A D) (hD : ∀ i, J i → D i) (hB : ∀ x, B x → A x) (hs : ∀ x, A x → Lf B J G x) (x : K) : A x ↔ Lf B J G x :=
  ⟨hs x, fun hx => hx A ⟨hB, fun i hi => h.closed i (hD i hi)⟩⟩
end

/-- With what a row begins, behind which nx stands. -/
def HeadS (nl : Nat) (E : Nat → Prop) (F : Nat × Nat → Prop) (nx : Nat → Prop) : List SymM → Nat → Prop
  | [], t => nx t
  | x :: xs, t => (x.1 = 3 ∧ (F (x.2.toNat, t) ∨ (E x.2.toNat ∧ HeadS nl E F nx xs t))) ∨ (x.1 ≠ 3 ∧ t = termN nl x)
theorem HeadS.mono {nl : Nat} {E : Nat → Prop} {F F' : Nat × Nat → Prop} {nx nx' : Nat → Prop} (hF : ∀ x, F x → F' x) (hn : ∀ t, nx t → nx' t) : ∀ {r : List SymM} {t : Nat}, HeadS nl E F nx r t → HeadS nl E F' nx' r t
  | [], _, h => hn _ h
  | _ :: _, _, .inl ⟨h1, .inl h⟩ => .inl ⟨h1, .inl (hF _ h)⟩
  | _ :: _, _, .inl ⟨h1, .inr ⟨h2, h⟩⟩ => .inl ⟨h1, .inr ⟨h2, HeadS.mono hF hn h⟩⟩
  | _ :: _, _, .inr h => .inr h
/-- The rules of First: one a production. -/
def FiG (nl : Nat) (E : Nat → Prop) (ps : List ProdM) (i : Nat) (F : Nat × Nat → Prop) (x : Nat × Nat) : Prop := ∃ p, ps[i]? = some p ∧ x.1 = p.1.toNat ∧ HeadS nl E F (fun _ => False) p.2 x.2
def Fi (nl : Nat) (E : Nat → Prop) (ps : List ProdM) : Nat × Nat → Prop := Lf (fun _ => False) (fun i => i < ps.length) (FiG nl E ps)
theorem fi_up (nl : Nat) (E : Nat → Prop) (ps : List ProdM) : Up (FiG nl E ps) := fun _ _ _ h _ ⟨p, h1, h2, h3⟩ => ⟨p, h1, h2, h3.mono h (fun _ h => h)⟩
/-- The rules of Follow: one a name in a right side. -/
def FoG (nl : Nat) (E : Nat → Prop) (F : Nat × Nat → Prop) (ps : List ProdM) (i : Nat × Nat) (S : Nat × Nat → Prop) (x : Nat × Nat) : Prop := ∃ p y, ps[i.1]? = some p ∧ p.2[i.2]? = some y ∧ y.1 = 3 ∧ x.1 = y.2.toNat ∧ HeadS nl E F (fun t => S (p.1.toNat, t)) (p.2.drop (i.2 + 1)) x.2
def FoB (nl st : Nat) (x : Nat × Nat) : Prop := x = (st, nl + 1)
def FoJ (ps : List ProdM) (i : Nat × Nat) : Prop := ∃ p, ps[i.1]? = some p ∧ i.2 < p.2.length
def Fo (nl st : Nat) (E : Nat → Prop) (F : Nat × Nat → Prop) (ps : List ProdM) : Nat × Nat → Prop := Lf (FoB nl st) (FoJ ps) (FoG nl E F ps)
theorem fo_up (nl : Nat) (E : Nat → Prop) (F : Nat × Nat → Prop) (ps : List ProdM) : Up (FoG nl E F ps) := fun _ _ _ h _ ⟨p, y, h1, h2, h3, h4, h5⟩ => ⟨p, y, h1, h2, h3, h4, h5.mono (fun _ h => h) (fun _ ht => h _ ht)⟩
/-- Families of sets, a number each. -/
def famS (F : Nat → Nat) (x : Nat × Nat) : Prop := (F x.1).testBit x.2 = true
def orV (F : Nat → Nat) (n A : Nat) : Nat → Nat := fun i => if i = n then F i ||| A else F i
theorem fam_set (F : Nat → Nat) (n A : Nat) (x : Nat × Nat) : famS (orV F n A) x ↔ famS F x ∨ (x.1 = n ∧ A.testBit x.2 = true) := by
  unfold famS orV
  by_cases e : x.1 = n
  · rw [if_pos e, Nat.testBit_or, Bool.or_eq_true]
    exact ⟨fun h => h.imp id (fun h => ⟨e, h⟩), fun h => h.imp id (·.2)⟩
  · rw [if_neg e]
    exact ⟨Or.inl, fun h => h.elim id (fun h => absurd h.1 e)⟩
/-- The heads of a row, by numbers. -/
def headsM (nl E : Nat) (F : Nat → Nat) (nx : Nat) : List SymM → Nat → Nat
  | [], out => out ||| nx
  | x :: xs, out => if x.1 = 3 then (if E.testBit x.2.toNat then headsM nl E F nx xs (out ||| F x.2.toNat) else out ||| F x.2.toNat) else out ||| 2 ^ termN nl x
theorem heads_bit (nl E : Nat) (F : Nat → Nat) (nx : Nat) : ∀ (r : List SymM) (out t : Nat), (headsM nl E F nx r out).testBit t = true ↔ out.testBit t = true ∨ HeadS nl (fun n => E.testBit n = true) (famS F) (fun t => nx.testBit t = true) r t
  | [], out, t => by
    show (out ||| nx).testBit t = true ↔ _
    rw [Nat.testBit_or, Bool.or_eq_true]
    exact Iff.rfl
  | x :: xs, out, t => by
    show (if x.1 = 3 then _ else _ : Nat).testBit t = true ↔ out.testBit t = true ∨ ((x.1 = 3 ∧ _) ∨ _)
    by_cases h3 : x.1 = 3
    · rw [if_pos h3]
      by_cases hE : E.testBit x.2.toNat = true
      · rw [if_pos hE, heads_bit nl E F nx xs, Nat.testBit_or, Bool.or_eq_true]
        constructor
        · rintro ((h | h) | h)
          · exact .inl h
          · exact .inr (.inl ⟨h3, .inl h⟩)
          · exact .inr (.inl ⟨h3, .inr ⟨hE, h⟩⟩)
        · rintro (h | ⟨_, h | ⟨_, h⟩⟩ | ⟨h, _⟩)
          · exact .inl (.inl h)
          · exact .inl (.inr h)
          · exact .inr h
          · exact absurd h3 h
      · rw [if_neg hE, Nat.testBit_or, Bool.or_eq_true]
        constructor
        · rintro (h | h)
          · exact .inl h
          · exact .inr (.inl ⟨h3, .inl h⟩)
        · rintro (h | ⟨_, h | ⟨h, _⟩⟩ | ⟨h, _⟩)
          · exact .inl h
          · exact .inr h
          · exact absurd h hE
          · exact absurd h3 h
    · rw [if_neg h3, testBit_with]
      constructor
      · rintro (h | h)
        · exact .inl h
        · exact .inr (.inr ⟨h3, h⟩)
      · rintro (h | ⟨h, _⟩ | ⟨_, h⟩)
        · exact .inl h
        · exact absurd h h3
        · exact .inr h
theorem heads_lt {nl E : Nat} {F : Nat → Nat} {nx : Nat} (hnl : nl < 128) (hF : ∀ n, F n < 2 ^ 128) (hx : nx < 2 ^ 128) : ∀ (r : List SymM) (out : Nat), out < 2 ^ 128 → (∀ x ∈ r, x.1 ≠ 3 → termN nl x < 128) → headsM nl E F nx r out < 2 ^ 128
  | [], out, ho, _ => Nat.or_lt_two_pow ho hx
  | x :: xs, out, ho, hr => by
    show (if x.1 = 3 then _ else _ : Nat) < _
    split
    · split
      · exact heads_lt hnl hF hx xs _ (Nat.or_lt_two_pow ho (hF _)) (fun y hy => hr y (List.mem_cons_of_mem _ hy))
      · exact Nat.or_lt_two_pow ho (hF _)
    · exact Nat.or_lt_two_pow ho (Nat.pow_lt_pow_right (by decide) (hr x List.mem_cons_self (by assumption)))

end Ex
end Go.Proofs.YtooelfjceehmmaaDoor
namespace Go.Proofs.YtooelfjceehmmaaDoor
open Go.RowKit
namespace Ex

/-- The empty trees below a row have so many nodes, where R says it of names. -/
def EzRow (R : Nat → Nat → Prop) : List SymM → Nat → Prop
  | [], k => k = 0
  | x :: xs, k => x.1 = 3 ∧ ∃ a b, R x.2.toNat a ∧ EzRow R xs b ∧ k = a + b
def EzClosed (ps : List ProdM) (R : Nat → Nat → Prop) : Prop := ∀ p ∈ ps, ∀ k, EzRow R p.2 k → R p.1.toNat (k + 1)
/-- The name has an empty tree of k nodes. -/
def Ez (ps : List ProdM) (n k : Nat) : Prop := ∀ R, EzClosed ps R → R n k
theorem EzRow.mono {R R' : Nat → Nat → Prop} (h : ∀ n k, R n k → R' n k) : ∀ {r : List SymM} {k : Nat}, EzRow R r k → EzRow R' r k
  | [], _, e => e
  | _ :: _, _, ⟨h3, a, b, ha, hb, e⟩ => ⟨h3, a, b, h _ _ ha, EzRow.mono h hb, e⟩
theorem ez_closed (ps : List ProdM) : EzClosed ps (Ez ps) := fun p hp k hk R hR => hR p hp k (hk.mono (fun _ _ h => h R hR))
/-- The nodes of a tree by the numbers that are known; 257 at what is no name. -/
def treeC (v : Nat → Nat) : List SymM → Nat → Nat
  | [], c => c
  | x :: xs, c => if x.1 = 3 then treeC v xs (c + v x.2.toNat) else 257
theorem tree_mono {v v' : Nat → Nat} (h : ∀ n, v n ≤ v' n) : ∀ (r : List SymM) (c c' : Nat), c ≤ c' → treeC v r c ≤ treeC v' r c'
  | [], _, _, hc => hc
  | x :: xs, c, c', hc => by
    show (if x.1 = 3 then _ else _) ≤ (if x.1 = 3 then _ else _)
    split
    · exact tree_mono h xs _ _ (by have := h x.2.toNat; omega)
    · exact Nat.le_refl _
theorem tree_big (v : Nat → Nat) : ∀ (r : List SymM) (c : Nat), 257 ≤ c → 257 ≤ treeC v r c
  | [], _, h => h
  | x :: xs, c, h => by
    show _ ≤ (if x.1 = 3 then _ else _)
    split
    · exact tree_big v xs _ (by omega)
    · exact Nat.le_refl _
/-- Numbers that are small enough are those of trees. -/
def EzSound (ps : List ProdM) (v : Nat → Nat) : Prop := ∀ n, v n ≤ 257 ∧ (v n ≤ 256 → Ez ps n (v n))
theorem tree_sound {ps : List ProdM} {v : Nat → Nat} (h : EzSound ps v) : ∀ (r : List SymM) (c : Nat), treeC v r c ≤ 256 → ∃ k, EzRow (Ez ps) r k ∧ treeC v r c = c + k
  | [], c, _ => ⟨0, rfl, rfl⟩
  | x :: xs, c, hc => by
    have e : treeC v (x :: xs) c = if x.1 = 3 then treeC v xs (c + v x.2.toNat) else 257 := rfl
    rw [e] at hc ⊢
    by_cases h3 : x.1 = 3
    · rw [if_pos h3] at hc ⊢
      obtain ⟨k, hk, ek⟩ := tree_sound h xs _ hc
      have hv : v x.2.toNat ≤ 256 := by
        rcases Nat.lt_or_ge 256 (v x.2.toNat) with hh | hh
        · have := tree_big v xs (c + v x.2.toNat) (by omega)
          omega
        · exact hh
      exact ⟨v x.2.toNat + k, ⟨h3, _, _, (h _).2 hv, hk, rfl⟩, by rw [ek]; omega⟩
    · rw [if_neg h3] at hc
      omega
theorem tree_le {v : Nat → Nat} : ∀ {r : List SymM} {k : Nat} (c : Nat), EzRow (fun n k => v n ≤ k) r k → treeC v r c ≤ c + k
  | [], _, c, e => by cases e; exact Nat.le_refl _
  | x :: xs, k, c, ⟨h3, a, b, ha, hb, e⟩ => by
    show (if x.1 = 3 then _ else _) ≤ _
    rw [if_pos h3]
    have := tree_le (v := v) (c + v x.2.toNat) hb
    omega
/-- A step over the first j productions. -/
structure EzStep (ps : List ProdM) (old v : Nat → Nat) (j : Nat) : Prop where
  down : ∀ n, v n ≤ old n
  sound : EzSound ps old → EzSound ps v
  closed : ∀ i p, i < j → ps[i]? = some p → v p.1.toNat ≤ treeC old p.2 1
theorem EzStep.start (ps : List ProdM) (old : Nat → Nat) : EzStep ps old old 0 := ⟨fun _ => Nat.le_refl _, fun h => h, fun i p h => by omega⟩
theorem EzStep.put {ps : List ProdM} {old v v' : Nat → Nat} {j : Nat} (h : EzStep ps old v j) {p : ProdM} (hp : ps[j]? = some p) (e1 : v' p.1.toNat = min (v p.1.toNat) (treeC v p.2 1)) (e2 : ∀ n, n ≠ p.1.toNat → v' n = v n) : EzStep ps old v' (j + 1) := by
  have hle : ∀ n, v' n ≤ v n := by
    intro n
    by_cases hn : n = p.1.toNat
    · subst hn; rw [e1]; exact Nat.min_le_left _ _
    · rw [e2 n hn]; exact Nat.le_refl _
  refine ⟨fun n => Nat.le_trans (hle n) (h.down n), fun ho n => ?_, fun i q hi hq => ?_⟩
  · have hs := h.sound ho
    by_cases hn : n = p.1.toNat
    · subst hn
      refine ⟨Nat.le_trans (hle _) (hs _).1, fun hl => ?_⟩
      rw [e1] at hl ⊢
      rcases Nat.lt_or_ge (treeC v p.2 1) (v p.1.toNat) with hh | hh
      · rw [Nat.min_eq_right (Nat.le_of_lt hh)] at hl ⊢
        obtain ⟨k, hk, ek⟩ := tree_sound hs p.2 1 hl
        rw [ek, Nat.add_comm]
        exact ez_closed ps p (List.mem_of_getElem? hp) k hk
      · rw [Nat.min_eq_left hh] at hl ⊢
        exact (hs _).2 hl
    · rw [e2 n hn]
      exact hs n
  · rcases Nat.lt_or_ge i j with hij | hij
    · exact Nat.le_trans (hle _) (h.closed i q hij hq)
    · have e : i = j := by omega
      subst e
      rw [hp] at hq
      injection hq with hq
      subst hq
      rw [e1]
      exact Nat.le_trans (Nat.min_le_right _ _) (tree_mono h.down p.2 1 1 (Nat.le_refl _))
/-- The numbers of the least empty trees; 257 where there is none of at most 256 nodes. -/
def EzIs (ps : List ProdM) (v : Nat → Nat) : Prop := ∀ n, v n ≤ 257 ∧ (v n ≤ 256 → Ez ps n (v n)) ∧ ∀ k, Ez ps n k → v n ≤ k ∨ 257 ≤ k
theorem EzStep.done {ps : List ProdM} {v : Nat → Nat} (h : EzStep ps v v ps.length) (hs : EzSound ps v) : EzIs ps v := by
  intro n
  refine ⟨(hs n).1, (hs n).2, fun k hk => Or.inl (hk (fun n k => v n ≤ k) (fun p hp k hr => ?_))⟩
  obtain ⟨i, hi⟩ := List.getElem?_of_mem hp
  have := h.closed i p (List.getElem?_eq_some_iff.1 hi).1 hi
  have := tree_le (v := v) 1 hr
  omega
/-- The sum of the first m numbers: what falls. -/
def sumV (v : Nat → Nat) : Nat → Nat
  | 0 => 0
  | m + 1 => sumV v m + v m
theorem sumV_le {v v' : Nat → Nat} (h : ∀ n, v n ≤ v' n) : ∀ m, sumV v m ≤ sumV v' m
  | 0 => Nat.le_refl _
  | m + 1 => by have := sumV_le h m; have := h m; show sumV v m + v m ≤ sumV v' m + v' m; omega
theorem sumV_lt {v v' : Nat → Nat} (h : ∀ n, v n ≤ v' n) : ∀ {m n : Nat}, n < m → v n < v' n → sumV v m < sumV v' m
  | 0, _, hn, _ => by omega
  | m + 1, n, hn, hl => by
    show sumV v m + v m < sumV v' m + v' m
    have := sumV_le h m
    have := h m
    by_cases e : n = m
    · subst e; omega
    · have := sumV_lt h (m := m) (n := n) (by omega) hl; omega

end Ex
end Go.Proofs.YtooelfjceehmmaaDoor
namespace Go.Proofs.YtooelfjceehmmaaDoor
open Go.RowKit
attribute [local go_sem] Oper.semAt_some
namespace Ex

/-- What IndexFunc answers: -1, or a place at which the test holds. -/
def IxIs {α : Type} (P : α → Bool) (row : List α) (r : Int) : Prop := (r = -1 ∧ row.any P = false) ∨ (0 ≤ r ∧ r < 17592186044416 ∧ row.any P = true)
def IxR {α : Type} (P : α → Bool) (row : List α) (w : World) (vi : Value) (wr : World) : Prop := ∃ j : Nat, vi = .int .i64 (j : Int) ∧ j ≤ row.length ∧ Hid ((row.take j).any P = false) ∧ Hid (Kept w wr)
set_option linter.unusedSimpArgs false in
set_option maxRecDepth 100000 in
set_option maxHeartbeats 4000000 in
theorem indexSym_is (f : Nat) (bs : Array Value) (P : SymM → Bool) (ar : Option Addr) (nr cr : Nat) (row : List SymM) (hrow : row.length = nr) (w : World) (hr : RightAt w (.slice ar nr cr) row)
    (hf : ∀ x ∈ row, ∀ wr, Kept w wr → Calls Tryd.prog f (#[.agg #[.int .i64 x.1, .int .i64 x.2]] ++ bs) wr fun e w' => e = .returned (.bool (P x)) ∧ Kept wr w')
    (ef : ∀ args w, (callFunc f args).run Tryd.prog w = .ok (.enter f args) w) :
    Calls Tryd.prog 89 #[.slice ar nr cr, .func (.func f) #[] bs] w fun e w' => ∃ r : Int, e = .returned (.int .i64 r) ∧ IxIs P row r ∧ Kept w w' := by
  have HR := hide1 hr
  have HROW := hide1 hrow
  have HF := hide1 hf
  obtain ⟨_, _, e1, hc, hn⟩ := hr.len
  simp only [Value.slice.injEq] at e1
  obtain ⟨rfl, en, rfl⟩ := e1
  clear en
  rw [hrow] at hc hn
  have gn : (nr : Int) ≤ 17592186044416 := by omega
  clear hr hrow hf
  go_enter Tryd.func89, Tryd.ntmps89
  go_wp2_with fail
  go_loopw [8] (IxR P row w) (fun i _ => nr - (intOf i).toNat)
  case atStart => exact ⟨0, rfl, Nat.zero_le _, rfl, Kept.refl w⟩
  case round =>
    obtain ⟨j, rfl, hj, HA, HKr⟩ := hrel
    rw [HROW.out] at hj
    by_cases hlt : (j : Int) < (nr : Int)
    · obtain ⟨x, hx⟩ : ∃ x, row[j]? = some x := ⟨_, List.getElem?_eq_getElem (by have := HROW.out; omega)⟩
      obtain ⟨cb, ob, cs, ea, hcb, hlen, hcell, hcs⟩ := SliceOf.el (HR.out.keep HKr.out) hx
      have hcs : cs = [.int .i64 x.1, .int .i64 x.2] := hcs
      subst ea hcs
      have k0 := hcell 0 _ rfl
      have k1 := hcell 1 _ rfl
      have k0 : wr.cell? ⟨cb, ob + j * 2, none⟩ = some (.int .i64 x.1) := k0
      have HX := hide1 hx
      have HC := hide1 (HF.out x (List.mem_of_getElem? hx) wr HKr.out)
      have gjc : (j : Int) < (cr : Int) := by omega
      obtain ⟨kd, nn⟩ := x
      have hef := ef
      clear hx hcell
      have HA2 : Hid (∀ b, P (kd, nn) = b → (row.take (j + 1)).any P = b) := by
        intro b hb
        rw [List.take_add_one, HX.out, List.any_append, HA.out]
        simpa using hb
      cases hp : P (kd, nn) with
      | true =>
        rw [hp] at HC
        have HB := hide1 (HA2.out true hp)
        clear hp HA2
        go_wp2_with fail
        refine HC.out.mono ?_
        rintro e w6 ⟨rfl, hk6⟩
        have HK6 := hide1 (gtrans HKr.out hk6)
        clear hk6
        go_wp2_with fail
        go_ret
        refine ⟨(j : Int), rfl, .inr ⟨by omega, by omega, ?_⟩, HK6.out⟩
        rw [← List.take_append_drop (j + 1) row, List.any_append, HB.out]
        rfl
      | false =>
        rw [hp] at HC
        have HB := hide1 (HA2.out false hp)
        clear hp HA2
        go_wp2_with fail
        refine HC.out.mono ?_
        rintro e w6 ⟨rfl, hk6⟩
        have HK6 := hide1 (gtrans HKr.out hk6)
        clear hk6
        go_wp2_with fail
        go_roundw
        case rel => exact ⟨j + 1, by go_num, by rw [HROW.out]; omega, HB, HK6⟩
        case measure => simp [intOf]; omega
    · go_wp2_with fail
      go_ret
      refine ⟨-1, rfl, .inl ⟨rfl, ?_⟩, HKr.out⟩
      rw [← HA.out, List.take_of_length_le (by have := HROW.out; omega)]
set_option linter.unusedSimpArgs false in
set_option maxRecDepth 100000 in
set_option maxHeartbeats 4000000 in
theorem containsSym_is (f : Nat) (bs : Array Value) (P : SymM → Bool) (ar : Option Addr) (nr cr : Nat) (row : List SymM) (hrow : row.length = nr) (b : Bool) (hb : row.any P = b) (w : World) (hr : RightAt w (.slice ar nr cr) row)
    (hf : ∀ x ∈ row, ∀ wr, Kept w wr → Calls Tryd.prog f (#[.agg #[.int .i64 x.1, .int .i64 x.2]] ++ bs) wr fun e w' => e = .returned (.bool (P x)) ∧ Kept wr w')
    (ef : ∀ args w, (callFunc f args).run Tryd.prog w = .ok (.enter f args) w) :
    Calls Tryd.prog 77 #[.slice ar nr cr, .func (.func f) #[] bs] w fun e w' => e = .returned (.bool b) ∧ Kept w w' := by
  have HI := hide1 (indexSym_is f bs P ar nr cr row hrow w hr hf ef)
  have HB := hide1 hb
  clear hr hf hrow hb
  go_enter Tryd.func77, Tryd.ntmps77
  go_wp2_with (go_at_call 89; refine HI.out.mono ?_; rintro e w6 ⟨r, rfl, hr6, hk6⟩; have HR6 := hide1 hr6; have HK6 := hide1 hk6; clear hr6 hk6)
  go_ret
  refine ⟨?_, HK6.out⟩
  have e : decide (0 ≤ r) = b := by
    rcases HR6.out with ⟨h1, h2⟩ | ⟨h1, _, h2⟩
    · rw [← HB.out, h2, h1]; rfl
    · rw [← HB.out, h2]; simpa using h1
  rw [← e]
  rfl

end Ex
end Go.Proofs.YtooelfjceehmmaaDoor
namespace Go.Proofs.YtooelfjceehmmaaDoor
open Go.RowKit
attribute [local go_sem] Oper.semAt_some
namespace Ex

/-- A box with one value in it. -/
def OneB (w : World) (b : Nat) (v : Value) (t : TypeId) : Prop := w.heap[b]? = some (.cells #[v] t (0, 0))
theorem OneB.cell {w : World} {b : Nat} {v : Value} {t : TypeId} (h : OneB w b v t) : w.cell? ⟨b, 0, none⟩ = some v := by unfold OneB at h; simp [World.cell?, h]
theorem OneB.lt {w : World} {b : Nat} {v : Value} {t : TypeId} (h : OneB w b v t) : b < w.heap.size := (Array.getElem?_eq_some_iff.1 h).1
theorem OneB.keep {w w' : World} {b : Nat} {v : Value} {t : TypeId} (h : OneB w b v t) (hk : Kept w w') : OneB w' b v t := (hk.2.2.2.2 b h.lt).trans h
theorem OneB.but {w w' : World} {b d : Nat} {v : Value} {t : TypeId} (h : OneB w b v t) (hk : KeptBut d w w') (hd : b ≠ d) : OneB w' b v t := (hk.2.2.2.2 b h.lt hd).trans h
theorem OneB.new (w : World) (v : Value) (t : TypeId) : OneB (w.alloc (.cells #[v] t)) w.heap.size v t := heap_alloc_new w _
/-- Is a symbol not (yet) made? -/
def missB (t : Bool) (A : Nat) (x : SymM) : Bool := if x.1 = 3 then !A.testBit x.2.toNat else !t
/-- The names in a row are numbers below 128. -/
def NamesOk (x : SymM) : Prop := x.1 = 3 → 0 ≤ x.2 ∧ x.2 < 128
set_option linter.unusedSimpArgs false in
set_option maxRecDepth 100000 in
set_option maxHeartbeats 4000000 in
theorem missing_is (qd tb d A : Nat) (t : Bool) (x : SymM) (w : World) (hx : NamesOk x) (hq : OneB w qd (.pointer (some ⟨d, 0, none⟩)) 122) (ht : OneB w tb (.bool t) 4) (hA : SetB w d A) :
    Calls Tryd.prog 76 #[.agg #[.int .i64 x.1, .int .i64 x.2], .pointer (some ⟨qd, 0, none⟩), .pointer (some ⟨tb, 0, none⟩)] w fun e w' => e = .returned (.bool (missB t A x)) ∧ Kept w w' := by
  obtain ⟨kd, nn⟩ := x
  have HX := hide1 hx
  have HK1 : Hid (Kept w (w.alloc (.cells #[.int .i64 kd, .int .i64 nn] 58))) := (Kept.refl w).alloc _ _
  have hb : (w.alloc (.cells #[.int .i64 kd, .int .i64 nn] 58)).heap[w.heap.size]? = some (.cells #[.int .i64 kd, .int .i64 nn] 58 (0, 0)) := heap_alloc_new w _
  have b0 : (w.alloc (.cells #[.int .i64 kd, .int .i64 nn] 58)).cell? ⟨w.heap.size, 0, none⟩ = some (.int .i64 kd) := by simp only [World.cell?, hb]; rfl
  have b1 : (w.alloc (.cells #[.int .i64 kd, .int .i64 nn] 58)).cell? ⟨w.heap.size, 1, none⟩ = some (.int .i64 nn) := by simp only [World.cell?, hb]; rfl
  have q0 := (hq.keep HK1.out).cell
  have t0 := (ht.keep HK1.out).cell
  have a0 := (hA.keep HK1.out).cell (i := 0) (by omega)
  have a1 := (hA.keep HK1.out).cell (i := 1) (by omega)
  clear hx hq ht hA hb
  go_enter Tryd.func76, Tryd.ntmps76
  go_upto_region 1 with fail
  obtain ⟨W, hW⟩ : ∃ W, w.alloc (.cells #[.int .i64 kd, .int .i64 nn] 58) = W := ⟨_, rfl⟩
  rw [hW] at HK1 b0 b1 q0 t0 a0 a1 ⊢
  clear hW
  by_cases h3 : kd = 3
  · subst h3
    obtain ⟨hn0, hn1⟩ := HX.out rfl
    obtain ⟨p, rfl⟩ : ∃ p : Nat, nn = (p : Int) := ⟨nn.toNat, by simp only at hn0; omega⟩
    have hp : p < 128 := by simp only at hn1; omega
    have HP := hide1 hp
    clear HX hn0 hn1 hp t0
    have HM : Hid (missB t A (3, (p : Int)) = !A.testBit p) := by show _ = _; simp [missB]
    go_upto_region 2 with fail
    have k0 := keeps q0
    have k1 := keeps b1
    have k2 := keeps a0
    have k3 := keeps a1
    have hkr : Kept W W := Kept.refl W
    clear b0 b1 q0 a0 a1
    go_region_held3 (fun w' => Kept W w') (first | assumption | exact Kept.refl _ | exact gtrans (by assumption) (by assumption))
      ((go_at_call 44; refine (sHas_is A p HP.out _).mono ?_; rintro e w11 ⟨rfl, hk11⟩; have k11 : Kept W w11 := gtrans (by assumption) hk11))
    have HK11 := hide1 (gtrans HK1.out k11)
    clear k0 k1 k2 k3 hkr hk11 k11
    go_wp2_with fail
    go_ret
    exact ⟨by rw [HM.out]; rfl, HK11.out⟩
  · have HM : Hid (missB t A (kd, nn) = !t) := by show _ = _; simp [missB, h3]
    have hb3 : (kd == 3) = false := by simpa using h3
    go_wp2_with fail
    go_ret
    exact ⟨by rw [HM.out]; rfl, HK1.out⟩

end Ex
end Go.Proofs.YtooelfjceehmmaaDoor
namespace Go.Proofs.YtooelfjceehmmaaDoor
open Go.RowKit
namespace Ex

theorem eq_words {a0 a1 b0 b1 : Int} (w : World) (d : Nat) : (Op.equalIn (d + 2) 75 (.agg #[.int .u64 a0, .int .u64 a1]) (.agg #[.int .u64 b0, .int .u64 b1])).run Tryd.prog w = .ok (a0 == b0 && a1 == b1) w := by
  have hu : Tryd.prog.underlying 75 = some (.array 2 73) := by kernel_rfl
  have hi0 : (Tryd.prog.info? 73).isSome = true := by kernel_rfl
  obtain ⟨i, hi⟩ := Option.isSome_iff_exists.1 hi0
  have hpl : Tryd.prog.plainKey 73 = true := by kernel_rfl
  have hc : Tryd.prog.cellsOf 73 = 1 := by kernel_rfl
  have hw : Tryd.prog.underlying 73 = some (.int .u64) := by kernel_rfl
  have hp : ∀ (xs : Array Value) (k : Nat) (v : Value) (w : World), xs[k]? = some v → (part 73 xs k).run Tryd.prog w = .ok v w := by
    intro xs k v w h
    exact run_part_plain w hpl h
  rw [run_equalIn_array w (d + 1) _ _ hu hi, hc]
  show (Op.eqItems (d + 1) 73 1 _ _ [0, 1]).run _ _ = _
  simp only [Op.eqItems, Sem.run_bind, Nat.mul_one]
  rw [hp _ 0 (.int .u64 a0) w rfl]
  simp only [Result.andThen_ok]
  rw [hp _ 0 (.int .u64 b0) w rfl]
  simp only [Result.andThen_ok]
  rw [run_equalIn_int w d _ .u64 .u64 a0 b0 hw]
  simp only [Result.andThen_ok]
  cases h0 : (a0 == b0) with
  | false => simp
  | true =>
    simp only [Bool.not_true, Bool.false_eq_true, if_false, Sem.run_bind]
    rw [hp _ 1 (.int .u64 a1) w rfl]
    simp only [Result.andThen_ok]
    rw [hp _ 1 (.int .u64 b1) w rfl]
    simp only [Result.andThen_ok]
    rw [run_equalIn_int w d _ .u64 .u64 a1 b1 hw]
    simp only [Result.andThen_ok]
    cases h1 : (a1 == b1) with
    | false => simp
    | true => simp
theorem sets_ne {A B : Nat} (hA : A < 2 ^ 128) (hB : B < 2 ^ 128) : (wordAt A 0 = wordAt B 0 ∧ wordAt A 1 = wordAt B 1) ↔ A = B := by
  refine ⟨fun h => ?_, fun h => by subst h; exact ⟨rfl, rfl⟩⟩
  have h0 := h.1
  have h1 := h.2
  unfold wordAt at h0 h1
  simp only [Nat.mul_zero, Nat.pow_zero, Nat.div_one, Nat.mul_one] at h0 h1
  omega
theorem words_b {A B : Nat} (hA : A < 2 ^ 128) (hB : B < 2 ^ 128) : (((wordAt A 0 : Nat) : Int) == ((wordAt B 0 : Nat) : Int) && ((wordAt A 1 : Nat) : Int) == ((wordAt B 1 : Nat) : Int)) = (A == B) := by
  rw [Bool.eq_iff_iff, Bool.and_eq_true, beq_iff_eq, beq_iff_eq, beq_iff_eq, ← sets_ne hA hB]
  constructor
  · rintro ⟨h1, h2⟩; exact ⟨by omega, by omega⟩
  · rintro ⟨h1, h2⟩; exact ⟨by omega, by omega⟩
theorem neq_set {A B : Nat} (hA : A < 2 ^ 128) (hB : B < 2 ^ 128) (w : World) : (binOp .neq 75 (.agg #[.int .u64 (wordAt A 0 : Nat), .int .u64 (wordAt A 1 : Nat)]) (.agg #[.int .u64 (wordAt B 0 : Nat), .int .u64 (wordAt B 1 : Nat)])).run Tryd.prog w = .ok (.bool (A != B)) w := by
  rw [run_neq_struct]
  rw [eq_words w 9998, words_b hA hB]
  rfl

end Ex
end Go.Proofs.YtooelfjceehmmaaDoor
