import Derived.Test.YtooelfjceehmmaaDoorMSpYt
import Derived.Test.YtooelfjceehmmaaDoorMSpFo
import Derived.Test.YtooelfjceehmmaaDoorMSpLs
import Derived.Test.YtooelfjceehmmaaDoorMSpYz
namespace Go.Proofs.YtooelfjceehmmaaDoor
open Go.RowKit
namespace Ex

def patZ : PatN 1 := (show PatN (0 + 1) from ((0, 0, 0, 0, 0, []) : Int × Int × Int × Int × Int × List (PatN 0)))
/-- The fixed spec of the laws. -/
def lexS : List (LexM 0) := [(⟨#[97]⟩, false, patZ), (⟨#[98]⟩, false, patZ), (⟨#[119]⟩, true, patZ), (⟨#[99]⟩, false, patZ)]
def psS : List ProdM := [(0, [(3, 1), (3, 2), (1, 3)]), (0, [(2, 0)]), (1, [(1, 0), (3, 1)]), (1, []), (2, [(1, 1)]), (2, [(3, 1)])]
theorem psS_mem (p : ProdM) (h : p ∈ psS) : p = (0, [(3, 1), (3, 2), (1, 3)]) ∨ p = (0, [(2, 0)]) ∨ p = (1, [(1, 0), (3, 1)]) ∨ p = (1, []) ∨ p = (2, [(1, 1)]) ∨ p = (2, [(3, 1)]) := by
  simpa [psS] using h
theorem psS_at (i : Nat) (p : ProdM) (h : psS[i]? = some p) : (i = 0 ∧ p = (0, [(3, 1), (3, 2), (1, 3)])) ∨ (i = 1 ∧ p = (0, [(2, 0)])) ∨ (i = 2 ∧ p = (1, [(1, 0), (3, 1)])) ∨ (i = 3 ∧ p = (1, [])) ∨ (i = 4 ∧ p = (2, [(1, 1)])) ∨ (i = 5 ∧ p = (2, [(3, 1)])) := by
  match i, h with
  | 0, h => simp [psS] at h; simp [h]
  | 1, h => simp [psS] at h; simp [h]
  | 2, h => simp [psS] at h; simp [h]
  | 3, h => simp [psS] at h; simp [h]
  | 4, h => simp [psS] at h; simp [h]
  | 5, h => simp [psS] at h; simp [h]
  | i + 6, h => simp [psS] at h
theorem mk_one {t : Bool} : Mk t psS 1 := mk_closed t psS (1, []) (by simp [psS]) (fun x hx => by cases hx)
theorem mk_two {t : Bool} : Mk t psS 2 := mk_closed t psS (2, [(3, 1)]) (by simp [psS]) (fun x hx => by
  have e : x = (3, 1) := by simpa using hx
  subst e
  exact ⟨fun _ => mk_one, fun h => absurd rfl h⟩)
theorem mk_zero : Mk true psS 0 := mk_closed true psS (0, [(2, 0)]) (by simp [psS]) (fun x hx => by
  have e : x = (2, 0) := by simpa using hx
  subst e
  exact ⟨fun h => absurd h (by decide), fun _ => rfl⟩)
theorem mk_small (n : Nat) : Mk false psS n ↔ (6 : Nat).testBit n = true := by
  constructor
  · intro h
    refine h (fun n => (6 : Nat).testBit n = true) (fun p hp hx => ?_)
    rcases psS_mem p hp with rfl | rfl | rfl | rfl | rfl | rfl
    · exact absurd ((hx (1, 3) (by simp)).2 (by decide)) (by decide)
    · exact absurd ((hx (2, 0) (by simp)).2 (by decide)) (by decide)
    · exact absurd ((hx (1, 0) (by simp)).2 (by decide)) (by decide)
    · decide
    · exact absurd ((hx (1, 1) (by simp)).2 (by decide)) (by decide)
    · decide
  · intro h
    match n, h with
    | 0, h => exact absurd h (by decide)
    | 1, _ => exact mk_one
    | 2, _ => exact mk_two
    | n + 3, h =>
      exfalso
      rw [Nat.testBit_lt_two_pow (x := 6) (i := n + 3) (Nat.lt_of_lt_of_le (show 6 < 2 ^ 3 by decide) (Nat.pow_le_pow_right (by decide) (by omega)))] at h
      cases h
theorem rc_zero : Rc psS 0 0 := (rc_closed psS 0).1
theorem rc_one : Rc psS 0 1 := (rc_closed psS 0).2 _ (show ((0 : Int), [((3 : Int), (1 : Int)), (3, 2), (1, 3)]) ∈ psS by simp [psS]) rc_zero (3, 1) (by simp) rfl
theorem rc_two : Rc psS 0 2 := (rc_closed psS 0).2 _ (show ((0 : Int), [((3 : Int), (1 : Int)), (3, 2), (1, 3)]) ∈ psS by simp [psS]) rc_zero (3, 2) (by simp) rfl
theorem below3 (P : Nat → Prop) (h0 : P 0) (h1 : P 1) (h2 : P 2) : ∀ k, k < 3 → P k
  | 0, _ => h0
  | 1, _ => h1
  | 2, _ => h2
  | k + 3, h => by omega
theorem check_small : CheckQ lexS psS 3 4 0 (0, 0) := by
  refine ⟨(0, 0), by show _ = _; decide, .inr ⟨rfl, ?_⟩⟩
  refine ⟨(0, 0), by show _ = _; decide, .inr ⟨rfl, ?_⟩⟩
  refine ⟨(0, 0), ⟨(0, 0), .inr ⟨below3 _ rc_zero rc_one rc_two, rfl⟩, .inr ⟨rfl, .inr ⟨fun k hk => ?_, rfl⟩⟩⟩, .inr ⟨rfl, ?_⟩⟩
  · match k, hk with
    | 0, _ => exact .inr ⟨(1, [(1, 0), (3, 1)]), by simp [psS], rc_one, (1, 0), by simp, by decide, by decide⟩
    | 1, _ => exact .inr ⟨(2, [(1, 1)]), by simp [psS], rc_two, (1, 1), by simp, by decide, by decide⟩
    | 2, _ => exact .inl ⟨_, rfl, rfl⟩
    | 3, _ => exact .inr ⟨(0, [(3, 1), (3, 2), (1, 3)]), by simp [psS], rc_zero, (1, 3), by simp, by decide, by decide⟩
    | k + 4, hk => omega
  refine ⟨(0, 0), .inr ⟨below3 _ mk_zero mk_one mk_two, rfl⟩, .inr ⟨rfl, ?_⟩⟩
  have e1 : Ez psS 1 1 := ez_closed psS (1, []) (by simp [psS]) 0 rfl
  have e2 : Ez psS 2 2 := ez_closed psS (2, [(3, 1)]) (by simp [psS]) 1 ⟨rfl, 1, 0, e1, rfl, rfl⟩
  refine ⟨(0, 0), .inr ⟨below3 _ (fun h => ?_) (fun _ => ⟨1, by decide, e1⟩) (fun _ => ⟨2, by decide, e2⟩), rfl⟩, .inr ⟨rfl, rfl⟩⟩
  exact absurd ((mk_small 0).1 h) (by decide)
def runFi (nl E : Nat) (ps : List ProdM) (F0 : Nat → Nat) : Nat → Nat → Nat
  | 0 => F0
  | j + 1 => match ps[j]? with
    | some p => putV (runFi nl E ps F0 j) p.1.toNat (runFi nl E ps F0 j p.1.toNat ||| headsM nl E (runFi nl E ps F0 j) 0 p.2 0)
    | none => runFi nl E ps F0 j
theorem runFi_is (nl E : Nat) (ps : List ProdM) (F0 : Nat → Nat) : ∀ j, j ≤ ps.length → LfStep (fun _ => False) (fun i => i < ps.length) (FiG nl (fun n => E.testBit n = true) ps) (famS F0) (famS (runFi nl E ps F0 j)) (fun i => i < j)
  | 0, _ => LfStep.start _ (fun _ h => by omega)
  | j + 1, h => by
    have ih := runFi_is nl E ps F0 j (by omega)
    have hp : ps[j]? = some (ps[j]'(by omega)) := List.getElem?_eq_getElem (by omega)
    have := fi_put ih hp rfl rfl
    show LfStep _ _ _ _ (famS (match ps[j]? with | some p => _ | none => _)) _
    rw [hp]
    exact this
def famT (l : List Nat) (n : Nat) : Nat := l.getD n 0
def fiS : Nat → Nat := famT [27, 1, 3]
theorem famT_eq {F : Nat → Nat} {l : List Nat} (h : ∀ n, n < l.length → F n = l.getD n 0) (h2 : ∀ n, l.length ≤ n → F n = 0) : F = famT l := funext (fun n => by
  unfold famT
  by_cases e : n < l.length
  · exact h n e
  · rw [h2 n (by omega), List.getD_eq_getElem?_getD, List.getElem?_eq_none_iff.2 (by omega)]
    rfl)
theorem putV_zero {F : Nat → Nat} {l A m : Nat} (h : ∀ n, m ≤ n → F n = 0) (hl : l < m) : ∀ n, m ≤ n → putV F l A n = 0 := fun n hn => by
  unfold putV
  rw [if_neg (by omega)]
  exact h n hn
theorem runFi_zero {nl E : Nat} {ps : List ProdM} {F0 : Nat → Nat} {m : Nat} (h : ∀ n, m ≤ n → F0 n = 0) (hl : ∀ p ∈ ps, p.1.toNat < m) : ∀ j n, m ≤ n → runFi nl E ps F0 j n = 0
  | 0, n, hn => h n hn
  | j + 1, n, hn => by
    show (match ps[j]? with | some p => putV (runFi nl E ps F0 j) p.1.toNat (runFi nl E ps F0 j p.1.toNat ||| headsM nl E (runFi nl E ps F0 j) 0 p.2 0) | none => runFi nl E ps F0 j) n = 0
    cases hp : ps[j]? with
    | none => exact runFi_zero h hl j n hn
    | some p => exact putV_zero (runFi_zero h hl j) (hl p (List.mem_of_getElem? hp)) n hn
theorem psS_left : ∀ p ∈ psS, p.1.toNat < 3 := by decide
theorem fiS_zero : ∀ n, 3 ≤ n → fiS n = 0 := fun n hn => by
  unfold fiS famT
  rw [List.getD_eq_getElem?_getD, List.getElem?_eq_none_iff.2 (by simpa using hn)]
  rfl
theorem fi_small (x : Nat × Nat) : famS fiS x ↔ Fi 4 (Mk false psS) psS x := by
  have hE : (fun n => (6 : Nat).testBit n = true) = Mk false psS := funext (fun n => propext (mk_small n).symm)
  rw [← hE]
  have hz : ∀ n, 3 ≤ n → (fun _ => 0 : Nat → Nat) n = 0 := fun _ _ => rfl
  have e1 : runFi 4 6 psS fiS 6 = fiS := famT_eq (fun n hn => by
    match n, hn with
    | 0, _ => decide
    | 1, _ => decide
    | 2, _ => decide
    | n + 3, hn => exact absurd (show n + 3 < 3 from hn) (by omega)) (runFi_zero fiS_zero psS_left 6)
  have e2 : runFi 4 6 psS (runFi 4 6 psS (runFi 4 6 psS (fun _ => 0) 6) 6) 6 = fiS := famT_eq (fun n hn => by
    match n, hn with
    | 0, _ => decide
    | 1, _ => decide
    | 2, _ => decide
    | n + 3, hn => exact absurd (show n + 3 < 3 from hn) (by omega)) (runFi_zero (runFi_zero (runFi_zero hz psS_left 6) psS_left 6) psS_left 6)
  have h1 := runFi_is 4 6 psS fiS 6 (by decide)
  rw [e1] at h1
  have s1 := (runFi_is 4 6 psS (fun _ => 0) 6 (by decide)).sound (fun x hx => by unfold famS at hx; simp at hx)
  have s2 := (runFi_is 4 6 psS _ 6 (by decide)).sound s1
  have s3 := (runFi_is 4 6 psS _ 6 (by decide)).sound s2
  rw [e2] at s3
  exact h1.done (fun _ h => h) (fun _ h => h.elim) s3 x

end Ex
end Go.Proofs.YtooelfjceehmmaaDoor
namespace Go.Proofs.YtooelfjceehmmaaDoor
open Go.RowKit
namespace Ex

def foS : Nat → Nat := famT [32, 11, 8]
theorem six_is : Mk false psS = fun n => (6 : Nat).testBit n = true := funext (fun n => propext (mk_small n))
theorem fo_rule {i m t : Nat} {p : ProdM} {y : SymM} (hp : psS[i]? = some p) (hy : p.2[m]? = some y) (h3 : y.1 = 3) (hb : (headsM 4 6 fiS 0 (p.2.drop (m + 1)) 0).testBit t = true) : Fo 4 0 (Mk false psS) (famS fiS) psS (y.2.toNat, t) := by
  refine (lf_closed (fo_up _ _ _ _)).2 (i, m) ⟨p, hp, (List.getElem?_eq_some_iff.1 hy).1⟩ _ ⟨p, y, hp, hy, h3, rfl, ?_⟩
  rw [heads_bit] at hb
  rw [six_is]
  rcases hb with hb | hb
  · simp at hb
  · exact hb.mono (fun _ h => h) (fun t ht => by simp at ht)
theorem bit_sub {A B t : Nat} (h : A ||| B = B) (ht : A.testBit t = true) : B.testBit t = true := by
  rw [← h, Nat.testBit_or, ht]
  rfl
theorem fo_shut {l t : Nat} {rest : List SymM} (h : HeadS 4 (Mk false psS) (famS fiS) (fun t => famS foS (l, t)) rest t) {q : Nat} (hn : headsM 4 6 fiS (foS l) rest 0 ||| foS q = foS q) : famS foS (q, t) := by
  rw [six_is] at h
  exact bit_sub hn ((heads_bit 4 6 fiS (foS l) rest 0 t).2 (.inr h))
theorem fo_small (x : Nat × Nat) : Fo 4 0 (Mk false psS) (famS fiS) psS x ↔ famS foS x := by
  constructor
  · intro h
    refine h (famS foS) ⟨fun x hx => ?_, fun i _ x hx => ?_⟩
    · have hx : x = (0, 5) := hx
      subst hx
      show (foS 0).testBit 5 = true
      decide
    · obtain ⟨p, y, h1, h2, h3, h4, h5⟩ := hx
      obtain ⟨x1, x2⟩ := x
      obtain ⟨i, m⟩ := i
      have h1 : psS[i]? = some p := h1
      have h2 : p.2[m]? = some y := h2
      have h4 : x1 = y.2.toNat := h4
      have h5 : HeadS 4 (Mk false psS) (famS fiS) (fun t => famS foS (p.1.toNat, t)) (p.2.drop (m + 1)) x2 := h5
      subst h4
      rcases psS_at i p h1 with ⟨rfl, rfl⟩ | ⟨rfl, rfl⟩ | ⟨rfl, rfl⟩ | ⟨rfl, rfl⟩ | ⟨rfl, rfl⟩ | ⟨rfl, rfl⟩
      · match m, h2 with
        | 0, h2 =>
          have e : y = (3, 1) := by simpa using h2.symm
          subst e
          exact fo_shut h5 (by decide)
        | 1, h2 =>
          have e : y = (3, 2) := by simpa using h2.symm
          subst e
          exact fo_shut h5 (by decide)
        | 2, h2 =>
          have e : y = (1, 3) := by simpa using h2.symm
          subst e
          exact absurd h3 (by decide)
        | m + 3, h2 => simp at h2
      · match m, h2 with
        | 0, h2 =>
          have e : y = (2, 0) := by simpa using h2.symm
          subst e
          exact absurd h3 (by decide)
        | m + 1, h2 => simp at h2
      · match m, h2 with
        | 0, h2 =>
          have e : y = (1, 0) := by simpa using h2.symm
          subst e
          exact absurd h3 (by decide)
        | 1, h2 =>
          have e : y = (3, 1) := by simpa using h2.symm
          subst e
          exact fo_shut h5 (by decide)
        | m + 2, h2 => simp at h2
      · simp at h2
      · match m, h2 with
        | 0, h2 =>
          have e : y = (1, 1) := by simpa using h2.symm
          subst e
          exact absurd h3 (by decide)
        | m + 1, h2 => simp at h2
      · match m, h2 with
        | 0, h2 =>
          have e : y = (3, 1) := by simpa using h2.symm
          subst e
          exact fo_shut h5 (by decide)
        | m + 1, h2 => simp at h2
  · intro h
    obtain ⟨n, t⟩ := x
    have h : (foS n).testBit t = true := h
    match n, h with
    | 0, h =>
      have e : t = 5 := by
        have h2 : (2 ^ 5 : Nat).testBit t = true := h
        rw [Nat.testBit_two_pow] at h2
        have := of_decide_eq_true h2
        omega
      subst e
      exact (lf_closed (fo_up _ _ _ _)).1 _ rfl
    | 1, h => exact fo_rule (i := 0) (m := 0) (p := (0, [(3, 1), (3, 2), (1, 3)])) (y := (3, 1)) rfl rfl rfl (by
        have e : headsM 4 6 fiS 0 [(3, 2), (1, 3)] 0 = foS 1 := by decide
        show (headsM 4 6 fiS 0 [(3, 2), (1, 3)] 0).testBit t = true
        rw [e]
        exact h)
    | 2, h => exact fo_rule (i := 0) (m := 1) (p := (0, [(3, 1), (3, 2), (1, 3)])) (y := (3, 2)) rfl rfl rfl (by
        have e : headsM 4 6 fiS 0 [(1, 3)] 0 = foS 2 := by decide
        show (headsM 4 6 fiS 0 [(1, 3)] 0).testBit t = true
        rw [e]
        exact h)
    | n + 3, h =>
      exfalso
      have e : foS (n + 3) = 0 := rfl
      rw [e] at h
      simp at h
theorem bitsTo_same {A A' n : Nat} (h : ∀ t, A.testBit t = A'.testBit t) : bitsTo A n = bitsTo A' n := by
  rw [Nat.eq_of_testBit_eq h]
/-- What Follow tells of the fixed spec. -/
theorem follow_small {F G : Nat → Nat} (hF : ∀ x, famS F x ↔ Fi 4 (Mk false psS) psS x) (hG : ∀ x, famS G x ↔ Fo 4 0 (Mk false psS) (famS F) psS x) : ((List.range 3).map fun i => bitsTo (G i) 128) = [[5], [0, 1, 3], [3]] := by
  have e1 : famS F = famS fiS := funext (fun x => propext ((hF x).trans (fi_small x).symm))
  rw [e1] at hG
  have hb : ∀ i t, (G i).testBit t = (foS i).testBit t := fun i t => by
    rw [Bool.eq_iff_iff]
    exact (hG (i, t)).trans (fo_small (i, t))
  show [bitsTo (G 0) 128, bitsTo (G 1) 128, bitsTo (G 2) 128] = _
  rw [bitsTo_same (hb 0), bitsTo_same (hb 1), bitsTo_same (hb 2)]
  decide
def lS : Nat → Option (List Int)
  | 0 => some [3]
  | 1 => some []
  | 2 => some []
  | _ => none
theorem sen_one : Sen 4 psS (1, []) := sen_rule (p := (1, [])) (i := 3) rfl rfl
theorem sen_twoS : Sen 4 psS (2, []) := sen_rule (p := (2, [(3, 1)])) (i := 5) rfl ⟨[], [], rfl, .inl ⟨rfl, sen_one⟩, rfl⟩
theorem sen_zeroS : Sen 4 psS (0, [3]) := sen_rule (p := (0, [(3, 1), (3, 2), (1, 3)])) (i := 0) rfl ⟨[], [3], rfl, .inl ⟨rfl, sen_one⟩, [], [3], rfl, .inl ⟨rfl, sen_twoS⟩, [3], [], rfl, .inr ⟨by decide, rfl⟩, rfl⟩
theorem yis_small : YIs 4 psS lS := by
  refine YStep.done ⟨BeY.refl lS, fun h => h, fun i p _ hp x hx => ?_⟩ (fun n r hr => ?_)
  · rcases psS_at i p hp with ⟨rfl, rfl⟩ | ⟨rfl, rfl⟩ | ⟨rfl, rfl⟩ | ⟨rfl, rfl⟩ | ⟨rfl, rfl⟩ | ⟨rfl, rfl⟩
    · have e : some [3] = some x := hx
      injection e with e
      subst e
      exact ⟨[3], rfl, LeY.refl _⟩
    · have e : some [4] = some x := hx
      injection e with e
      subst e
      exact ⟨[3], rfl, by show shorter [4] [3] = false; decide⟩
    · have e : some [0] = some x := hx
      injection e with e
      subst e
      exact ⟨[], rfl, LeY.nil _⟩
    · exact ⟨[], rfl, LeY.nil _⟩
    · exact ⟨[], rfl, LeY.nil _⟩
    · exact ⟨[], rfl, LeY.nil _⟩
  · match n, hr with
    | 0, hr =>
      have e : some [3] = some r := hr
      injection e with e
      subst e
      exact ⟨sen_zeroS, by decide⟩
    | 1, hr =>
      have e : some [] = some r := hr
      injection e with e
      subst e
      exact ⟨sen_one, by decide⟩
    | 2, hr =>
      have e : some [] = some r := hr
      injection e with e
      subst e
      exact ⟨sen_twoS, by decide⟩
    | n + 3, hr =>
      have e : none = some r := hr
      cases e
theorem yields_small {L : Nat → Option (List Int)} (h : YIs 4 psS L) : (∀ i, i < 3 → L i ≠ none) ∧ ((List.range 3).map fun i => (L i).getD []) = [[3], [], []] := by
  have hn := fun n => h.one yis_small n
  refine ⟨below3 _ ?_ ?_ ?_, ?_⟩
  · rw [hn 0]; simp [lS]
  · rw [hn 1]; simp [lS]
  · rw [hn 2]; simp [lS]
  · show [(L 0).getD [], (L 1).getD [], (L 2).getD []] = _
    rw [hn 0, hn 1, hn 2]
    rfl

end Ex
end Go.Proofs.YtooelfjceehmmaaDoor
namespace Go.Proofs.YtooelfjceehmmaaDoor
open Go.RowKit
attribute [local go_sem] Oper.semAt_some
namespace Ex

/-- A list of ints to be read. -/
def IntsR (w : World) (v : Value) (l : List Int) : Prop := SliceOf w 1 (fun cs x => cs = [.int .i64 x]) v l
theorem IntsR.keep {w w' : World} {v : Value} {l : List Int} (h : IntsR w v l) (hk : Kept w w') : IntsR w' v l := SliceOf.mono h hk (fun _ _ h => h)
theorem IntsR.at_ {w : World} {a : Option Addr} {n c : Nat} {l : List Int} (h : IntsR w (.slice a n c) l) {i : Nat} {x : Int} (hx : l[i]? = some x) : ∃ g o, a = some ⟨g, o, none⟩ ∧ w.cell? ⟨g, o + i, none⟩ = some (.int .i64 x) := by
  obtain ⟨g, o, cs, h1, _, _, h4, h5⟩ := SliceOf.el h hx
  have h5 : cs = [.int .i64 x] := h5
  subst h5
  have h6 := h4 0 _ rfl
  rw [Nat.mul_one, Nat.add_zero] at h6
  exact ⟨g, o, h1, h6⟩
theorem IntsO.read {w : World} {base : Nat} {v : Value} {l : List Int} (h : IntsO w base v l) (hl : l.length ≤ 17592186044416) : IntsR w v l := by
  have h2 : w.ownsRow base 3 1 v l.length (flatS l) := h
  rcases h2.2 with ⟨rfl, h0⟩ | ⟨g, cap, cur, rfl, _, hg, hc, _, hs, ht⟩
  · have e : l = [] := List.length_eq_zero_iff.1 h0
    subst e
    exact ⟨none, 0, rfl, Nat.le_refl _, by simp, .inl rfl⟩
  · refine ⟨some ⟨g, 0, none⟩, cap, rfl, hc, hl, .inr ⟨g, 0, rfl, (Array.getElem?_eq_some_iff.1 hg).1, fun i x hx => ⟨[.int .i64 x], rfl, fun j u hu => ?_, rfl⟩⟩⟩
    have hj : j = 0 := by
      have := (List.getElem?_eq_some_iff.1 hu).1
      simp at this
      exact this
    subst hj
    have hu : Value.int .i64 x = u := by simpa using hu
    subst hu
    have hf : (flatS l)[i]? = some (.int .i64 x) := by unfold flatS; rw [List.getElem?_map, hx]; rfl
    rw [← ht, List.getElem?_take] at hf
    split at hf
    · simp only [World.cell?, hg]
      simpa using hf
    · cases hf
theorem int_two {l1 l2 : List Int} {j : Nat} (hn : l1.length = l2.length) (h : l1.take j = l2.take j) {x y : Int} (hx : l1[j]? = some x) (hy : l2[j]? = some y) : (x = y → l1.take (j + 1) = l2.take (j + 1)) ∧ (x ≠ y → l1 ≠ l2) := by
  obtain ⟨h1, e1⟩ := List.getElem?_eq_some_iff.1 hx
  obtain ⟨h2, e2⟩ := List.getElem?_eq_some_iff.1 hy
  refine ⟨fun e => ?_, fun e e3 => ?_⟩
  · rw [List.take_succ_eq_append_getElem h1, List.take_succ_eq_append_getElem h2, h, e1, e2, e]
  · subst e3
    rw [hx] at hy
    injection hy with hy
    exact e hy
def SiI (l1 l2 : List Int) (W : World) (vi : Value) (wr : World) : Prop := ∃ j : Nat, vi = .int .i64 (j : Int) ∧ j ≤ l1.length ∧ Hid (l1.take j = l2.take j) ∧ Hid (Kept W wr)
set_option linter.unusedSimpArgs false in
set_option maxRecDepth 100000 in
set_option maxHeartbeats 4000000 in
theorem sameIntsS_is (a1 a2 : Option Addr) (n1 c1 n2 c2 : Nat) (l1 l2 : List Int) (w : World) (e1 : l1.length = n1) (e2 : l2.length = n2) (h1 : IntsR w (.slice a1 n1 c1) l1) (h2 : IntsR w (.slice a2 n2 c2) l2) :
    Calls Tryd.prog 10 #[.slice a1 n1 c1, .slice a2 n2 c2] w fun e w' => e = .returned (.bool (decide (l1 = l2))) ∧ Kept w w' := by
  obtain ⟨_, _, q1, hc1, hn1⟩ := SliceOf.len h1
  obtain ⟨_, _, q2, hc2, hn2⟩ := SliceOf.len h2
  simp only [Value.slice.injEq] at q1 q2
  obtain ⟨rfl, en1, rfl⟩ := q1
  obtain ⟨rfl, en2, rfl⟩ := q2
  clear en1 en2
  rw [e1] at hc1 hn1
  rw [e2] at hc2 hn2
  have g1 : (n1 : Int) ≤ 17592186044416 := by omega
  have g2 : (n2 : Int) ≤ 17592186044416 := by omega
  have H1 := hide1 h1
  have H2 := hide1 h2
  have E1 := hide1 e1
  have E2 := hide1 e2
  clear h1 h2 e1 e2
  go_enter Tryd.func10, Tryd.ntmps10
  by_cases hn : n1 = n2
  · subst hn
    have HLL : Hid (l1.length = l2.length) := by show _ = _; rw [E1.out, E2.out]
    have hb0 : ((n1 : Int) != (n1 : Int)) = false := by simp
    go_wp2_with fail
    go_loopw [5] (SiI l1 l2 w) (fun i _ => n1 - (intOf i).toNat)
    case atStart => exact ⟨0, rfl, Nat.zero_le _, rfl, Kept.refl w⟩
    case round =>
      obtain ⟨j, rfl, hj, HT, HKr⟩ := hrel
      rw [E1.out] at hj
      by_cases hlt : (j : Int) < (n1 : Int)
      · obtain ⟨x, hx⟩ : ∃ x, l1[j]? = some x := ⟨_, List.getElem?_eq_getElem (by have := E1.out; omega)⟩
        obtain ⟨y, hy⟩ : ∃ y, l2[j]? = some y := ⟨_, List.getElem?_eq_getElem (by have := E2.out; omega)⟩
        obtain ⟨b1, o1, ea1, k1⟩ := (H1.out.keep HKr.out).at_ hx
        obtain ⟨b2, o2, ea2, k2⟩ := (H2.out.keep HKr.out).at_ hy
        obtain ⟨h5, h6⟩ := int_two HLL.out HT.out hx hy
        have H5 := hide1 h5
        have H6 := hide1 h6
        subst ea1 ea2
        have gj1 : (j : Int) < (c1 : Int) := by omega
        have gj2 : (j : Int) < (c2 : Int) := by omega
        clear hx hy h5 h6
        by_cases hxy : x = y
        · have hb : (x != y) = false := by simp [hxy]
          have HT2 := hide1 (H5.out hxy)
          clear hxy
          go_upto_region 6 with fail
          go_quiet (fail)
          go_wp2_with fail
          go_roundw
          case rel => exact ⟨j + 1, by go_num, by rw [E1.out]; omega, HT2, gtrans HKr.out (drewN_kept _ _)⟩
          case measure => simp [intOf]; omega
        · have hb : (x != y) = true := by simpa using hxy
          have HT2 := hide1 (H6.out hxy)
          clear hxy
          go_upto_region 6 with fail
          go_quiet (fail)
          go_wp2_with fail
          go_ret
          exact ⟨by rw [decide_eq_false HT2.out]; rfl, gtrans HKr.out (drewN_kept _ _)⟩
      · have HE : Hid (l1 = l2) := by
          have h := HT.out
          rw [List.take_of_length_le (by have := E1.out; omega), List.take_of_length_le (by have := E2.out; omega)] at h
          exact h
        go_wp2_with fail
        go_ret
        exact ⟨by rw [decide_eq_true HE.out]; rfl, HKr.out⟩
  · have hb0 : ((n1 : Int) != (n2 : Int)) = true := by simp; omega
    have HNE : Hid (l1 ≠ l2) := fun e => hn (by rw [← E1.out, ← E2.out, e])
    go_wp2_with fail
    go_ret
    exact ⟨by rw [decide_eq_false HNE.out]; rfl, Kept.refl w⟩
/-- A list of lists of ints to be read. -/
def RowsR (w : World) (v : Value) (ls : List (List Int)) : Prop := SliceOf w 1 (fun cs l => ∃ u, cs = [u] ∧ IntsR w u l) v ls
theorem RowsR.keep {w w' : World} {v : Value} {l : List (List Int)} (h : RowsR w v l) (hk : Kept w w') : RowsR w' v l := SliceOf.mono h hk (fun _ _ ⟨u, h1, h2⟩ => ⟨u, h1, h2.keep hk⟩)
theorem RowsR.at_ {w : World} {a : Option Addr} {n c : Nat} {l : List (List Int)} (h : RowsR w (.slice a n c) l) {i : Nat} {x : List Int} (hx : l[i]? = some x) : ∃ g o u, a = some ⟨g, o, none⟩ ∧ w.cell? ⟨g, o + i, none⟩ = some u ∧ IntsR w u x := by
  obtain ⟨g, o, cs, h1, _, _, h4, u, h5, h6⟩ := SliceOf.el h hx
  subst h5
  have h7 := h4 0 _ rfl
  rw [Nat.mul_one, Nat.add_zero] at h7
  exact ⟨g, o, u, h1, h7, h6⟩
theorem RowsO.read {w : World} {base : Nat} {v : Value} {ls : List (List Int)} (h : RowsO w base v ls) (hn : ls.length ≤ 17592186044416) (hl : ∀ l ∈ ls, l.length ≤ 17592186044416) : RowsR w v ls := by
  obtain ⟨g, vs, B, rfl, _, _, h4, h5⟩ := h
  refine ⟨some ⟨g, 0, none⟩, ls.length, rfl, Nat.le_refl _, hn, .inr ⟨g, 0, rfl, h4.lt, fun i x hx => ?_⟩⟩
  obtain ⟨u, hu⟩ : ∃ u, vs[i]? = some u := ⟨_, List.getElem?_eq_getElem (by rw [h5.len]; exact (List.getElem?_eq_some_iff.1 hx).1)⟩
  refine ⟨[u], rfl, fun j y hy => ?_, u, rfl, (h5.each i u x hu hx).1.read (hl x (List.mem_of_getElem? hx))⟩
  have hj : j = 0 := by
    have := (List.getElem?_eq_some_iff.1 hy).1
    simp at this
    exact this
  subst hj
  have hy : u = y := by simpa using hy
  subst hy
  have := h4.cell hu
  rw [Nat.zero_add, Nat.mul_one, Nat.add_zero]
  exact this
def SrI (l1 l2 : List (List Int)) (W : World) (vi : Value) (wr : World) : Prop := ∃ j : Nat, vi = .int .i64 (j : Int) ∧ j ≤ l1.length ∧ Hid (l1.take j = l2.take j) ∧ Hid (Kept W wr)
theorem row_two {l1 l2 : List (List Int)} {j : Nat} (h : l1.take j = l2.take j) {x y : List Int} (hx : l1[j]? = some x) (hy : l2[j]? = some y) : (x = y → l1.take (j + 1) = l2.take (j + 1)) ∧ (x ≠ y → l1 ≠ l2) := by
  obtain ⟨h1, e1⟩ := List.getElem?_eq_some_iff.1 hx
  obtain ⟨h2, e2⟩ := List.getElem?_eq_some_iff.1 hy
  refine ⟨fun e => ?_, fun e e3 => ?_⟩
  · rw [List.take_succ_eq_append_getElem h1, List.take_succ_eq_append_getElem h2, h, e1, e2, e]
  · subst e3
    rw [hx] at hy
    injection hy with hy
    exact e hy
set_option linter.unusedSimpArgs false in
set_option maxRecDepth 100000 in
set_option maxHeartbeats 4000000 in
theorem sameRowsS_is (a1 a2 : Option Addr) (n1 c1 n2 c2 : Nat) (l1 l2 : List (List Int)) (w : World) (e1 : l1.length = n1) (e2 : l2.length = n2) (h1 : RowsR w (.slice a1 n1 c1) l1) (h2 : RowsR w (.slice a2 n2 c2) l2) :
    Calls Tryd.prog 24 #[.slice a1 n1 c1, .slice a2 n2 c2] w fun e w' => e = .returned (.bool (decide (l1 = l2))) ∧ Kept w w' := by
  obtain ⟨_, _, q1, hc1, hn1⟩ := SliceOf.len h1
  obtain ⟨_, _, q2, hc2, hn2⟩ := SliceOf.len h2
  simp only [Value.slice.injEq] at q1 q2
  obtain ⟨rfl, en1, rfl⟩ := q1
  obtain ⟨rfl, en2, rfl⟩ := q2
  clear en1 en2
  rw [e1] at hc1 hn1
  rw [e2] at hc2 hn2
  have g1 : (n1 : Int) ≤ 17592186044416 := by omega
  have g2 : (n2 : Int) ≤ 17592186044416 := by omega
  have H1 := hide1 h1
  have H2 := hide1 h2
  have E1 := hide1 e1
  have E2 := hide1 e2
  clear h1 h2 e1 e2
  go_enter Tryd.func24, Tryd.ntmps24
  by_cases hn : n1 = n2
  · subst hn
    have hb0 : ((n1 : Int) != (n1 : Int)) = false := by simp
    go_wp2_with fail
    go_loopw [5] (SrI l1 l2 w) (fun i _ => n1 - (intOf i).toNat)
    case atStart => exact ⟨0, rfl, Nat.zero_le _, rfl, Kept.refl w⟩
    case round =>
      obtain ⟨j, rfl, hj, HT, HKr⟩ := hrel
      rw [E1.out] at hj
      by_cases hlt : (j : Int) < (n1 : Int)
      · obtain ⟨x, hx⟩ : ∃ x, l1[j]? = some x := ⟨_, List.getElem?_eq_getElem (by have := E1.out; omega)⟩
        obtain ⟨y, hy⟩ : ∃ y, l2[j]? = some y := ⟨_, List.getElem?_eq_getElem (by have := E2.out; omega)⟩
        obtain ⟨b1, o1, u1, ea1, k1, r1⟩ := (H1.out.keep HKr.out).at_ hx
        obtain ⟨b2, o2, u2, ea2, k2, r2⟩ := (H2.out.keep HKr.out).at_ hy
        obtain ⟨h5, h6⟩ := row_two HT.out hx hy
        have H5 := hide1 h5
        have H6 := hide1 h6
        subst ea1 ea2
        obtain ⟨m1, hm1⟩ : ∃ m1, x.length = m1 := ⟨_, rfl⟩
        obtain ⟨m2, hm2⟩ : ∃ m2, y.length = m2 := ⟨_, rfl⟩
        obtain ⟨a3, c3, rfl, en3, en4⟩ := SliceOf.len r1
        obtain ⟨a4, c4, rfl, en5, en6⟩ := SliceOf.len r2
        clear en3 en4 en5 en6
        rw [hm1] at r1 k1
        rw [hm2] at r2 k2
        have R1 := hide1 r1
        have R2 := hide1 r2
        have M1 := hide1 hm1
        have M2 := hide1 hm2
        have gj1 : (j : Int) < (c1 : Int) := by omega
        have gj2 : (j : Int) < (c2 : Int) := by omega
        obtain ⟨bv, hbv⟩ : ∃ bv, decide (x = y) = bv := ⟨_, rfl⟩
        have HBV := hide1 hbv
        clear hx hy h5 h6 r1 r2 hm1 hm2 hbv
        go_upto_region 6 with fail
        have q1 := keeps k1
        have q2 := keeps k2
        have hkr : Kept wr wr := Kept.refl wr
        go_region_held3 (fun w' => Kept wr w') (first | assumption | exact Kept.refl _ | exact gtrans (by assumption) (by assumption))
          ((go_at_call 10; refine (sameIntsS_is a3 a4 m1 c3 m2 c4 x y _ M1.out M2.out (R1.out.keep (by assumption)) (R2.out.keep (by assumption))).mono ?_; rintro e w11 ⟨rfl, hk11⟩; rw [HBV.out]; have k11 : Kept wr w11 := gtrans (by assumption) hk11))
        have HK11 := hide1 k11
        clear q1 q2 hkr hk11 k11 k1 k2
        cases bv
        · have HT2 := hide1 (H6.out (of_decide_eq_false HBV.out))
          go_wp2_with fail
          go_ret
          exact ⟨by rw [decide_eq_false HT2.out]; rfl, gtrans HKr.out HK11.out⟩
        · have HT2 := hide1 (H5.out (of_decide_eq_true HBV.out))
          go_wp2_with fail
          go_roundw
          case rel => exact ⟨j + 1, by go_num, by rw [E1.out]; omega, HT2, gtrans HKr.out HK11.out⟩
          case measure => simp [intOf]; omega
      · have HE : Hid (l1 = l2) := by
          have h := HT.out
          rw [List.take_of_length_le (by have := E1.out; omega), List.take_of_length_le (by have := E2.out; omega)] at h
          exact h
        go_wp2_with fail
        go_ret
        exact ⟨by rw [decide_eq_true HE.out]; rfl, HKr.out⟩
  · have hb0 : ((n1 : Int) != (n2 : Int)) = true := by simp; omega
    have HNE : Hid (l1 ≠ l2) := fun e => hn (by rw [← E1.out, ← E2.out, e])
    go_wp2_with fail
    go_ret
    exact ⟨by rw [decide_eq_false HNE.out]; rfl, Kept.refl w⟩

end Ex
end Go.Proofs.YtooelfjceehmmaaDoor
