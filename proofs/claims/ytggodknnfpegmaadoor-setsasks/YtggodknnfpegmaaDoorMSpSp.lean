import Derived.Test.YtggodknnfpegmaaDoorMSpYo
import Derived.Test.YtggodknnfpegmaaDoorMSpFo
import Derived.Test.YtggodknnfpegmaaDoorMSpLs
namespace Go.Proofs.YtggodknnfpegmaaDoor
open Go.RowKit
namespace Ex

def patZ : PatN 1 := (show PatN (0 + 1) from ((0, 0, 0, 0, 0, []) : Int × Int × Int × Int × Int × List (PatN 0)))
/-- The fixed spec of the laws. -/
def lexS : List (LexM 0) := [(⟨#[97]⟩, false, patZ), (⟨#[98]⟩, false, patZ), (⟨#[119]⟩, true, patZ), (⟨#[99]⟩, false, patZ)]
def psS : List ProdM := [(0, [(3, 1), (3, 2), (1, 3)]), (0, [(2, 0)]), (1, [(1, 0), (3, 1)]), (1, []), (2, [(1, 1)]), (2, [(3, 1)])]
theorem psS_mem (p : ProdM) (h : p ∈ psS) : p = (0, [(3, 1), (3, 2), (1, 3)]) ∨ p = (0, [(2, 0)]) ∨ p = (1, [(1, 0), (3, 1)]) ∨ p = (1, []) ∨ p = (2, [(1, 1)]) ∨ p = (2, [(3, 1)]) := by
  simpa [psS] using h
theorem psS_at (i : Nat) (p : ProdM) (h : psS[i]? = some p) : (i = 0 ∧ p = (0, [(3, 1), (3, 2), (1, 3)])) ∨ (i = 1 ∧ p = (0, [(2, 0)])) ∨ (i = 2 ∧ p = (1, [(1, 0), (3, 1)])) ∨ (i = 3 ∧ p = (1, [])) ∨ (i = 4 ∧ p = (2, [(1, 1)])) ∨ (i = 5 ∧ p = (2, [(3, 1)])) := by
  match i, h with
  | 0, h => simp [psS] at h; simp [h]
  | 1, h => simp [psS] at h; simp [h]
  | 2, h => simp [psS] at h; simp [h]
  | 3, h => simp [psS] at h; simp [h]
  | 4, h => simp [psS] at h; simp [h]
  | 5, h => simp [psS] at h; simp [h]
  | i + 6, h => simp [psS] at h
theorem mk_one {t : Bool} : Mk t psS 1 := mk_closed t psS (1, []) (by simp [psS]) (fun x hx => by cases hx)
theorem mk_two {t : Bool} : Mk t psS 2 := mk_closed t psS (2, [(3, 1)]) (by simp [psS]) (fun x hx => by
  have e : x = (3, 1) := by simpa using hx
  subst e
  exact ⟨fun _ => mk_one, fun h => absurd rfl h⟩)
theorem mk_zero : Mk true psS 0 := mk_closed true psS (0, [(2, 0)]) (by simp [psS]) (fun x hx => by
  have e : x = (2, 0) := by simpa using hx
  subst e
  exact ⟨fun h => absurd h (by decide), fun _ => rfl⟩)
theorem mk_small (n : Nat) : Mk false psS n ↔ (6 : Nat).testBit n = true := by
  constructor
  · intro h
    refine h (fun n => (6 : Nat).testBit n = true) (fun p hp hx => ?_)
    rcases psS_mem p hp with rfl | rfl | rfl | rfl | rfl | rfl
    · exact absurd ((hx (1, 3) (by simp)).2 (by decide)) (by decide)
    · exact absurd ((hx (2, 0) (by simp)).2 (by decide)) (by decide)
    · exact absurd ((hx (1, 0) (by simp)).2 (by decide)) (by decide)
    · decide
    · exact absurd ((hx (1, 1) (by simp)).2 (by decide)) (by decide)
    · decide
  · intro h
    match n, h with
    | 0, h => exact absurd h (by decide)
    | 1, _ => exact mk_one
    | 2, _ => exact mk_two
    | n + 3, h =>
      exfalso
      rw [Nat.testBit_lt_two_pow (x := 6) (i := n + 3) (Nat.lt_of_lt_of_le (show 6 < 2 ^ 3 by decide) (Nat.pow_le_pow_right (by decide) (by omega)))] at h
      cases h
theorem rc_zero : Rc psS 0 0 := (rc_closed psS 0).1
theorem rc_one : Rc psS 0 1 := (rc_closed psS 0).2 _ (show ((0 : Int), [((3 : Int), (1 : Int)), (3, 2), (1, 3)]) ∈ psS by simp [psS]) rc_zero (3, 1) (by simp) rfl
theorem rc_two : Rc psS 0 2 := (rc_closed psS 0).2 _ (show ((0 : Int), [((3 : Int), (1 : Int)), (3, 2), (1, 3)]) ∈ psS by simp [psS]) rc_zero (3, 2) (by simp) rfl
theorem below3 (P : Nat → Prop) (h0 : P 0) (h1 : P 1) (h2 : P 2) : ∀ k, k < 3 → P k
  | 0, _ => h0
  | 1, _ => h1
  | 2, _ => h2
  | k + 3, h => by omega
theorem check_small : CheckQ lexS psS 3 4 0 (0, 0) := by
  refine ⟨(0, 0), by show _ = _; decide, .inr ⟨rfl, ?_⟩⟩
  refine ⟨(0, 0), by show _ = _; decide, .inr ⟨rfl, ?_⟩⟩
  refine ⟨(0, 0), ⟨(0, 0), .inr ⟨below3 _ rc_zero rc_one rc_two, rfl⟩, .inr ⟨rfl, .inr ⟨fun k hk => ?_, rfl⟩⟩⟩, .inr ⟨rfl, ?_⟩⟩
  · match k, hk with
    | 0, _ => exact .inr ⟨(1, [(1, 0), (3, 1)]), by simp [psS], rc_one, (1, 0), by simp, by decide, by decide⟩
    | 1, _ => exact .inr ⟨(2, [(1, 1)]), by simp [psS], rc_two, (1, 1), by simp, by decide, by decide⟩
    | 2, _ => exact .inl ⟨_, rfl, rfl⟩
    | 3, _ => exact .inr ⟨(0, [(3, 1), (3, 2), (1, 3)]), by simp [psS], rc_zero, (1, 3), by simp, by decide, by decide⟩
    | k + 4, hk => omega
  refine ⟨(0, 0), .inr ⟨below3 _ mk_zero mk_one mk_two, rfl⟩, .inr ⟨rfl, ?_⟩⟩
  have e1 : Ez psS 1 1 := ez_closed psS (1, []) (by simp [psS]) 0 rfl
  have e2 : Ez psS 2 2 := ez_closed psS (2, [(3, 1)]) (by simp [psS]) 1 ⟨rfl, 1, 0, e1, rfl, rfl⟩
  refine ⟨(0, 0), .inr ⟨below3 _ (fun h => ?_) (fun _ => ⟨1, by decide, e1⟩) (fun _ => ⟨2, by decide, e2⟩), rfl⟩, .inr ⟨rfl, rfl⟩⟩
  exact absurd ((mk_small 0).1 h) (by decide)
/-- One pass over the productions, for First. -/
def passF (nl E : Nat) (ps : List ProdM) (F : Nat → Nat) : Nat → Nat := ps.foldl (fun F p => putV F p.1.toNat (F p.1.toNat ||| headsM nl E F 0 p.2 0)) F
def runFi (nl E : Nat) (ps : List ProdM) (F0 : Nat → Nat) : Nat → Nat → Nat
  | 0 => F0
  | j + 1 => match ps[j]? with
    | some p => putV (runFi nl E ps F0 j) p.1.toNat (runFi nl E ps F0 j p.1.toNat ||| headsM nl E (runFi nl E ps F0 j) 0 p.2 0)
    | none => runFi nl E ps F0 j
theorem runFi_is (nl E : Nat) (ps : List ProdM) (F0 : Nat → Nat) : ∀ j, j ≤ ps.length → LfStep (fun _ => False) (fun i => i < ps.length) (FiG nl (fun n => E.testBit n = true) ps) (famS F0) (famS (runFi nl E ps F0 j)) (fun i => i < j)
  | 0, _ => LfStep.start _ (fun _ h => by omega)
  | j + 1, h => by
    have ih := runFi_is nl E ps F0 j (by omega)
    have hp : ps[j]? = some (ps[j]'(by omega)) := List.getElem?_eq_getElem (by omega)
    have := fi_put ih hp rfl rfl
    show LfStep _ _ _ _ (famS (match ps[j]? with | some p => _ | none => _)) _
    rw [hp]
    exact this
def famT (l : List Nat) (n : Nat) : Nat := l.getD n 0
def fiS : Nat → Nat := famT [27, 1, 3]
theorem famT_eq {F : Nat → Nat} {l : List Nat} (h : ∀ n, n < l.length → F n = l.getD n 0) (h2 : ∀ n, l.length ≤ n → F n = 0) : F = famT l := funext (fun n => by
  unfold famT
  by_cases e : n < l.length
  · exact h n e
  · rw [h2 n (by omega), List.getD_eq_getElem?_getD, List.getElem?_eq_none_iff.2 (by omega)]
    rfl)
theorem putV_zero {F : Nat → Nat} {l A m : Nat} (h : ∀ n, m ≤ n → F n = 0) (hl : l < m) : ∀ n, m ≤ n → putV F l A n = 0 := fun n hn => by
  unfold putV
  rw [if_neg (by omega)]
  exact h n hn
theorem runFi_zero {nl E : Nat} {ps : List ProdM} {F0 : Nat → Nat} {m : Nat} (h : ∀ n, m ≤ n → F0 n = 0) (hl : ∀ p ∈ ps, p.1.toNat < m) : ∀ j n, m ≤ n → runFi nl E ps F0 j n = 0
  | 0, n, hn => h n hn
  | j + 1, n, hn => by
    show (match ps[j]? with | some p => putV (runFi nl E ps F0 j) p.1.toNat (runFi nl E ps F0 j p.1.toNat ||| headsM nl E (runFi nl E ps F0 j) 0 p.2 0) | none => runFi nl E ps F0 j) n = 0
    cases hp : ps[j]? with
    | none => exact runFi_zero h hl j n hn
    | some p => exact putV_zero (runFi_zero h hl j) (hl p (List.mem_of_getElem? hp)) n hn
theorem psS_left : ∀ p ∈ psS, p.1.toNat < 3 := by decide
theorem fiS_zero : ∀ n, 3 ≤ n → fiS n = 0 := fun n hn => by
  unfold fiS famT
  rw [List.getD_eq_getElem?_getD, List.getElem?_eq_none_iff.2 (by simpa using hn)]
  rfl
theorem fi_small (x : Nat × Nat) : famS fiS x ↔ Fi 4 (Mk false psS) psS x := by
  have hE : (fun n => (6 : Nat).testBit n = true) = Mk false psS := funext (fun n => propext (mk_small n).symm)
  rw [← hE]
  have hz : ∀ n, 3 ≤ n → (fun _ => 0 : Nat → Nat) n = 0 := fun _ _ => rfl
  have e1 : runFi 4 6 psS fiS 6 = fiS := famT_eq (fun n hn => by
    match n, hn with
    | 0, _ => decide
    | 1, _ => decide
    | 2, _ => decide
    | n + 3, hn => exact absurd (show n + 3 < 3 from hn) (by omega)) (runFi_zero fiS_zero psS_left 6)
  have e2 : runFi 4 6 psS (runFi 4 6 psS (runFi 4 6 psS (fun _ => 0) 6) 6) 6 = fiS := famT_eq (fun n hn => by
    match n, hn with
    | 0, _ => decide
    | 1, _ => decide
    | 2, _ => decide
    | n + 3, hn => exact absurd (show n + 3 < 3 from hn) (by omega)) (runFi_zero (runFi_zero (runFi_zero hz psS_left 6) psS_left 6) psS_left 6)
  have h1 := runFi_is 4 6 psS fiS 6 (by decide)
  rw [e1] at h1
  have s1 := (runFi_is 4 6 psS (fun _ => 0) 6 (by decide)).sound (fun x hx => by unfold famS at hx; simp at hx)
  have s2 := (runFi_is 4 6 psS _ 6 (by decide)).sound s1
  have s3 := (runFi_is 4 6 psS _ 6 (by decide)).sound s2
  rw [e2] at s3
  exact h1.done (fun _ h => h) (fun _ h => h.elim) s3 x

end Ex
end Go.Proofs.YtggodknnfpegmaaDoor
namespace Go.Proofs.YtggodknnfpegmaaDoor
open Go.RowKit
namespace Ex

def foS : Nat → Nat := famT [32, 11, 8]
theorem six_is : Mk false psS = fun n => (6 : Nat).testBit n = true := funext (fun n => propext (mk_small n))
theorem fo_rule {i m t : Nat} {p : ProdM} {y : SymM} (hp : psS[i]? = some p) (hy : p.2[m]? = some y) (h3 : y.1 = 3) (hb : (headsM 4 6 fiS 0 (p.2.drop (m + 1)) 0).testBit t = true) : Fo 4 0 (Mk false psS) (famS fiS) psS (y.2.toNat, t) := by
  refine (lf_closed (fo_up _ _ _ _)).2 (i, m) ⟨p, hp, (List.getElem?_eq_some_iff.1 hy).1⟩ _ ⟨p, y, hp, hy, h3, rfl, ?_⟩
  rw [heads_bit] at hb
  rw [six_is]
  rcases hb with hb | hb
  · simp at hb
  · exact hb.mono (fun _ h => h) (fun t ht => by simp at ht)
theorem bit_sub {A B t : Nat} (h : A ||| B = B) (ht : A.testBit t = true) : B.testBit t = true := by
  rw [← h, Nat.testBit_or, ht]
  rfl
theorem fo_shut {l t : Nat} {rest : List SymM} (h : HeadS 4 (Mk false psS) (famS fiS) (fun t => famS foS (l, t)) rest t) {q : Nat} (hn : headsM 4 6 fiS (foS l) rest 0 ||| foS q = foS q) : famS foS (q, t) := by
  rw [six_is] at h
  exact bit_sub hn ((heads_bit 4 6 fiS (foS l) rest 0 t).2 (.inr h))
theorem fo_small (x : Nat × Nat) : Fo 4 0 (Mk false psS) (famS fiS) psS x ↔ famS foS x := by
  constructor
  · intro h
    refine h (famS foS) ⟨fun x hx => ?_, fun i _ x hx => ?_⟩
    · have hx : x = (0, 5) := hx
      subst hx
      show (foS 0).testBit 5 = true
      decide
    · obtain ⟨p, y, h1, h2, h3, h4, h5⟩ := hx
      obtain ⟨x1, x2⟩ := x
      obtain ⟨i, m⟩ := i
      have h1 : psS[i]? = some p := h1
      have h2 : p.2[m]? = some y := h2
      have h4 : x1 = y.2.toNat := h4
      have h5 : HeadS 4 (Mk false psS) (famS fiS) (fun t => famS foS (p.1.toNat, t)) (p.2.drop (m + 1)) x2 := h5
      subst h4
      rcases psS_at i p h1 with ⟨rfl, rfl⟩ | ⟨rfl, rfl⟩ | ⟨rfl, rfl⟩ | ⟨rfl, rfl⟩ | ⟨rfl, rfl⟩ | ⟨rfl, rfl⟩
      · match m, h2 with
        | 0, h2 =>
          have e : y = (3, 1) := by simpa using h2.symm
          subst e
          exact fo_shut h5 (by decide)
        | 1, h2 =>
          have e : y = (3, 2) := by simpa using h2.symm
          subst e
          exact fo_shut h5 (by decide)
        | 2, h2 =>
          have e : y = (1, 3) := by simpa using h2.symm
          subst e
          exact absurd h3 (by decide)
        | m + 3, h2 => simp at h2
      · match m, h2 with
        | 0, h2 =>
          have e : y = (2, 0) := by simpa using h2.symm
          subst e
          exact absurd h3 (by decide)
        | m + 1, h2 => simp at h2
      · match m, h2 with
        | 0, h2 =>
          have e : y = (1, 0) := by simpa using h2.symm
          subst e
          exact absurd h3 (by decide)
        | 1, h2 =>
          have e : y = (3, 1) := by simpa using h2.symm
          subst e
          exact fo_shut h5 (by decide)
        | m + 2, h2 => simp at h2
      · simp at h2
      · match m, h2 with
        | 0, h2 =>
          have e : y = (1, 1) := by simpa using h2.symm
          subst e
          exact absurd h3 (by decide)
        | m + 1, h2 => simp at h2
      · match m, h2 with
        | 0, h2 =>
          have e : y = (3, 1) := by simpa using h2.symm
          subst e
          exact fo_shut h5 (by decide)
        | m + 1, h2 => simp at h2
  · intro h
    obtain ⟨n, t⟩ := x
    have h : (foS n).testBit t = true := h
    match n, h with
    | 0, h =>
      have e : t = 5 := by
        have h2 : (2 ^ 5 : Nat).testBit t = true := h
        rw [Nat.testBit_two_pow] at h2
        have := of_decide_eq_true h2
        omega
      subst e
      exact (lf_closed (fo_up _ _ _ _)).1 _ rfl
    | 1, h => exact fo_rule (i := 0) (m := 0) (p := (0, [(3, 1), (3, 2), (1, 3)])) (y := (3, 1)) rfl rfl rfl (by
        have e : headsM 4 6 fiS 0 [(3, 2), (1, 3)] 0 = foS 1 := by decide
        show (headsM 4 6 fiS 0 [(3, 2), (1, 3)] 0).testBit t = true
        rw [e]
        exact h)
    | 2, h => exact fo_rule (i := 0) (m := 1) (p := (0, [(3, 1), (3, 2), (1, 3)])) (y := (3, 2)) rfl rfl rfl (by
        have e : headsM 4 6 fiS 0 [(1, 3)] 0 = foS 2 := by decide
        show (headsM 4 6 fiS 0 [(1, 3)] 0).testBit t = true
        rw [e]
        exact h)
    | n + 3, h =>
      exfalso
      have e : foS (n + 3) = 0 := rfl
      rw [e] at h
      simp at h
theorem bitsTo_same {A A' n : Nat} (h : ∀ t, A.testBit t = A'.testBit t) : bitsTo A n = bitsTo A' n := by
  rw [Nat.eq_of_testBit_eq h]
/-- What Follow tells of the fixed spec. -/
theorem follow_small {F G : Nat → Nat} (hF : ∀ x, famS F x ↔ Fi 4 (Mk false psS) psS x) (hG : ∀ x, famS G x ↔ Fo 4 0 (Mk false psS) (famS F) psS x) : ((List.range 3).map fun i => bitsTo (G i) 128) = [[5], [0, 1, 3], [3]] := by
  have e1 : famS F = famS fiS := funext (fun x => propext ((hF x).trans (fi_small x).symm))
  rw [e1] at hG
  have hb : ∀ i t, (G i).testBit t = (foS i).testBit t := fun i t => by
    rw [Bool.eq_iff_iff]
    exact (hG (i, t)).trans (fo_small (i, t))
  show [bitsTo (G 0) 128, bitsTo (G 1) 128, bitsTo (G 2) 128] = _
  rw [bitsTo_same (hb 0), bitsTo_same (hb 1), bitsTo_same (hb 2)]
  decide
def lS : Nat → Option (List Int)
  | 0 => some [3]
  | 1 => some []
  | 2 => some []
  | _ => none
theorem sen_one : Sen 4 psS (1, []) := sen_rule (p := (1, [])) (i := 3) rfl rfl
theorem sen_twoS : Sen 4 psS (2, []) := sen_rule (p := (2, [(3, 1)])) (i := 5) rfl ⟨[], [], rfl, .inl ⟨rfl, sen_one⟩, rfl⟩
theorem sen_zeroS : Sen 4 psS (0, [3]) := sen_rule (p := (0, [(3, 1), (3, 2), (1, 3)])) (i := 0) rfl ⟨[], [3], rfl, .inl ⟨rfl, sen_one⟩, [], [3], rfl, .inl ⟨rfl, sen_twoS⟩, [3], [], rfl, .inr ⟨by decide, rfl⟩, rfl⟩
theorem yis_small : YIs 4 psS lS := by
  refine YStep.done ⟨BeY.refl lS, fun h => h, fun i p _ hp x hx => ?_⟩ (fun n r hr => ?_)
  · rcases psS_at i p hp with ⟨rfl, rfl⟩ | ⟨rfl, rfl⟩ | ⟨rfl, rfl⟩ | ⟨rfl, rfl⟩ | ⟨rfl, rfl⟩ | ⟨rfl, rfl⟩
    · have e : some [3] = some x := hx
      injection e with e
      subst e
      exact ⟨[3], rfl, LeY.refl _⟩
    · have e : some [4] = some x := hx
      injection e with e
      subst e
      exact ⟨[3], rfl, by show shorter [4] [3] = false; decide⟩
    · have e : some [0] = some x := hx
      injection e with e
      subst e
      exact ⟨[], rfl, LeY.nil _⟩
    · exact ⟨[], rfl, LeY.nil _⟩
    · exact ⟨[], rfl, LeY.nil _⟩
    · exact ⟨[], rfl, LeY.nil _⟩
  · match n, hr with
    | 0, hr =>
      have e : some [3] = some r := hr
      injection e with e
      subst e
      exact ⟨sen_zeroS, by decide⟩
    | 1, hr =>
      have e : some [] = some r := hr
      injection e with e
      subst e
      exact ⟨sen_one, by decide⟩
    | 2, hr =>
      have e : some [] = some r := hr
      injection e with e
      subst e
      exact ⟨sen_twoS, by decide⟩
    | n + 3, hr =>
      have e : none = some r := hr
      cases e
theorem yields_small {L : Nat → Option (List Int)} (h : YIs 4 psS L) : (∀ i, i < 3 → L i ≠ none) ∧ ((List.range 3).map fun i => (L i).getD []) = [[3], [], []] := by
  have hn := fun n => h.one yis_small n
  refine ⟨below3 _ ?_ ?_ ?_, ?_⟩
  · rw [hn 0]; simp [lS]
  · rw [hn 1]; simp [lS]
  · rw [hn 2]; simp [lS]
  · show [(L 0).getD [], (L 1).getD [], (L 2).getD []] = _
    rw [hn 0, hn 1, hn 2]
    rfl

end Ex
end Go.Proofs.YtggodknnfpegmaaDoor
