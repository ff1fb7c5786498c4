import Derived.Test.YtlgojnodhbmlkaaGreatDoorMExSe7
namespace Go.Proofs.YtlgojnodhbmlkaaGreatDoor
open Go.RowKit
namespace Ex

/-- The bytes from a place to a place. -/
def Seg (bs : List Int) (a k : Nat) : List Int := (bs.drop a).take (k - a)
/-- What begins at a may end at k. -/
def EndS (L : List Int → Prop) (bs : List Int) (a k : Nat) : Prop := a ≤ k ∧ k ≤ bs.length ∧ L (Seg bs a k)
def StepS (L : List Int → Prop) (bs : List Int) (S : Nat → Prop) (k : Nat) : Prop := ∃ a, S a ∧ EndS L bs a k
/-- A rising list of places. -/
def Pl (S : Nat → Prop) (l : List Nat) : Prop := l.Pairwise (· < ·) ∧ ∀ k, k ∈ l ↔ S k
def SeqS (bs : List Int) : List (List Int → Prop) → (Nat → Prop) → Nat → Prop
  | [], S => S
  | L :: ls, S => SeqS bs ls (StepS L bs S)
def PowS (L : List Int → Prop) (bs : List Int) : Nat → (Nat → Prop) → Nat → Prop
  | 0, S => S
  | m + 1, S => StepS L bs (PowS L bs m S)

theorem Pl.iff {S S' : Nat → Prop} {l : List Nat} (h : Pl S l) (e : ∀ k, S k ↔ S' k) : Pl S' l := ⟨h.1, fun k => (h.2 k).trans (e k)⟩
theorem Pl.one (a : Nat) : Pl (fun k => k = a) [a] := ⟨List.pairwise_singleton _ _, fun k => by simp⟩
theorem Pl.none : Pl (fun _ => False) [] := ⟨List.Pairwise.nil, fun k => by simp⟩
theorem Pl.same {S S' : Nat → Prop} {l : List Nat} (h : Pl S l) (h' : Pl S' l) (k : Nat) : S k ↔ S' k := (h.2 k).symm.trans (h'.2 k)
theorem step_iff {L : List Int → Prop} {bs : List Int} {S S' : Nat → Prop} (e : ∀ k, S k ↔ S' k) (k : Nat) : StepS L bs S k ↔ StepS L bs S' k :=
  ⟨fun ⟨a, h, h'⟩ => ⟨a, (e a).1 h, h'⟩, fun ⟨a, h, h'⟩ => ⟨a, (e a).2 h, h'⟩⟩
theorem step_one {L : List Int → Prop} {bs : List Int} (a k : Nat) : StepS L bs (fun x => x = a) k ↔ EndS L bs a k :=
  ⟨fun ⟨_, h, h'⟩ => h ▸ h', fun h => ⟨a, rfl, h⟩⟩
theorem step_none {L : List Int → Prop} {bs : List Int} {S : Nat → Prop} (h : ∀ k, ¬ S k) (k : Nat) : ¬ StepS L bs S k := fun ⟨a, h', _⟩ => h a h'
theorem seq_iff {bs : List Int} : ∀ (ls : List (List Int → Prop)) {S S' : Nat → Prop}, (∀ k, S k ↔ S' k) → ∀ k, SeqS bs ls S k ↔ SeqS bs ls S' k
  | [], _, _, e, k => e k
  | _ :: ls, _, _, e, k => seq_iff ls (fun k => step_iff e k) k
theorem pow_iff {L : List Int → Prop} {bs : List Int} {S S' : Nat → Prop} (e : ∀ k, S k ↔ S' k) : ∀ (m k : Nat), PowS L bs m S k ↔ PowS L bs m S' k
  | 0, k => e k
  | m + 1, k => step_iff (pow_iff e m) k
/-- Where one copy comes to the same places as none more, so do all. -/
theorem pow_stay {L : List Int → Prop} {bs : List Int} {S : Nat → Prop} {m : Nat} (e : ∀ k, PowS L bs (m + 1) S k ↔ PowS L bs m S k) : ∀ (d k : Nat), PowS L bs (m + d) S k ↔ PowS L bs m S k
  | 0, _ => Iff.rfl
  | d + 1, k => (step_iff (pow_stay e d) k).trans (e k)
theorem pow_none {L : List Int → Prop} {bs : List Int} {S : Nat → Prop} {m : Nat} (h : ∀ k, ¬ PowS L bs m S k) : ∀ (d k : Nat), ¬ PowS L bs (m + d) S k
  | 0, k => h k
  | d + 1, k => step_none (pow_none h d) k

theorem seg_len {bs : List Int} {a k : Nat} (h1 : a ≤ k) (h2 : k ≤ bs.length) : (Seg bs a k).length = k - a := by
  unfold Seg; rw [List.length_take, List.length_drop]; omega
theorem seg_self (bs : List Int) (a : Nat) : Seg bs a a = [] := by unfold Seg; simp
theorem seg_cat {bs : List Int} {a j k : Nat} (h1 : a ≤ j) (h2 : j ≤ k) : Seg bs a k = Seg bs a j ++ Seg bs j k := by
  unfold Seg
  have e : bs.drop j = (bs.drop a).drop (j - a) := by rw [List.drop_drop]; congr 1; omega
  rw [e, show k - a = (j - a) + (k - j) by omega, List.take_add]
theorem seg_split {bs : List Int} {a k : Nat} {u v : List Int} (h1 : a ≤ k) (h2 : k ≤ bs.length) (h : Seg bs a k = u ++ v) : a ≤ a + u.length ∧ a + u.length ≤ k ∧ Seg bs a (a + u.length) = u ∧ Seg bs (a + u.length) k = v := by
  have hl := seg_len h1 h2
  rw [h, List.length_append] at hl
  have hc := seg_cat (bs := bs) (a := a) (j := a + u.length) (k := k) (by omega) (by omega)
  rw [h] at hc
  have := List.append_inj hc (by rw [seg_len (by omega) (by omega)]; omega)
  exact ⟨by omega, by omega, this.1.symm, this.2.symm⟩
theorem seg_whole (bs : List Int) (k : Nat) : Seg bs 0 k = bs.take k := by unfold Seg; simp
theorem seg_rest (bs : List Int) (a : Nat) : Seg bs a bs.length = bs.drop a := by unfold Seg; rw [List.take_of_length_le]; rw [List.length_drop]; exact Nat.le_refl _

theorem ends_none {bs : List Int} {a : Nat} (ha : a ≤ bs.length) (k : Nat) : EndS (fun u => u = []) bs a k ↔ k = a := by
  constructor
  · rintro ⟨h1, h2, h3⟩
    have := seg_len h1 h2
    rw [h3] at this
    simp only [List.length_nil] at this
    omega
  · rintro rfl
    exact ⟨Nat.le_refl _, ha, seg_self _ _⟩
theorem ends_cat {L M : List Int → Prop} {bs : List Int} {a : Nat} (k : Nat) : EndS (fun w => ∃ u v, w = u ++ v ∧ L u ∧ M v) bs a k ↔ ∃ j, EndS L bs a j ∧ EndS M bs j k := by
  constructor
  · rintro ⟨h1, h2, u, v, h3, h4, h5⟩
    obtain ⟨g1, g2, g3, g4⟩ := seg_split h1 h2 h3
    exact ⟨a + u.length, ⟨g1, by omega, by rw [g3]; exact h4⟩, g2, h2, by rw [g4]; exact h5⟩
  · rintro ⟨j, ⟨h1, h2, h3⟩, h4, h5, h6⟩
    exact ⟨by omega, h5, _, _, seg_cat h1 h4, h3, h6⟩
/-- What of a row of parts ends where, from a set of places on. -/
theorem seq_ends {bs : List Int} : ∀ (ls : List (List Int → Prop)) (S : Nat → Prop), (∀ a, S a → a ≤ bs.length) → ∀ k, SeqS bs ls S k ↔ ∃ a, S a ∧ EndS (CatS ls) bs a k
  | [], S, hS, k => by
    constructor
    · intro h
      exact ⟨k, h, (ends_none (hS k h) k).2 rfl⟩
    · rintro ⟨a, h1, h2⟩
      have := (ends_none (hS a h1) k).1 h2
      subst this
      exact h1
  | L :: ls, S, hS, k => by
    have ih := seq_ends ls (StepS L bs S) (fun a ⟨_, _, h⟩ => h.2.1) k
    refine ih.trans ?_
    constructor
    · rintro ⟨j, ⟨a, h1, h2⟩, h3⟩
      exact ⟨a, h1, (ends_cat k).2 ⟨j, h2, h3⟩⟩
    · rintro ⟨a, h1, h2⟩
      obtain ⟨j, h3, h4⟩ := (ends_cat k).1 h2
      exact ⟨j, ⟨a, h1, h3⟩, h4⟩
theorem seq_at {bs : List Int} (ls : List (List Int → Prop)) {a : Nat} (ha : a ≤ bs.length) (k : Nat) : SeqS bs ls (fun x => x = a) k ↔ EndS (CatS ls) bs a k := by
  rw [seq_ends ls _ (fun x h => h ▸ ha)]
  exact ⟨fun ⟨_, h, h'⟩ => h ▸ h', fun h => ⟨a, rfl, h⟩⟩
theorem pow_swap {L : List Int → Prop} : ∀ (m : Nat) (w : List Int), PowL L (m + 1) w ↔ ∃ u v, w = u ++ v ∧ PowL L m u ∧ L v
  | 0, w => by
    constructor
    · rintro ⟨u, v, rfl, h1, h2⟩
      have h2 : v = [] := h2
      subst h2
      exact ⟨[], u, by simp, rfl, h1⟩
    · rintro ⟨u, v, rfl, h1, h2⟩
      have h1 : u = [] := h1
      subst h1
      exact ⟨v, [], by simp, h2, rfl⟩
  | m + 1, w => by
    constructor
    · rintro ⟨u, v, rfl, h1, h2⟩
      obtain ⟨x, y, rfl, h3, h4⟩ := (pow_swap m v).1 h2
      exact ⟨u ++ x, y, by rw [List.append_assoc], ⟨u, x, rfl, h1, h3⟩, h4⟩
    · rintro ⟨u, v, rfl, ⟨x, y, rfl, h1, h2⟩, h3⟩
      exact ⟨x, y ++ v, by rw [List.append_assoc], h1, (pow_swap m (y ++ v)).2 ⟨y, v, rfl, h2, h3⟩⟩
theorem ends_iff {L M : List Int → Prop} (e : ∀ u, L u ↔ M u) {bs : List Int} {a k : Nat} : EndS L bs a k ↔ EndS M bs a k := by
  unfold EndS; rw [e]
theorem pow_at {L : List Int → Prop} {bs : List Int} {a : Nat} (ha : a ≤ bs.length) : ∀ (m k : Nat), PowS L bs m (fun x => x = a) k ↔ EndS (PowL L m) bs a k
  | 0, k => (ends_none ha k).symm
  | m + 1, k => by
    rw [ends_iff (fun u => pow_swap m u), ends_cat]
    constructor
    · rintro ⟨j, h1, h2⟩
      exact ⟨j, (pow_at ha m j).1 h1, h2⟩
    · rintro ⟨j, h1, h2⟩
      exact ⟨j, (pow_at ha m j).2 h1, h2⟩
theorem pow_in {L : List Int → Prop} {bs : List Int} {a : Nat} (ha : a ≤ bs.length) {m k : Nat} (h : PowS L bs m (fun x => x = a) k) : a ≤ k ∧ k ≤ bs.length := by
  have := (pow_at ha m k).1 h
  exact ⟨this.1, this.2.1⟩
/-- A repetition: so many copies from mn to mx on. -/
theorem times_at {L : List Int → Prop} {bs : List Int} {a : Nat} (ha : a ≤ bs.length) (mn mx : Int) (k : Nat) : EndS (TimesS L mn mx) bs a k ↔ ∃ m : Nat, mn ≤ (m : Int) ∧ (mx = -1 ∨ (m : Int) ≤ mx) ∧ PowS L bs m (fun x => x = a) k := by
  constructor
  · rintro ⟨h1, h2, m, h3, h4, h5⟩
    exact ⟨m, h3, h4, (pow_at ha m k).2 ⟨h1, h2, h5⟩⟩
  · rintro ⟨m, h3, h4, h5⟩
    have h5 := (pow_at ha m k).1 h5
    exact ⟨h5.1, h5.2.1, m, h3, h4, h5.2.2⟩

/-- What was come to with mn to j copies (mark), of it what is new with j copies (fresh). -/
def WaveS (L : List Int → Prop) (bs : List Int) (S : Nat → Prop) (mn j : Nat) (mark fresh : Nat → Prop) : Prop :=
  mn ≤ j ∧ (∀ k, mark k ↔ ∃ m, mn ≤ m ∧ m ≤ j ∧ PowS L bs m S k) ∧ (∀ k, fresh k → PowS L bs j S k) ∧ ∀ a, mark a → ¬ fresh a → ∀ k, EndS L bs a k → mark k
theorem wave_begin {L : List Int → Prop} {bs : List Int} {S : Nat → Prop} {mn : Nat} {F : Nat → Prop} (h : ∀ k, F k ↔ PowS L bs mn S k) : WaveS L bs S mn mn F F := by
  refine ⟨Nat.le_refl _, fun k => ⟨fun hk => ⟨mn, Nat.le_refl _, Nat.le_refl _, (h k).1 hk⟩, ?_⟩, fun k hk => (h k).1 hk, fun a h1 h2 => absurd h1 h2⟩
  rintro ⟨m, h1, h2, h3⟩
  have e : m = mn := by omega
  subst e
  exact (h k).2 h3
theorem wave_next {L : List Int → Prop} {bs : List Int} {S : Nat → Prop} {mn j : Nat} {mark fresh mark' fresh' : Nat → Prop} (h : WaveS L bs S mn j mark fresh) (hm : ∀ k, mark' k ↔ mark k ∨ StepS L bs fresh k) (hf : ∀ k, fresh' k ↔ StepS L bs fresh k ∧ ¬ mark k) : WaveS L bs S mn (j + 1) mark' fresh' := by
  obtain ⟨h0, h1, h2, h3⟩ := h
  refine ⟨by omega, fun k => ?_, fun k hk => ?_, fun a ha hna k hk => ?_⟩
  · rw [hm]
    constructor
    · rintro (h | ⟨a, ha, hk⟩)
      · obtain ⟨m, g1, g2, g3⟩ := (h1 k).1 h
        exact ⟨m, g1, by omega, g3⟩
      · exact ⟨j + 1, by omega, Nat.le_refl _, a, h2 a ha, hk⟩
    · rintro ⟨m, g1, g2, g3⟩
      by_cases e : m ≤ j
      · exact .inl ((h1 k).2 ⟨m, g1, e, g3⟩)
      · have : m = j + 1 := by omega
        subst this
        obtain ⟨a, g4, g5⟩ := g3
        by_cases hfa : fresh a
        · exact .inr ⟨a, hfa, g5⟩
        · exact .inl (h3 a ((h1 a).2 ⟨j, h0, Nat.le_refl _, g4⟩) hfa k g5)
  · obtain ⟨⟨a, ha, hk⟩, _⟩ := (hf k).1 hk
    exact ⟨a, h2 a ha, hk⟩
  · rw [hm] at ha ⊢
    rcases ha with ha | ha
    · by_cases hfa : fresh a
      · exact .inr ⟨a, hfa, hk⟩
      · exact .inl (h3 a ha hfa k hk)
    · by_cases hma : mark a
      · by_cases hfa : fresh a
        · exact .inr ⟨a, hfa, hk⟩
        · exact .inl (h3 a hma hfa k hk)
      · exact absurd ((hf a).2 ⟨ha, hma⟩) hna
theorem wave_dry {L : List Int → Prop} {bs : List Int} {S : Nat → Prop} {mn j : Nat} {mark fresh : Nat → Prop} (h : WaveS L bs S mn j mark fresh) (hd : ∀ k, ¬ fresh k) (k : Nat) (m : Nat) (hm : mn ≤ m) (hk : PowS L bs m S k) : mark k := by
  obtain ⟨h0, h1, h2, h3⟩ := h
  have key : ∀ d k, PowS L bs (j + d) S k → mark k := by
    intro d
    induction d with
    | zero => intro k hk; exact (h1 k).2 ⟨j, h0, Nat.le_refl _, hk⟩
    | succ d ih =>
      rintro k ⟨a, ha, hk⟩
      exact h3 a (ih a ha) (hd a) k hk
  by_cases e : m ≤ j
  · exact (h1 k).2 ⟨m, hm, e, hk⟩
  · exact key (m - j) k (by rw [show j + (m - j) = m by omega]; exact hk)

/-- The text ends within a row of L that begins at a. -/
def LiveS (L : List Int → Prop) (bs : List Int) (a : Nat) : Prop := LiveL L (bs.drop a)
theorem live_end {L : List Int → Prop} {bs : List Int} {a : Nat} (hL : ∃ u, L u) (ha : a = bs.length) : LiveS L bs a := by
  obtain ⟨u, hu⟩ := hL
  exact ⟨u, by rw [ha, List.drop_length]; exact hu⟩
theorem live_ends {L : List Int → Prop} {bs : List Int} {a : Nat} (h : EndS L bs a bs.length) : LiveS L bs a := ⟨[], by rw [List.append_nil, ← seg_rest]; exact h.2.2⟩
/-- A part, and behind it another one: the text ends within the one, or behind it within the other. -/
theorem live_cat {L M : List Int → Prop} {bs : List Int} {a : Nat} (ha : a ≤ bs.length) (hM : ∃ u, M u) : LiveS (fun w => ∃ u v, w = u ++ v ∧ L u ∧ M v) bs a ↔ LiveS L bs a ∨ ∃ j, EndS L bs a j ∧ LiveS M bs j := by
  constructor
  · rintro ⟨x, u, v, h1, h2, h3⟩
    by_cases e : u.length ≤ (bs.drop a).length
    · right
      have hl : (bs.drop a).length = bs.length - a := List.length_drop
      obtain ⟨t, ht⟩ : ∃ t, bs.drop a = u ++ t := by
        refine ⟨(bs.drop a).drop u.length, ?_⟩
        have h4 : ((bs.drop a) ++ x).take u.length = u := by rw [h1]; simp
        rw [List.take_append_of_le_length e] at h4
        rw [← h4, List.length_take, Nat.min_eq_left e, h4]
        conv => lhs; rw [← List.take_append_drop u.length (bs.drop a)]
        rw [h4]
      refine ⟨a + u.length, ⟨by omega, by omega, ?_⟩, x, ?_⟩
      · unfold Seg
        rw [ht, show a + u.length - a = u.length by omega, List.take_left]
        exact h2
      · rw [← List.drop_drop, ht, List.drop_left]
        rw [ht, List.append_assoc] at h1
        rw [List.append_cancel_left h1]
        exact h3
    · left
      have h4 := congrArg (List.take u.length) h1
      rw [List.take_left, List.take_append, List.take_of_length_le (by omega)] at h4
      exact ⟨_, h4 ▸ h2⟩
  · rintro (⟨x, hx⟩ | ⟨j, h1, x, hx⟩)
    · obtain ⟨u, hu⟩ := hM
      exact ⟨x ++ u, bs.drop a ++ x, u, by rw [List.append_assoc], hx, hu⟩
    · refine ⟨x, Seg bs a j, bs.drop j ++ x, ?_, h1.2.2, hx⟩
      rw [← List.append_assoc, ← seg_rest bs a, seg_cat h1.1 h1.2.1, seg_rest]
theorem live_iff' {L M : List Int → Prop} (e : ∀ u, L u ↔ M u) {bs : List Int} {a : Nat} : LiveS L bs a ↔ LiveS M bs a := by
  unfold LiveS LiveL; simp only [e]
theorem live_nil {bs : List Int} {a : Nat} (ha : a < bs.length) : ¬ LiveS (fun u => u = []) bs a := by
  rintro ⟨v, hv⟩
  have := congrArg List.length hv
  simp only [List.length_append, List.length_drop, List.length_nil] at this
  omega
theorem cat_some : ∀ (ls : List (List Int → Prop)), (∀ L ∈ ls, ∃ u, L u) → ∃ u, CatS ls u
  | [], _ => ⟨[], rfl⟩
  | L :: ls, h => by
    obtain ⟨u, hu⟩ := h L (List.mem_cons_self ..)
    obtain ⟨v, hv⟩ := cat_some ls (fun M hM => h M (List.mem_cons_of_mem _ hM))
    exact ⟨u ++ v, u, v, rfl, hu, hv⟩
/-- A row of parts, from places on: one of them is live where those ahead of it end. -/
theorem live_seq {bs : List Int} : ∀ (ls : List (List Int → Prop)), (∀ L ∈ ls, ∃ u, L u) → ∀ {a : Nat}, a < bs.length → (LiveS (CatS ls) bs a ↔ ∃ (i : Nat) (L : List Int → Prop), ls[i]? = some L ∧ ∃ j, SeqS bs (ls.take i) (fun x => x = a) j ∧ LiveS L bs j)
  | [], _, a, ha => by
    constructor
    · exact fun h => absurd h (live_nil ha)
    · rintro ⟨i, L, h, _⟩; simp at h
  | L :: ls, hL, a, ha => by
    have hL' : ∀ M ∈ ls, ∃ u, M u := fun M hM => hL M (List.mem_cons_of_mem _ hM)
    rw [show LiveS (CatS (L :: ls)) bs a ↔ LiveS (fun w => ∃ u v, w = u ++ v ∧ L u ∧ CatS ls v) bs a from Iff.rfl, live_cat (by omega) (cat_some ls hL')]
    constructor
    · rintro (h | ⟨j, h1, h2⟩)
      · exact ⟨0, L, rfl, a, rfl, h⟩
      · by_cases ej : j < bs.length
        · obtain ⟨i, M, g1, j', g2, g3⟩ := (live_seq ls hL' ej).1 h2
          refine ⟨i + 1, M, by simpa using g1, j', ?_, g3⟩
          show SeqS bs (ls.take i) (StepS L bs (fun x => x = a)) j'
          rw [seq_ends _ _ (fun x ⟨_, _, hx⟩ => hx.2.1)]
          rw [seq_at _ (by omega)] at g2
          exact ⟨j, ⟨a, rfl, h1⟩, g2⟩
        · have e : j = bs.length := by have := h1.2.1; omega
          subst e
          exact ⟨0, L, rfl, a, rfl, live_ends h1⟩
    · rintro ⟨i, M, g1, j', g2, g3⟩
      cases i with
      | zero =>
        have e1 : L = M := by simpa using g1
        have e2 : j' = a := g2
        subst e1
        subst e2
        exact .inl g3
      | succ i =>
        right
        have g2 : SeqS bs (ls.take i) (StepS L bs (fun x => x = a)) j' := g2
        rw [seq_ends _ _ (fun x ⟨_, _, hx⟩ => hx.2.1)] at g2
        obtain ⟨j, ⟨x, hx, h1⟩, h2⟩ := g2
        have hx : x = a := hx
        subst hx
        refine ⟨j, h1, ?_⟩
        by_cases ej : j < bs.length
        · exact (live_seq ls hL' ej).2 ⟨i, M, by simpa using g1, j', (seq_at _ (by omega) j').2 h2, g3⟩
        · exact live_end (cat_some ls hL') (by have := h1.2.1; omega)
theorem pow_some {L : List Int → Prop} (hL : ∃ u, L u) : ∀ m, ∃ u, PowL L m u
  | 0 => ⟨[], rfl⟩
  | m + 1 => by
    obtain ⟨u, hu⟩ := hL
    obtain ⟨v, hv⟩ := pow_some ⟨u, hu⟩ m
    exact ⟨u ++ v, u, v, rfl, hu, hv⟩
theorem pow_more {L : List Int → Prop} : ∀ (m d : Nat) (u v : List Int), PowL L m u → PowL L d v → PowL L (m + d) (u ++ v)
  | 0, d, u, v, h1, h2 => by
    have h1 : u = [] := h1
    subst h1
    rw [Nat.zero_add]
    exact h2
  | m + 1, d, u, v, h1, h2 => by
    obtain ⟨x, y, rfl, h3, h4⟩ := h1
    rw [show m + 1 + d = (m + d) + 1 by omega]
    exact ⟨x, y ++ v, by rw [List.append_assoc], h3, pow_more m d y v h4 h2⟩
/-- So many copies: the text ends within one of them. -/
theorem live_pow {L : List Int → Prop} {bs : List Int} (hL : ∃ u, L u) : ∀ (m : Nat) {a : Nat}, a < bs.length → (LiveS (PowL L m) bs a ↔ ∃ i, i < m ∧ ∃ j, PowS L bs i (fun x => x = a) j ∧ LiveS L bs j)
  | 0, a, ha => by
    constructor
    · exact fun h => absurd h (live_nil ha)
    · rintro ⟨i, h, _⟩; omega
  | m + 1, a, ha => by
    rw [live_iff' (fun u => pow_swap m u), live_cat (by omega) hL, live_pow hL m ha]
    constructor
    · rintro (⟨i, h1, h2⟩ | ⟨j, h1, h2⟩)
      · exact ⟨i, by omega, h2⟩
      · exact ⟨m, by omega, j, (pow_at (by omega) m j).2 h1, h2⟩
    · rintro ⟨i, h1, j, h2, h3⟩
      by_cases e : i < m
      · exact .inl ⟨i, e, j, h2, h3⟩
      · have : i = m := by omega
        subst this
        exact .inr ⟨j, (pow_at (by omega) i j).1 h2, h3⟩
/-- A repetition: the text ends within one copy, of as many as there may be. -/
theorem live_times {L : List Int → Prop} {bs : List Int} (hL : ∃ u, L u) {mn mx : Int} (h0 : 0 ≤ mn) (hm : mx = -1 ∨ mn ≤ mx) {a : Nat} (ha : a < bs.length) : LiveS (TimesS L mn mx) bs a ↔ ∃ i : Nat, (mx = -1 ∨ (i : Int) < mx) ∧ ∃ j, PowS L bs i (fun x => x = a) j ∧ LiveS L bs j := by
  constructor
  · rintro ⟨v, m, h1, h2, h3⟩
    obtain ⟨i, h4, h5⟩ := (live_pow hL m ha).1 ⟨v, h3⟩
    exact ⟨i, by omega, h5⟩
  · rintro ⟨i, h1, h2⟩
    obtain ⟨v, hv⟩ := (live_pow hL (i + 1) ha).2 ⟨i, by omega, h2⟩
    by_cases e : mn ≤ (i + 1 : Nat)
    · exact ⟨v, i + 1, e, by omega, hv⟩
    · obtain ⟨u, hu⟩ := pow_some hL (mn.toNat - (i + 1))
      refine ⟨v ++ u, mn.toNat, by omega, by omega, ?_⟩
      have := pow_more _ _ _ _ hv hu
      rw [show i + 1 + (mn.toNat - (i + 1)) = mn.toNat by omega, List.append_assoc] at this
      exact this

end Ex
end Go.Proofs.YtlgojnodhbmlkaaGreatDoor
namespace Go.Proofs.YtlgojnodhbmlkaaGreatDoor
open Go.RowKit
namespace Ex

/-- A range: the text ends within it just behind its one byte. -/
theorem range_live {L : List Int → Prop} {bs : List Int} {a : Nat} {fr t0 : Int} (ha : a < bs.length) (hL : ∀ u, L u ↔ ∃ c, u = [c] ∧ fr ≤ c ∧ c ≤ t0) : LiveS L bs a ↔ a + 1 = bs.length ∧ ∃ x, bs[a]? = some x ∧ fr ≤ x ∧ x ≤ t0 := by
  constructor
  · rintro ⟨v, hv⟩
    obtain ⟨c, h1, h2⟩ := (hL _).1 hv
    have hl := congrArg List.length h1
    simp only [List.length_append, List.length_drop, List.length_cons, List.length_nil] at hl
    have h3 : v = [] := List.length_eq_zero_iff.1 (by omega)
    subst h3
    rw [List.append_nil] at h1
    refine ⟨by omega, c, ?_, h2⟩
    have h4 : (bs.drop a)[0]? = some c := by rw [h1]; rfl
    rw [List.getElem?_drop] at h4
    simpa using h4
  · rintro ⟨h1, x, h2, h3⟩
    refine ⟨[], (hL _).2 ⟨x, ?_, h3⟩⟩
    rw [List.append_nil]
    obtain ⟨hlt, e⟩ := List.getElem?_eq_some_iff.1 h2
    rw [List.drop_eq_getElem_cons hlt, e, List.drop_of_length_le (by omega)]
/-- One of some. -/
theorem alt_live {Ls : Nat → List Int → Prop} {L : List Int → Prop} {bs : List Int} {a : Nat} {ks : List Nat} (hL : ∀ u, L u ↔ ∃ k ∈ ks, Ls k u) : LiveS L bs a ↔ ∃ k ∈ ks, LiveS (Ls k) bs a := by
  constructor
  · rintro ⟨v, hv⟩
    obtain ⟨k, h1, h2⟩ := (hL _).1 hv
    exact ⟨k, h1, v, h2⟩
  · rintro ⟨k, h1, v, h2⟩
    exact ⟨v, (hL _).2 ⟨k, h1, h2⟩⟩
/-- A row of parts: where one is live. -/
theorem seq_live_yes {Ls : Nat → List Int → Prop} {L : List Int → Prop} {bs : List Int} {a : Nat} {ks : List Nat} (ha : a < bs.length) (hs : ∀ k ∈ ks, ∃ u, Ls k u) (hL : ∀ u, L u ↔ CatS (ks.map Ls) u) {k kk x : Nat} (hk : ks[k]? = some kk) (hx : SeqS bs ((ks.take k).map Ls) (fun y => y = a) x) (hl : LiveS (Ls kk) bs x) : LiveS L bs a := by
  rw [live_iff' hL, live_seq _ (fun M hM => by obtain ⟨k, h1, rfl⟩ := List.mem_map.1 hM; exact hs k h1) ha]
  exact ⟨k, Ls kk, by rw [List.getElem?_map, hk]; rfl, x, by rw [← List.map_take]; exact hx, hl⟩
theorem seq_live_no {Ls : Nat → List Int → Prop} {L : List Int → Prop} {bs : List Int} {a : Nat} {ks : List Nat} (ha : a < bs.length) (hs : ∀ k ∈ ks, ∃ u, Ls k u) (hL : ∀ u, L u ↔ CatS (ks.map Ls) u) (hn : ∀ k kk, ks[k]? = some kk → ∀ x, SeqS bs ((ks.take k).map Ls) (fun y => y = a) x → ¬ LiveS (Ls kk) bs x) : ¬ LiveS L bs a := by
  rw [live_iff' hL, live_seq _ (fun M hM => by obtain ⟨k, h1, rfl⟩ := List.mem_map.1 hM; exact hs k h1) ha]
  rintro ⟨k, M, h1, x, h2, h3⟩
  rw [List.getElem?_map] at h1
  obtain ⟨kk, h4, rfl⟩ := Option.map_eq_some_iff.1 h1
  exact hn k kk h4 x (by rw [List.map_take]; exact h2) h3
/-- A repetition while it is asked for life: what is marked and not fresh is not live; what is fresh was not come to with fewer. -/
def WaveL (L : List Int → Prop) (bs : List Int) (a j : Nat) (mark fresh : Nat → Prop) : Prop :=
  WaveS L bs (fun x => x = a) 0 j mark fresh ∧ (∀ k, fresh k → ∀ m, m < j → ¬ PowS L bs m (fun x => x = a) k) ∧ ∀ b, mark b → ¬ fresh b → ¬ LiveS L bs b
theorem wavel_begin {L : List Int → Prop} {bs : List Int} {a : Nat} {F : Nat → Prop} (h : ∀ k, F k ↔ k = a) : WaveL L bs a 0 F F :=
  ⟨wave_begin h, fun _ _ m hm => absurd hm (by omega), fun _ h1 h2 => absurd h1 h2⟩
theorem wavel_next {L : List Int → Prop} {bs : List Int} {a j : Nat} {mark fresh mark' fresh' : Nat → Prop} (h : WaveL L bs a j mark fresh) (hno : ∀ x, fresh x → ¬ LiveS L bs x) (hm : ∀ k, mark' k ↔ mark k ∨ StepS L bs fresh k) (hf : ∀ k, fresh' k ↔ StepS L bs fresh k ∧ ¬ mark k) : WaveL L bs a (j + 1) mark' fresh' := by
  obtain ⟨h1, h2, h3⟩ := h
  refine ⟨wave_next h1 hm hf, fun k hk m hlt hp => ?_, fun b hb hnb => ?_⟩
  · exact ((hf k).1 hk).2 ((h1.2.1 k).2 ⟨m, Nat.zero_le _, by omega, hp⟩)
  · have hmb : mark b := by
      rcases (hm b).1 hb with h | h
      · exact h
      · by_cases e : mark b
        · exact e
        · exact absurd ((hf b).2 ⟨h, e⟩) hnb
    by_cases e : fresh b
    · exact hno b e
    · exact h3 b hmb e
theorem wavel_end {L : List Int → Prop} {bs : List Int} {a j : Nat} {mn mx : Int} {mark fresh : Nat → Prop} (hL : ∃ u, L u) (h0 : 0 ≤ mn) (hx : mx = -1 ∨ mn ≤ mx) (ha : a < bs.length) (h : WaveL L bs a j mark fresh) (he : (∀ k, ¬ fresh k) ∨ (j : Int) = mx) : ¬ LiveS (TimesS L mn mx) bs a ∧ ¬ mark bs.length := by
  obtain ⟨h1, h2, h3⟩ := h
  constructor
  · rw [live_times hL h0 hx ha]
    rintro ⟨i, g1, x, g2, g3⟩
    rcases he with he | he
    · exact h3 x (wave_dry h1 he x i (Nat.zero_le _) g2) (he x) g3
    · have hm : mark x := (h1.2.1 x).2 ⟨i, Nat.zero_le _, by omega, g2⟩
      by_cases e : fresh x
      · exact h2 x e i (by omega) g2
      · exact h3 x hm e g3
  · intro hn
    obtain ⟨m, _, g1, g2⟩ := (h1.2.1 _).1 hn
    cases m with
    | zero => have g2 : bs.length = a := g2; omega
    | succ m =>
      obtain ⟨b, g3, g4⟩ := g2
      have hl := live_ends g4
      have hm : mark b := (h1.2.1 b).2 ⟨m, Nat.zero_le _, by omega, g3⟩
      by_cases e : fresh b
      · exact h2 b e m (by omega) g3
      · exact h3 b hm e hl
theorem wavel_yes {L : List Int → Prop} {bs : List Int} {a j x : Nat} {mn mx : Int} {mark fresh : Nat → Prop} (hL : ∃ u, L u) (h0 : 0 ≤ mn) (hx : mx = -1 ∨ mn ≤ mx) (ha : a < bs.length) (h : WaveL L bs a j mark fresh) (hj : (j : Int) < mx ∨ mx < 0) (hf : fresh x) (hl : LiveS L bs x) : LiveS (TimesS L mn mx) bs a := by
  rw [live_times hL h0 hx ha]
  exact ⟨j, by omega, x, h.1.2.2.1 x hf, hl⟩

end Ex
end Go.Proofs.YtlgojnodhbmlkaaGreatDoor
