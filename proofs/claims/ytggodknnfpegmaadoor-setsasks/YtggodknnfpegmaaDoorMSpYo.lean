import Derived.Test.YtggodknnfpegmaaDoorMExSw1
import Derived.Test.YtggodknnfpegmaaDoorMSpMk
namespace Go.Proofs.YtggodknnfpegmaaDoor
open Go.RowKit
namespace Ex

/-- s is no worse than u. -/
def LeY (s u : List Int) : Prop := shorter u s = false
theorem ley_iff (s u : List Int) : LeY s u ↔ s.length < u.length ∨ (s.length = u.length ∧ lessI u s = false) := by
  unfold LeY shorter
  by_cases h1 : u.length < s.length
  · simp [h1]
    omega
  · by_cases h2 : u.length = s.length
    · simp [h2]
    · simp [h1, h2]
      omega
theorem lessY_app : ∀ (a b x y : List Int), a.length = b.length → lessI a b = false → lessI x y = false → lessI (a ++ x) (b ++ y) = false
  | [], [], _, _, _, _, h => h
  | [], _ :: _, _, _, e, _, _ => by simp at e
  | _ :: _, [], _, _, e, _, _ => by simp at e
  | c :: a, d :: b, x, y, e, h1, h2 => by
    have ih := lessY_app a b x y (by simpa using e)
    simp only [List.cons_append, lessI, Bool.or_eq_false_iff, Bool.and_eq_false_iff, beq_eq_false_iff_ne] at h1 ⊢
    refine ⟨h1.1, ?_⟩
    rcases h1.2 with h | h
    · exact .inl h
    · exact .inr (ih h h2)
theorem LeY.app {s1 s2 u1 u2 : List Int} (h1 : LeY s1 u1) (h2 : LeY s2 u2) : LeY (s1 ++ s2) (u1 ++ u2) := by
  rw [ley_iff] at h1 h2 ⊢
  rw [List.length_append, List.length_append]
  rcases h1 with h1 | h1
  · rcases h2 with h2 | h2 <;> exact .inl (by omega)
  · rcases h2 with h2 | h2
    · exact .inl (by omega)
    · exact .inr ⟨by omega, lessY_app _ _ _ _ h1.1.symm h1.2 h2.2⟩
theorem LeY.nil (u : List Int) : LeY [] u := by
  rw [ley_iff]
  cases u with
  | nil => exact .inr ⟨rfl, rfl⟩
  | cons x u => exact .inl (by simp)
theorem lessY_irr : ∀ (a : List Int), lessI a a = false
  | [] => rfl
  | x :: a => by simp [lessI, lessY_irr a]
theorem LeY.refl (s : List Int) : LeY s s := by rw [ley_iff]; exact .inr ⟨rfl, lessY_irr s⟩
theorem lessY_trans : ∀ (a b c : List Int), a.length = b.length → b.length = c.length → lessI b a = false → lessI c b = false → lessI c a = false
  | [], [], [], _, _, _, _ => rfl
  | x :: a, y :: b, z :: c, e1, e2, h1, h2 => by
    have ih := lessY_trans a b c (by simpa using e1) (by simpa using e2)
    simp only [lessI, Bool.or_eq_false_iff, Bool.and_eq_false_iff, beq_eq_false_iff_ne, decide_eq_false_iff_not] at h1 h2 ⊢
    refine ⟨by omega, ?_⟩
    by_cases e : z = x
    · right
      have e1 : y = x := by omega
      have e2 : z = y := by omega
      exact ih (h1.2.resolve_left (fun h => h e1)) (h2.2.resolve_left (fun h => h e2))
    · exact .inl e
  | [], [], _ :: _, _, e, _, _ => by simp at e
  | [], _ :: _, _, e, _, _, _ => by simp at e
  | _ :: _, [], _, e, _, _, _ => by simp at e
  | _ :: _, _ :: _, [], _, e, _, _ => by simp at e
theorem LeY.trans {a b c : List Int} (h1 : LeY a b) (h2 : LeY b c) : LeY a c := by
  rw [ley_iff] at h1 h2 ⊢
  rcases h1 with h1 | h1
  · rcases h2 with h2 | h2 <;> exact .inl (by omega)
  · rcases h2 with h2 | h2
    · exact .inl (by omega)
    · exact .inr ⟨by omega, lessY_trans a b c h1.1 h2.1 h1.2 h2.2⟩
theorem lessY_asym : ∀ (a b : List Int), lessI a b = true → lessI b a = false
  | [], _ :: _, _ => rfl
  | _ :: _, [], h => by simp [lessI] at h
  | [], [], h => by simp [lessI] at h
  | x :: a, y :: b, h => by
    simp only [lessI, Bool.or_eq_true, Bool.and_eq_true, beq_iff_eq, decide_eq_true_eq] at h
    simp only [lessI, Bool.or_eq_false_iff, Bool.and_eq_false_iff, beq_eq_false_iff_ne, decide_eq_false_iff_not]
    rcases h with h | h
    · exact ⟨by omega, .inl (by omega)⟩
    · exact ⟨by omega, .inr (lessY_asym a b h.2)⟩
theorem ley_of {a b : List Int} (h : shorter a b = true) : LeY a b := by
  rw [ley_iff]
  unfold shorter at h
  simp only [Bool.or_eq_true, Bool.and_eq_true, beq_iff_eq, decide_eq_true_eq] at h
  rcases h with h | h
  · exact .inl h
  · exact .inr ⟨h.1, lessY_asym _ _ h.2⟩
theorem lessY_or : ∀ (a b : List Int), a.length = b.length → lessI b a = false → lessI a b = true ∨ a = b := by
  intro a
  induction a with
  | nil => intro b e _; right; exact (List.length_eq_zero_iff.1 e.symm).symm
  | cons x a ih =>
    intro b e h
    cases b with
    | nil => simp at e
    | cons y b =>
      simp only [lessI, Bool.or_eq_false_iff, Bool.and_eq_false_iff, beq_eq_false_iff_ne, decide_eq_false_iff_not] at h
      by_cases h1 : x < y
      · left; simp [lessI, h1]
      · have e1 : x = y := by omega
        subst e1
        have h3 := h.2.resolve_left (fun h => h rfl)
        rcases ih b (by simpa using e) h3 with h4 | h4
        · left; simp [lessI, h4]
        · right; rw [h4]
theorem LeY.anti {a b : List Int} (h1 : LeY a b) (h2 : LeY b a) : a = b := by
  rw [ley_iff] at h1 h2
  rcases h1 with h1 | h1
  · rcases h2 with h2 | h2 <;> omega
  · rcases h2 with h2 | h2
    · omega
    · rcases lessY_or a b h1.1 h1.2 with h | h
      · rw [h] at h2; exact absurd h2.2 (by simp)
      · exact h
theorem LeY.len {a b : List Int} (h : LeY a b) : a.length ≤ b.length := by
  rw [ley_iff] at h
  omega
theorem ley_not {a b : List Int} (h : LeY a b) (hn : a ≠ b) : shorter a b = true := by
  rw [ley_iff] at h
  unfold shorter
  simp only [Bool.or_eq_true, Bool.and_eq_true, beq_iff_eq, decide_eq_true_eq]
  rcases h with h | h
  · exact .inl h
  · exact .inr ⟨h.1, (lessY_or a b h.1 h.2).resolve_right hn⟩
theorem bytes_str {xs ys : List Int} (hx : ∀ z ∈ xs, IsB z) (hy : ∀ z ∈ ys, IsB z) : Op.bytesLess (strOf xs).toList (strOf ys).toList = lessI xs ys := by
  rw [Lib.toList_data, Lib.toList_data, strOf_list, strOf_list, less_u8 xs ys hx hy]
/-- Rows in their order, as numbers. -/
def valY : List Int → Nat
  | [] => 0
  | z :: r => (z.toNat + 1) * 256 ^ r.length + valY r
theorem valY_bound : ∀ (r : List Int), (∀ z ∈ r, IsB z) → 255 * valY r + 256 ≤ 256 ^ (r.length + 1) ∧ 256 ^ r.length ≤ 255 * valY r + 1
  | [], _ => ⟨by decide, by decide⟩
  | z :: r, h => by
    have hz := h z List.mem_cons_self
    obtain ⟨h1, h2⟩ := valY_bound r (fun y hy => h y (List.mem_cons_of_mem _ hy))
    show 255 * ((z.toNat + 1) * 256 ^ r.length + valY r) + 256 ≤ 256 ^ (r.length + 1 + 1) ∧ 256 ^ (r.length + 1) ≤ 255 * ((z.toNat + 1) * 256 ^ r.length + valY r) + 1
    obtain ⟨B, hB⟩ : ∃ B, 256 ^ r.length = B := ⟨_, rfl⟩
    rw [Nat.pow_succ, Nat.pow_succ] at *
    rw [hB] at h1 h2 ⊢
    obtain ⟨n, hn⟩ : ∃ n, z.toNat = n := ⟨_, rfl⟩
    rw [hn]
    have hn8 : n ≤ 255 := by unfold IsB at hz; omega
    have hm : (n + 1) * B ≤ 256 * B := Nat.mul_le_mul_right B (by omega)
    have hm2 : 1 * B ≤ (n + 1) * B := Nat.mul_le_mul_right B (by omega)
    constructor
    · omega
    · omega
theorem valY_less : ∀ (a b : List Int), (∀ z ∈ a, IsB z) → (∀ z ∈ b, IsB z) → a.length = b.length → lessI a b = true → valY a < valY b
  | [], [], _, _, _, h => by simp [lessI] at h
  | [], _ :: _, _, _, e, _ => by simp at e
  | _ :: _, [], _, _, e, _ => by simp at e
  | x :: a, y :: b, ha, hb, e, h => by
    have hx := ha x List.mem_cons_self
    have hy := hb y List.mem_cons_self
    have ha2 := fun z hz => ha z (List.mem_cons_of_mem _ hz)
    have hb2 := fun z hz => hb z (List.mem_cons_of_mem _ hz)
    have el : a.length = b.length := by simpa using e
    show (x.toNat + 1) * 256 ^ a.length + valY a < (y.toNat + 1) * 256 ^ b.length + valY b
    simp only [lessI, Bool.or_eq_true, Bool.and_eq_true, beq_iff_eq, decide_eq_true_eq] at h
    rcases h with h | ⟨h1, h2⟩
    · have b1 := (valY_bound a ha2).1
      have b2 := (valY_bound b hb2).2
      rw [Nat.pow_succ, el] at b1
      rw [el]
      obtain ⟨B, hB⟩ : ∃ B, 256 ^ b.length = B := ⟨_, rfl⟩
      rw [hB] at b1 b2 ⊢
      have hxy : x.toNat + 1 + 1 ≤ y.toNat + 1 := by unfold IsB at hx hy; omega
      have hm : (x.toNat + 1 + 1) * B ≤ (y.toNat + 1) * B := Nat.mul_le_mul_right B hxy
      rw [Nat.add_mul (x.toNat + 1) 1 B, Nat.one_mul] at hm
      omega
    · rw [h1, el]
      have := valY_less a b ha2 hb2 el h2
      omega
theorem valY_shorter {a b : List Int} (ha : ∀ z ∈ a, IsB z) (hb : ∀ z ∈ b, IsB z) (h : shorter a b = true) : valY a < valY b := by
  unfold shorter at h
  simp only [Bool.or_eq_true, Bool.and_eq_true, beq_iff_eq, decide_eq_true_eq] at h
  rcases h with h | h
  · have b1 := (valY_bound a ha).1
    have b2 := (valY_bound b hb).2
    have hp : 256 ^ (a.length + 1) ≤ 256 ^ b.length := Nat.pow_le_pow_right (by decide) h
    omega
  · exact valY_less a b ha hb h.1 h.2

end Ex
end Go.Proofs.YtggodknnfpegmaaDoor
namespace Go.Proofs.YtggodknnfpegmaaDoor
open Go.RowKit
namespace Ex

/-- A row of terminals that a right side makes, where S are the rows that names make. -/
def RowOf (nl : Nat) (S : Nat × List Int → Prop) : List SymM → List Int → Prop
  | [], r => r = []
  | y :: ys, r => ∃ a c, r = a ++ c ∧ ((y.1 = 3 ∧ S (y.2.toNat, a)) ∨ (y.1 ≠ 3 ∧ a = [((termN nl y : Nat) : Int)])) ∧ RowOf nl S ys c
theorem RowOf.mono {nl : Nat} {S S' : Nat × List Int → Prop} (h : ∀ x, S x → S' x) : ∀ {ys : List SymM} {r : List Int}, RowOf nl S ys r → RowOf nl S' ys r
  | [], _, hr => hr
  | _ :: _, _, ⟨a, c, h1, h2, h3⟩ => ⟨a, c, h1, h2.imp (fun h2 => ⟨h2.1, h _ h2.2⟩) id, h3.mono h⟩
def SnG (nl : Nat) (ps : List ProdM) (i : Nat) (S : Nat × List Int → Prop) (x : Nat × List Int) : Prop := ∃ p, ps[i]? = some p ∧ x.1 = p.1.toNat ∧ RowOf nl S p.2 x.2
/-- The sentences of a name. -/
def Sen (nl : Nat) (ps : List ProdM) : Nat × List Int → Prop := Lf (fun _ => False) (fun i => i < ps.length) (SnG nl ps)
theorem sn_up (nl : Nat) (ps : List ProdM) : Up (SnG nl ps) := fun _ _ _ h _ ⟨p, h1, h2, h3⟩ => ⟨p, h1, h2, h3.mono h⟩
theorem sen_rule {nl : Nat} {ps : List ProdM} {p : ProdM} {i : Nat} (hp : ps[i]? = some p) {r : List Int} (hr : RowOf nl (Sen nl ps) p.2 r) : Sen nl ps (p.1.toNat, r) :=
  (lf_closed (sn_up nl ps)).2 i (List.getElem?_eq_some_iff.1 hp).1 _ ⟨p, hp, rfl, hr⟩
/-- What a symbol stands for, as far as it is known. -/
def symY (nl : Nat) (L : Nat → Option (List Int)) (y : SymM) : Option (List Int) := if y.1 = 3 then L y.2.toNat else some [((termN nl y : Nat) : Int)]
/-- The best rows of a right side's symbols, one behind the other. -/
def joinM (nl : Nat) (L : Nat → Option (List Int)) : List SymM → List Int → Option (List Int)
  | [], row => some row
  | y :: ys, row => match symY nl L y with
    | none => none
    | some a => if 4096 < (row ++ a).length then none else joinM nl L ys (row ++ a)
/-- Wherever L knows a row, L' knows one that is no worse. -/
def BeY (L' L : Nat → Option (List Int)) : Prop := ∀ n r, L n = some r → ∃ r', L' n = some r' ∧ LeY r' r
theorem BeY.refl (L : Nat → Option (List Int)) : BeY L L := fun _ r h => ⟨r, h, LeY.refl r⟩
theorem BeY.trans {L1 L2 L3 : Nat → Option (List Int)} (h1 : BeY L1 L2) (h2 : BeY L2 L3) : BeY L1 L3 := fun n r h => by
  obtain ⟨r2, h3, h4⟩ := h2 n r h
  obtain ⟨r1, h5, h6⟩ := h1 n r2 h3
  exact ⟨r1, h5, h6.trans h4⟩
theorem symY_mono {nl : Nat} {L' L : Nat → Option (List Int)} (h : BeY L' L) {y : SymM} {a : List Int} (hy : symY nl L y = some a) : ∃ a', symY nl L' y = some a' ∧ LeY a' a := by
  unfold symY at hy ⊢
  by_cases h3 : y.1 = 3
  · rw [if_pos h3] at hy ⊢
    exact h _ _ hy
  · rw [if_neg h3] at hy ⊢
    exact ⟨a, hy, LeY.refl a⟩
theorem join_mono {nl : Nat} {L' L : Nat → Option (List Int)} (h : BeY L' L) : ∀ (ys : List SymM) (row row' x : List Int), LeY row' row → joinM nl L ys row = some x → ∃ x', joinM nl L' ys row' = some x' ∧ LeY x' x
  | [], row, row', x, hr, hx => by
    have hx : some row = some x := hx
    injection hx with hx
    subst hx
    exact ⟨row', rfl, hr⟩
  | y :: ys, row, row', x, hr, hx => by
    unfold joinM at hx ⊢
    cases hs : symY nl L y with
    | none => rw [hs] at hx; exact absurd hx (by simp)
    | some a =>
      rw [hs] at hx
      obtain ⟨a', ha, hle⟩ := symY_mono h hs
      rw [ha]
      have hx : (if 4096 < (row ++ a).length then none else joinM nl L ys (row ++ a)) = some x := hx
      show ∃ x', (if 4096 < (row' ++ a').length then none else joinM nl L' ys (row' ++ a')) = some x' ∧ _
      by_cases hl : 4096 < (row ++ a).length
      · rw [if_pos hl] at hx; exact absurd hx (by simp)
      · rw [if_neg hl] at hx
        have hap := hr.app hle
        have := hap.len
        rw [if_neg (by omega)]
        exact join_mono h ys _ _ x hap hx
theorem join_len {nl : Nat} {L : Nat → Option (List Int)} : ∀ (ys : List SymM) (row x : List Int), row.length ≤ 4096 → joinM nl L ys row = some x → x.length ≤ 4096
  | [], row, x, hr, hx => by
    have hx : some row = some x := hx
    injection hx with hx
    subst hx
    exact hr
  | y :: ys, row, x, _, hx => by
    unfold joinM at hx
    cases hs : symY nl L y with
    | none => rw [hs] at hx; exact absurd hx (by simp)
    | some a =>
      rw [hs] at hx
      have hx : (if 4096 < (row ++ a).length then none else joinM nl L ys (row ++ a)) = some x := hx
      by_cases hl : 4096 < (row ++ a).length
      · rw [if_pos hl] at hx; exact absurd hx (by simp)
      · rw [if_neg hl] at hx
        exact join_len ys _ x (by omega) hx
theorem join_row {nl : Nat} {ps : List ProdM} {L : Nat → Option (List Int)} (h : ∀ n r, L n = some r → Sen nl ps (n, r)) : ∀ (ys : List SymM) (row x : List Int), joinM nl L ys row = some x → ∃ c, x = row ++ c ∧ RowOf nl (Sen nl ps) ys c
  | [], row, x, hx => by
    have hx : some row = some x := hx
    injection hx with hx
    exact ⟨[], by rw [hx, List.append_nil], rfl⟩
  | y :: ys, row, x, hx => by
    unfold joinM at hx
    cases hs : symY nl L y with
    | none => rw [hs] at hx; exact absurd hx (by simp)
    | some a =>
      rw [hs] at hx
      have hx : (if 4096 < (row ++ a).length then none else joinM nl L ys (row ++ a)) = some x := hx
      by_cases hl : 4096 < (row ++ a).length
      · rw [if_pos hl] at hx; exact absurd hx (by simp)
      · rw [if_neg hl] at hx
        obtain ⟨c, h1, h2⟩ := join_row h ys _ x hx
        refine ⟨a ++ c, by rw [h1, List.append_assoc], a, c, rfl, ?_, h2⟩
        unfold symY at hs
        by_cases h3 : y.1 = 3
        · rw [if_pos h3] at hs
          exact .inl ⟨h3, h _ _ hs⟩
        · rw [if_neg h3] at hs
          injection hs with hs
          exact .inr ⟨h3, hs.symm⟩
def betterM (x t : Option (List Int)) : Bool := match x, t with
  | none, _ => false
  | some _, none => true
  | some r, some r' => shorter r r'
def putL (L : Nat → Option (List Int)) (l : Nat) (x : Option (List Int)) : Nat → Option (List Int) := fun i => if i = l then x else L i
/-- What is told of a name is right. -/
def SndY (nl : Nat) (ps : List ProdM) (L : Nat → Option (List Int)) : Prop := ∀ n r, L n = some r → Sen nl ps (n, r) ∧ r.length ≤ 4096
/-- A step over the first j productions, from old to L. -/
structure YStep (nl : Nat) (ps : List ProdM) (old L : Nat → Option (List Int)) (j : Nat) : Prop where
  down : BeY L old
  sound : SndY nl ps old → SndY nl ps L
  closed : ∀ i p, i < j → ps[i]? = some p → ∀ x, joinM nl old p.2 [] = some x → ∃ r, L p.1.toNat = some r ∧ LeY r x
theorem YStep.start (nl : Nat) (ps : List ProdM) (old : Nat → Option (List Int)) : YStep nl ps old old 0 := ⟨BeY.refl old, fun h => h, fun i p h => by omega⟩
section
variable {nl : Nat} {ps : List ProdM} {old L : Nat → Option (List Int)} {j : Nat} {p : ProdM}
theorem YStep.put (h : YStep nl ps old L j) (hp : ps[j]? = some p) {l : Nat} (hl : p.1.toNat = l) {x : List Int} (hx : joinM nl L p.2 [] = some x) (hb : betterM (some x) (L l) = true) : YStep nl ps old (putL L l (some x)) (j + 1) := by
  have hbe : BeY (putL L l (some x)) L := fun n r hr => by
    unfold putL
    by_cases e : n = l
    · rw [if_pos e]
      rw [e] at hr
      rw [hr] at hb
      exact ⟨x, rfl, ley_of hb⟩
    · rw [if_neg e]
      exact ⟨r, hr, LeY.refl r⟩
  refine ⟨hbe.trans h.down, fun ho n r hr => ?_, fun i q hi hq y hy => ?_⟩
  · unfold putL at hr
    by_cases e : n = l
    · rw [if_pos e] at hr
      injection hr with hr
      subst hr
      obtain ⟨c, h1, h2⟩ := join_row (fun n r hr => (h.sound ho n r hr).1) p.2 [] x hx
      rw [List.nil_append] at h1
      rw [e, ← hl, h1]
      exact ⟨sen_rule hp h2, h1 ▸ join_len p.2 [] x (by simp) hx⟩
    · rw [if_neg e] at hr
      exact h.sound ho n r hr
  · by_cases e : i < j
    · obtain ⟨r, h1, h2⟩ := h.closed i q e hq y hy
      obtain ⟨r', h3, h4⟩ := hbe _ r h1
      exact ⟨r', h3, h4.trans h2⟩
    · have e : i = j := by omega
      subst e
      rw [hp] at hq
      injection hq with hq
      subst hq
      obtain ⟨x', h1, h2⟩ := join_mono h.down p.2 [] [] y (LeY.refl _) hy
      rw [hx] at h1
      injection h1 with h1
      subst h1
      exact ⟨x, by unfold putL; rw [if_pos hl], h2⟩
theorem YStep.skip (h : YStep nl ps old L j) (hp : ps[j]? = some p) (hb : betterM (joinM nl L p.2 []) (L p.1.toNat) = false) : YStep nl ps old L (j + 1) := by
  refine ⟨h.down, h.sound, fun i q hi hq y hy => ?_⟩
  by_cases e : i < j
  · exact h.closed i q e hq y hy
  · have e : i = j := by omega
    subst e
    rw [hp] at hq
    injection hq with hq
    subst hq
    obtain ⟨x', h1, h2⟩ := join_mono h.down p.2 [] [] y (LeY.refl _) hy
    rw [h1] at hb
    cases hL : L p.1.toNat with
    | none => rw [hL] at hb; exact absurd hb (by simp [betterM])
    | some r =>
      rw [hL] at hb
      exact ⟨r, rfl, LeY.trans (show LeY r x' from hb) h2⟩
end
/-- The least of the shortest sentences, of at most 4096. -/
def YIs (nl : Nat) (ps : List ProdM) (L : Nat → Option (List Int)) : Prop := SndY nl ps L ∧ ∀ n r, Sen nl ps (n, r) → r.length ≤ 4096 → ∃ r', L n = some r' ∧ LeY r' r
theorem join_of {nl : Nat} {L : Nat → Option (List Int)} : ∀ (ys : List SymM) (c row row0 : List Int), RowOf nl (fun x => x.2.length ≤ 4096 → ∃ r', L x.1 = some r' ∧ LeY r' x.2) ys c → LeY row row0 → (row0 ++ c).length ≤ 4096 → ∃ x, joinM nl L ys row = some x ∧ LeY x (row0 ++ c)
  | [], c, row, row0, hc, hr, _ => by
    have hc : c = [] := hc
    rw [hc, List.append_nil]
    exact ⟨row, rfl, hr⟩
  | y :: ys, c, row, row0, ⟨a, d, h1, h2, h3⟩, hr, hl => by
    rw [h1] at hl ⊢
    rw [← List.append_assoc] at hl ⊢
    have hl2 : a.length ≤ 4096 ∧ (row0 ++ a).length ≤ 4096 := by
      rw [List.length_append] at hl
      rw [List.length_append] at hl ⊢
      omega
    obtain ⟨a', ha, hle⟩ : ∃ a', symY nl L y = some a' ∧ LeY a' a := by
      unfold symY
      rcases h2 with ⟨h4, h5⟩ | ⟨h4, h5⟩
      · rw [if_pos h4]
        exact h5 hl2.1
      · rw [if_neg h4, h5]
        exact ⟨_, rfl, LeY.refl _⟩
    have hap := hr.app hle
    have hlen := hap.len
    obtain ⟨x, hx, hxl⟩ := join_of ys d (row ++ a') (row0 ++ a) h3 hap hl
    refine ⟨x, ?_, hxl⟩
    unfold joinM
    rw [ha]
    show (if 4096 < (row ++ a').length then none else joinM nl L ys (row ++ a')) = some x
    rw [if_neg (by omega)]
    exact hx
theorem YStep.done {nl : Nat} {ps : List ProdM} {L : Nat → Option (List Int)} (h : YStep nl ps L L ps.length) (hs : SndY nl ps L) : YIs nl ps L := by
  refine ⟨hs, fun n r hr => ?_⟩
  exact hr (fun x => x.2.length ≤ 4096 → ∃ r', L x.1 = some r' ∧ LeY r' x.2) ⟨fun _ h => h.elim, fun i hi x ⟨p, hp, hx1, hx2⟩ hl => by
    obtain ⟨y, hy, hyl⟩ := join_of p.2 x.2 [] [] hx2 (LeY.refl _) (by rw [List.nil_append]; exact hl)
    rw [List.nil_append] at hyl
    obtain ⟨r', h1, h2⟩ := h.closed i p hi hp y hy
    exact ⟨r', by rw [hx1]; exact h1, h2.trans hyl⟩⟩
theorem YIs.one {nl : Nat} {ps : List ProdM} {L L' : Nat → Option (List Int)} (h : YIs nl ps L) (h' : YIs nl ps L') (n : Nat) : L n = L' n := by
  cases hn : L n with
  | none =>
    cases hn' : L' n with
    | none => rfl
    | some r =>
      obtain ⟨h1, h2⟩ := h'.1 n r hn'
      obtain ⟨r', h3, _⟩ := h.2 n r h1 h2
      rw [hn] at h3
      cases h3
  | some r =>
    obtain ⟨h1, h2⟩ := h.1 n r hn
    obtain ⟨r', h3, h4⟩ := h'.2 n r h1 h2
    obtain ⟨h5, h6⟩ := h'.1 n r' h3
    obtain ⟨r2, h7, h8⟩ := h.2 n r' h5 h6
    rw [hn] at h7
    injection h7 with h7
    subst h7
    rw [h3, h4.anti h8]
/-- Rows of bytes. -/
def BytY (L : Nat → Option (List Int)) : Prop := ∀ n r, L n = some r → ∀ z ∈ r, IsB z
def bigE : Nat := 4098
def bigY : Nat := 256 ^ bigE
def valO : Option (List Int) → Nat
  | none => bigY
  | some r => valY r
theorem valY_big {r : List Int} (hb : ∀ z ∈ r, IsB z) (hl : r.length ≤ 4096) : valY r < bigY := by
  have h := (valY_bound r hb).1
  have he : r.length + 1 ≤ bigE := by unfold bigE; omega
  have hp : 256 ^ (r.length + 1) ≤ 256 ^ bigE := Nat.pow_le_pow_right (by decide) he
  unfold bigY
  omega
theorem val_le {L' L : Nat → Option (List Int)} (h : BeY L' L) (hb : BytY L) (hb' : BytY L') (hl' : ∀ n r, L' n = some r → r.length ≤ 4096) (n : Nat) : valO (L' n) ≤ valO (L n) ∧ (L' n ≠ L n → valO (L' n) < valO (L n)) := by
  cases hn : L n with
  | none =>
    cases hn' : L' n with
    | none => exact ⟨Nat.le_refl _, fun h => absurd rfl h⟩
    | some r =>
      have := valY_big (hb' n r hn') (hl' n r hn')
      exact ⟨Nat.le_of_lt this, fun _ => this⟩
  | some r =>
    obtain ⟨r', h1, h2⟩ := h n r hn
    rw [h1]
    by_cases e : r' = r
    · subst e
      exact ⟨Nat.le_refl _, fun h => absurd rfl h⟩
    · have := valY_shorter (hb' n r' h1) (hb n r hn) (ley_not h2 e)
      exact ⟨Nat.le_of_lt this, fun _ => this⟩

end Ex
end Go.Proofs.YtggodknnfpegmaaDoor
