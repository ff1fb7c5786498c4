import Derived.Test.YtggodknnfpegmaaDoorMExRight
namespace Go.Proofs.YtggodknnfpegmaaDoor
open Go.RowKit
namespace Ex

def lessI : List Int → List Int → Bool
  | [], [] => false
  | [], _ :: _ => true
  | _ :: _, [] => false
  | a :: x, b :: y => decide (a < b) || (a == b && lessI x y)
def shorter (x y : List Int) : Bool := decide (x.length < y.length) || (x.length == y.length && lessI x y)
def bestOf (l : List (List Int)) : List Int := l.tail.foldl (fun b y => if shorter y b then y else b) (l.headD [])
/-- The row that Shortest tells of a right pattern. -/
def shortA : (n : Nat) → PatN n → List Int
  | 0, _ => []
  | n + 1, p =>
    if kind p = 1 then [from_ p]
    else if kind p = 3 then bestOf ((kids p).map (shortA n))
    else if kind p = 4 then (List.replicate (min_ p).toNat (((kids p).take 1).flatMap (shortA n))).flatten
    else (kids p).flatMap (shortA n)

theorem best_in (xs : List (List Int)) : ∀ x, xs.foldl (fun b y => if shorter y b then y else b) x = x ∨ xs.foldl (fun b y => if shorter y b then y else b) x ∈ xs := by
  induction xs with
  | nil => intro x; exact .inl rfl
  | cons y ys ih =>
    intro x
    rw [List.foldl_cons]
    rcases ih (if shorter y x then y else x) with h | h
    · rw [h]
      split
      · exact .inr (List.mem_cons_self ..)
      · exact .inl rfl
    · exact .inr (List.mem_cons_of_mem _ h)
theorem bestOf_in {l : List (List Int)} (h : l ≠ []) : bestOf l ∈ l := by
  cases l with
  | nil => exact absurd rfl h
  | cons x xs =>
    rcases best_in xs x with e | e
    · show xs.foldl _ x ∈ _
      rw [e]
      exact List.mem_cons_self ..
    · exact List.mem_cons_of_mem _ e
theorem fold_sum {α : Type} (f : α → Int) : ∀ (L : List α) (acc : Int), (∀ q ∈ L, 0 ≤ f q) → 0 ≤ acc → L.foldl (fun a q => min (a + f q) 4097) acc ≤ 4096 → L.foldl (fun a q => min (a + f q) 4097) acc = acc + (L.map f).sum ∧ acc ≤ 4096
  | [], acc, _, _, h => by simpa using h
  | q :: L, acc, hf, ha, h => by
    rw [List.foldl_cons] at h ⊢
    have hq := hf q (List.mem_cons_self ..)
    have ih := fold_sum f L (min (acc + f q) 4097) (fun x hx => hf x (List.mem_cons_of_mem _ hx)) (by omega) h
    rw [ih.1, List.map_cons, List.sum_cons]
    omega
theorem sum_mem {α : Type} (f : α → Int) : ∀ (L : List α), (∀ q ∈ L, 0 ≤ f q) → 0 ≤ (L.map f).sum ∧ ∀ q ∈ L, f q ≤ (L.map f).sum
  | [], _ => by simp
  | x :: L, hf => by
    have hx := hf x (List.mem_cons_self ..)
    have ih := sum_mem f L (fun y hy => hf y (List.mem_cons_of_mem _ hy))
    rw [List.map_cons, List.sum_cons]
    refine ⟨by omega, fun q hq => ?_⟩
    rcases List.mem_cons.1 hq with rfl | hq
    · omega
    · have := ih.2 q hq
      omega
theorem sum_short {α : Type} (g : α → List Int) (f : α → Int) : ∀ (L : List α), (∀ q ∈ L, ((g q).length : Int) ≤ f q) → ((L.flatMap g).length : Int) ≤ (L.map f).sum
  | [], _ => by simp
  | x :: L, h => by
    have hx := h x (List.mem_cons_self ..)
    have ih := sum_short g f L (fun y hy => h y (List.mem_cons_of_mem _ hy))
    rw [List.map_cons, List.sum_cons, List.flatMap_cons, List.length_append]
    omega
theorem short_len : ∀ (n : Nat) (p : PatN n), rightP n p = true → posP n p ≤ 4096 → ((shortA n p).length : Int) ≤ posP n p
  | 0, _, _, _ => by simp [shortA, posP]
  | n + 1, p, hr, hp => by
    have h' : (topOf p && (kids p).all (rightP n)) = true := hr
    rw [Bool.and_eq_true] at h'
    have hk := List.all_eq_true.1 h'.2
    have hnn : ∀ q ∈ kids p, 0 ≤ posP n q := fun q hq => (pos_in n q (hk q hq)).1
    rw [posP] at hp ⊢
    rw [shortA]
    by_cases k1 : kind p = 1
    · rw [if_pos k1, if_pos k1]
      simp
    rw [if_neg k1] at hp
    rw [if_neg k1, if_neg k1]
    by_cases k4 : kind p = 4
    · have k3 : ¬ kind p = 3 := by omega
      rw [if_pos k4] at hp
      rw [if_pos k4, if_neg k3, if_pos k4]
      have h1 := right_one hr k4
      obtain ⟨q, hq⟩ := List.length_eq_one_iff.1 h1
      rw [hq] at hp ⊢
      have hq0 := hnn q (by rw [hq]; exact List.mem_cons_self ..)
      have hqr := hk q (by rw [hq]; exact List.mem_cons_self ..)
      have hq9 := (pos_in n q hqr).2
      have ht := h'.1
      unfold topOf topP at ht
      rw [if_neg k1, if_neg (by omega), if_neg k3, if_pos k4] at ht
      simp [timesP] at ht
      have hc : min_ p ≤ copiesP (min_ p) (max_ p) ∧ 0 ≤ copiesP (min_ p) (max_ p) := by
        unfold copiesP
        split <;> omega
      generalize hcc : copiesP (min_ p) (max_ p) = c at hp hc ⊢
      have hfo : [q].foldl (fun acc q => min (acc + posP n q) 4097) 0 = posP n q := by
        simp
        omega
      rw [hfo] at hp ⊢
      simp only [List.take_succ_cons, List.take_zero, List.flatMap_cons, List.flatMap_nil, List.append_nil, List.length_flatten, List.map_replicate, List.sum_replicate_nat]
      by_cases hm : min_ p = 0
      · rw [hm]
        have : 0 ≤ posP n q * c := Int.mul_nonneg hq0 hc.2
        simp
        omega
      · have hc1 : 1 ≤ c := by omega
        have h2 : posP n q ≤ posP n q * c := by
          have := Int.mul_le_mul_of_nonneg_left hc1 hq0
          simpa using this
        have ih := short_len n q hqr (by omega)
        have h3 : ((min_ p).toNat : Int) * ((shortA n q).length : Int) ≤ c * posP n q := Int.mul_le_mul (by omega) ih (by omega) hc.2
        rw [Int.mul_comm c] at h3
        rw [Int.natCast_mul]
        omega
    rw [if_neg k4] at hp
    rw [if_neg k4, if_neg k4]
    obtain ⟨hs, _⟩ := fold_sum (posP n) (kids p) 0 hnn (by omega) hp
    rw [hs] at hp ⊢
    have hsm := sum_mem (posP n) (kids p) hnn
    have hle : ∀ q ∈ kids p, ((shortA n q).length : Int) ≤ posP n q := fun q hq => short_len n q (hk q hq) (by have := hsm.2 q hq; omega)
    by_cases k3 : kind p = 3
    · rw [if_pos k3]
      by_cases he : kids p = []
      · rw [he]
        simp [bestOf]
      · have hb := bestOf_in (l := (kids p).map (shortA n)) (by simpa using he)
        obtain ⟨q, hq, e⟩ := List.mem_map.1 hb
        rw [← e]
        have := hle q hq
        have := hsm.2 q hq
        omega
    · rw [if_neg k3]
      have := sum_short (shortA n) (posP n) (kids p) hle
      omega
theorem short_bytes : ∀ (n : Nat) (p : PatN n), rightP n p = true → ∀ z ∈ shortA n p, IsB z
  | 0, _, _ => by intro z hz; cases hz
  | n + 1, p, hr => by
    have h' : (topOf p && (kids p).all (rightP n)) = true := hr
    rw [Bool.and_eq_true] at h'
    have hk := List.all_eq_true.1 h'.2
    intro z hz
    rw [shortA] at hz
    by_cases k1 : kind p = 1
    · rw [if_pos k1] at hz
      have ht := h'.1
      unfold topOf topP at ht
      rw [if_pos k1] at ht
      simp at ht hz
      subst hz
      unfold IsB
      omega
    rw [if_neg k1] at hz
    by_cases k3 : kind p = 3
    · rw [if_pos k3] at hz
      by_cases he : kids p = []
      · rw [he] at hz
        simp [bestOf] at hz
      · have hb := bestOf_in (l := (kids p).map (shortA n)) (by simpa using he)
        obtain ⟨q, hq, e⟩ := List.mem_map.1 hb
        rw [← e] at hz
        exact short_bytes n q (hk q hq) z hz
    rw [if_neg k3] at hz
    by_cases k4 : kind p = 4
    · rw [if_pos k4] at hz
      obtain ⟨l, hl, hz⟩ := List.mem_flatten.1 hz
      have hl := (List.mem_replicate.1 hl).2
      subst hl
      obtain ⟨q, hq, hz⟩ := List.mem_flatMap.1 hz
      exact short_bytes n q (hk q (List.mem_of_mem_take hq)) z hz
    · rw [if_neg k4] at hz
      obtain ⟨q, hq, hz⟩ := List.mem_flatMap.1 hz
      exact short_bytes n q (hk q hq) z hz

end Ex
end Go.Proofs.YtggodknnfpegmaaDoor
namespace Go.Proofs.YtggodknnfpegmaaDoor
open Go.RowKit
namespace Ex

/-- What lies at a place of a row that is repeated. -/
theorem rep_get (b : List Int) : ∀ (k i : Nat), i < k * b.length → (List.replicate k b).flatten[i]? = b[i % b.length]?
  | 0, i, h => by simp at h
  | k + 1, i, h => by
    rw [List.replicate_succ, List.flatten_cons, List.getElem?_append]
    split
    · rename_i hl
      rw [Nat.mod_eq_of_lt hl]
    · rename_i hl
      rw [Nat.succ_mul] at h
      rw [rep_get b k (i - b.length) (by omega), Nat.mod_eq_sub_mod (a := i) (by omega)]
theorem rep_len (b : List Int) (k : Nat) : (List.replicate k b).flatten.length = k * b.length := by
  simp [List.length_flatten]
/-- A row whose front of m * |b| bytes is doubled (or lengthened by a front of whole pieces) goes on as it began. -/
theorem rep_on {b : List Int} {m j i : Nat} (h : j = m * b.length) (hi : j ≤ i) : (i - j) % b.length = i % b.length := by
  subst h
  have e : i = (i - m * b.length) + b.length * m := by rw [Nat.mul_comm b.length]; omega
  rw [e, Nat.add_mul_mod_self_left]
  congr 1
  rw [Nat.mul_comm b.length]
  omega
/-- Once more: what the document appends piece by piece. -/
theorem rep_snoc (b : List Int) (k : Nat) : (List.replicate (k + 1) b).flatten = (List.replicate k b).flatten ++ b := by
  rw [List.replicate_succ', List.flatten_append]
  simp
theorem bestOf_cons (x : List Int) (xs : List (List Int)) : bestOf (x :: xs) = xs.foldl (fun b y => if shorter y b then y else b) x := rfl
theorem bestOf_snoc {l : List (List Int)} (y : List Int) (h : l ≠ []) : bestOf (l ++ [y]) = if shorter y (bestOf l) then y else bestOf l := by
  cases l with
  | nil => exact absurd rfl h
  | cons x xs => rw [List.cons_append, bestOf_cons, bestOf_cons, List.foldl_append]; rfl
/-- The best of the first j + 1 parts. -/
theorem best_take {n : Nat} {L : List (PatN n)} {j : Nat} {q : PatN n} (hq : L[j]? = some q) (hj : 0 < j) :
    bestOf ((L.take (j + 1)).map (shortA n)) = if shorter (shortA n q) (bestOf ((L.take j).map (shortA n))) then shortA n q else bestOf ((L.take j).map (shortA n)) := by
  obtain ⟨hl, rfl⟩ := List.getElem?_eq_some_iff.1 hq
  rw [List.take_succ_eq_append_getElem hl, List.map_append]
  refine bestOf_snoc _ ?_
  intro e
  have h2 := congrArg List.length e
  rw [List.length_map, List.length_take, List.length_nil] at h2
  omega
/-- The row of the first j + 1 parts. -/
theorem row_take {n : Nat} {L : List (PatN n)} {j : Nat} {q : PatN n} (hq : L[j]? = some q) : (L.take (j + 1)).flatMap (shortA n) = (L.take j).flatMap (shortA n) ++ shortA n q := by
  obtain ⟨hl, rfl⟩ := List.getElem?_eq_some_iff.1 hq
  rw [List.take_succ_eq_append_getElem hl, List.flatMap_append]
  simp

end Ex
end Go.Proofs.YtggodknnfpegmaaDoor
