import Derived.Test.YthnbmkapmnpkoaaDoorMExBase
namespace Go.Proofs.YthnbmkapmnpkoaaDoor
open Go.RowKit
attribute [local go_sem] Oper.semAt_some
namespace Ex

theorem box_at (w : World) (x0 x1 x2 x3 x4 x5 : Value) (t : TypeId) : (w.alloc (.cells #[x0, x1, x2, x3, x4, x5] t)).cell? ⟨w.heap.size, 0, none⟩ = some x0 ∧ (w.alloc (.cells #[x0, x1, x2, x3, x4, x5] t)).cell? ⟨w.heap.size, 1, none⟩ = some x1 ∧ (w.alloc (.cells #[x0, x1, x2, x3, x4, x5] t)).cell? ⟨w.heap.size, 2, none⟩ = some x2 ∧
    (w.alloc (.cells #[x0, x1, x2, x3, x4, x5] t)).cell? ⟨w.heap.size, 3, none⟩ = some x3 ∧ (w.alloc (.cells #[x0, x1, x2, x3, x4, x5] t)).cell? ⟨w.heap.size, 4, none⟩ = some x4 ∧ (w.alloc (.cells #[x0, x1, x2, x3, x4, x5] t)).cell? ⟨w.heap.size, 5, none⟩ = some x5 := by
  refine ⟨?_, ?_, ?_, ?_, ?_, ?_⟩ <;> simp

theorem all_snoc {α : Type} {L : List α} {j : Nat} {q : α} {f : α → Bool} (hq : L[j]? = some q) (h : (L.take j).all f = true) (hf : f q = true) : (L.take (j + 1)).all f = true := by
  obtain ⟨hj, rfl⟩ := List.getElem?_eq_some_iff.1 hq
  rw [List.take_succ_eq_append_getElem hj, List.all_append, h]
  simp [hf]
theorem all_not {α : Type} {L : List α} {j : Nat} {q : α} {f : α → Bool} (hq : L[j]? = some q) (hf : f q = false) : L.all f = false := by
  by_cases h : L.all f = true
  · have := List.all_eq_true.1 h q (List.mem_of_getElem? hq)
    rw [hf] at this
    cases this
  · simpa using h
theorem valOf_eq {n : Nat} (p : PatN (n + 1)) (v : Value) : valOf p v = .agg #[.int .i64 (kind p), .int .i64 (from_ p), .int .i64 (to_ p), .int .i64 (min_ p), .int .i64 (max_ p), v] := rfl

end Ex
end Go.Proofs.YthnbmkapmnpkoaaDoor
namespace Go.Proofs.YthnbmkapmnpkoaaDoor
open Go.RowKit
attribute [local go_sem] Oper.semAt_some
namespace Ex

def copiesP (mn mx : Int) : Int := if mx = -1 then max mn 1 else mx
/-- How many positions; above 4096: 4097. -/
def posP : (n : Nat) → PatN n → Int
  | 0, _ => 0
  | n + 1, p => if kind p = 1 then 1 else if kind p = 4 then min ((kids p).foldl (fun acc q => min (acc + posP n q) 4097) 0 * copiesP (min_ p) (max_ p)) 4097 else (kids p).foldl (fun acc q => min (acc + posP n q) 4097) 0

theorem fold_in {α : Type} {f : α → Int} : ∀ (l : List α) (acc : Int), 0 ≤ acc → acc ≤ 4097 → (∀ q ∈ l, 0 ≤ f q) → 0 ≤ l.foldl (fun acc q => min (acc + f q) 4097) acc ∧ l.foldl (fun acc q => min (acc + f q) 4097) acc ≤ 4097
  | [], acc, h0, h1, _ => ⟨h0, h1⟩
  | q :: l, acc, h0, h1, hq => by
    have := hq q List.mem_cons_self
    exact fold_in l (min (acc + f q) 4097) (by omega) (by omega) (fun x hx => hq x (List.mem_cons_of_mem _ hx))
theorem right_kid {n : Nat} {p : PatN (n + 1)} (h : rightP (n + 1) p = true) : ∀ q ∈ kids p, rightP n q = true := by
  have h' : (topOf p && (kids p).all (rightP n)) = true := h
  rw [Bool.and_eq_true] at h'
  exact List.all_eq_true.1 h'.2
theorem right_times {n : Nat} {p : PatN (n + 1)} (h : rightP (n + 1) p = true) (hk : kind p = 4) : 0 ≤ min_ p ∧ min_ p ≤ 1000 ∧ (max_ p = -1 ∨ (min_ p ≤ max_ p ∧ max_ p ≤ 1000)) := by
  have h' : (topOf p && (kids p).all (rightP n)) = true := h
  rw [Bool.and_eq_true] at h'
  have h1 := h'.1
  unfold topOf topP timesP at h1
  simp [hk] at h1
  omega
theorem copies_in {mn mx : Int} (h : 0 ≤ mn ∧ mn ≤ 1000 ∧ (mx = -1 ∨ (mn ≤ mx ∧ mx ≤ 1000))) : 0 ≤ copiesP mn mx ∧ copiesP mn mx ≤ 1000 := by
  unfold copiesP
  split <;> omega
theorem pos_in : ∀ (n : Nat) (p : PatN n), rightP n p = true → 0 ≤ posP n p ∧ posP n p ≤ 4097
  | 0, _, _ => ⟨show (0 : Int) ≤ 0 by decide, show (0 : Int) ≤ 4097 by decide⟩
  | n + 1, p, h => by
    have hf := fold_in (f := posP n) (kids p) 0 (by decide) (by decide) (fun q hq => (pos_in n q (right_kid h q hq)).1)
    show 0 ≤ (if kind p = 1 then (1 : Int) else if kind p = 4 then _ else _) ∧ (if kind p = 1 then (1 : Int) else if kind p = 4 then _ else _) ≤ 4097
    split
    · omega
    · split
      · rename_i hk
        have hc := copies_in (right_times h hk)
        have := Int.mul_nonneg hf.1 hc.1
        omega
      · exact hf
theorem fold_snoc {α : Type} {f : α → Int} {L : List α} {j : Nat} {q : α} (hq : L[j]? = some q) : (L.take (j + 1)).foldl (fun acc q => min (acc + f q) 4097) 0 = min ((L.take j).foldl (fun acc q => min (acc + f q) 4097) 0 + f q) 4097 := by
  obtain ⟨hj, rfl⟩ := List.getElem?_eq_some_iff.1 hq
  rw [List.take_succ_eq_append_getElem hj, List.foldl_append]
  rfl

end Ex
end Go.Proofs.YthnbmkapmnpkoaaDoor
namespace Go.Proofs.YthnbmkapmnpkoaaDoor
open Go.RowKit
attribute [local go_sem] Oper.semAt_some
namespace Ex

/-- Does a right one match the empty row? -/
def emptyP : (n : Nat) → PatN n → Bool
  | 0, _ => true
  | n + 1, p => if kind p = 1 then false else if kind p = 3 then (kids p).any (emptyP n) else if kind p = 4 then min_ p == 0 || ((kids p).head?.map (emptyP n)).getD false else (kids p).all (emptyP n)

theorem any_snoc {α : Type} {L : List α} {j : Nat} {q : α} {f : α → Bool} (hq : L[j]? = some q) (h : (L.take j).any f = false) (hf : f q = false) : (L.take (j + 1)).any f = false := by
  obtain ⟨hj, rfl⟩ := List.getElem?_eq_some_iff.1 hq
  rw [List.take_succ_eq_append_getElem hj, List.any_append, h]
  simp [hf]
theorem any_yes {α : Type} {L : List α} {j : Nat} {q : α} {f : α → Bool} (hq : L[j]? = some q) (hf : f q = true) : L.any f = true := List.any_eq_true.2 ⟨q, List.mem_of_getElem? hq, hf⟩

theorem right_one {n : Nat} {p : PatN (n + 1)} (h : rightP (n + 1) p = true) (hk : kind p = 4) : (kids p).length = 1 := by
  have h' : (topOf p && (kids p).all (rightP n)) = true := h
  rw [Bool.and_eq_true] at h'
  have h1 := h'.1
  unfold topOf topP at h1
  simp [hk] at h1
  omega

end Ex
end Go.Proofs.YthnbmkapmnpkoaaDoor
