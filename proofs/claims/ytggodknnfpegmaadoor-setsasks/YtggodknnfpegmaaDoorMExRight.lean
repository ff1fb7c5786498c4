import Derived.Test.YtggodknnfpegmaaDoorMExBase
import Derived.Laws.Externs
namespace Go.Proofs.YtggodknnfpegmaaDoor
open Go.RowKit
attribute [local go_sem] Oper.semAt_some
namespace Ex

theorem box_at (w : World) (x0 x1 x2 x3 x4 x5 : Value) (t : TypeId) : (w.alloc (.cells #[x0, x1, x2, x3, x4, x5] t)).cell? ⟨w.heap.size, 0, none⟩ = some x0 ∧ (w.alloc (.cells #[x0, x1, x2, x3, x4, x5] t)).cell? ⟨w.heap.size, 1, none⟩ = some x1 ∧ (w.alloc (.cells #[x0, x1, x2, x3, x4, x5] t)).cell? ⟨w.heap.size, 2, none⟩ = some x2 ∧
    (w.alloc (.cells #[x0, x1, x2, x3, x4, x5] t)).cell? ⟨w.heap.size, 3, none⟩ = some x3 ∧ (w.alloc (.cells #[x0, x1, x2, x3, x4, x5] t)).cell? ⟨w.heap.size, 4, none⟩ = some x4 ∧ (w.alloc (.cells #[x0, x1, x2, x3, x4, x5] t)).cell? ⟨w.heap.size, 5, none⟩ = some x5 := by
  refine ⟨?_, ?_, ?_, ?_, ?_, ?_⟩ <;> simp

theorem all_snoc {α : Type} {L : List α} {j : Nat} {q : α} {f : α → Bool} (hq : L[j]? = some q) (h : (L.take j).all f = true) (hf : f q = true) : (L.take (j + 1)).all f = true := by
  obtain ⟨hj, rfl⟩ := List.getElem?_eq_some_iff.1 hq
  rw [List.take_succ_eq_append_getElem hj, List.all_append, h]
  simp [hf]
theorem all_not {α : Type} {L : List α} {j : Nat} {q : α} {f : α → Bool} (hq : L[j]? = some q) (hf : f q = false) : L.all f = false := by
  by_cases h : L.all f = true
  · have := List.all_eq_true.1 h q (List.mem_of_getElem? hq)
    rw [hf] at this
    cases this
  · simpa using h
theorem valOf_eq {n : Nat} (p : PatN (n + 1)) (v : Value) : valOf p v = .agg #[.int .i64 (kind p), .int .i64 (from_ p), .int .i64 (to_ p), .int .i64 (min_ p), .int .i64 (max_ p), v] := rfl

end Ex
end Go.Proofs.YtggodknnfpegmaaDoor
namespace Go.Proofs.YtggodknnfpegmaaDoor
open Go.RowKit
attribute [local go_sem] Oper.semAt_some
namespace Ex

def copiesP (mn mx : Int) : Int := if mx = -1 then max mn 1 else mx
/-- How many positions; above 4096: 4097. -/
def posP : (n : Nat) → PatN n → Int
  | 0, _ => 0
  | n + 1, p => if kind p = 1 then 1 else if kind p = 4 then min ((kids p).foldl (fun acc q => min (acc + posP n q) 4097) 0 * copiesP (min_ p) (max_ p)) 4097 else (kids p).foldl (fun acc q => min (acc + posP n q) 4097) 0

theorem fold_in {α : Type} {f : α → Int} : ∀ (l : List α) (acc : Int), 0 ≤ acc → acc ≤ 4097 → (∀ q ∈ l, 0 ≤ f q) → 0 ≤ l.foldl (fun acc q => min (acc + f q) 4097) acc ∧ l.foldl (fun acc q => min (acc + f q) 4097) acc ≤ 4097
  | [], acc, h0, h1, _ => ⟨h0, h1⟩
  | q :: l, acc, h0, h1, hq => by
    have := hq q List.mem_cons_self
    exact fold_in l (min (acc + f q) 4097) (by omega) (by omega) (fun x hx => hq x (List.mem_cons_of_mem _ hx))
theorem right_kid {n : Nat} {p : PatN (n + 1)} (h : rightP (n + 1) p = true) : ∀ q ∈ kids p, rightP n q = true := by
  have h' : (topOf p && (kids p).all (rightP n)) = true := h
  rw [Bool.and_eq_true] at h'
  exact List.all_eq_true.1 h'.2
theorem right_times {n : Nat} {p : PatN (n + 1)} (h : rightP (n + 1) p = true) (hk : kind p = 4) : 0 ≤ min_ p ∧ min_ p ≤ 1000 ∧ (max_ p = -1 ∨ (min_ p ≤ max_ p ∧ max_ p ≤ 1000)) := by
  have h' : (topOf p && (kids p).all (rightP n)) = true := h
  rw [Bool.and_eq_true] at h'
  have h1 := h'.1
  unfold topOf topP timesP at h1
  simp [hk] at h1
  omega
theorem copies_in {mn mx : Int} (h : 0 ≤ mn ∧ mn ≤ 1000 ∧ (mx = -1 ∨ (mn ≤ mx ∧ mx ≤ 1000))) : 0 ≤ copiesP mn mx ∧ copiesP mn mx ≤ 1000 := by
  unfold copiesP
  split <;> omega
theorem pos_in : ∀ (n : Nat) (p : PatN n), rightP n p = true → 0 ≤ posP n p ∧ posP n p ≤ 4097
  | 0, _, _ => ⟨show (0 : Int) ≤ 0 by decide, show (0 : Int) ≤ 4097 by decide⟩
  | n + 1, p, h => by
    have hf := fold_in (f := posP n) (kids p) 0 (by decide) (by decide) (fun q hq => (pos_in n q (right_kid h q hq)).1)
    show 0 ≤ (if kind p = 1 then (1 : Int) else if kind p = 4 then _ else _) ∧ (if kind p = 1 then (1 : Int) else if kind p = 4 then _ else _) ≤ 4097
    split
    · omega
    · split
      · rename_i hk
        have hc := copies_in (right_times h hk)
        have := Int.mul_nonneg hf.1 hc.1
        omega
      · exact hf
theorem fold_snoc {α : Type} {f : α → Int} {L : List α} {j : Nat} {q : α} (hq : L[j]? = some q) : (L.take (j + 1)).foldl (fun acc q => min (acc + f q) 4097) 0 = min ((L.take j).foldl (fun acc q => min (acc + f q) 4097) 0 + f q) 4097 := by
  obtain ⟨hj, rfl⟩ := List.getElem?_eq_some_iff.1 hq
  rw [List.take_succ_eq_append_getElem hj, List.foldl_append]
  rfl

end Ex
end Go.Proofs.YtggodknnfpegmaaDoor
namespace Go.Proofs.YtggodknnfpegmaaDoor
open Go.RowKit
attribute [local go_sem] Oper.semAt_some
namespace Ex

/-- Does a right one match the empty row? -/
def emptyP : (n : Nat) → PatN n → Bool
  | 0, _ => true
  | n + 1, p => if kind p = 1 then false else if kind p = 3 then (kids p).any (emptyP n) else if kind p = 4 then min_ p == 0 || ((kids p).head?.map (emptyP n)).getD false else (kids p).all (emptyP n)

theorem any_snoc {α : Type} {L : List α} {j : Nat} {q : α} {f : α → Bool} (hq : L[j]? = some q) (h : (L.take j).any f = false) (hf : f q = false) : (L.take (j + 1)).any f = false := by
  obtain ⟨hj, rfl⟩ := List.getElem?_eq_some_iff.1 hq
  rw [List.take_succ_eq_append_getElem hj, List.any_append, h]
  simp [hf]
theorem any_yes {α : Type} {L : List α} {j : Nat} {q : α} {f : α → Bool} (hq : L[j]? = some q) (hf : f q = true) : L.any f = true := List.any_eq_true.2 ⟨q, List.mem_of_getElem? hq, hf⟩

theorem right_one {n : Nat} {p : PatN (n + 1)} (h : rightP (n + 1) p = true) (hk : kind p = 4) : (kids p).length = 1 := by
  have h' : (topOf p && (kids p).all (rightP n)) = true := h
  rw [Bool.and_eq_true] at h'
  have h1 := h'.1
  unfold topOf topP at h1
  simp [hk] at h1
  omega

end Ex
end Go.Proofs.YtggodknnfpegmaaDoor
namespace Go.Proofs.YtggodknnfpegmaaDoor
open Go.RowKit
attribute [local go_sem] Oper.semAt_some
namespace Ex

/-- What a walk saw: how many values (none above 4097), how deep. -/
def lookP : (n : Nat) → PatN n → Int → Int × Int → Int × Int
  | 0, _, _, s => s
  | n + 1, p, d, s => (kids p).foldl (fun s q => if 4096 < s.1 then s else lookP n q (d + 1) s) (s.1 + 1, max s.2 d)
/-- All but the block b lies as it lay. -/
def KeptBut (b : Nat) (w w' : World) : Prop :=
  w'.os = w.os ∧ w'.tape = w.tape ∧ w'.output = w.output ∧ w.heap.size ≤ w'.heap.size ∧ ∀ k, k < w.heap.size → k ≠ b → w'.heap[k]? = w.heap[k]?
theorem KeptBut.trans {b : Nat} {u v w : World} (h1 : KeptBut b u v) (h2 : KeptBut b v w) : KeptBut b u w :=
  ⟨h2.1.trans h1.1, h2.2.1.trans h1.2.1, h2.2.2.1.trans h1.2.2.1, Nat.le_trans h1.2.2.2.1 h2.2.2.2.1, fun k hk hn => (h2.2.2.2.2 k (Nat.lt_of_lt_of_le hk h1.2.2.2.1) hn).trans (h1.2.2.2.2 k hk hn)⟩
theorem Kept.but {w w' : World} (h : Kept w w') (b : Nat) : KeptBut b w w' := ⟨h.1, h.2.1, h.2.2.1, h.2.2.2.1, fun k hk _ => h.2.2.2.2 k hk⟩
theorem setCell_but (w : World) (b o : Nat) (v : Value) : KeptBut b w (w.setCell ⟨b, o, none⟩ v) := ⟨rfl, rfl, rfl, by simp [World.setCell], fun k _ hn => Below.heap_setCell _ _ _ _ hn⟩
theorem KeptBut.holds {b : Nat} {w w' : World} (h : KeptBut b w w') {S : Nat → Prop} (hS : ¬ S b) : Holds S w w' := by
  intro k o v hk hc
  have hlt : k < w.heap.size := World.block_lt_of_cell? w _ hc
  rw [← hc]
  exact World.cell?_of_block (a := ⟨k, o, none⟩) (h.2.2.2.2 k hlt (fun e => hS (e ▸ hk)))
def stepL (n : Nat) (d : Int) (s : Int × Int) (q : PatN n) : Int × Int := if 4096 < s.1 then s else lookP n q (d + 1) s
theorem look_eq (n : Nat) (p : PatN (n + 1)) (d : Int) (s : Int × Int) : lookP (n + 1) p d s = (kids p).foldl (stepL n d) (s.1 + 1, max s.2 d) := rfl
def LIn (d : Int) (s : Int × Int) : Prop := d ≤ s.1 ∧ s.1 ≤ 4097 ∧ 0 ≤ s.2 ∧ s.2 ≤ 4097
theorem lfold_in {n : Nat} {d : Int} (hd : 1 ≤ d) (hstep : ∀ (q : PatN n) (s : Int × Int), LIn d s → LIn d (stepL n d s q)) : ∀ (L : List (PatN n)) (s : Int × Int), LIn d s → LIn d (L.foldl (stepL n d) s)
  | [], _, h => h
  | q :: L, s, h => lfold_in hd hstep L _ (hstep q s h)
theorem look_in : ∀ (n : Nat) (q : PatN n) (d : Int) (s : Int × Int), 1 ≤ d → LIn d s → LIn d (stepL n d s q)
  | 0, q, _, _, _, _ => (show Empty from q).elim
  | n + 1, q, d, s, hd, h => by
    unfold stepL
    split
    · exact h
    · rename_i hs
      rw [look_eq]
      have h' : LIn (d + 1) (s.1 + 1, max s.2 (d + 1)) := by unfold LIn at h ⊢; dsimp only; omega
      have := lfold_in (by omega) (fun q s hs => look_in n q (d + 1) s (by omega) hs) (kids q) _ h'
      unfold LIn at this ⊢
      omega
theorem lfold_snoc {α β : Type} {L : List α} {j : Nat} {q : α} {f : β → α → β} {s : β} (hq : L[j]? = some q) : (L.take (j + 1)).foldl f s = f ((L.take j).foldl f s) q := by
  obtain ⟨hj, rfl⟩ := List.getElem?_eq_some_iff.1 hq
  rw [List.take_succ_eq_append_getElem hj, List.foldl_append]; rfl
theorem fold_stop {n : Nat} {d : Int} : ∀ (L : List (PatN n)) (s : Int × Int), 4096 < s.1 → L.foldl (stepL n d) s = s
  | [], _, _ => rfl
  | q :: L, s, h => by
    have e : stepL n d s q = s := by unfold stepL; rw [if_pos h]
    rw [List.foldl_cons, e]; exact fold_stop L s h
theorem fold_rest {n : Nat} {d : Int} {L : List (PatN n)} {j : Nat} {s0 s : Int × Int} (h : (L.take j).foldl (stepL n d) s0 = s) (hs : 4096 < s.1) : L.foldl (stepL n d) s0 = s := by
  have e : L.foldl (stepL n d) s0 = (L.take j ++ L.drop j).foldl (stepL n d) s0 := by rw [List.take_append_drop]
  rw [e, List.foldl_append, h, fold_stop _ _ hs]

end Ex
end Go.Proofs.YtggodknnfpegmaaDoor
namespace Go.Proofs.YtggodknnfpegmaaDoor
open Go.RowKit
attribute [local go_sem] Oper.semAt_some
namespace Ex

def peekP (T : ByteArray) (k : Int) : Int := if h : 0 ≤ k ∧ k < T.size then ((T[k.toNat]'(by omega)).toNat : Int) else 0

def failE (e x : Int) : Int := if e = 0 then x else e
def failF (e f y : Int) : Int := if e = 0 then y else f
theorem but_set {b : Nat} {w w' : World} (h : KeptBut b w w') (o : Nat) (v : Value) : KeptBut b w (w'.setCell ⟨b, o, none⟩ v) := h.trans (setCell_but _ _ _ _)
theorem but_refl (b : Nat) (w : World) : KeptBut b w w := (Kept.refl w).but b
theorem but_drew {b : Nat} {w w' : World} (h : KeptBut b w w') (m : Nat) : KeptBut b w (w'.drewN m) := h.trans ((drewN_kept _ _).but b)
theorem but_undrew {b : Nat} {w w' : World} {m : Nat} (h : KeptBut b (w.drewN m) w') : KeptBut b w w' := ((drewN_kept _ _).but b).trans h
def wrongC (T : ByteArray) (k : Int) : Int := if k = T.size then 23 else 22
def takeK (T : ByteArray) (k c : Int) : Int := if peekP T k = c then k + 1 else k
end Ex
end Go.Proofs.YtggodknnfpegmaaDoor
namespace Go.Proofs.YtggodknnfpegmaaDoor
open Go.RowKit
attribute [local go_sem] Oper.semAt_some
namespace Ex

def printedP (c : Int) : Bool := decide (32 ≤ c) && decide (c ≤ 126)
def digitP (c : Int) : Bool := decide (48 ≤ c) && decide (c ≤ 57)
def letterP (c : Int) : Bool := decide (97 ≤ c) && decide (c ≤ 122) || decide (65 ≤ c) && decide (c ≤ 90)
def IsB (c : Int) : Prop := 0 ≤ c ∧ c ≤ 255
theorem peek_byte (T : ByteArray) (k : Int) : IsB (peekP T k) := by
  unfold peekP IsB
  split
  · have := (T[k.toNat]'(by omega)).toNat_lt; omega
  · omega

/-- Is a byte among those of s? -/
def inS (s : ByteArray) (c : Int) : Bool := decide (0 ≤ firstIdx s c.toNat.toUInt8)
def signsS : ByteArray := ⟨#[40, 41, 91, 93, 123, 125, 46, 124, 42, 43, 63, 92, 47, 94, 36]⟩
theorem not_lt0 (x : Int) : decide (x < 0) = !decide (0 ≤ x) := by
  by_cases h : x < 0
  · have h' : ¬ 0 ≤ x := by omega
    simp [h, h']
  · have h' : 0 ≤ x := by omega
    simp [h, h']
def plainP (c : Int) : Bool := printedP c && !inS signsS c
end Ex
end Go.Proofs.YtggodknnfpegmaaDoor
namespace Go.Proofs.YtggodknnfpegmaaDoor
open Go.RowKit
attribute [local go_sem] Oper.semAt_some
namespace Ex

/-- Is a tree small enough? -/
def boundsP {n : Nat} (p : PatN (n + 1)) : Int := if 4096 < (lookP (n + 1) p 1 (0, 0)).1 then 2 else if 64 < (lookP (n + 1) p 1 (0, 0)).2 then 5 else 0

theorem KeptBut.up {b : Nat} {w u w' : World} (h : Kept w u) (hb : w.heap.size ≤ b) (hk : KeptBut b u w') : Kept w w' :=
  ⟨hk.1.trans h.1, hk.2.1.trans h.2.1, hk.2.2.1.trans h.2.2.1, Nat.le_trans h.size hk.2.2.2.1, fun k hlt => (hk.2.2.2.2 k (Nat.lt_of_lt_of_le hlt h.size) (by omega)).trans (h.2.2.2.2 k hlt)⟩
end Ex
end Go.Proofs.YtggodknnfpegmaaDoor
namespace Go.Proofs.YtggodknnfpegmaaDoor
open Go.RowKit
attribute [local go_sem] Oper.semAt_some
namespace Ex

/-- What is wrong with a tree, if anything is (P201). -/
def checkP {n : Nat} (p : PatN (n + 1)) : Int := if boundsP p = 0 then if rightP (n + 1) p = true then if 4096 < posP (n + 1) p then 21 else 0 else 20 else boundsP p
def positionsP {n : Nat} (p : PatN (n + 1)) : Int := if checkP p = 0 then posP (n + 1) p else 0

end Ex
end Go.Proofs.YtggodknnfpegmaaDoor
namespace Go.Proofs.YtggodknnfpegmaaDoor
open Go.RowKit
attribute [local go_sem] Oper.semAt_some
namespace Ex

theorem check_right {n : Nat} {p : PatN (n + 1)} (h : checkP p = 0) : rightP (n + 1) p = true := by
  unfold checkP at h
  split at h
  · split at h
    · assumption
    · cases h
  · exact absurd h (by assumption)

/-- Does it match the empty text (P202)? -/
def emptyTop {n : Nat} (p : PatN (n + 1)) : Bool := checkP p == 0 && emptyP (n + 1) p

end Ex
end Go.Proofs.YtggodknnfpegmaaDoor
namespace Go.Proofs.YtggodknnfpegmaaDoor
namespace Ex

/-- How many values a tree has. -/
def sizeP : (n : Nat) → PatN n → Int
  | 0, _ => 0
  | n + 1, p => (kids p).foldl (fun m q => m + sizeP n q) 1
/-- How deep a tree is. -/
def depthP : (n : Nat) → PatN n → Int
  | 0, _ => 0
  | n + 1, p => (kids p).foldl (fun m q => max m (1 + depthP n q)) 1
theorem sum_from {α : Type} (f : α → Int) : ∀ (L : List α) (a b : Int), L.foldl (fun m q => m + f q) (a + b) = a + L.foldl (fun m q => m + f q) b
  | [], _, _ => rfl
  | q :: L, a, b => by
    rw [List.foldl_cons, List.foldl_cons, Int.add_assoc, sum_from f L]
theorem max_from {α : Type} (f : α → Int) (d : Int) : ∀ (L : List α) (a b : Int), L.foldl (fun m q => max m (d + (1 + f q))) (max a (d + b)) = max a (d + L.foldl (fun m q => max m (1 + f q)) b)
  | [], _, _ => rfl
  | q :: L, a, b => by
    rw [List.foldl_cons, List.foldl_cons, ← max_from f d L]
    exact congrArg (fun x => L.foldl (fun m q => max m (d + (1 + f q))) x) (by omega)
theorem sum_ge {α : Type} {f : α → Int} (h : ∀ q, 0 ≤ f q) : ∀ (L : List α) (b : Int), b ≤ L.foldl (fun m q => m + f q) b
  | [], _ => Int.le_refl _
  | q :: L, b => by
    have := sum_ge h L (b + f q)
    have := h q
    rw [List.foldl_cons]
    omega
theorem size_pos : ∀ (n : Nat) (p : PatN n), 0 ≤ sizeP n p
  | 0, _ => Int.le_refl 0
  | n + 1, p => by
    have := sum_ge (size_pos n) (kids p) 1
    show 0 ≤ (kids p).foldl (fun m q => m + sizeP n q) 1
    omega
/-- What look tells of a tree: its size and its depth, or more than 4096. -/
def Tells (t : Int × Int) (x y : Int) : Prop := (x ≤ 4096 → t = (x, y)) ∧ (4096 < x → 4096 < t.1)
theorem fold_tells {n : Nat} {d : Int} (h : ∀ (q : PatN n) (s : Int × Int), s.1 ≤ 4096 → Tells (lookP n q (d + 1) s) (s.1 + sizeP n q) (max s.2 (d + depthP n q))) : ∀ (L : List (PatN n)) (s : Int × Int),
    Tells (L.foldl (stepL n d) s) (L.foldl (fun m q => m + sizeP n q) s.1) (L.foldl (fun m q => max m (d + depthP n q)) s.2)
  | [], s => ⟨fun _ => rfl, fun h => h⟩
  | q :: L, s => by
    have ih := fold_tells h L (stepL n d s q)
    rw [List.foldl_cons, List.foldl_cons, List.foldl_cons]
    by_cases hs : 4096 < s.1
    · have e : stepL n d s q = s := by unfold stepL; rw [if_pos hs]
      rw [e, fold_stop L s hs]
      have h1 := sum_ge (size_pos n) L (s.1 + sizeP n q)
      have h2 := size_pos n q
      exact ⟨fun h => absurd h (by omega), fun _ => hs⟩
    · have e : stepL n d s q = lookP n q (d + 1) s := by unfold stepL; rw [if_neg hs]
      have hq := h q s (by omega)
      rw [← e] at hq
      by_cases hb : s.1 + sizeP n q ≤ 4096
      · rw [hq.1 hb] at ih ⊢
        exact ih
      · have h1 := sum_ge (size_pos n) L (s.1 + sizeP n q)
        have h2 := hq.2 (by omega)
        refine ⟨fun h => absurd h (by omega), fun _ => ?_⟩
        rw [fold_stop L _ h2]
        exact h2
theorem look_tells : ∀ (n : Nat) (q : PatN n) (d : Int) (s : Int × Int), s.1 ≤ 4096 → Tells (lookP n q (d + 1) s) (s.1 + sizeP n q) (max s.2 (d + depthP n q))
  | 0, q, _, _, _ => (show Empty from q).elim
  | n + 1, q, d, s, _ => by
    have h := fold_tells (d := d + 1) (fun q s hs => look_tells n q (d + 1) s hs) (kids q) (s.1 + 1, max s.2 (d + 1))
    rw [look_eq]
    have e1 : (kids q).foldl (fun m q => m + sizeP n q) (s.1 + 1) = s.1 + sizeP (n + 1) q := sum_from (sizeP n) (kids q) s.1 1
    have e2 : (kids q).foldl (fun m q => max m (d + (1 + depthP n q))) (max s.2 (d + 1)) = max s.2 (d + depthP (n + 1) q) := max_from (depthP n) d (kids q) s.2 1
    have e3 : (fun (m : Int) (q : PatN n) => max m (d + 1 + depthP n q)) = fun m q => max m (d + (1 + depthP n q)) := by funext m q; rw [Int.add_assoc]
    dsimp only at h
    rw [e1, e3, e2] at h
    exact h
theorem depth_pos (n : Nat) (p : PatN (n + 1)) : 1 ≤ depthP (n + 1) p := by
  have h := max_from (depthP n) 0 (kids p) 1 1
  have e : (fun (m : Int) (q : PatN n) => max m (0 + (1 + depthP n q))) = fun m q => max m (1 + depthP n q) := by funext m q; rw [Int.zero_add]
  rw [e] at h
  show 1 ≤ (kids p).foldl (fun m q => max m (1 + depthP n q)) 1
  rw [Int.zero_add, Int.zero_add, Int.max_self] at h
  omega
/-- bounds, in words: more than 4096 values, else more than 64 levels. -/
theorem bounds_eq {n : Nat} (p : PatN (n + 1)) : boundsP p = if 4096 < sizeP (n + 1) p then 2 else if 64 < depthP (n + 1) p then 5 else 0 := by
  have h := look_tells (n + 1) p 0 (0, 0) (by decide)
  have hd := depth_pos n p
  unfold Tells at h
  simp only [Int.zero_add] at h
  unfold boundsP
  by_cases hb : 4096 < sizeP (n + 1) p
  · rw [if_pos (h.2 hb), if_pos hb]
  · rw [h.1 (by omega), if_neg hb, if_neg hb]
    dsimp only
    rw [show max 0 (depthP (n + 1) p) = depthP (n + 1) p from by omega]

end Ex
end Go.Proofs.YtggodknnfpegmaaDoor
