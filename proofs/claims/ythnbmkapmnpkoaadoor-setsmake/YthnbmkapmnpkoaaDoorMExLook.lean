import Derived.Test.YthnbmkapmnpkoaaDoorMExRight
import Derived.Laws.Externs
namespace Go.Proofs.YthnbmkapmnpkoaaDoor
open Go.RowKit
attribute [local go_sem] Oper.semAt_some
namespace Ex

/-- What a walk saw: how many values (none above 4097), how deep. -/
def lookP : (n : Nat) → PatN n → Int → Int × Int → Int × Int
  | 0, _, _, s => s
  | n + 1, p, d, s => (kids p).foldl (fun s q => if 4096 < s.1 then s else lookP n q (d + 1) s) (s.1 + 1, max s.2 d)
/-- All but the block b lies as it lay. -/
def KeptBut (b : Nat) (w w' : World) : Prop :=
  w'.os = w.os ∧ w'.tape = w.tape ∧ w'.output = w.output ∧ w.heap.size ≤ w'.heap.size ∧ ∀ k, k < w.heap.size → k ≠ b → w'.heap[k]? = w.heap[k]?
theorem KeptBut.trans {b : Nat} {u v w : World} (h1 : KeptBut b u v) (h2 : KeptBut b v w) : KeptBut b u w :=
  ⟨h2.1.trans h1.1, h2.2.1.trans h1.2.1, h2.2.2.1.trans h1.2.2.1, Nat.le_trans h1.2.2.2.1 h2.2.2.2.1, fun k hk hn => (h2.2.2.2.2 k (Nat.lt_of_lt_of_le hk h1.2.2.2.1) hn).trans (h1.2.2.2.2 k hk hn)⟩
theorem Kept.but {w w' : World} (h : Kept w w') (b : Nat) : KeptBut b w w' := ⟨h.1, h.2.1, h.2.2.1, h.2.2.2.1, fun k hk _ => h.2.2.2.2 k hk⟩
theorem setCell_but (w : World) (b o : Nat) (v : Value) : KeptBut b w (w.setCell ⟨b, o, none⟩ v) := ⟨rfl, rfl, rfl, by simp [World.setCell], fun k _ hn => Below.heap_setCell _ _ _ _ hn⟩
theorem KeptBut.holds {b : Nat} {w w' : World} (h : KeptBut b w w') {S : Nat → Prop} (hS : ¬ S b) : Holds S w w' := by
  intro k o v hk hc
  have hlt : k < w.heap.size := World.block_lt_of_cell? w _ hc
  rw [← hc]
  exact World.cell?_of_block (a := ⟨k, o, none⟩) (h.2.2.2.2 k hlt (fun e => hS (e ▸ hk)))
def stepL (n : Nat) (d : Int) (s : Int × Int) (q : PatN n) : Int × Int := if 4096 < s.1 then s else lookP n q (d + 1) s
theorem look_eq (n : Nat) (p : PatN (n + 1)) (d : Int) (s : Int × Int) : lookP (n + 1) p d s = (kids p).foldl (stepL n d) (s.1 + 1, max s.2 d) := rfl
def LIn (d : Int) (s : Int × Int) : Prop := d ≤ s.1 ∧ s.1 ≤ 4097 ∧ 0 ≤ s.2 ∧ s.2 ≤ 4097
theorem lfold_in {n : Nat} {d : Int} (hd : 1 ≤ d) (hstep : ∀ (q : PatN n) (s : Int × Int), LIn d s → LIn d (stepL n d s q)) : ∀ (L : List (PatN n)) (s : Int × Int), LIn d s → LIn d (L.foldl (stepL n d) s)
  | [], _, h => h
  | q :: L, s, h => lfold_in hd hstep L _ (hstep q s h)
theorem look_in : ∀ (n : Nat) (q : PatN n) (d : Int) (s : Int × Int), 1 ≤ d → LIn d s → LIn d (stepL n d s q)
  | 0, q, _, _, _, _ => (show Empty from q).elim
  | n + 1, q, d, s, hd, h => by
    unfold stepL
    split
    · exact h
    · rename_i hs
      rw [look_eq]
      have h' : LIn (d + 1) (s.1 + 1, max s.2 (d + 1)) := by unfold LIn at h ⊢; dsimp only; omega
      have := lfold_in (by omega) (fun q s hs => look_in n q (d + 1) s (by omega) hs) (kids q) _ h'
      unfold LIn at this ⊢
      omega
theorem lfold_snoc {α β : Type} {L : List α} {j : Nat} {q : α} {f : β → α → β} {s : β} (hq : L[j]? = some q) : (L.take (j + 1)).foldl f s = f ((L.take j).foldl f s) q := by
  obtain ⟨hj, rfl⟩ := List.getElem?_eq_some_iff.1 hq
  rw [List.take_succ_eq_append_getElem hj, List.foldl_append]; rfl
theorem fold_stop {n : Nat} {d : Int} : ∀ (L : List (PatN n)) (s : Int × Int), 4096 < s.1 → L.foldl (stepL n d) s = s
  | [], _, _ => rfl
  | q :: L, s, h => by
    have e : stepL n d s q = s := by unfold stepL; rw [if_pos h]
    rw [List.foldl_cons, e]; exact fold_stop L s h
theorem fold_rest {n : Nat} {d : Int} {L : List (PatN n)} {j : Nat} {s0 s : Int × Int} (h : (L.take j).foldl (stepL n d) s0 = s) (hs : 4096 < s.1) : L.foldl (stepL n d) s0 = s := by
  have e : L.foldl (stepL n d) s0 = (L.take j ++ L.drop j).foldl (stepL n d) s0 := by rw [List.take_append_drop]
  rw [e, List.foldl_append, h, fold_stop _ _ hs]

end Ex
end Go.Proofs.YthnbmkapmnpkoaaDoor
namespace Go.Proofs.YthnbmkapmnpkoaaDoor
open Go.RowKit
attribute [local go_sem] Oper.semAt_some
namespace Ex

def peekP (T : ByteArray) (k : Int) : Int := if h : 0 ≤ k ∧ k < T.size then ((T[k.toNat]'(by omega)).toNat : Int) else 0

def failE (e x : Int) : Int := if e = 0 then x else e
def failF (e f y : Int) : Int := if e = 0 then y else f
theorem but_set {b : Nat} {w w' : World} (h : KeptBut b w w') (o : Nat) (v : Value) : KeptBut b w (w'.setCell ⟨b, o, none⟩ v) := h.trans (setCell_but _ _ _ _)
theorem but_refl (b : Nat) (w : World) : KeptBut b w w := (Kept.refl w).but b
theorem but_drew {b : Nat} {w w' : World} (h : KeptBut b w w') (m : Nat) : KeptBut b w (w'.drewN m) := h.trans ((drewN_kept _ _).but b)
theorem but_undrew {b : Nat} {w w' : World} {m : Nat} (h : KeptBut b (w.drewN m) w') : KeptBut b w w' := ((drewN_kept _ _).but b).trans h
def wrongC (T : ByteArray) (k : Int) : Int := if k = T.size then 23 else 22
def takeK (T : ByteArray) (k c : Int) : Int := if peekP T k = c then k + 1 else k
end Ex
end Go.Proofs.YthnbmkapmnpkoaaDoor
namespace Go.Proofs.YthnbmkapmnpkoaaDoor
open Go.RowKit
attribute [local go_sem] Oper.semAt_some
namespace Ex

def printedP (c : Int) : Bool := decide (32 ≤ c) && decide (c ≤ 126)
def digitP (c : Int) : Bool := decide (48 ≤ c) && decide (c ≤ 57)
def letterP (c : Int) : Bool := decide (97 ≤ c) && decide (c ≤ 122) || decide (65 ≤ c) && decide (c ≤ 90)
def IsB (c : Int) : Prop := 0 ≤ c ∧ c ≤ 255
theorem peek_byte (T : ByteArray) (k : Int) : IsB (peekP T k) := by
  unfold peekP IsB
  split
  · have := (T[k.toNat]'(by omega)).toNat_lt; omega
  · omega

/-- Is a byte among those of s? -/
def inS (s : ByteArray) (c : Int) : Bool := decide (0 ≤ firstIdx s c.toNat.toUInt8)
def signsS : ByteArray := ⟨#[40, 41, 91, 93, 123, 125, 46, 124, 42, 43, 63, 92, 47, 94, 36]⟩
theorem not_lt0 (x : Int) : decide (x < 0) = !decide (0 ≤ x) := by
  by_cases h : x < 0
  · have h' : ¬ 0 ≤ x := by omega
    simp [h, h']
  · have h' : 0 ≤ x := by omega
    simp [h, h']
def plainP (c : Int) : Bool := printedP c && !inS signsS c
end Ex
end Go.Proofs.YthnbmkapmnpkoaaDoor
