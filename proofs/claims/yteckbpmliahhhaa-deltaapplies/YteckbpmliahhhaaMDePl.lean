import Derived.Test.YteckbpmliahhhaaMDeWi
import Derived.Test.YteckbpmliahhhaaMDeLc
namespace Go.Proofs.Yteckbpmliahhhaa
open Go.RowKit
attribute [local go_sem] Oper.semAt_some
namespace Ex
namespace Tr

def encPn (b : Nat) : List Value := [.pointer (some ⟨b, 0, none⟩)]
theorem encPn_one (b : Nat) : ∀ u ∈ encPn b, u.oneCell' = true := fun u hu => by
  unfold encPn at hu
  simp only [List.mem_cons, List.not_mem_nil, or_false] at hu
  subst hu
  rfl
/-- Lists of the document's nodes. -/
def pnE : ElK Nat := { T := 37, TT := 30, sz := 1, by_ := 8, z := .pointer none, enc := encPn, pos := by decide, info := by kernel_rfl, zs := rfl, und := Try.underlying30, len := fun _ => rfl, one := encPn_one }
/-- The document's nodes: where they lie; children stand lower. -/
structure PFor (S : Nat → Prop) (P : Nat → Pn) (rk : Nat → Nat) (w : World) : Prop where
  at_ : ∀ b, S b → PnAt w b (P b)
  kid : ∀ b, S b → ∀ k ∈ (P b).kids, S k ∧ rk k < rk b
theorem PnAt.keep {w w' : World} {b : Nat} {p : Pn} (h : PnAt w b p) (hk : Kept w w') : PnAt w' b p := by
  obtain ⟨a, c, h1, h2, h3⟩ := h
  refine ⟨a, c, (hk.2.2.2.2 b (Array.getElem?_eq_some_iff.1 h1).1).trans h1, h2, fun i k hi => ?_⟩
  obtain ⟨g, o, e, h4⟩ := h3 i k hi
  exact ⟨g, o, e, grown_cell hk h4⟩
theorem PFor.keep {S : Nat → Prop} {P : Nat → Pn} {rk : Nat → Nat} {w w' : World} (h : PFor S P rk w) (hk : Kept w w') : PFor S P rk w' := ⟨fun b hb => (h.at_ b hb).keep hk, h.kid⟩
/-- The leaves below a node. -/
def lvP (P : Nat → Pn) : Nat → Nat → List Nat
  | 0, _ => []
  | f + 1, b => if (P b).kind = 1 then [b] else (P b).kids.flatMap (lvP P f)
theorem lvP_fuel {S : Nat → Prop} {P : Nat → Pn} {rk : Nat → Nat} {w : World} (h : PFor S P rk w) : ∀ (f g b : Nat), S b → rk b < f → rk b < g → lvP P f b = lvP P g b
  | 0, _, _, _, h1, _ => by omega
  | _ + 1, 0, _, _, _, h2 => by omega
  | f + 1, g + 1, b, hb, h1, h2 => by
    unfold lvP
    split
    · rfl
    · have key : ∀ l : List Nat, (∀ k ∈ l, S k ∧ rk k < rk b) → l.flatMap (lvP P f) = l.flatMap (lvP P g) := fun l => by
        induction l with
        | nil => intro _; rfl
        | cons x l ih =>
          intro hl
          rw [List.flatMap_cons, List.flatMap_cons, ih (fun k hk => hl k (List.mem_cons_of_mem _ hk))]
          obtain ⟨q1, q2⟩ := hl x List.mem_cons_self
          rw [lvP_fuel h f g x q1 (by omega) (by omega)]
      exact key _ (h.kid b hb)
end Tr
end Ex
end Go.Proofs.Yteckbpmliahhhaa
namespace Go.Proofs.Yteckbpmliahhhaa
open Go.RowKit
set_option linter.unusedVariables false
namespace Ex
namespace Tr

theorem onceG_seen (id : Int) : ∀ (l : List Int) (i : Nat) (a : Int), 0 ≤ a → onceG id l i a = if l.count id = 0 then a else -1
  | [], _, _, _ => by simp [onceG]
  | x :: l, i, a, h => by
    unfold onceG
    by_cases hx : x = id
    · subst hx
      rw [if_pos rfl, if_pos h, if_neg (by rw [List.count_cons_self]; omega)]
    · rw [if_neg hx, onceG_seen id l (i + 1) a h, List.count_cons_of_ne hx]
theorem onceG_new (id : Int) : ∀ (l : List Int) (i : Nat), onceG id l i (-1) = if l.count id = 1 then ((i + l.idxOf id : Nat) : Int) else -1
  | [], _ => by simp [onceG]
  | x :: l, i => by
    unfold onceG
    by_cases hx : x = id
    · subst hx
      rw [if_pos rfl, if_neg (by omega), onceG_seen x l (i + 1) (i : Int) (by omega), List.count_cons_self, List.idxOf_cons_self]
      by_cases h0 : l.count x = 0
      · rw [if_pos h0, if_pos (by omega)]; rfl
      · rw [if_neg h0, if_neg (by omega)]
    · have hix : (x :: l).idxOf id = l.idxOf id + 1 := by rw [List.idxOf_cons, beq_false_of_ne hx]; rfl
      rw [if_neg hx, onceG_new id l (i + 1), List.count_cons_of_ne hx, hix]
      split
      · congr 1
        omega
      · rfl
theorem onceG_some {l : List Int} {id : Int} {p : Nat} (h : onceN l id = some p) : onceG id l 0 (-1) = (p : Int) := by
  unfold onceN at h
  rw [onceG_new]
  split at h
  · rename_i hc
    injection h with h
    rw [if_pos hc, Nat.zero_add, h]
  · cases h
theorem onceG_none {l : List Int} {id : Int} (h : onceN l id = none) : onceG id l 0 (-1) = -1 := by
  unfold onceN at h
  rw [onceG_new]
  split at h
  · cases h
  · rename_i hc
    rw [if_neg hc]
/-- The document's Hunks, place by place. -/
def hkG (l m : List Int) : List Int → Nat → Nat → Nat → List Hk
  | [], i, fr, into => if fr < i ∨ into < m.length then [⟨fr, i, into, m.length⟩] else []
  | x :: rest, i, fr, into => if onceG x m 0 (-1) < (into : Int) ∨ onceG x l 0 (-1) < 0 then hkG l m rest (i + 1) fr into else (if fr < i ∨ into < (onceG x m 0 (-1)).toNat then [⟨fr, i, into, (onceG x m 0 (-1)).toNat⟩] else []) ++ hkG l m rest (i + 1) (i + 1) ((onceG x m 0 (-1)).toNat + 1)
theorem hkG_is (l m : List Int) : ∀ (rest : List Int) (i fr nx : Nat), i + rest.length = l.length → hkG l m rest i fr nx = hks l.length m.length (cnt l m rest i nx) fr nx
  | [], i, fr, nx, h => by
    simp only [List.length_nil, Nat.add_zero] at h
    subst h
    rfl
  | x :: rest, i, fr, nx, h => by
    have h' : (i + 1) + rest.length = l.length := by rw [List.length_cons] at h; omega
    unfold hkG cnt
    cases hm : onceN m x with
    | none =>
      rw [onceG_none hm, if_pos (Or.inl (by omega)), if_neg (by simp), hkG_is l m rest (i + 1) fr nx h']
    | some p =>
      rw [onceG_some hm]
      cases hl : onceN l x with
      | none => rw [onceG_none hl, if_pos (Or.inr (by omega)), if_neg (by simp), hkG_is l m rest (i + 1) fr nx h']
      | some q =>
        rw [onceG_some hl]
        by_cases hp : p < nx
        · rw [if_pos (Or.inl (by omega)), if_neg (by simp; omega), hkG_is l m rest (i + 1) fr nx h']
        · have hc : (some q).isSome = true ∧ (some p).isSome = true ∧ nx ≤ (some p).getD 0 := ⟨rfl, rfl, by simp; omega⟩
          have hn : ¬ ((p : Int) < (nx : Int) ∨ (q : Int) < 0) := by omega
          rw [if_neg hn]
          generalize hcc : cnt l m rest = CC at *
          rw [if_pos hc, hkG_is l m rest (i + 1) (i + 1) _ h', hcc]
          simp only [Int.toNat_natCast, Option.getD_some]
          rfl
theorem hkG_whole (l m : List Int) : hkG l m l 0 0 0 = hks l.length m.length (pairsL l m) 0 0 := hkG_is l m l 0 0 0 (Nat.zero_add _)

end Tr
end Ex
end Go.Proofs.Yteckbpmliahhhaa
