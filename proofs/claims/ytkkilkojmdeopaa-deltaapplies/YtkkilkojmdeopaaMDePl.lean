import Derived.Test.YtkkilkojmdeopaaMDeWi
import Derived.Test.YtkkilkojmdeopaaMDeLc
namespace Go.Proofs.Ytkkilkojmdeopaa
open Go.RowKit
attribute [local go_sem] Oper.semAt_some
namespace Ex
namespace Tr

def encPn (b : Nat) : List Value := [.pointer (some ⟨b, 0, none⟩)]
theorem encPn_one (b : Nat) : ∀ u ∈ encPn b, u.oneCell' = true := fun u hu => by
  unfold encPn at hu
  simp only [List.mem_cons, List.not_mem_nil, or_false] at hu
  subst hu
  rfl
/-- Lists of the document's nodes. -/
def pnE : ElK Nat := { T := 54, TT := 29, sz := 1, by_ := 8, z := .pointer none, enc := encPn, pos := by decide, info := by kernel_rfl, zs := rfl, und := Try.underlying29, len := fun _ => rfl, one := encPn_one }
/-- The document's nodes: where they lie; children stand lower. -/
structure PFor (S : Nat → Prop) (P : Nat → Pn) (rk : Nat → Nat) (w : World) : Prop where
  at_ : ∀ b, S b → PnAt w b (P b)
  kid : ∀ b, S b → ∀ k ∈ (P b).kids, S k ∧ rk k < rk b
theorem PnAt.keep {w w' : World} {b : Nat} {p : Pn} (h : PnAt w b p) (hk : Kept w w') : PnAt w' b p := by
  obtain ⟨a, c, h1, h2, h3⟩ := h
  refine ⟨a, c, (hk.2.2.2.2 b (Array.getElem?_eq_some_iff.1 h1).1).trans h1, h2, fun i k hi => ?_⟩
  obtain ⟨g, o, e, h4⟩ := h3 i k hi
  exact ⟨g, o, e, grown_cell hk h4⟩
theorem PFor.keep {S : Nat → Prop} {P : Nat → Pn} {rk : Nat → Nat} {w w' : World} (h : PFor S P rk w) (hk : Kept w w') : PFor S P rk w' := ⟨fun b hb => (h.at_ b hb).keep hk, h.kid⟩
/-- The leaves below a node. -/
def lvP (P : Nat → Pn) : Nat → Nat → List Nat
  | 0, _ => []
  | f + 1, b => if (P b).kind = 1 then [b] else (P b).kids.flatMap (lvP P f)
theorem lvP_fuel {S : Nat → Prop} {P : Nat → Pn} {rk : Nat → Nat} {w : World} (h : PFor S P rk w) : ∀ (f g b : Nat), S b → rk b < f → rk b < g → lvP P f b = lvP P g b
  | 0, _, _, _, h1, _ => by omega
  | _ + 1, 0, _, _, _, h2 => by omega
  | f + 1, g + 1, b, hb, h1, h2 => by
    unfold lvP
    split
    · rfl
    · have key : ∀ l : List Nat, (∀ k ∈ l, S k ∧ rk k < rk b) → l.flatMap (lvP P f) = l.flatMap (lvP P g) := fun l => by
        induction l with
        | nil => intro _; rfl
        | cons x l ih =>
          intro hl
          rw [List.flatMap_cons, List.flatMap_cons, ih (fun k hk => hl k (List.mem_cons_of_mem _ hk))]
          obtain ⟨q1, q2⟩ := hl x List.mem_cons_self
          rw [lvP_fuel h f g x q1 (by omega) (by omega)]
      exact key _ (h.kid b hb)
/-- What the document's Leaves does. -/
def LvC (S : Nat → Prop) (P : Nat → Pn) (rk : Nat → Nat) (f b : Nat) : Prop := ∀ w : World, PFor S P rk w → Calls Try.prog 48 #[.pointer (some ⟨b, 0, none⟩)] w fun e w' => ∃ v, e = .returned v ∧ LO pnE w' w.heap.size v (lvP P f b) ∧ Kept w w'
set_option linter.unusedSimpArgs false in
set_option maxRecDepth 100000 in
set_option maxHeartbeats 4000000 in
theorem leavesP_step (S : Nat → Prop) (P : Nat → Pn) (rk : Nat → Nat) (f b : Nat) (hb : S b) (hlen : (lvP P (f + 1) b).length ≤ 4194304) (hkl : (P b).kids.length ≤ 4194304) (ih : ∀ k ∈ (P b).kids, LvC S P rk f k) : LvC S P rk (f + 1) b := by
  intro w hF
  obtain ⟨a, c, h1, h2, h3⟩ := hF.at_ b hb
  have hkc : ∀ w', Kept w w' → w'.heap[b]? = w.heap[b]? := fun w' hk => hk.2.2.2.2 b (Array.getElem?_eq_some_iff.1 h1).1
  obtain ⟨rs, hrs⟩ : ∃ rs, lvP P (f + 1) b = rs := ⟨_, rfl⟩
  rw [hrs] at hlen ⊢
  have hrs2 := hrs
  unfold lvP at hrs2
  obtain ⟨m, hm⟩ : ∃ m, (P b).kids.length = m := ⟨_, rfl⟩
  rw [hm] at h1 h2
  have HCE : Hid (∀ w', Kept w w' → w'.cell? ⟨b, 1, none⟩ = some (.int .i64 (P b).kind) ∧ w'.cell? ⟨b, 8, none⟩ = some (.slice a m c)) := fun w' hk => by
    have h9 := (hkc w' hk).trans h1
    exact ⟨by simp [World.cell?, h9], by simp [World.cell?, h9]⟩
  have HKI : Hid (∀ w', Kept w w' → ∀ i, i < m → ∃ k g o, (P b).kids[i]? = some k ∧ a = some ⟨g, o, none⟩ ∧ w'.cell? ⟨g, o + i, none⟩ = some (.pointer (some ⟨k, 0, none⟩))) := fun w' hk i hi => by
    obtain ⟨k, hk2⟩ : ∃ k, (P b).kids[i]? = some k := ⟨_, List.getElem?_eq_getElem (by rw [hm]; exact hi)⟩
    obtain ⟨g, o, e, h4⟩ := h3 i k hk2
    exact ⟨k, g, o, hk2, e, grown_cell hk h4⟩
  obtain ⟨q0, q1⟩ := HCE.out w (Kept.refl w)
  have HF := hide1 hF
  have HIH := hide1 ih
  have HM := hide1 hm
  have hcI : (m : Int) ≤ (c : Int) := by omega
  by_cases hkd : (P b).kind = 1
  · rw [if_pos hkd] at hrs2
    rw [hkd] at q0
    have HR := hide1 hrs2
    clear hF ih hm h1 h2 h3 hkc hrs hrs2 hlen HCE HKI
    go_enter Try.func48, Try.ntmps48
    go_wp2_with fail
    go_ret
    refine ⟨_, rfl, ?_, (Kept.refl w).alloc _ _⟩
    rw [← HR.out]
    exact ⟨rfl, Or.inr ⟨w.heap.size, 1, _, rfl, Nat.le_refl _, World.alloc_heap_new w _, Nat.le_refl _, by unfold maxLen; omega, rfl, rfl⟩⟩
  · rw [if_neg hkd] at hrs2
    have hmI : (m : Int) ≤ 4194304 := by omega
    have HR := hide1 hrs2
    have HLE : Hid (∀ j, (((P b).kids.take j).flatMap (lvP P f)).length ≤ 4194304) := fun j => by
      refine Nat.le_trans ?_ hlen
      rw [← hrs2]
      have e : (P b).kids.flatMap (lvP P f) = ((P b).kids.take j).flatMap (lvP P f) ++ ((P b).kids.drop j).flatMap (lvP P f) := by rw [← List.flatMap_append, List.take_append_drop]
      rw [e, List.length_append]
      exact Nat.le_add_right _ _
    obtain ⟨kd, hkd2⟩ : ∃ kd, (P b).kind = kd := ⟨_, rfl⟩
    rw [hkd2] at hkd q0
    have eB : (kd == (1 : Int)) = false := by simp; exact hkd
    clear hF ih hm h1 h2 h3 hkc hrs hrs2 hlen hkl hkd2
    go_enter Try.func48, Try.ntmps48
    go_wp2_with fail
    go_loopw [3, 4] (fun v3 v4 wr => ∃ (j L : Nat) (ca : Option Addr) (cc : Nat), v3 = .slice ca L cc ∧ v4 = .int .i64 (j : Int) ∧ j ≤ m ∧ Hid ((((P b).kids.take j).flatMap (lvP P f)).length = L ∧ LO pnE wr w.heap.size (.slice ca L cc) (((P b).kids.take j).flatMap (lvP P f)) ∧ Kept w wr)) (fun _ v4 _ => m - (intOf v4).toNat)
    case atStart => exact ⟨0, 0, none, 0, rfl, rfl, Nat.zero_le _, rfl, LO.nil _ _, Kept.refl w⟩
    case round =>
      obtain ⟨j, L, ca, cc, rfl, rfl, hj, hI⟩ := hrel
      clear q0 q1
      obtain ⟨q0, q1⟩ := HCE.out wr hI.out.2.2
      by_cases hjm : j < m
      · obtain ⟨k, g, o, hk, rfl, r0⟩ := HKI.out wr hI.out.2.2 j hjm
        have htk : ((P b).kids.take (j + 1)).flatMap (lvP P f) = ((P b).kids.take j).flatMap (lvP P f) ++ lvP P f k := by
          rw [List.take_add_one, hk, List.flatMap_append]
          simp
        obtain ⟨L5, hL5⟩ : ∃ L5, (lvP P f k).length = L5 := ⟨_, rfl⟩
        have hLL : (L : Int) + (L5 : Int) ≤ 4194304 := by
          have h9 := HLE.out (j + 1)
          rw [htk, List.length_append, hI.out.1, hL5] at h9
          omega
        have HTK := hide1 htk
        have HL5 := hide1 hL5
        have HKK : Hid (k ∈ (P b).kids) := List.mem_of_getElem? hk
        have HI := hide1 hI.out
        have hjI : (j : Int) < (m : Int) := by omega
        clear hI htk hL5 hk
        go_wp2_with (first
          | (go_at_call 48; refine (HIH.out k HKK.out wr (HF.out.keep HI.out.2.2)).mono ?_; rintro e w5 ⟨v5, rfl, ho5, hk5⟩; obtain ⟨a5, c5, rfl⟩ := ho5.form; rw [HL5.out] at ho5 ⊢; have HO5 := hide1 ho5; have HK5 := hide1 hk5; clear ho5 hk5)
          | (at_builtin; refine wpl_many (E := pnE) rfl _ _ rfl w.heap.size (.slice ca L cc) _ (lvP P f k) L L5 (L + L5) HI.out.1 HL5.out rfl rfl (HI.out.2.1.keep HK5.out) a5 c5 rfl HO5.out.src (by show (L + L5) * 8 ≤ 140737488355328; omega) (by unfold maxLen; omega) (gtrans HI.out.2.2 HK5.out).size ?_; intro a6 c6 w6 ho6 hg6 hor6; have HO6 := hide1 ho6; have HK6 := hide1 (Kept.lo (gtrans HI.out.2.2 HK5.out) (HI.out.2.1.keep HK5.out) hg6); clear ho6 hg6 hor6))
        exact ⟨⟨j + 1, L + L5, a6, c6, rfl, by simp, by omega, by rw [HTK.out, List.length_append, HI.out.1, HL5.out], by rw [HTK.out]; exact HO6.out, HK6.out⟩, by simp [intOf] <;> omega⟩
      · obtain rfl : j = m := by omega
        have HI := hide1 hI.out
        have HTK : Hid ((P b).kids.take j = (P b).kids) := List.take_of_length_le (by rw [HM.out]; exact Nat.le_refl _)
        clear hI
        go_wp2_with fail
        go_ret
        refine ⟨_, rfl, ?_, HI.out.2.2⟩
        have h9 := HI.out.2.1
        rw [HTK.out, HR.out] at h9
        exact h9
theorem leavesP_is (S : Nat → Prop) (P : Nat → Pn) (rk : Nat → Nat) (w0 : World) (hF : PFor S P rk w0) (hlen : ∀ b, S b → (lvP P (rk b + 1) b).length ≤ 4194304 ∧ (P b).kids.length ≤ 4194304) : ∀ (f b : Nat), S b → rk b < f → LvC S P rk f b
  | 0, _, _, h => by omega
  | f + 1, b, hb, h => leavesP_step S P rk f b hb (by rw [lvP_fuel hF (f + 1) (rk b + 1) b hb h (Nat.lt_succ_self _)]; exact (hlen b hb).1) (hlen b hb).2 (fun k hk => by
      obtain ⟨q1, q2⟩ := hF.kid b hb k hk
      exact leavesP_is S P rk w0 hF hlen f k q1 (by omega))

end Tr
end Ex
end Go.Proofs.Ytkkilkojmdeopaa
namespace Go.Proofs.Ytkkilkojmdeopaa
open Go.RowKit
set_option linter.unusedVariables false
namespace Ex
namespace Tr

theorem onceG_seen (id : Int) : ∀ (l : List Int) (i : Nat) (a : Int), 0 ≤ a → onceG id l i a = if l.count id = 0 then a else -1
  | [], _, _, _ => by simp [onceG]
  | x :: l, i, a, h => by
    unfold onceG
    by_cases hx : x = id
    · subst hx
      rw [if_pos rfl, if_pos h, if_neg (by rw [List.count_cons_self]; omega)]
    · rw [if_neg hx, onceG_seen id l (i + 1) a h, List.count_cons_of_ne hx]
theorem onceG_new (id : Int) : ∀ (l : List Int) (i : Nat), onceG id l i (-1) = if l.count id = 1 then ((i + l.idxOf id : Nat) : Int) else -1
  | [], _ => by simp [onceG]
  | x :: l, i => by
    unfold onceG
    by_cases hx : x = id
    · subst hx
      rw [if_pos rfl, if_neg (by omega), onceG_seen x l (i + 1) (i : Int) (by omega), List.count_cons_self, List.idxOf_cons_self]
      by_cases h0 : l.count x = 0
      · rw [if_pos h0, if_pos (by omega)]; rfl
      · rw [if_neg h0, if_neg (by omega)]
    · have hix : (x :: l).idxOf id = l.idxOf id + 1 := by rw [List.idxOf_cons, beq_false_of_ne hx]; rfl
      rw [if_neg hx, onceG_new id l (i + 1), List.count_cons_of_ne hx, hix]
      split
      · congr 1
        omega
      · rfl
theorem onceG_some {l : List Int} {id : Int} {p : Nat} (h : onceN l id = some p) : onceG id l 0 (-1) = (p : Int) := by
  unfold onceN at h
  rw [onceG_new]
  split at h
  · rename_i hc
    injection h with h
    rw [if_pos hc, Nat.zero_add, h]
  · cases h
theorem onceG_none {l : List Int} {id : Int} (h : onceN l id = none) : onceG id l 0 (-1) = -1 := by
  unfold onceN at h
  rw [onceG_new]
  split at h
  · cases h
  · rename_i hc
    rw [if_neg hc]
/-- The document's Hunks, place by place. -/
def hkG (l m : List Int) : List Int → Nat → Nat → Nat → List Hk
  | [], i, fr, into => if fr < i ∨ into < m.length then [⟨fr, i, into, m.length⟩] else []
  | x :: rest, i, fr, into => if onceG x m 0 (-1) < (into : Int) ∨ onceG x l 0 (-1) < 0 then hkG l m rest (i + 1) fr into else (if fr < i ∨ into < (onceG x m 0 (-1)).toNat then [⟨fr, i, into, (onceG x m 0 (-1)).toNat⟩] else []) ++ hkG l m rest (i + 1) (i + 1) ((onceG x m 0 (-1)).toNat + 1)
theorem hkG_is (l m : List Int) : ∀ (rest : List Int) (i fr nx : Nat), i + rest.length = l.length → hkG l m rest i fr nx = hks l.length m.length (cnt l m rest i nx) fr nx
  | [], i, fr, nx, h => by
    simp only [List.length_nil, Nat.add_zero] at h
    subst h
    rfl
  | x :: rest, i, fr, nx, h => by
    have h' : (i + 1) + rest.length = l.length := by rw [List.length_cons] at h; omega
    unfold hkG cnt
    cases hm : onceN m x with
    | none =>
      rw [onceG_none hm, if_pos (Or.inl (by omega)), if_neg (by simp), hkG_is l m rest (i + 1) fr nx h']
    | some p =>
      rw [onceG_some hm]
      cases hl : onceN l x with
      | none => rw [onceG_none hl, if_pos (Or.inr (by omega)), if_neg (by simp), hkG_is l m rest (i + 1) fr nx h']
      | some q =>
        rw [onceG_some hl]
        by_cases hp : p < nx
        · rw [if_pos (Or.inl (by omega)), if_neg (by simp; omega), hkG_is l m rest (i + 1) fr nx h']
        · have hc : (some q).isSome = true ∧ (some p).isSome = true ∧ nx ≤ (some p).getD 0 := ⟨rfl, rfl, by simp; omega⟩
          have hn : ¬ ((p : Int) < (nx : Int) ∨ (q : Int) < 0) := by omega
          rw [if_neg hn]
          generalize hcc : cnt l m rest = CC at *
          rw [if_pos hc, hkG_is l m rest (i + 1) (i + 1) _ h', hcc]
          simp only [Int.toNat_natCast, Option.getD_some]
          rfl
theorem hkG_whole (l m : List Int) : hkG l m l 0 0 0 = hks l.length m.length (pairsL l m) 0 0 := hkG_is l m l 0 0 0 (Nat.zero_add _)

end Tr
end Ex
end Go.Proofs.Ytkkilkojmdeopaa
