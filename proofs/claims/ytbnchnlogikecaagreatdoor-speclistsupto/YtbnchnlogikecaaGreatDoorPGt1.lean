import Derived.Test.YtbnchnlogikecaaGreatDoorPGsF
import Derived.Test.YtbnchnlogikecaaGreatDoorPExKl
import Derived.Maps.OwnSet
import Derived.Maps.OwnOps
namespace Go.Proofs.YtbnchnlogikecaaGreatDoor
open Go.RowKit Go.Maps
attribute [local go_sem] Oper.semAt_some
set_option linter.unusedVariables false
namespace Ex
namespace Gs
open Sh
theorem s_key : Keyed Tryz.prog 9 := string_keyed Tryz.underlying9
def keyS (s : ByteArray) : Lit := .string s.data.toList
theorem keyS_is {s : ByteArray} (h : s.size ≤ 100000) : keyOf Tryz.prog 9 (.string s) = some (keyS s) := WideMaps.keyOf_string_mk Tryz.underlying9 (by unfold maxLen; omega)
theorem keyS_ne {x y : ByteArray} (h : y ≠ x) : keyS y ≠ keyS x := fun e => h (by
  unfold keyS at e
  injection e with e
  exact ByteArray.ext (Array.toList_inj.1 e))
def symD (x : Int × Int) : DataW Unit := .agg [.lit (.int .i64 x.1), .lit (.int .i64 x.2)]
def symR (v : Value) : Option (DataW Unit × List MemPlace) :=
  match v with
  | .agg xs => (match xs.toList with
    | [.int .i64 a, .int .i64 b] => some (symD (a, b), [])
    | _ => none)
  | _ => none
theorem symR_mk (x : Int × Int) : symR (.agg #[.int .i64 x.1, .int .i64 x.2]) = some (symD x, []) := rfl
theorem symR_inv {v : Value} {x : Int × Int} {ps : List MemPlace} (h : symR v = some (symD x, ps)) : v = .agg #[.int .i64 x.1, .int .i64 x.2] := by
  unfold symR at h
  split at h
  · rename_i xs
    split at h
    · rename_i a b he
      simp only [Option.some.injEq, Prod.mk.injEq, symD, DataW.agg.injEq, List.cons.injEq, DataW.lit.injEq, Lit.int.injEq, true_and, and_true] at h
      obtain ⟨⟨h1, h2⟩, _⟩ := h
      subst h1 h2
      congr 1
      exact Array.toList_inj.1 he
    · cases h
  · cases h
def MapS (R : Value → Option (DataW Unit × List MemPlace)) (w : World) (b n : Nat) (f : ByteArray → Option (DataW Unit)) : Prop :=
  ∃ D : DataW Unit, w.ownsMap Tryz.prog 9 R b n D ∧ ∀ x : ByteArray, x.size ≤ 100000 → Maps.has D (keyS x) = (f x).isSome ∧ ∀ zd, D.atKey (keyS x) zd = (f x).getD zd
theorem MapS.lt {R : Value → Option (DataW Unit × List MemPlace)} {w : World} {b n : Nat} {f : ByteArray → Option (DataW Unit)} (h : MapS R w b n f) : b < w.heap.size := h.choose_spec.1.lt
theorem MapS.same {R : Value → Option (DataW Unit × List MemPlace)} {w w' : World} {b n : Nat} {f : ByteArray → Option (DataW Unit)} (h : MapS R w b n f) (he : w'.heap[b]? = w.heap[b]?) : MapS R w' b n f := by
  obtain ⟨D, ⟨es, clock, hb, F, hs, hD⟩, h2⟩ := h
  exact ⟨D, ⟨es, clock, he.trans hb, F, hs, hD⟩, h2⟩
theorem MapS.ext {R : Value → Option (DataW Unit × List MemPlace)} {w : World} {b n : Nat} {f g : ByteArray → Option (DataW Unit)} (h : MapS R w b n f) (he : ∀ x, f x = g x) : MapS R w b n g := by
  obtain ⟨D, h1, h2⟩ := h
  exact ⟨D, h1, fun x hx => by rw [← he x]; exact h2 x hx⟩
theorem MapS.made {R : Value → Option (DataW Unit × List MemPlace)} {w : World} {b n : Nat} (h : w.ownsMap Tryz.prog 9 R b n (.map [])) : MapS R w b n (fun _ => none) := ⟨_, h, fun _ _ => ⟨rfl, fun _ => rfl⟩⟩
theorem MapS.puts {R : Value → Option (DataW Unit × List MemPlace)} {w w' : World} {b n m : Nat} {f : ByteArray → Option (DataW Unit)} {D : DataW Unit} {x : ByteArray} {d : DataW Unit} (h1 : w.ownsMap Tryz.prog 9 R b n D)
    (h2 : ∀ x : ByteArray, x.size ≤ 100000 → Maps.has D (keyS x) = (f x).isSome ∧ ∀ zd, D.atKey (keyS x) zd = (f x).getD zd) (h3 : w'.ownsMap Tryz.prog 9 R b m (D.put (keyS x) d)) : MapS R w' b m (fun y => if y = x then some d else f y) := by
  refine ⟨_, h3, fun y hy => ?_⟩
  by_cases e : y = x
  · subst e
    simp only [if_true]
    exact ⟨has_put_same h1.isMap (show WideAt.IsKeyLit (keyS y) from trivial) d, fun zd => atKey_put_same h1.isMap (show WideAt.IsKeyLit (keyS y) from trivial) d zd⟩
  · simp only [e, if_false]
    exact ⟨by rw [has_put_other (keyS_ne e)]; exact (h2 y hy).1, fun zd => by rw [atKey_put_other (keyS_ne e)]; exact (h2 y hy).2 zd⟩
theorem but_turned {w w' : World} {b : Nat} (h : w.mapTurned w' b) : KeptBut b w w' ∧ w'.heap.size = w.heap.size := by
  have hg := h.grown
  refine ⟨⟨hg.os, hg.tape, hg.output, hg.size, fun k hk hne => hg.block k hk (fun e => hne (Option.some.inj e))⟩, ?_⟩
  obtain ⟨es, clock, es', clock', hb, rfl⟩ := h
  simp [ChangeMaps.setBlock]
def GMap (w : World) (b n : Nat) (f : ByteArray → Option (Int × Int)) : Prop := MapS symR w b n (fun x => (f x).map symD)
theorem GMap.lt {w : World} {b n : Nat} {f : ByteArray → Option (Int × Int)} (h : GMap w b n f) : b < w.heap.size := MapS.lt h
theorem GMap.same {w w' : World} {b n : Nat} {f : ByteArray → Option (Int × Int)} (h : GMap w b n f) (he : w'.heap[b]? = w.heap[b]?) : GMap w' b n f := MapS.same h he
theorem sym_zero (w : World) : (zeroValue 77).run Tryz.prog w = .ok (.agg #[.int .i64 0, .int .i64 0]) w := by kernel_rfl
theorem GMap.look {w : World} {b n : Nat} {f : ByteArray → Option (Int × Int)} (h : GMap w b n f) {x : ByteArray} (hx : x.size ≤ 100000) : (Instr.lookup 86 (.map (some b)) (.string x) false).run Tryz.prog w = .ok (.agg #[.int .i64 (given f x).1, .int .i64 (given f x).2]) w := by
  obtain ⟨D, h1, h2⟩ := h
  obtain ⟨v, ps, hrun, hv⟩ := h1.lookup s_key Tryz.underlying86 (sym_zero w) (symR_mk (0, 0)) (keyS_is hx)
  have e : D.atKey (keyS x) (symD (0, 0)) = symD (given f x) := by
    rw [(h2 x hx).2]
    show (Option.map symD (f x)).getD (symD (0, 0)) = symD ((f x).getD (0, 0))
    cases f x <;> rfl
  rw [e] at hv
  rw [hrun, symR_inv hv]
theorem GMap.store {w : World} {b n : Nat} {f : ByteArray → Option (Int × Int)} (h : GMap w b n f) (hn : n ≤ 100000) {x : ByteArray} (hx : x.size ≤ 100000) (y : Int × Int) :
    ∃ w', (Instr.mapUpdate 86 (.map (some b)) (.string x) (.agg #[.int .i64 y.1, .int .i64 y.2])).run Tryz.prog w = .ok () w' ∧ GMap w' b (n + 1) (putG f x y) ∧ KeptBut b w w' ∧ w'.heap.size = w.heap.size := by
  obtain ⟨D, h1, h2⟩ := h
  obtain ⟨w', hrun, h3, h4⟩ := h1.store s_key Tryz.underlying86 (by unfold maxLen; omega) (keyS_is hx) (symR_mk y)
  refine ⟨w', hrun, MapS.ext (MapS.puts h1 h2 h3) (fun z => ?_), but_turned h4⟩
  unfold putG
  by_cases e : z = x <;> simp [e]
section
variable {w : World} {ops : Array Oper} {rest : List Oper} {o : Oper} {a : Act} {Q : Exit → Act → World → Prop}
theorem step_putG {K : Act → World → Prop} {EE : Prop} (hgd : o.guard = none) (m x v : Operand) (hop : o.op = Op.mapUpdate 86 m x v) (b n : Nat) (f : ByteArray → Option (Int × Int)) (hm : a.eval m = .map (some b)) (h : GMap w b n f) (hn : n ≤ 100000) (k : ByteArray) (hx : a.eval x = .string k) (hk : k.size ≤ 100000) (y : Int × Int) (hv : a.eval v = .agg #[.int .i64 y.1, .int .i64 y.2])
    (hK : ∀ w', GMap w' b (n + 1) (putG f k y) → KeptBut b w w' → w'.heap.size = w.heap.size → K (a.put o.dst undef) w') : if Region.wanted o (yielded ops a.tmps) = true then Oper.wp Tryz.prog o a w K Q else EE := by
  obtain ⟨w', hr, h1, h2, h3⟩ := h.store hn hk y
  have hw : Region.wanted o (yielded ops a.tmps) = true := by simp [Region.wanted, hgd]
  rw [if_pos hw]
  unfold Oper.wp
  simp [execOp, hop, hm, hx, hv, hr, Result.andThen]
  exact hK w' h1 h2 h3
end
abbrev LexM : Type := ByteArray × Bool × ExM
def encLex (x : LexM) : List Value := [.string x.1, .bool x.2.1, .int .i64 x.2.2.1, .int .i64 x.2.2.2.1, .int .i64 x.2.2.2.2.1, .int .i64 x.2.2.2.2.2.1, .int .i64 x.2.2.2.2.2.2.1, val x.2.2.2.2.2.2.2]
theorem encLex_one (x : LexM) : ∀ u ∈ encLex x, u.oneCell' = true := fun u hu => by
  simp only [encLex, List.mem_cons, List.not_mem_nil, or_false] at hu
  rcases hu with rfl | rfl | rfl | rfl | rfl | rfl | rfl | rfl <;> rfl
def lexE : ElK LexM := { T := 72, TT := 23, sz := 8, by_ := 88, z := .agg #[.string ⟨#[]⟩, .bool false, .int .i64 0, .int .i64 0, .int .i64 0, .int .i64 0, .int .i64 0, .slice none 0 0], enc := encLex, pos := by decide, info := by kernel_rfl, zs := rfl, und := Tryz.underlying23, len := fun _ => rfl, one := encLex_one }
abbrev PrdM : Type := Int × SlV
def encPrd (x : PrdM) : List Value := [.int .i64 x.1, val x.2]
theorem encPrd_one (x : PrdM) : ∀ u ∈ encPrd x, u.oneCell' = true := fun u hu => by
  simp only [encPrd, List.mem_cons, List.not_mem_nil, or_false] at hu
  rcases hu with rfl | rfl <;> rfl
def prdE : ElK PrdM := { T := 66, TT := 25, sz := 2, by_ := 32, z := .agg #[.int .i64 0, .slice none 0 0], enc := encPrd, pos := by decide, info := by kernel_rfl, zs := rfl, und := Tryz.underlying25, len := fun _ => rfl, one := encPrd_one }
def encUse (x : Use) : List Value := [.int .i64 x.1, .int .i64 x.2.1, .string x.2.2.1, .int .i64 x.2.2.2]
theorem encUse_one (x : Use) : ∀ u ∈ encUse x, u.oneCell' = true := fun u hu => by
  simp only [encUse, List.mem_cons, List.not_mem_nil, or_false] at hu
  rcases hu with rfl | rfl | rfl | rfl <;> rfl
def useE : ElK Use := { T := 137, TT := 87, sz := 4, by_ := 40, z := .agg #[.int .i64 0, .int .i64 0, .string ⟨#[]⟩, .int .i64 0], enc := encUse, pos := by decide, info := by kernel_rfl, zs := rfl, und := Tryz.underlying87, len := fun _ => rfl, one := encUse_one }
def encSym (x : Int × Int) : List Value := [.int .i64 x.1, .int .i64 x.2]
theorem encSym_one (x : Int × Int) : ∀ u ∈ encSym x, u.oneCell' = true := fun u hu => by
  simp only [encSym, List.mem_cons, List.not_mem_nil, or_false] at hu
  rcases hu with rfl | rfl <;> rfl
def symE : ElK (Int × Int) := { T := 77, TT := 64, sz := 2, by_ := 16, z := .agg #[.int .i64 0, .int .i64 0], enc := encSym, pos := by decide, info := by kernel_rfl, zs := rfl, und := Tryz.underlying64, len := fun _ => rfl, one := encSym_one }
def Own (ρ : Nat → Nat) (v : Value) (i : Nat) : Prop := ∀ d, v.ownBlock = some d → ρ d = i
def LexR (ρ : Nat → Nat) (w : World) (its : List LexM) (l : List (ByteArray × Bool × Pat)) : Prop :=
  its.length = l.length ∧ ∃ F : Nat → Nat → Prop, (∀ i d, F i d → ρ d = 2 ∧ d < w.heap.size) ∧ (∀ i j d, F i d → F j d → i = j) ∧
  ∀ i x, l[i]? = some x → ∃ sv : SlV, its[i]? = some (x.1, x.2.1, kind x.2.2.2, from_ x.2.2.2, to_ x.2.2.2, min_ x.2.2.2, max_ x.2.2.2, sv) ∧ KidsO (F i) w x.2.2.1 (kids x.2.2.2) (val sv)
theorem LexR.nil (ρ : Nat → Nat) (w : World) : LexR ρ w [] [] := ⟨rfl, fun _ _ => False, fun _ _ h => h.elim, fun _ _ _ h => h.elim, fun i x h => by simp at h⟩
theorem LexR.mono {ρ ρ' : Nat → Nat} {w w' : World} {its : List LexM} {l : List (ByteArray × Bool × Pat)} (h : LexR ρ w its l) (hh : ∀ d, d < w.heap.size → ρ d = 2 → w'.heap[d]? = w.heap[d]?) (hr : ∀ d, d < w.heap.size → ρ d = 2 → ρ' d = 2) (hs : w.heap.size ≤ w'.heap.size) : LexR ρ' w' its l := by
  obtain ⟨h1, F, f1, f2, h2⟩ := h
  refine ⟨h1, F, fun i d hd => ⟨hr d (f1 i d hd).2 (f1 i d hd).1, Nat.lt_of_lt_of_le (f1 i d hd).2 hs⟩, f2, fun i x hx => ?_⟩
  obtain ⟨sv, h3, h4⟩ := h2 i x hx
  exact ⟨sv, h3, KidsO.mono (fun d hd hl => hh d hl (f1 i d hd).1) (fun _ h => h) _ _ _ h4⟩
theorem LexR.snoc {ρ : Nat → Nat} {S : Nat → Prop} {w : World} {its : List LexM} {l : List (ByteArray × Bool × Pat)} (h : LexR ρ w its l) (nm : ByteArray) (tr : Bool) (p : Pat) {sv : SlV} (hk : KidsO S w p.1 (kids p.2) (val sv)) (hS : ∀ d, S d → d < w.heap.size → ρ d ≠ 2) {ρ' : Nat → Nat} (hr : ∀ d, ρ d = 2 → ρ' d = 2) (hr' : ∀ d, S d → d < w.heap.size → ρ' d = 2) :
    LexR ρ' w (its ++ [(nm, tr, kind p.2, from_ p.2, to_ p.2, min_ p.2, max_ p.2, sv)]) (l ++ [(nm, tr, p)]) := by
  obtain ⟨h1, F, f1, f2, h2⟩ := h
  have hk := KidsO.tight _ _ _ hk
  refine ⟨by rw [List.length_append, List.length_append, h1]; rfl, fun i d => (i < l.length ∧ F i d) ∨ (i = l.length ∧ S d ∧ d < w.heap.size), ?_, ?_, fun i x hi => ?_⟩
  · rintro i d (⟨_, h⟩ | ⟨_, h, h'⟩)
    · exact ⟨hr d (f1 i d h).1, (f1 i d h).2⟩
    · exact ⟨hr' d h h', h'⟩
  · rintro i j d (⟨a1, a2⟩ | ⟨a1, a2, a3⟩) (⟨b1, b2⟩ | ⟨b1, b2, b3⟩)
    · exact f2 i j d a2 b2
    · exact absurd (f1 i d a2).1 (hS d b2 b3)
    · exact absurd (f1 j d b2).1 (hS d a2 a3)
    · omega
  · by_cases hlt : i < l.length
    · rw [List.getElem?_append_left hlt] at hi
      obtain ⟨sv', h3, h4⟩ := h2 i x hi
      exact ⟨sv', by rw [List.getElem?_append_left (by omega)]; exact h3, h4.wide (fun d hd => Or.inl ⟨hlt, hd⟩)⟩
    · have hi2 : i = l.length := by have := (List.getElem?_eq_some_iff.1 hi).1; rw [List.length_append] at this; simp at this; omega
      subst hi2
      rw [List.getElem?_append_right (Nat.le_refl _), Nat.sub_self] at hi
      simp only [List.getElem?_cons_zero, Option.some.injEq] at hi
      subst hi
      refine ⟨sv, by rw [List.getElem?_append_right (by omega), h1, Nat.sub_self]; rfl, hk.wide (fun d hd => Or.inr ⟨rfl, hd.1, hd.2⟩)⟩
structure PrdR (ρ : Nat → Nat) (w : World) (ps : List PrdM) (l : List Int) (sds : List (List (Int × Int))) : Prop where
  len : ps.length = l.length
  lens : sds.length = l.length
  left : ∀ (i : Nat) (x : PrdM), ps[i]? = some x → l[i]? = some x.1
  side : ∀ (i : Nat) (x : PrdM) (ys : List (Int × Int)), ps[i]? = some x → sds[i]? = some ys → LO symE w 0 (val x.2) ys
  own : ∀ (i : Nat) (x : PrdM), ps[i]? = some x → Own ρ (val x.2) 7
  lone : ∀ (i j : Nat) (x y : PrdM) (d : Nat), ps[i]? = some x → ps[j]? = some y → (val x.2).ownBlock = some d → (val y.2).ownBlock = some d → i = j
theorem PrdR.nil (ρ : Nat → Nat) (w : World) : PrdR ρ w [] [] [] := ⟨rfl, rfl, fun i x h => by simp at h, fun i x ys h => by simp at h, fun i x h => by simp at h, fun i j x y d h => by simp at h⟩
theorem PrdR.mono {ρ ρ' : Nat → Nat} {w w' : World} {ps : List PrdM} {l : List Int} {sds : List (List (Int × Int))} (h : PrdR ρ w ps l sds) (hh : ∀ d, d < w.heap.size → ρ d = 7 → w'.heap[d]? = w.heap[d]?) (hr : ∀ d, d < w.heap.size → ρ d = 7 → ρ' d = 7) : PrdR ρ' w' ps l sds where
  len := h.len
  lens := h.lens
  left := h.left
  side := fun i x ys hx hy => (h.side i x ys hx hy).same (fun d hd => hh d ((h.side i x ys hx hy).lt' d hd).2 (h.own i x hx d hd))
  own := fun i x hx d hd => by
    have hi := (List.getElem?_eq_some_iff.1 hx).1
    have hy := List.getElem?_eq_getElem (l := sds) (i := i) (by rw [h.lens, ← h.len]; exact hi)
    exact hr d ((h.side i x _ hx hy).lt' d hd).2 (h.own i x hx d hd)
  lone := h.lone
theorem get_snoc {α : Type} {l : List α} {q x : α} {i : Nat} (h : (l ++ [q])[i]? = some x) : l[i]? = some x ∨ (i = l.length ∧ x = q) := by
  by_cases hlt : i < l.length
  · rw [List.getElem?_append_left hlt] at h; exact Or.inl h
  · have hi2 : i = l.length := by have := (List.getElem?_eq_some_iff.1 h).1; rw [List.length_append] at this; simp at this; omega
    subst hi2
    rw [List.getElem?_append_right (Nat.le_refl _), Nat.sub_self] at h
    simp only [List.getElem?_cons_zero, Option.some.injEq] at h
    exact Or.inr ⟨rfl, h.symm⟩
theorem PrdR.snoc {ρ : Nat → Nat} {w : World} {ps : List PrdM} {l : List Int} {sds : List (List (Int × Int))} (h : PrdR ρ w ps l sds) (q : Int) : PrdR ρ w (ps ++ [(q, (none, 0, 0))]) (l ++ [q]) (sds ++ [[]]) where
  len := by rw [List.length_append, List.length_append, h.len]; rfl
  lens := by rw [List.length_append, List.length_append, h.lens]; rfl
  left := fun i x hx => by
    rcases get_snoc hx with hx | ⟨rfl, rfl⟩
    · have h1 := h.left i x hx
      rw [List.getElem?_append_left (List.getElem?_eq_some_iff.1 h1).1]; exact h1
    · rw [h.len, List.getElem?_append_right (Nat.le_refl _), Nat.sub_self]; rfl
  side := fun i x ys hx hy => by
    rcases get_snoc hx with hx | ⟨rfl, rfl⟩
    · have hi := (List.getElem?_eq_some_iff.1 hx).1
      rw [List.getElem?_append_left (by rw [h.lens, ← h.len]; exact hi)] at hy
      exact h.side i x ys hx hy
    · rw [h.len, ← h.lens, List.getElem?_append_right (Nat.le_refl _), Nat.sub_self] at hy
      simp only [List.getElem?_cons_zero, Option.some.injEq] at hy
      subst hy
      exact LO.nil _ _
  own := fun i x hx => by
    rcases get_snoc hx with hx | ⟨rfl, rfl⟩
    · exact h.own i x hx
    · intro d hd; cases hd
  lone := fun i j x y d hx hy h1 h2 => by
    rcases get_snoc hx with hx | ⟨rfl, rfl⟩
    · rcases get_snoc hy with hy | ⟨rfl, rfl⟩
      · exact h.lone i j x y d hx hy h1 h2
      · cases h2
    · cases h1
def BoxR (w : World) (b : Nat) (T : ByteArray) (s : RSt) (xL xN xP xU : SlV) (m : Nat) : Prop := w.heap[b]? = some (.cells #[.string T, .int .i64 (s.k : Int), val xL, val xN, .int .i64 s.st, val xP, .map (some m), val xU, .bool s.sd] 89 (0, 0))
structure RdB (ρ : Nat → Nat) (w : World) (b : Nat) (T : ByteArray) (s : RSt) (xL xN xP xU : SlV) (m : Nat) (its : List LexM) (ps : List PrdM) : Prop where
  box : BoxR w b T s xL xN xP xU m
  lex : LO lexE w 0 (val xL) its
  lexR : LexR ρ w its s.lex
  nam : LO strE w 0 (val xN) s.nam
  prd : LO prdE w 0 (val xP) ps
  prdR : PrdR ρ w ps s.prd s.sds
  use : LO useE w 0 (val xU) s.use
  giv : GMap w m s.gn s.giv
  o1 : Own ρ (val xL) 1
  o3 : Own ρ (val xN) 3
  o4 : Own ρ (val xP) 4
  o5 : Own ρ (val xU) 5
  o6 : ρ m = 6
  o0 : ρ b = 0
  lo : ∀ d, ρ d ≠ 0 → d < w.heap.size
def RdA (ρ : Nat → Nat) (w : World) (b : Nat) (T : ByteArray) (s : RSt) : Prop := ∃ xL xN xP xU m its ps, RdB ρ w b T s xL xN xP xU m its ps
def Fr (ρ : Nat → Nat) (b : Nat) (w w' : World) : Prop := KT (fun d => d = b ∨ ρ d ≠ 0) w w'
def Went (ρ : Nat → Nat) (b : Nat) (w : World) (ρ' : Nat → Nat) (w' : World) : Prop := Fr ρ b w w' ∧ ∀ d, d < w.heap.size → ρ' d = ρ d
theorem Fr.refl (ρ : Nat → Nat) (b : Nat) (w : World) : Fr ρ b w w := (Kept.refl w).kt _
theorem Went.refl (ρ : Nat → Nat) (b : Nat) (w : World) : Went ρ b w ρ w := ⟨Fr.refl _ _ _, fun _ _ => rfl⟩
theorem Went.fr {ρ ρ' : Nat → Nat} {b : Nat} {w w' w'' : World} (h : Went ρ b w ρ' w') (h2 : Fr ρ' b w' w'') : Fr ρ b w w'' :=
  KT.wide h.1 h2 (fun d hd hs => by rcases hs with hs | hs; exact Or.inl hs; exact Or.inr (by rw [← h.2 d hd]; exact hs))
theorem Went.trans {ρ ρ' ρ'' : Nat → Nat} {b : Nat} {w w' w'' : World} (h : Went ρ b w ρ' w') (h2 : Went ρ' b w' ρ'' w'') : Went ρ b w ρ'' w'' :=
  ⟨h.fr h2.1, fun d hd => (h2.2 d (Nat.lt_of_lt_of_le hd h.1.2.2.2.1)).trans (h.2 d hd)⟩
theorem Went.kept {ρ ρ' : Nat → Nat} {b : Nat} {w w' w'' : World} (h : Went ρ b w ρ' w') (hk : Kept w' w'') : Went ρ b w ρ' w'' := h.trans ⟨hk.kt _, fun _ _ => rfl⟩
theorem Went.set {ρ ρ' : Nat → Nat} {b : Nat} {w w' : World} (h : Went ρ b w ρ' w') {g : Nat} (hg : w.heap.size ≤ g) (o : Nat) (v : Value) : Went ρ b w ρ' (w'.setCell ⟨g, o, none⟩ v) :=
  ⟨KT.wide h.1 (set_kt w' g o v) (fun d hd hs => by omega), h.2⟩
theorem Went.setb {ρ ρ' : Nat → Nat} {b : Nat} {w w' : World} (h : Went ρ b w ρ' w') (o : Nat) (v : Value) : Went ρ b w ρ' (w'.setCell ⟨b, o, none⟩ v) :=
  ⟨KT.wide h.1 (set_kt w' b o v) (fun d hd hs => Or.inl hs), h.2⟩
theorem Went.mv {ρ ρ' : Nat → Nat} {b k : Nat} {w w' w'' : World} (h : Went ρ b w ρ' w') (hm : Mv b k w' w'') : Went ρ b w ρ' w'' :=
  h.trans ⟨⟨hm.1.1, hm.1.2.1, hm.1.2.2.1, hm.1.2.2.2.1, fun d hd hn => hm.1.2.2.2.2 d hd (fun e => hn (Or.inl e))⟩, fun _ _ => rfl⟩
theorem Went.block {ρ ρ' : Nat → Nat} {b : Nat} {w w' : World} (h : Went ρ b w ρ' w') {d : Nat} (hd : d < w.heap.size) (hb : d ≠ b) (hr : ρ d = 0) : w'.heap[d]? = w.heap[d]? := h.1.2.2.2.2 d hd (fun e => by rcases e with e | e; exact hb e; exact e hr)
theorem lo_heap {α : Type} {E : ElK α} {w w' : World} {base : Nat} {v : Value} {l : List α} {ρ : Nat → Nat} {i : Nat} (h : LO E w base v l) (ho : Own ρ v i) (hi : i ≠ 0) (hh : ∀ d, d < w.heap.size → ρ d = i → w'.heap[d]? = w.heap[d]?) : LO E w' base v l :=
  h.same (fun d hd => hh d (h.lt' d hd).2 (ho d hd))
theorem RdB.keepB {ρ : Nat → Nat} {w w' : World} {b : Nat} {T : ByteArray} {s : RSt} {xL xN xP xU : SlV} {m : Nat} {its : List LexM} {ps : List PrdM} (h : RdB ρ w b T s xL xN xP xU m its ps) (hs : w.heap.size ≤ w'.heap.size) (hb : w'.heap[b]? = w.heap[b]?) (hh : ∀ d, d < w.heap.size → ρ d ≠ 0 → w'.heap[d]? = w.heap[d]?) : RdB ρ w' b T s xL xN xP xU m its ps :=
  { box := hb.trans h.box
    lex := lo_heap h.lex h.o1 (by decide) (fun d hd he => hh d hd (by omega))
    lexR := h.lexR.mono (fun d hd he => hh d hd (by omega)) (fun _ _ h => h) hs
    nam := lo_heap h.nam h.o3 (by decide) (fun d hd he => hh d hd (by omega))
    prd := lo_heap h.prd h.o4 (by decide) (fun d hd he => hh d hd (by omega))
    prdR := h.prdR.mono (fun d hd he => hh d hd (by omega)) (fun _ _ h => h)
    use := lo_heap h.use h.o5 (by decide) (fun d hd he => hh d hd (by omega))
    giv := h.giv.same (hh m h.giv.lt (by have := h.o6; omega))
    o1 := h.o1, o3 := h.o3, o4 := h.o4, o5 := h.o5, o6 := h.o6, o0 := h.o0
    lo := fun d hd => Nat.lt_of_lt_of_le (h.lo d hd) hs }
theorem RdB.ltb {ρ : Nat → Nat} {w : World} {b : Nat} {T : ByteArray} {s : RSt} {xL xN xP xU : SlV} {m : Nat} {its : List LexM} {ps : List PrdM} (h : RdB ρ w b T s xL xN xP xU m its ps) : b < w.heap.size := (Array.getElem?_eq_some_iff.1 h.box).1
theorem RdB.kept {ρ : Nat → Nat} {w w' : World} {b : Nat} {T : ByteArray} {s : RSt} {xL xN xP xU : SlV} {m : Nat} {its : List LexM} {ps : List PrdM} (h : RdB ρ w b T s xL xN xP xU m its ps) (hk : Kept w w') : RdB ρ w' b T s xL xN xP xU m its ps :=
  h.keepB hk.2.2.2.1 (hk.2.2.2.2 b h.ltb) (fun d hd _ => hk.2.2.2.2 d hd)
theorem RdB.set {ρ : Nat → Nat} {w : World} {b : Nat} {T : ByteArray} {s : RSt} {xL xN xP xU : SlV} {m : Nat} {its : List LexM} {ps : List PrdM} (h : RdB ρ w b T s xL xN xP xU m its ps) {g : Nat} (hg : ρ g = 0) (hb : g ≠ b) (o : Nat) (v : Value) : RdB ρ (w.setCell ⟨g, o, none⟩ v) b T s xL xN xP xU m its ps :=
  h.keepB (by simp [World.setCell]) (Below.heap_setCell _ _ _ _ (fun e => hb e.symm)) (fun d hd hr => Below.heap_setCell _ _ _ _ (fun e => hr (by have e : d = g := e; rw [e]; exact hg)))
theorem RdB.fresh {ρ : Nat → Nat} {w : World} {b : Nat} {T : ByteArray} {s : RSt} {xL xN xP xU : SlV} {m : Nat} {its : List LexM} {ps : List PrdM} (h : RdB ρ w b T s xL xN xP xU m its ps) {d : Nat} (hd : w.heap.size ≤ d) : ρ d = 0 := by
  by_cases e : ρ d = 0
  · exact e
  · have := h.lo d e; omega
theorem RdB.sc {ρ : Nat → Nat} {w : World} {b : Nat} {T : ByteArray} {s : RSt} {xL xN xP xU : SlV} {m : Nat} {its : List LexM} {ps : List PrdM} (h : RdB ρ w b T s xL xN xP xU m its ps) : ScAt w b T s.k := ⟨_, _, h.box, rfl, rfl⟩
theorem BoxR.cells {w : World} {b : Nat} {T : ByteArray} {s : RSt} {xL xN xP xU : SlV} {m : Nat} (h : BoxR w b T s xL xN xP xU m) :
    (w.cell? ⟨b, 0, none⟩ = some (.string T) ∧ w.cell? ⟨b, 1, none⟩ = some (.int .i64 (s.k : Int)) ∧ w.cell? ⟨b, 2, none⟩ = some (.slice xL.1 xL.2.1 xL.2.2) ∧ w.cell? ⟨b, 3, none⟩ = some (.slice xN.1 xN.2.1 xN.2.2) ∧ w.cell? ⟨b, 4, none⟩ = some (.int .i64 s.st) ∧ w.cell? ⟨b, 5, none⟩ = some (.slice xP.1 xP.2.1 xP.2.2) ∧ w.cell? ⟨b, 6, none⟩ = some (.map (some m)) ∧ w.cell? ⟨b, 7, none⟩ = some (.slice xU.1 xU.2.1 xU.2.2) ∧ w.cell? ⟨b, 8, none⟩ = some (.bool s.sd)) ∧ ∀ o, w.frozen? ⟨b, o, none⟩ = false := by
  unfold BoxR at h
  refine ⟨⟨?_, ?_, ?_, ?_, ?_, ?_, ?_, ?_, ?_⟩, fun o => ?_⟩ <;> simp [World.cell?, World.frozen?, h, val]
theorem RdB.cells {ρ : Nat → Nat} {w : World} {b : Nat} {T : ByteArray} {s : RSt} {xL xN xP xU : SlV} {m : Nat} {its : List LexM} {ps : List PrdM} (h : RdB ρ w b T s xL xN xP xU m its ps) :
    (w.cell? ⟨b, 0, none⟩ = some (.string T) ∧ w.cell? ⟨b, 1, none⟩ = some (.int .i64 (s.k : Int)) ∧ w.cell? ⟨b, 2, none⟩ = some (.slice xL.1 xL.2.1 xL.2.2) ∧ w.cell? ⟨b, 3, none⟩ = some (.slice xN.1 xN.2.1 xN.2.2) ∧ w.cell? ⟨b, 4, none⟩ = some (.int .i64 s.st) ∧ w.cell? ⟨b, 5, none⟩ = some (.slice xP.1 xP.2.1 xP.2.2) ∧ w.cell? ⟨b, 6, none⟩ = some (.map (some m)) ∧ w.cell? ⟨b, 7, none⟩ = some (.slice xU.1 xU.2.1 xU.2.2) ∧ w.cell? ⟨b, 8, none⟩ = some (.bool s.sd)) ∧ ∀ o, w.frozen? ⟨b, o, none⟩ = false := by
  exact h.box.cells
theorem heap_setb {w : World} {b o : Nat} {c : Array Value} {t : TypeId} {v : Value} (h : w.heap[b]? = some (.cells c t (0, 0))) : (w.setCell ⟨b, o, none⟩ v).heap[b]? = some (.cells (c.setIfInBounds o v) t (0, 0)) := by
  rw [heap_at, h]; rfl
theorem RdB.mv {ρ : Nat → Nat} {w w' : World} {b k : Nat} {T : ByteArray} {s : RSt} {xL xN xP xU : SlV} {m : Nat} {its : List LexM} {ps : List PrdM} (h : RdB ρ w b T s xL xN xP xU m its ps) (hm : Mv b k w w') : RdB ρ w' b T { s with k := k } xL xN xP xU m its ps := by
  have hh : ∀ d, d < w.heap.size → ρ d ≠ 0 → w'.heap[d]? = w.heap[d]? := fun d hd hr => hm.1.2.2.2.2 d hd (fun e => hr (e ▸ h.o0))
  have hs := hm.1.2.2.2.1
  exact
  { box := by unfold BoxR; rw [hm.2, heap_setb h.box]; rfl
    lex := lo_heap h.lex h.o1 (by decide) (fun d hd he => hh d hd (by omega))
    lexR := h.lexR.mono (fun d hd he => hh d hd (by omega)) (fun _ _ h => h) hs
    nam := lo_heap h.nam h.o3 (by decide) (fun d hd he => hh d hd (by omega))
    prd := lo_heap h.prd h.o4 (by decide) (fun d hd he => hh d hd (by omega))
    prdR := h.prdR.mono (fun d hd he => hh d hd (by omega)) (fun _ _ h => h)
    use := lo_heap h.use h.o5 (by decide) (fun d hd he => hh d hd (by omega))
    giv := h.giv.same (hh m h.giv.lt (by have := h.o6; omega))
    o1 := h.o1, o3 := h.o3, o4 := h.o4, o5 := h.o5, o6 := h.o6, o0 := h.o0
    lo := fun d hd => Nat.lt_of_lt_of_le (h.lo d hd) hs }
end Gs
end Ex
end Go.Proofs.YtbnchnlogikecaaGreatDoor
namespace Go.Proofs.YtbnchnlogikecaaGreatDoor
open Go.RowKit Go.Maps
attribute [local go_sem] Oper.semAt_some
set_option linter.unusedVariables false
namespace Ex
namespace Gs
open Sh
theorem own_back {α : Type} {E : ElK α} {ρ ρ' : Nat → Nat} {w : World} {base i : Nat} {v : Value} {l : List α} (h : LO E w base v l) (ho : Own ρ v i) (hr : ∀ d, d < w.heap.size → ρ' d = ρ d) : Own ρ' v i := fun d hd => (hr d (h.lt' d hd).2).trans (ho d hd)
theorem lo_own {α : Type} {E : ElK α} {ρ : Nat → Nat} {w w' : World} {base i j : Nat} {v : Value} {l : List α} (h : LO E w base v l) (ho : Own ρ v j) (hj : j ≠ 0) (hi : i ≠ j) (hk : ∀ d, d < w.heap.size → ρ d ≠ 0 → ρ d ≠ i → w'.heap[d]? = w.heap[d]?) : LO E w' base v l :=
  lo_heap h ho hj (fun d hd he => hk d hd (by omega) (by omega))
theorem RdB.new {ρ ρ' : Nat → Nat} {w w' : World} {b : Nat} {T : ByteArray} {s s' : RSt} {xL xN xP xU xL' xN' xP' xU' : SlV} {m : Nat} {its its' : List LexM} {ps ps' : List PrdM} (h : RdB ρ w b T s xL xN xP xU m its ps) (i : Nat)
    (hs : w.heap.size ≤ w'.heap.size) (hr : ∀ d, d < w.heap.size → ρ' d = ρ d) (hl : ∀ d, w.heap.size ≤ d → ρ' d ≠ 0 → d < w'.heap.size) (hk : ∀ d, d < w.heap.size → ρ d ≠ 0 → ρ d ≠ i → w'.heap[d]? = w.heap[d]?)
    (box : BoxR w' b T s' xL' xN' xP' xU' m)
    (cL : (xL' = xL ∧ its' = its ∧ s'.lex = s.lex ∧ i ≠ 1 ∧ i ≠ 2) ∨ (LO lexE w' 0 (val xL') its' ∧ LexR ρ' w' its' s'.lex ∧ Own ρ' (val xL') 1))
    (cN : (xN' = xN ∧ s'.nam = s.nam ∧ i ≠ 3) ∨ (LO strE w' 0 (val xN') s'.nam ∧ Own ρ' (val xN') 3))
    (cP : (xP' = xP ∧ ps' = ps ∧ s'.prd = s.prd ∧ s'.sds = s.sds ∧ i ≠ 4 ∧ i ≠ 7) ∨ (LO prdE w' 0 (val xP') ps' ∧ PrdR ρ' w' ps' s'.prd s'.sds ∧ Own ρ' (val xP') 4))
    (cU : (xU' = xU ∧ s'.use = s.use ∧ i ≠ 5) ∨ (LO useE w' 0 (val xU') s'.use ∧ Own ρ' (val xU') 5))
    (cG : (s'.giv = s.giv ∧ s'.gn = s.gn ∧ i ≠ 6) ∨ GMap w' m s'.gn s'.giv) : RdB ρ' w' b T s' xL' xN' xP' xU' m its' ps' where
  box := box
  lex := by rcases cL with ⟨rfl, rfl, e, e1, e2⟩ | ⟨a1, a2, a3⟩; exact lo_own h.lex h.o1 (by decide) e1 hk; exact a1
  lexR := by
    rcases cL with ⟨rfl, rfl, e, e1, e2⟩ | ⟨a1, a2, a3⟩
    · rw [e]; exact h.lexR.mono (fun d hd he => hk d hd (by omega) (by omega)) (fun d hd he => (hr d hd).trans he) hs
    · exact a2
  nam := by rcases cN with ⟨rfl, e, e1⟩ | ⟨a1, a2⟩; (rw [e]; exact lo_own h.nam h.o3 (by decide) e1 hk); exact a1
  prd := by rcases cP with ⟨rfl, rfl, e, e2, e1, e3⟩ | ⟨a1, a2, a3⟩; exact lo_own h.prd h.o4 (by decide) e1 hk; exact a1
  prdR := by
    rcases cP with ⟨rfl, rfl, e, e2, e1, e3⟩ | ⟨a1, a2, a3⟩
    · rw [e, e2]; exact h.prdR.mono (fun d hd he => hk d hd (by omega) (by omega)) (fun d hd he => (hr d hd).trans he)
    · exact a2
  use := by rcases cU with ⟨rfl, e, e1⟩ | ⟨a1, a2⟩; (rw [e]; exact lo_own h.use h.o5 (by decide) e1 hk); exact a1
  giv := by rcases cG with ⟨e, e1, e2⟩ | a1; (rw [e, e1]; exact h.giv.same (hk m h.giv.lt (by have := h.o6; omega) (by have := h.o6; omega))); exact a1
  o1 := by rcases cL with ⟨rfl, rfl, e, e1, e2⟩ | ⟨a1, a2, a3⟩; exact own_back h.lex h.o1 hr; exact a3
  o3 := by rcases cN with ⟨rfl, e, e1⟩ | ⟨a1, a2⟩; exact own_back h.nam h.o3 hr; exact a2
  o4 := by rcases cP with ⟨rfl, rfl, e, e2, e1, e3⟩ | ⟨a1, a2, a3⟩; exact own_back h.prd h.o4 hr; exact a3
  o5 := by rcases cU with ⟨rfl, e, e1⟩ | ⟨a1, a2⟩; exact own_back h.use h.o5 hr; exact a2
  o6 := (hr m h.giv.lt).trans h.o6
  o0 := (hr b h.ltb).trans h.o0
  lo := fun d hd => by
    by_cases hlt : d < w.heap.size
    · omega
    · exact hl d (by omega) hd
def updR (ρ : Nat → Nat) (g i : Nat) : Nat → Nat := fun d => if d = g then i else ρ d
theorem app_facts {ρ : Nat → Nat} {w w' : World} {b g i o : Nat} {v u : Value} (hb : b < w.heap.size) (h0 : ρ b = 0) (hi : i ≠ 0) (ho : Own ρ v i) (hg : w.grownBy w' v.ownBlock) (hor : v.ownBlock = some g ∨ g = w.heap.size) (hgl : g < w'.heap.size) :
    w.heap.size ≤ (w'.setCell ⟨b, o, none⟩ u).heap.size ∧ (∀ d, d < w.heap.size → updR ρ g i d = ρ d) ∧ (∀ d, (∀ d, ρ d ≠ 0 → d < w.heap.size) → w.heap.size ≤ d → updR ρ g i d ≠ 0 → d < (w'.setCell ⟨b, o, none⟩ u).heap.size) ∧ (∀ d, d < w.heap.size → ρ d ≠ 0 → ρ d ≠ i → (w'.setCell ⟨b, o, none⟩ u).heap[d]? = w.heap[d]?) ∧ w'.heap[b]? = w.heap[b]? ∧ g ≠ b ∧ Went ρ b w (updR ρ g i) (w'.setCell ⟨b, o, none⟩ u) := by
  have hsz : (w'.setCell ⟨b, o, none⟩ u).heap.size = w'.heap.size := by simp [World.setCell]
  have hrr : ∀ d, d < w.heap.size → updR ρ g i d = ρ d := fun d hd => by
    unfold updR
    by_cases e : d = g
    · subst e
      rw [if_pos rfl]
      rcases hor with e | e
      · exact (ho d e).symm
      · omega
    · rw [if_neg e]
  have hbk : w'.heap[b]? = w.heap[b]? := hg.block b hb (fun e => hi (by have := ho b e.symm; omega))
  have hgb : g ≠ b := fun e => by
    subst e
    rcases hor with e | e
    · exact hi (by have := ho g e; omega)
    · omega
  refine ⟨by rw [hsz]; exact hg.size, hrr, fun d hl hd hn => ?_, fun d hd h1 h2 => ?_, hbk, hgb, ⟨⟨?_, ?_, ?_, by rw [hsz]; exact hg.size, fun d hd hn => ?_⟩, hrr⟩⟩
  · rw [hsz]
    unfold updR at hn
    by_cases e : d = g
    · rw [e]; exact hgl
    · rw [if_neg e] at hn
      have := hl d hn; omega
  · rw [Below.heap_setCell _ _ _ _ (fun e => h1 (by have e : d = b := e; rw [e]; exact h0))]
    exact hg.block d hd (fun e => h2 (ho d e.symm))
  · exact hg.os
  · exact hg.tape
  · exact hg.output
  · rw [Below.heap_setCell _ _ _ _ (fun e => hn (Or.inl e))]
    exact hg.block d hd (fun e => hn (Or.inr (by have := ho d e.symm; omega)))
theorem own_new {ρ : Nat → Nat} {g i n cap : Nat} : Own (updR ρ g i) (.slice (some ⟨g, 0, none⟩) n cap) i := fun d hd => by
  simp only [Value.ownBlock, Option.some.injEq] at hd
  subst hd
  unfold updR
  rw [if_pos rfl]
section
variable {ρ : Nat → Nat} {w w' : World} {b : Nat} {T : ByteArray} {s : RSt} {xL xN xP xU : SlV} {m : Nat} {its : List LexM} {ps : List PrdM}
theorem lo_put8 {α : Type} {E : ElK α} {w' : World} {b g o n cap : Nat} {u : Value} {l : List α} (h : LO E w' 0 (.slice (some ⟨g, 0, none⟩) n cap) l) (hgb : g ≠ b) : LO E (w'.setCell ⟨b, o, none⟩ u) 0 (.slice (some ⟨g, 0, none⟩) n cap) l :=
  h.same (fun d hd => Below.heap_setCell _ _ _ _ (by simp only [Value.ownBlock, Option.some.injEq] at hd; subst hd; exact hgb))
theorem RdB.addN (h : RdB ρ w b T s xL xN xP xU m its ps) {g n cap : Nat} {q : ByteArray} (hn : LO strE w' 0 (.slice (some ⟨g, 0, none⟩) n cap) (s.nam ++ [q])) (hg : w.grownBy w' (val xN).ownBlock) (hor : (val xN).ownBlock = some g ∨ g = w.heap.size) (hgl : g < w'.heap.size) :
    RdB (updR ρ g 3) (w'.setCell ⟨b, 3, none⟩ (.slice (some ⟨g, 0, none⟩) n cap)) b T { s with nam := s.nam ++ [q] } xL (some ⟨g, 0, none⟩, n, cap) xP xU m its ps ∧ Went ρ b w (updR ρ g 3) (w'.setCell ⟨b, 3, none⟩ (.slice (some ⟨g, 0, none⟩) n cap)) := by
  obtain ⟨a1, a2, a3, a4, a5, a6, a7⟩ := app_facts (o := 3) (u := .slice (some ⟨g, 0, none⟩) n cap) h.ltb h.o0 (by decide) h.o3 hg hor hgl
  exact ⟨h.new 3 a1 a2 (fun d => a3 d h.lo) a4 (by unfold BoxR; rw [heap_setb (a5.trans h.box)]; rfl) (.inl ⟨rfl, rfl, rfl, by decide, by decide⟩) (.inr ⟨lo_put8 hn a6, own_new⟩) (.inl ⟨rfl, rfl, rfl, rfl, by decide, by decide⟩) (.inl ⟨rfl, rfl, by decide⟩) (.inl ⟨rfl, rfl, by decide⟩), a7⟩
theorem RdB.addP (h : RdB ρ w b T s xL xN xP xU m its ps) {g n cap : Nat} {q : Int} (hn : LO prdE w' 0 (.slice (some ⟨g, 0, none⟩) n cap) (ps ++ [(q, (none, 0, 0))])) (hg : w.grownBy w' (val xP).ownBlock) (hor : (val xP).ownBlock = some g ∨ g = w.heap.size) (hgl : g < w'.heap.size) :
    RdB (updR ρ g 4) (w'.setCell ⟨b, 5, none⟩ (.slice (some ⟨g, 0, none⟩) n cap)) b T { s with prd := s.prd ++ [q], sds := s.sds ++ [[]] } xL xN (some ⟨g, 0, none⟩, n, cap) xU m its (ps ++ [(q, (none, 0, 0))]) ∧ Went ρ b w (updR ρ g 4) (w'.setCell ⟨b, 5, none⟩ (.slice (some ⟨g, 0, none⟩) n cap)) := by
  obtain ⟨a1, a2, a3, a4, a5, a6, a7⟩ := app_facts (o := 5) (u := .slice (some ⟨g, 0, none⟩) n cap) h.ltb h.o0 (by decide) h.o4 hg hor hgl
  exact ⟨h.new 4 a1 a2 (fun d => a3 d h.lo) a4 (by unfold BoxR; rw [heap_setb (a5.trans h.box)]; rfl) (.inl ⟨rfl, rfl, rfl, by decide, by decide⟩) (.inl ⟨rfl, rfl, by decide⟩) (.inr ⟨lo_put8 hn a6, (h.prdR.mono (fun d hd he => a4 d hd (by omega) (by omega)) (fun d hd he => (a2 d hd).trans he)).snoc q, own_new⟩) (.inl ⟨rfl, rfl, by decide⟩) (.inl ⟨rfl, rfl, by decide⟩), a7⟩
theorem RdB.addU (h : RdB ρ w b T s xL xN xP xU m its ps) {g n cap : Nat} {q : Use} (hn : LO useE w' 0 (.slice (some ⟨g, 0, none⟩) n cap) (s.use ++ [q])) (hg : w.grownBy w' (val xU).ownBlock) (hor : (val xU).ownBlock = some g ∨ g = w.heap.size) (hgl : g < w'.heap.size) :
    RdB (updR ρ g 5) (w'.setCell ⟨b, 7, none⟩ (.slice (some ⟨g, 0, none⟩) n cap)) b T { s with use := s.use ++ [q] } xL xN xP (some ⟨g, 0, none⟩, n, cap) m its ps ∧ Went ρ b w (updR ρ g 5) (w'.setCell ⟨b, 7, none⟩ (.slice (some ⟨g, 0, none⟩) n cap)) := by
  obtain ⟨a1, a2, a3, a4, a5, a6, a7⟩ := app_facts (o := 7) (u := .slice (some ⟨g, 0, none⟩) n cap) h.ltb h.o0 (by decide) h.o5 hg hor hgl
  exact ⟨h.new 5 a1 a2 (fun d => a3 d h.lo) a4 (by unfold BoxR; rw [heap_setb (a5.trans h.box)]; rfl) (.inl ⟨rfl, rfl, rfl, by decide, by decide⟩) (.inl ⟨rfl, rfl, by decide⟩) (.inl ⟨rfl, rfl, rfl, rfl, by decide, by decide⟩) (.inr ⟨lo_put8 hn a6, own_new⟩) (.inl ⟨rfl, rfl, by decide⟩), a7⟩
def patR (ρ : Nat → Nat) (n k : Nat) : Nat → Nat := fun d => if n ≤ d ∧ d < k then 2 else ρ d
theorem patR_at {ρ : Nat → Nat} {n k d i : Nat} (h0 : ∀ d, n ≤ d → ρ d = 0) (hi : i ≠ 0) (h : ρ d = i) : patR ρ n k d = i := by
  unfold patR
  rw [if_neg (fun e => hi (by have := h0 d e.1; omega))]
  exact h
theorem RdB.re (h : RdB ρ w b T s xL xN xP xU m its ps) {n k : Nat} (h0 : ∀ d, n ≤ d → ρ d = 0) (hbn : b < n) (hkw : k ≤ w.heap.size) : RdB (patR ρ n k) w b T s xL xN xP xU m its ps :=
  { box := h.box, lex := h.lex, nam := h.nam, prd := h.prd, use := h.use, giv := h.giv
    prdR := h.prdR.mono (fun _ _ _ => rfl) (fun d _ he => patR_at h0 (by decide) he)
    lexR := h.lexR.mono (fun _ _ _ => rfl) (fun d _ he => patR_at h0 (by decide) he) (Nat.le_refl _)
    o1 := fun d hd => patR_at h0 (by decide) (h.o1 d hd)
    o3 := fun d hd => patR_at h0 (by decide) (h.o3 d hd)
    o4 := fun d hd => patR_at h0 (by decide) (h.o4 d hd)
    o5 := fun d hd => patR_at h0 (by decide) (h.o5 d hd)
    o6 := patR_at h0 (by decide) h.o6
    o0 := by unfold patR; rw [if_neg (by omega)]; exact h.o0
    lo := fun d hd => by
      unfold patR at hd
      by_cases e : n ≤ d ∧ d < k
      · omega
      · rw [if_neg e] at hd; exact h.lo d hd }
theorem RdB.addL (h : RdB ρ w b T s xL xN xP xU m its ps) {g n0 cap n k : Nat} {nm : ByteArray} {tr : Bool} {p : Pat} {sv : SlV} (hp : KidsO (fun d => n ≤ d ∧ d < k) w p.1 (kids p.2) (val sv)) (hn0 : ∀ d, n ≤ d → ρ d = 0) (hbn : b < n) (hkw : k ≤ w.heap.size)
    (hn : LO lexE w' 0 (.slice (some ⟨g, 0, none⟩) n0 cap) (its ++ [(nm, tr, kind p.2, from_ p.2, to_ p.2, min_ p.2, max_ p.2, sv)])) (hg : w.grownBy w' (val xL).ownBlock) (hor : (val xL).ownBlock = some g ∨ g = w.heap.size) (hgl : g < w'.heap.size) :
    RdB (updR (patR ρ n k) g 1) (w'.setCell ⟨b, 2, none⟩ (.slice (some ⟨g, 0, none⟩) n0 cap)) b T { s with lex := s.lex ++ [(nm, tr, p)] } (some ⟨g, 0, none⟩, n0, cap) xN xP xU m (its ++ [(nm, tr, kind p.2, from_ p.2, to_ p.2, min_ p.2, max_ p.2, sv)]) ps ∧ (∀ w0 ρ0, Went ρ0 b w0 ρ w → w0.heap.size ≤ n → Went ρ0 b w0 (updR (patR ρ n k) g 1) (w'.setCell ⟨b, 2, none⟩ (.slice (some ⟨g, 0, none⟩) n0 cap))) := by
  have h2 := h.re hn0 hbn hkw
  have hR : LexR (patR ρ n k) w (its ++ [(nm, tr, kind p.2, from_ p.2, to_ p.2, min_ p.2, max_ p.2, sv)]) (s.lex ++ [(nm, tr, p)]) :=
    h.lexR.snoc nm tr p hp (fun d hd _ e => by have := hn0 d hd.1; omega) (fun d e => patR_at hn0 (by decide) e) (fun d hd _ => by unfold patR; rw [if_pos hd])
  obtain ⟨a1, a2, a3, a4, a5, a6, a7⟩ := app_facts (o := 2) (u := .slice (some ⟨g, 0, none⟩) n0 cap) h2.ltb h2.o0 (by decide) h2.o1 hg hor hgl
  refine ⟨h2.new 1 a1 a2 (fun d => a3 d h2.lo) a4 (by unfold BoxR; rw [heap_setb (a5.trans h.box)]; rfl) (.inr ⟨lo_put8 hn a6, hR.mono (fun d hd he => a4 d hd (by omega) (by omega)) (fun d hd he => (a2 d hd).trans he) a1, own_new⟩) (.inl ⟨rfl, rfl, by decide⟩) (.inl ⟨rfl, rfl, rfl, rfl, by decide, by decide⟩) (.inl ⟨rfl, rfl, by decide⟩) (.inl ⟨rfl, rfl, by decide⟩), fun w0 ρ0 hw hs => ?_⟩
  have hw2 : Went ρ0 b w0 (patR ρ n k) w := ⟨hw.1, fun d hd => by unfold patR; rw [if_neg (by omega)]; exact hw.2 d hd⟩
  exact hw2.trans a7
theorem RdB.putG (h : RdB ρ w b T s xL xN xP xU m its ps) {q : ByteArray} {y : Int × Int} (hn : GMap w' m (s.gn + 1) (Gs.putG s.giv q y)) (hg : KeptBut m w w') : RdB ρ w' b T { s with giv := Gs.putG s.giv q y, gn := s.gn + 1 } xL xN xP xU m its ps ∧ Went ρ b w ρ w' := by
  have hmb : m ≠ b := fun e => by have h1 := h.o6; have h2 := h.o0; rw [e] at h1; omega
  refine ⟨h.new 6 hg.2.2.2.1 (fun _ _ => rfl) (fun d hd hr => by have := h.lo d hr; omega) (fun d hd h0 h6 => hg.2.2.2.2 d hd (fun e => h6 (by rw [e]; exact h.o6))) ((hg.2.2.2.2 b h.ltb (fun e => hmb e.symm)).trans h.box) (.inl ⟨rfl, rfl, rfl, by decide, by decide⟩) (.inl ⟨rfl, rfl, by decide⟩) (.inl ⟨rfl, rfl, rfl, rfl, by decide, by decide⟩) (.inl ⟨rfl, rfl, by decide⟩) (.inr hn), ⟨⟨hg.1, hg.2.1, hg.2.2.1, hg.2.2.2.1, fun d hd hn => hg.2.2.2.2 d hd (fun e => hn (Or.inr (by rw [e, h.o6]; decide)))⟩, fun _ _ => rfl⟩⟩
end
def OutR (ρ : Nat → Nat) (b : Nat) (T : ByteArray) (w : World) (x : Except Flt RSt) (e : Ending) (w' : World) : Prop :=
  match x with
  | .ok s => e = .returned (.tuple #[]) ∧ ∃ ρ', RdA ρ' w' b T s ∧ Went ρ b w ρ' w'
  | .error f => e = thrown f.1 f.2.1 f.2.2 ∧ Fr ρ b w w'
theorem out_ok {ρ ρ' : Nat → Nat} {b : Nat} {T : ByteArray} {w w' : World} {x : Except Flt RSt} {s : RSt} (h : x = .ok s) (h1 : RdA ρ' w' b T s) (h2 : Went ρ b w ρ' w') : OutR ρ b T w x (.returned (.tuple #[])) w' := by
  subst h; exact ⟨rfl, ρ', h1, h2⟩
theorem out_err {ρ : Nat → Nat} {b : Nat} {T : ByteArray} {w w' : World} {x : Except Flt RSt} {er at_ : Int} {nm : ByteArray} (h : x = .error (er, at_, nm)) (h2 : Fr ρ b w w') : OutR ρ b T w x (thrown er at_ nm) w' := by
  subst h; exact ⟨rfl, h2⟩
theorem RdB.a {ρ : Nat → Nat} {w : World} {b : Nat} {T : ByteArray} {s : RSt} {xL xN xP xU : SlV} {m : Nat} {its : List LexM} {ps : List PrdM} (h : RdB ρ w b T s xL xN xP xU m its ps) : RdA ρ w b T s := ⟨_, _, _, _, _, _, _, h⟩
def SyB (w : World) (g : Nat) (a b : Int) : Prop := w.heap[g]? = some (.cells #[.int .i64 a, .int .i64 b] 77 (0, 0))
theorem SyB.facts {w : World} {g : Nat} {a b : Int} (h : SyB w g a b) : (w.cell? ⟨g, 0, none⟩ = some (.int .i64 a) ∧ w.cell? ⟨g, 1, none⟩ = some (.int .i64 b)) ∧ w.frozen? ⟨g, 0, none⟩ = false ∧ w.frozen? ⟨g, 1, none⟩ = false := by
  unfold SyB at h
  refine ⟨⟨?_, ?_⟩, ?_, ?_⟩ <;> simp [World.cell?, World.frozen?, h]
theorem SyB.keep {w w' : World} {g : Nat} {a b : Int} (h : SyB w g a b) (hk : Kept w w') : SyB w' g a b := (hk.2.2.2.2 g (Array.getElem?_eq_some_iff.1 h).1).trans h
theorem sy_new (w : World) (a b : Int) : SyB (w.alloc (.cells #[.int .i64 a, .int .i64 b] 77)) w.heap.size a b := heap_alloc_new w _
end Gs
end Ex
end Go.Proofs.YtbnchnlogikecaaGreatDoor
