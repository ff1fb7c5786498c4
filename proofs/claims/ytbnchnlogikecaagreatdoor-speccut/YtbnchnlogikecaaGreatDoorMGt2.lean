import Derived.Test.YtbnchnlogikecaaGreatDoorMGt1
import Derived.Test.YtbnchnlogikecaaGreatDoorMExFr0
import Derived.OrdersHeld
import Derived.Deep.RegionHeld
namespace Go.Proofs.YtbnchnlogikecaaGreatDoor
open Go.RowKit Go.Maps
attribute [local go_sem] Oper.semAt_some
set_option linter.unusedVariables false
namespace Ex
namespace Gs
open Sh

theorem own_back {α : Type} {E : ElK α} {ρ ρ' : Nat → Nat} {w : World} {base i : Nat} {v : Value} {l : List α} (h : LO E w base v l) (ho : Own ρ v i) (hr : ∀ d, d < w.heap.size → ρ' d = ρ d) : Own ρ' v i := fun d hd => (hr d (h.lt' d hd).2).trans (ho d hd)
theorem lo_own {α : Type} {E : ElK α} {ρ : Nat → Nat} {w w' : World} {base i j : Nat} {v : Value} {l : List α} (h : LO E w base v l) (ho : Own ρ v j) (hj : j ≠ 0) (hi : i ≠ j) (hk : ∀ d, d < w.heap.size → ρ d ≠ 0 → ρ d ≠ i → w'.heap[d]? = w.heap[d]?) : LO E w' base v l :=
  lo_heap h ho hj (fun d hd he => hk d hd (by omega) (by omega))
/-- One part of the reader's own is another now. -/
theorem RdB.new {ρ ρ' : Nat → Nat} {w w' : World} {b : Nat} {T : ByteArray} {s s' : RSt} {xL xN xP xU xL' xN' xP' xU' : SlV} {m : Nat} {its its' : List LexM} {ps ps' : List PrdM} (h : RdB ρ w b T s xL xN xP xU m its ps) (i : Nat)
    (hs : w.heap.size ≤ w'.heap.size) (hr : ∀ d, d < w.heap.size → ρ' d = ρ d) (hl : ∀ d, w.heap.size ≤ d → ρ' d ≠ 0 → d < w'.heap.size) (hk : ∀ d, d < w.heap.size → ρ d ≠ 0 → ρ d ≠ i → w'.heap[d]? = w.heap[d]?)
    (box : BoxR w' b T s' xL' xN' xP' xU' m)
    (cL : (xL' = xL ∧ its' = its ∧ s'.lex = s.lex ∧ i ≠ 1 ∧ i ≠ 2) ∨ (LO lexE w' 0 (val xL') its' ∧ LexR ρ' w' its' s'.lex ∧ Own ρ' (val xL') 1))
    (cN : (xN' = xN ∧ s'.nam = s.nam ∧ i ≠ 3) ∨ (LO strE w' 0 (val xN') s'.nam ∧ Own ρ' (val xN') 3))
    (cP : (xP' = xP ∧ ps' = ps ∧ s'.prd = s.prd ∧ s'.sds = s.sds ∧ i ≠ 4 ∧ i ≠ 7) ∨ (LO prdE w' 0 (val xP') ps' ∧ PrdR ρ' w' ps' s'.prd s'.sds ∧ Own ρ' (val xP') 4))
    (cU : (xU' = xU ∧ s'.use = s.use ∧ i ≠ 5) ∨ (LO useE w' 0 (val xU') s'.use ∧ Own ρ' (val xU') 5))
    (cG : (s'.giv = s.giv ∧ s'.gn = s.gn ∧ i ≠ 6) ∨ GMap w' m s'.gn s'.giv) : RdB ρ' w' b T s' xL' xN' xP' xU' m its' ps' where
  box := box
  lex := by rcases cL with ⟨rfl, rfl, e, e1, e2⟩ | ⟨a1, a2, a3⟩; exact lo_own h.lex h.o1 (by decide) e1 hk; exact a1
  lexR := by
    rcases cL with ⟨rfl, rfl, e, e1, e2⟩ | ⟨a1, a2, a3⟩
    · rw [e]; exact h.lexR.mono (fun d hd he => hk d hd (by omega) (by omega)) (fun d hd he => (hr d hd).trans he) hs
    · exact a2
  nam := by rcases cN with ⟨rfl, e, e1⟩ | ⟨a1, a2⟩; (rw [e]; exact lo_own h.nam h.o3 (by decide) e1 hk); exact a1
  prd := by rcases cP with ⟨rfl, rfl, e, e2, e1, e3⟩ | ⟨a1, a2, a3⟩; exact lo_own h.prd h.o4 (by decide) e1 hk; exact a1
  prdR := by
    rcases cP with ⟨rfl, rfl, e, e2, e1, e3⟩ | ⟨a1, a2, a3⟩
    · rw [e, e2]; exact h.prdR.mono (fun d hd he => hk d hd (by omega) (by omega)) (fun d hd he => (hr d hd).trans he)
    · exact a2
  use := by rcases cU with ⟨rfl, e, e1⟩ | ⟨a1, a2⟩; (rw [e]; exact lo_own h.use h.o5 (by decide) e1 hk); exact a1
  giv := by rcases cG with ⟨e, e1, e2⟩ | a1; (rw [e, e1]; exact h.giv.same (hk m h.giv.lt (by have := h.o6; omega) (by have := h.o6; omega))); exact a1
  o1 := by rcases cL with ⟨rfl, rfl, e, e1, e2⟩ | ⟨a1, a2, a3⟩; exact own_back h.lex h.o1 hr; exact a3
  o3 := by rcases cN with ⟨rfl, e, e1⟩ | ⟨a1, a2⟩; exact own_back h.nam h.o3 hr; exact a2
  o4 := by rcases cP with ⟨rfl, rfl, e, e2, e1, e3⟩ | ⟨a1, a2, a3⟩; exact own_back h.prd h.o4 hr; exact a3
  o5 := by rcases cU with ⟨rfl, e, e1⟩ | ⟨a1, a2⟩; exact own_back h.use h.o5 hr; exact a2
  o6 := (hr m h.giv.lt).trans h.o6
  o0 := (hr b h.ltb).trans h.o0
  lo := fun d hd => by
    by_cases hlt : d < w.heap.size
    · omega
    · exact hl d (by omega) hd
def updR (ρ : Nat → Nat) (g i : Nat) : Nat → Nat := fun d => if d = g then i else ρ d
/-- The facts of an append to a list of the reader's own, and of the store behind it. -/
theorem app_facts {ρ : Nat → Nat} {w w' : World} {b g i o : Nat} {v u : Value} (hb : b < w.heap.size) (h0 : ρ b = 0) (hi : i ≠ 0) (ho : Own ρ v i) (hg : w.grownBy w' v.ownBlock) (hor : v.ownBlock = some g ∨ g = w.heap.size) (hgl : g < w'.heap.size) :
    w.heap.size ≤ (w'.setCell ⟨b, o, none⟩ u).heap.size ∧ (∀ d, d < w.heap.size → updR ρ g i d = ρ d) ∧ (∀ d, (∀ d, ρ d ≠ 0 → d < w.heap.size) → w.heap.size ≤ d → updR ρ g i d ≠ 0 → d < (w'.setCell ⟨b, o, none⟩ u).heap.size) ∧ (∀ d, d < w.heap.size → ρ d ≠ 0 → ρ d ≠ i → (w'.setCell ⟨b, o, none⟩ u).heap[d]? = w.heap[d]?) ∧ w'.heap[b]? = w.heap[b]? ∧ g ≠ b ∧ Went ρ b w (updR ρ g i) (w'.setCell ⟨b, o, none⟩ u) := by
  have hsz : (w'.setCell ⟨b, o, none⟩ u).heap.size = w'.heap.size := by simp [World.setCell]
  have hrr : ∀ d, d < w.heap.size → updR ρ g i d = ρ d := fun d hd => by
    unfold updR
    by_cases e : d = g
    · subst e
      rw [if_pos rfl]
      rcases hor with e | e
      · exact (ho d e).symm
      · omega
    · rw [if_neg e]
  have hbk : w'.heap[b]? = w.heap[b]? := hg.block b hb (fun e => hi (by have := ho b e.symm; omega))
  have hgb : g ≠ b := fun e => by
    subst e
    rcases hor with e | e
    · exact hi (by have := ho g e; omega)
    · omega
  refine ⟨by rw [hsz]; exact hg.size, hrr, fun d hl hd hn => ?_, fun d hd h1 h2 => ?_, hbk, hgb, ⟨⟨?_, ?_, ?_, by rw [hsz]; exact hg.size, fun d hd hn => ?_⟩, hrr⟩⟩
  · rw [hsz]
    unfold updR at hn
    by_cases e : d = g
    · rw [e]; exact hgl
    · rw [if_neg e] at hn
      have := hl d hn; omega
  · rw [Below.heap_setCell _ _ _ _ (fun e => h1 (by have e : d = b := e; rw [e]; exact h0))]
    exact hg.block d hd (fun e => h2 (ho d e.symm))
  · exact hg.os
  · exact hg.tape
  · exact hg.output
  · rw [Below.heap_setCell _ _ _ _ (fun e => hn (Or.inl e))]
    exact hg.block d hd (fun e => hn (Or.inr (by have := ho d e.symm; omega)))
theorem own_new {ρ : Nat → Nat} {g i n cap : Nat} : Own (updR ρ g i) (.slice (some ⟨g, 0, none⟩) n cap) i := fun d hd => by
  simp only [Value.ownBlock, Option.some.injEq] at hd
  subst hd
  unfold updR
  rw [if_pos rfl]
section
variable {ρ : Nat → Nat} {w w' : World} {b : Nat} {T : ByteArray} {s : RSt} {xL xN xP xU : SlV} {m : Nat} {its : List LexM} {ps : List PrdM}
theorem lo_put8 {α : Type} {E : ElK α} {w' : World} {b g o n cap : Nat} {u : Value} {l : List α} (h : LO E w' 0 (.slice (some ⟨g, 0, none⟩) n cap) l) (hgb : g ≠ b) : LO E (w'.setCell ⟨b, o, none⟩ u) 0 (.slice (some ⟨g, 0, none⟩) n cap) l :=
  h.same (fun d hd => Below.heap_setCell _ _ _ _ (by simp only [Value.ownBlock, Option.some.injEq] at hd; subst hd; exact hgb))
/-- A name more. -/
theorem RdB.addN (h : RdB ρ w b T s xL xN xP xU m its ps) {g n cap : Nat} {q : ByteArray} (hn : LO strE w' 0 (.slice (some ⟨g, 0, none⟩) n cap) (s.nam ++ [q])) (hg : w.grownBy w' (val xN).ownBlock) (hor : (val xN).ownBlock = some g ∨ g = w.heap.size) (hgl : g < w'.heap.size) :
    RdB (updR ρ g 3) (w'.setCell ⟨b, 3, none⟩ (.slice (some ⟨g, 0, none⟩) n cap)) b T { s with nam := s.nam ++ [q] } xL (some ⟨g, 0, none⟩, n, cap) xP xU m its ps ∧ Went ρ b w (updR ρ g 3) (w'.setCell ⟨b, 3, none⟩ (.slice (some ⟨g, 0, none⟩) n cap)) := by
  obtain ⟨a1, a2, a3, a4, a5, a6, a7⟩ := app_facts (o := 3) (u := .slice (some ⟨g, 0, none⟩) n cap) h.ltb h.o0 (by decide) h.o3 hg hor hgl
  exact ⟨h.new 3 a1 a2 (fun d => a3 d h.lo) a4 (by unfold BoxR; rw [heap_setb (a5.trans h.box)]; rfl) (.inl ⟨rfl, rfl, rfl, by decide, by decide⟩) (.inr ⟨lo_put8 hn a6, own_new⟩) (.inl ⟨rfl, rfl, rfl, rfl, by decide, by decide⟩) (.inl ⟨rfl, rfl, by decide⟩) (.inl ⟨rfl, rfl, by decide⟩), a7⟩
/-- A production more. -/
theorem RdB.addP (h : RdB ρ w b T s xL xN xP xU m its ps) {g n cap : Nat} {q : Int} (hn : LO prdE w' 0 (.slice (some ⟨g, 0, none⟩) n cap) (ps ++ [(q, (none, 0, 0))])) (hg : w.grownBy w' (val xP).ownBlock) (hor : (val xP).ownBlock = some g ∨ g = w.heap.size) (hgl : g < w'.heap.size) :
    RdB (updR ρ g 4) (w'.setCell ⟨b, 5, none⟩ (.slice (some ⟨g, 0, none⟩) n cap)) b T { s with prd := s.prd ++ [q], sds := s.sds ++ [[]] } xL xN (some ⟨g, 0, none⟩, n, cap) xU m its (ps ++ [(q, (none, 0, 0))]) ∧ Went ρ b w (updR ρ g 4) (w'.setCell ⟨b, 5, none⟩ (.slice (some ⟨g, 0, none⟩) n cap)) := by
  obtain ⟨a1, a2, a3, a4, a5, a6, a7⟩ := app_facts (o := 5) (u := .slice (some ⟨g, 0, none⟩) n cap) h.ltb h.o0 (by decide) h.o4 hg hor hgl
  exact ⟨h.new 4 a1 a2 (fun d => a3 d h.lo) a4 (by unfold BoxR; rw [heap_setb (a5.trans h.box)]; rfl) (.inl ⟨rfl, rfl, rfl, by decide, by decide⟩) (.inl ⟨rfl, rfl, by decide⟩) (.inr ⟨lo_put8 hn a6, (h.prdR.mono (fun d hd he => a4 d hd (by omega) (by omega)) (fun d hd he => (a2 d hd).trans he)).snoc q, own_new⟩) (.inl ⟨rfl, rfl, by decide⟩) (.inl ⟨rfl, rfl, by decide⟩), a7⟩
/-- A word more that names something. -/
theorem RdB.addU (h : RdB ρ w b T s xL xN xP xU m its ps) {g n cap : Nat} {q : Use} (hn : LO useE w' 0 (.slice (some ⟨g, 0, none⟩) n cap) (s.use ++ [q])) (hg : w.grownBy w' (val xU).ownBlock) (hor : (val xU).ownBlock = some g ∨ g = w.heap.size) (hgl : g < w'.heap.size) :
    RdB (updR ρ g 5) (w'.setCell ⟨b, 7, none⟩ (.slice (some ⟨g, 0, none⟩) n cap)) b T { s with use := s.use ++ [q] } xL xN xP (some ⟨g, 0, none⟩, n, cap) m its ps ∧ Went ρ b w (updR ρ g 5) (w'.setCell ⟨b, 7, none⟩ (.slice (some ⟨g, 0, none⟩) n cap)) := by
  obtain ⟨a1, a2, a3, a4, a5, a6, a7⟩ := app_facts (o := 7) (u := .slice (some ⟨g, 0, none⟩) n cap) h.ltb h.o0 (by decide) h.o5 hg hor hgl
  exact ⟨h.new 5 a1 a2 (fun d => a3 d h.lo) a4 (by unfold BoxR; rw [heap_setb (a5.trans h.box)]; rfl) (.inl ⟨rfl, rfl, rfl, by decide, by decide⟩) (.inl ⟨rfl, rfl, by decide⟩) (.inl ⟨rfl, rfl, rfl, rfl, by decide, by decide⟩) (.inr ⟨lo_put8 hn a6, own_new⟩) (.inl ⟨rfl, rfl, by decide⟩), a7⟩
/-- A pattern came in the blocks from n to k. -/
def patR (ρ : Nat → Nat) (n k : Nat) : Nat → Nat := fun d => if n ≤ d ∧ d < k then 2 else ρ d
theorem patR_at {ρ : Nat → Nat} {n k d i : Nat} (h0 : ∀ d, n ≤ d → ρ d = 0) (hi : i ≠ 0) (h : ρ d = i) : patR ρ n k d = i := by
  unfold patR
  rw [if_neg (fun e => hi (by have := h0 d e.1; omega))]
  exact h
theorem RdB.re (h : RdB ρ w b T s xL xN xP xU m its ps) {n k : Nat} (h0 : ∀ d, n ≤ d → ρ d = 0) (hbn : b < n) (hkw : k ≤ w.heap.size) : RdB (patR ρ n k) w b T s xL xN xP xU m its ps :=
  { box := h.box, lex := h.lex, nam := h.nam, prd := h.prd, use := h.use, giv := h.giv
    prdR := h.prdR.mono (fun _ _ _ => rfl) (fun d _ he => patR_at h0 (by decide) he)
    lexR := h.lexR.mono (fun _ _ _ => rfl) (fun d _ he => patR_at h0 (by decide) he) (Nat.le_refl _)
    o1 := fun d hd => patR_at h0 (by decide) (h.o1 d hd)
    o3 := fun d hd => patR_at h0 (by decide) (h.o3 d hd)
    o4 := fun d hd => patR_at h0 (by decide) (h.o4 d hd)
    o5 := fun d hd => patR_at h0 (by decide) (h.o5 d hd)
    o6 := patR_at h0 (by decide) h.o6
    o0 := by unfold patR; rw [if_neg (by omega)]; exact h.o0
    lo := fun d hd => by
      unfold patR at hd
      by_cases e : n ≤ d ∧ d < k
      · omega
      · rw [if_neg e] at hd; exact h.lo d hd }
/-- A rule more: its pattern was laid behind block n, ahead of block k. -/
theorem RdB.addL (h : RdB ρ w b T s xL xN xP xU m its ps) {g n0 cap n k : Nat} {nm : ByteArray} {tr : Bool} {p : Pat} {sv : SlV} (hp : KidsO (fun d => n ≤ d ∧ d < k) w p.1 (kids p.2) (val sv)) (hn0 : ∀ d, n ≤ d → ρ d = 0) (hbn : b < n) (hkw : k ≤ w.heap.size)
    (hn : LO lexE w' 0 (.slice (some ⟨g, 0, none⟩) n0 cap) (its ++ [(nm, tr, kind p.2, from_ p.2, to_ p.2, min_ p.2, max_ p.2, sv)])) (hg : w.grownBy w' (val xL).ownBlock) (hor : (val xL).ownBlock = some g ∨ g = w.heap.size) (hgl : g < w'.heap.size) :
    RdB (updR (patR ρ n k) g 1) (w'.setCell ⟨b, 2, none⟩ (.slice (some ⟨g, 0, none⟩) n0 cap)) b T { s with lex := s.lex ++ [(nm, tr, p)] } (some ⟨g, 0, none⟩, n0, cap) xN xP xU m (its ++ [(nm, tr, kind p.2, from_ p.2, to_ p.2, min_ p.2, max_ p.2, sv)]) ps ∧ (∀ w0 ρ0, Went ρ0 b w0 ρ w → w0.heap.size ≤ n → Went ρ0 b w0 (updR (patR ρ n k) g 1) (w'.setCell ⟨b, 2, none⟩ (.slice (some ⟨g, 0, none⟩) n0 cap))) := by
  have h2 := h.re hn0 hbn hkw
  have hR : LexR (patR ρ n k) w (its ++ [(nm, tr, kind p.2, from_ p.2, to_ p.2, min_ p.2, max_ p.2, sv)]) (s.lex ++ [(nm, tr, p)]) :=
    h.lexR.snoc nm tr p hp (fun d hd _ e => by have := hn0 d hd.1; omega) (fun d e => patR_at hn0 (by decide) e) (fun d hd _ => by unfold patR; rw [if_pos hd])
  obtain ⟨a1, a2, a3, a4, a5, a6, a7⟩ := app_facts (o := 2) (u := .slice (some ⟨g, 0, none⟩) n0 cap) h2.ltb h2.o0 (by decide) h2.o1 hg hor hgl
  refine ⟨h2.new 1 a1 a2 (fun d => a3 d h2.lo) a4 (by unfold BoxR; rw [heap_setb (a5.trans h.box)]; rfl) (.inr ⟨lo_put8 hn a6, hR.mono (fun d hd he => a4 d hd (by omega) (by omega)) (fun d hd he => (a2 d hd).trans he) a1, own_new⟩) (.inl ⟨rfl, rfl, by decide⟩) (.inl ⟨rfl, rfl, rfl, rfl, by decide, by decide⟩) (.inl ⟨rfl, rfl, by decide⟩) (.inl ⟨rfl, rfl, by decide⟩), fun w0 ρ0 hw hs => ?_⟩
  have hw2 : Went ρ0 b w0 (patR ρ n k) w := ⟨hw.1, fun d hd => by unfold patR; rw [if_neg (by omega)]; exact hw.2 d hd⟩
  exact hw2.trans a7
/-- A name stands for something. -/
theorem RdB.putG (h : RdB ρ w b T s xL xN xP xU m its ps) {q : ByteArray} {y : Int × Int} (hn : GMap w' m (s.gn + 1) (Gs.putG s.giv q y)) (hg : KeptBut m w w') : RdB ρ w' b T { s with giv := Gs.putG s.giv q y, gn := s.gn + 1 } xL xN xP xU m its ps ∧ Went ρ b w ρ w' := by
  have hmb : m ≠ b := fun e => by have h1 := h.o6; have h2 := h.o0; rw [e] at h1; omega
  refine ⟨h.new 6 hg.2.2.2.1 (fun _ _ => rfl) (fun d hd hr => by have := h.lo d hr; omega) (fun d hd h0 h6 => hg.2.2.2.2 d hd (fun e => h6 (by rw [e]; exact h.o6))) ((hg.2.2.2.2 b h.ltb (fun e => hmb e.symm)).trans h.box) (.inl ⟨rfl, rfl, rfl, by decide, by decide⟩) (.inl ⟨rfl, rfl, by decide⟩) (.inl ⟨rfl, rfl, rfl, rfl, by decide, by decide⟩) (.inl ⟨rfl, rfl, by decide⟩) (.inr hn), ⟨⟨hg.1, hg.2.1, hg.2.2.1, hg.2.2.2.1, fun d hd hn => hg.2.2.2.2 d hd (fun e => hn (Or.inr (by rw [e, h.o6]; decide)))⟩, fun _ _ => rfl⟩⟩
end
/-- What a reader's function does: it has read on, or it throws. -/
def OutR (ρ : Nat → Nat) (b : Nat) (T : ByteArray) (w : World) (x : Except Flt RSt) (e : Ending) (w' : World) : Prop :=
  match x with
  | .ok s => e = .returned (.tuple #[]) ∧ ∃ ρ', RdA ρ' w' b T s ∧ Went ρ b w ρ' w'
  | .error f => e = thrown f.1 f.2.1 f.2.2 ∧ Fr ρ b w w'
theorem out_ok {ρ ρ' : Nat → Nat} {b : Nat} {T : ByteArray} {w w' : World} {x : Except Flt RSt} {s : RSt} (h : x = .ok s) (h1 : RdA ρ' w' b T s) (h2 : Went ρ b w ρ' w') : OutR ρ b T w x (.returned (.tuple #[])) w' := by
  subst h; exact ⟨rfl, ρ', h1, h2⟩
theorem out_err {ρ : Nat → Nat} {b : Nat} {T : ByteArray} {w w' : World} {x : Except Flt RSt} {er at_ : Int} {nm : ByteArray} (h : x = .error (er, at_, nm)) (h2 : Fr ρ b w w') : OutR ρ b T w x (thrown er at_ nm) w' := by
  subst h; exact ⟨rfl, h2⟩
theorem RdB.a {ρ : Nat → Nat} {w : World} {b : Nat} {T : ByteArray} {s : RSt} {xL xN xP xU : SlV} {m : Nat} {its : List LexM} {ps : List PrdM} (h : RdB ρ w b T s xL xN xP xU m its ps) : RdA ρ w b T s := ⟨_, _, _, _, _, _, _, h⟩
/-- A symbol in its box. -/
def SyB (w : World) (g : Nat) (a b : Int) : Prop := w.heap[g]? = some (.cells #[.int .i64 a, .int .i64 b] 77 (0, 0))
theorem SyB.facts {w : World} {g : Nat} {a b : Int} (h : SyB w g a b) : (w.cell? ⟨g, 0, none⟩ = some (.int .i64 a) ∧ w.cell? ⟨g, 1, none⟩ = some (.int .i64 b)) ∧ w.frozen? ⟨g, 0, none⟩ = false ∧ w.frozen? ⟨g, 1, none⟩ = false := by
  unfold SyB at h
  refine ⟨⟨?_, ?_⟩, ?_, ?_⟩ <;> simp [World.cell?, World.frozen?, h]
theorem SyB.keep {w w' : World} {g : Nat} {a b : Int} (h : SyB w g a b) (hk : Kept w w') : SyB w' g a b := (hk.2.2.2.2 g (Array.getElem?_eq_some_iff.1 h).1).trans h
theorem sy_new (w : World) (a b : Int) : SyB (w.alloc (.cells #[.int .i64 a, .int .i64 b] 77)) w.heap.size a b := heap_alloc_new w _

end Gs
end Ex
end Go.Proofs.YtbnchnlogikecaaGreatDoor
namespace Go.Proofs.YtbnchnlogikecaaGreatDoor
open Go Go.RowKit
set_option linter.unusedVariables false
namespace Ex
namespace Gs

section
variable {P : Program} {ops : Array Oper} {Q : Exit → Act → World → Prop} {md : Region.Mode} {S : World → Prop} {z : Nat}
/-- In whatever order; S holds behind each operation but the last one, z. -/
def wpAnyZ (P : Program) (md : Region.Mode) (ops : Array Oper) (Q : Exit → Act → World → Prop) (S : World → Prop) (z : Nat) : Nat → Array Bool → Act → World → Prop
  | 0, listed, a, w => Region.ready md ops listed = [] ∧ Q .normal a w
  | fuel + 1, listed, a, w => (Region.ready md ops listed = [] → Q .normal a w) ∧
    ∀ i ∈ Region.ready md ops listed, wpOp P ops Q i (fun a' w' => (i ≠ z → S w') ∧ wpAnyZ P md ops Q S z fuel (listed.setIfInBounds i true) a' w') a w
theorem anyZ_any : ∀ (fuel : Nat) (listed : Array Bool) (a : Act) (w : World), wpAnyZ P md ops Q S z fuel listed a w → wpAny P md ops Q fuel listed a w
  | 0, _, _, _, h => h
  | fuel + 1, _, _, _, h => ⟨h.1, fun i hi => wpOp_mono (fun a' w' h' => anyZ_any fuel _ a' w' h'.2) (h.2 i hi)⟩
/-- These wait for i, each for itself or by another of them. -/
def depsB (md : Region.Mode) (ops : Array Oper) (i : Nat) (deps : List Nat) : Bool :=
  deps.all fun q => ((ops[q]?).map fun o => o.after.any fun e => Region.binds md e && (e.on == i || deps.contains e.on)).getD false
def outB (listed : Array Bool) (deps : List Nat) : Bool := deps.all fun q => !listed.getD q true
theorem not_dep {i j : Nat} {deps : List Nat} {listed : Array Bool} (hd : depsB md ops i deps = true) (hi : listed.getD i true = false) (hu : ∀ q ∈ deps, listed.getD q true = false) (hj : j ∈ Region.ready md ops listed) : j ∉ deps := fun hm => by
  unfold depsB at hd
  have h1 := List.all_eq_true.1 hd j hm
  obtain ⟨_, o, ho, hall⟩ := mem_ready.1 hj
  rw [ho] at h1
  simp only [Option.map_some, Option.getD_some] at h1
  have key : ∀ e ∈ o.after, Region.binds md e = true → (e.on = i ∨ e.on ∈ deps) → False := fun e he hb hor => by
    have h2 := hall e he hb
    have h3 : listed.getD e.on true = false := by
      rcases hor with h | h
      · rw [h]; exact hi
      · exact hu _ h
    rcases Nat.lt_or_ge e.on listed.size with h' | h'
    · simp [h'] at h2 h3; rw [h3] at h2; cases h2
    · simp [Array.getElem?_eq_none h'] at h2
  obtain ⟨k, hk, hb⟩ := Array.any_eq_true.1 h1
  simp only [Bool.and_eq_true, Bool.or_eq_true, beq_iff_eq, List.contains_iff_mem] at hb
  exact key o.after[k] (Array.getElem_mem hk) hb.1 hb.2
theorem anyZ_first {i : Nat} {oi : Oper} {v : Value} {deps : List Nat} (hi : ops[i]? = some oi) (hsel : ∀ (j : Nat) (o : Oper) cs b, ops[j]? = some o → o.op ≠ .select cs b)
    (hQ : ∀ c a w, Q (.panic c) (a.put oi.dst v) w → Q (.panic c) a w) (hd : depsB md ops i deps = true) (hz : z ∈ deps) :
    ∀ (fuel : Nat) (listed : Array Bool) (a : Act) (w : World),
      (∀ j oj, ops[j]? = some oj → j ≠ i → listed.getD j true = false → (∀ e ∈ oj.after, Region.binds md e = true → e.on ≠ i) → oi.apart ops oj = true) →
      i ∈ Region.ready md ops listed → (∀ q ∈ deps, listed.getD q true = false) → YieldsIf P ops S oi v a → S w →
      wpAnyZ P md ops Q S z fuel (listed.setIfInBounds i true) (a.put oi.dst v) w → wpAnyZ P md ops Q S z (fuel + 1) listed a w := by
  intro fuel
  induction fuel with
  | zero =>
    intro listed a w _ hr hu hy hS H
    refine ⟨fun h => (by rw [h] at hr; cases hr), fun j hj => ?_⟩
    by_cases hji : j = i
    · subst hji; exact hy.wpOp hi hS ⟨fun _ => hS, H⟩
    · have := ready_mono hj hji
      rw [H.1] at this
      cases this
  | succ fuel ih =>
    intro listed a w hfree hr hu hy hS H
    refine ⟨fun h => (by rw [h] at hr; cases hr), fun j hj => ?_⟩
    by_cases hji : j = i
    · subst hji; exact hy.wpOp hi hS ⟨fun _ => hS, H⟩
    · have hi0 := (mem_ready.1 hr).1
      have hjd := not_dep hd hi0 hu hj
      have h1 := H.2 j (ready_mono hj hji)
      obtain ⟨hjun, oj, hoj, hall⟩ := mem_ready.1 hj
      have hnot : ∀ e ∈ oj.after, Region.binds md e = true → e.on ≠ i := fun e he hb heq => by
        have h2 := hall e he hb
        rw [heq] at h2
        rcases Nat.lt_or_ge i listed.size with h' | h'
        · simp [h'] at hi0 h2; rw [hi0] at h2; cases h2
        · simp [Array.getElem?_eq_none h'] at h2
      have h2 := wpOp_putIf hoj (hfree j oj hoj hji hjun hnot) (fun cs b => hsel i oi cs b hi) (fun cs b => hsel j oj cs b hoj) hQ hy h1
      have hfree' : ∀ k ok, ops[k]? = some ok → k ≠ i → (listed.setIfInBounds j true).getD k true = false →
          (∀ e ∈ ok.after, Region.binds md e = true → e.on ≠ i) → oi.apart ops ok = true := fun k ok hk hki hun hno => by
        refine hfree k ok hk hki ?_ hno
        by_cases hjk : j = k
        · subst hjk; exact hjun
        · rw [getD_set_ne true hjk] at hun; exact hun
      have hu' : ∀ q ∈ deps, (listed.setIfInBounds j true).getD q true = false := fun q hq => by
        rw [getD_set_ne true (show j ≠ q from fun e => hjd (by rw [e]; exact hq))]
        exact hu q hq
      have hjz : j ≠ z := fun e => hjd (e ▸ hz)
      refine wpOp_mono (fun a' w' h3 => ⟨h3.2.1, ih (listed.setIfInBounds j true) a' w' hfree' (ready_mono hr (Ne.symm hji)) hu' h3.1 (h3.2.1 hjz) ?_⟩) h2
      rw [Array.setIfInBounds_comm _ _ hji]
      exact h3.2.2
/-- Take i first: z waits for it (by deps). -/
theorem z_take {i : Nat} {oi : Oper} {v : Value} {fuel : Nat} {listed : Array Bool} {a : Act} {w : World} (deps : List Nat) (hi : ops[i]? = some oi)
    (hs : Region.noSelect ops = true) (hf : Region.free md ops listed i = true) (hr : (Region.ready md ops listed).contains i = true)
    (hd : depsB md ops i deps = true) (hz : deps.contains z = true) (hu : outB listed deps = true)
    (hQ : ∀ c a w, Q (.panic c) (a.put oi.dst v) w → Q (.panic c) a w) (hy : YieldsIf P ops S oi v a) (hS : S w)
    (h : wpAnyZ P md ops Q S z fuel (listed.setIfInBounds i true) (a.put oi.dst v) w) : wpAnyZ P md ops Q S z (fuel + 1) listed a w :=
  anyZ_first hi (Region.noSelect_spec hs) hQ hd (by simpa using hz) fuel listed a w (Region.free_spec hi hf) (by simpa using hr) (fun q hq => by
    have := List.all_eq_true.1 hu q hq
    simpa using this) hy hS h
/-- One alone may come up, and it is not the last. -/
theorem z_one {i : Nat} {o : Oper} {fuel : Nat} {listed : Array Bool} {a : Act} {w : World} (hr : Region.ready md ops listed = [i]) (hiz : (i == z) = false) (ho : ops[i]? = some o)
    (h : ∀ K' : Act → World → Prop, Shut (∀ a w, S w → (S w → wpAnyZ P md ops Q S z fuel (listed.setIfInBounds i true) a w) → K' a w) → if Region.wanted o (yielded ops a.tmps) = true then Oper.wp P o a w K' Q else K' (a.put o.dst undef) w) :
    wpAnyZ P md ops Q S z (fuel + 1) listed a w := by
  refine ⟨fun h0 => (by rw [hr] at h0; cases h0), fun j hj => ?_⟩
  rw [hr] at hj
  obtain rfl : j = i := by simpa using hj
  exact wpOp_step ho (fun K' hK => h K' (fun a w hS hW => hK a w ⟨fun _ => hS, hW hS⟩))
/-- The last one. -/
theorem z_last {o : Oper} {fuel : Nat} {listed : Array Bool} {a : Act} {w : World} (hr : Region.ready md ops listed = [z]) (hr2 : Region.ready md ops (listed.setIfInBounds z true) = []) (ho : ops[z]? = some o)
    (h : ∀ K' : Act → World → Prop, Shut (∀ a w, Q .normal a w → K' a w) → if Region.wanted o (yielded ops a.tmps) = true then Oper.wp P o a w K' Q else K' (a.put o.dst undef) w) :
    wpAnyZ P md ops Q S z (fuel + 1) listed a w := by
  refine ⟨fun h0 => (by rw [hr] at h0; cases h0), fun j hj => ?_⟩
  rw [hr] at hj
  obtain rfl : j = z := by simpa using hj
  refine wpOp_step ho (fun K' hK => h K' (fun a w hW => hK a w ⟨fun e => absurd rfl e, ?_⟩))
  cases fuel with
  | zero => exact ⟨hr2, hW⟩
  | succ n => exact ⟨fun _ => hW, by rw [hr2]; simp⟩
theorem z_region {id : Nat} {a : Act} {w : World} (z : Nat) (hm : P.follows .mixedOrders = true) (hS : S w.drew)
    (h : S w.drew → wpAnyZ P .any ops Q S z ops.size (Array.replicate ops.size false) a w.drew) : (Code.region id ops true).wp P Q a w :=
  wp_region_any hm (anyZ_any _ _ _ _ (h hS))
end

end Gs
end Ex
end Go.Proofs.YtbnchnlogikecaaGreatDoor
