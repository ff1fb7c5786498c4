import Derived.Test.YtajmbplipjeojaaDoorShMk
import Derived.Test.YtajmbplipjeojaaDoorShAr
namespace Go.Proofs.YtajmbplipjeojaaDoor
open Go.RowKit
set_option linter.unusedVariables false
namespace Ex
namespace Sh

/-- What Words hands out. -/
def WordsO (line : ByteArray) (w : World) (e : Ending) (w' : World) : Prop := ∃ x : SlV, e = .returned (.tuple #[.slice x.1 x.2.1 x.2.2, .int .i64 (ansE line)]) ∧ LO strE w' w.heap.size (val x) (ansL line) ∧ (ansL line).length ≤ 65537 ∧ Kept w w'
theorem wordsO_of {line : ByteArray} {w : World} {e : Ending} {w' : World} (h : WordsR line w e w') : WordsO line w e w' := by
  obtain ⟨hk, h1 | h1 | ⟨h1, ws, v, h2, h3, h4, h5⟩⟩ := h
  · have e1 : ansL line = [] := by unfold ansL; rw [if_pos h1.1]
    have e2 : ansE line = 2 := by unfold ansE; rw [if_pos h1.1]
    unfold WordsO
    rw [e1, e2]
    exact ⟨(none, 0, 0), h1.2, LO.nil _ _, by simp, hk⟩
  · have e1 : ansL line = [] := by unfold ansL; rw [if_neg (by omega), h1.2.1]; rfl
    have e2 : ansE line = 200 := by unfold ansE; rw [if_neg (by omega), h1.2.1]; rfl
    unfold WordsO
    rw [e1, e2]
    exact ⟨(none, 0, 0), h1.2.2, LO.nil _ _, by simp, hk⟩
  · have e1 : ansL line = ws := by unfold ansL; rw [if_neg (by omega), h2]; rfl
    have e2 : ansE line = 0 := by unfold ansE; rw [if_neg (by omega), h2]; rfl
    obtain ⟨a, c, rfl⟩ := h4.form
    unfold WordsO
    rw [e1, e2]
    exact ⟨(a, ws.length, c), h3, h4, h5, hk⟩
/-- The lists that are kept. -/
structure KpS (w0 w : World) (kv : Value) (xs : List SlV) (C : Nat → List ByteArray) : Prop where
  all : LO slE w w0.heap.size kv xs
  bag : BagL strE w xs C
  lone : LoneS xs
  len : ∀ (u : Nat) (x : SlV), xs[u]? = some x → x.2.1 ≤ 65537
  old : ∀ (u : Nat) (x : SlV) (d : Nat), xs[u]? = some x → (val x).ownBlock = some d → w0.heap.size ≤ d
  kept : Kept w0 w
theorem KpS.keep {w0 w w' : World} {kv : Value} {xs : List SlV} {C : Nat → List ByteArray} (h : KpS w0 w kv xs C) (hk : Kept w w') : KpS w0 w' kv xs C := ⟨h.all.keep hk, h.bag.kept hk, h.lone, h.len, h.old, gtrans h.kept hk⟩
theorem str_ne_sl : strE.T ≠ slE.T := by decide
theorem kp_push {w0 w wA w' : World} {kv kv' : Value} {xs : List SlV} {C : Nat → List ByteArray} {x : SlV} {l : List ByteArray} {H : Nat} (h : KpS w0 w kv xs C) (hx : LO strE w H (val x) l) (hH : w0.heap.size ≤ H) (hnew : ∀ (u : Nat) (y : SlV) (d : Nat), xs[u]? = some y → (val y).ownBlock = some d → d < H) (hl : l.length ≤ 65537) (hka : Kept w wA)
    (ho : LO slE w' w0.heap.size kv' (xs ++ [x])) (hg : wA.grownBy w' kv.ownBlock) : KpS w0 w' kv' (xs ++ [x]) (updF C xs.length l) := by
  have hA := h.keep hka
  have hxA : LO strE wA H (val x) l := hx.keep hka
  have key : ∀ (b : Nat) (z : SlV) (l : List ByteArray), LO strE wA b (val z) l → LO strE w' b (val z) l := fun b z l hz => hz.same (fun d hd => hg.block d (hz.lt' d hd).2 (fun e => lo_ne hz hA.all str_ne_sl hd e.symm))
  have hsn : ∀ (v : Nat) (z : SlV), (xs ++ [x])[v]? = some z → (v < xs.length ∧ xs[v]? = some z) ∨ (v = xs.length ∧ z = x) := fun v z hz => by
    by_cases hv : v < xs.length
    · rw [List.getElem?_append_left hv] at hz
      exact Or.inl ⟨hv, hz⟩
    · rw [List.getElem?_append_right (by omega)] at hz
      have h1 : v - xs.length < 1 := by have := (List.getElem?_eq_some_iff.1 hz).1; simpa using this
      have h2 : v - xs.length = 0 := by omega
      rw [h2] at hz
      exact Or.inr ⟨by omega, by simpa using hz.symm⟩
  have hlx : x.2.1 = l.length := (lo_lens (show LO strE w H (.slice x.1 x.2.1 x.2.2) l from hx)).symm
  refine ⟨ho, fun v z hz => ?_, fun v v' z z' d hz hz' hd hd' => ?_, fun v z hz => ?_, fun v z d hz hd => ?_, ?_⟩
  · rcases hsn v z hz with ⟨hv, hz⟩ | ⟨rfl, rfl⟩
    · rw [updF_other (by omega)]
      exact key _ z _ (hA.bag v z hz)
    · rw [updF_same]
      have h9 := key _ _ _ hxA
      unfold LO at h9 ⊢
      refine ⟨h9.1, ?_⟩
      rcases h9.2 with h10 | ⟨g, cap, cur, q1, q2, q3⟩
      · exact Or.inl h10
      · exact Or.inr ⟨g, cap, cur, q1, Nat.zero_le _, q3⟩
  · rcases hsn v z hz with ⟨hv, hz1⟩ | ⟨hv, hz1⟩
    · rcases hsn v' z' hz' with ⟨hv', hz2⟩ | ⟨hv', hz2⟩
      · exact h.lone v v' z z' d hz1 hz2 hd hd'
      · subst hz2
        have h1 := hnew v z d hz1 hd
        have h2 := (hx.lt' d hd').1
        omega
    · rcases hsn v' z' hz' with ⟨hv', hz2⟩ | ⟨hv', hz2⟩
      · subst hz1
        have h1 := hnew v' z' d hz2 hd'
        have h2 := (hx.lt' d hd).1
        omega
      · omega
  · rcases hsn v z hz with ⟨hv, hz1⟩ | ⟨hv, hz1⟩
    · exact h.len v z hz1
    · subst hz1
      omega
  · rcases hsn v z hz with ⟨hv, hz1⟩ | ⟨hv, hz1⟩
    · exact h.old v z d hz1 hd
    · subst hz1
      have := (hx.lt' d hd).1
      omega
  · exact Kept.of (grown_below0 hA.kept.below hg (fun g hg => (hA.all.lt' g hg).1) hA.kept.size)
theorem KpS.lt {w0 w : World} {kv : Value} {xs : List SlV} {C : Nat → List ByteArray} (h : KpS w0 w kv xs C) (u : Nat) (y : SlV) (d : Nat) (hy : xs[u]? = some y) (hd : (val y).ownBlock = some d) : d < w.heap.size := ((h.bag u y hy).lt' d hd).2
theorem ans_ab : ansL ⟨#[97, 32, 34, 98, 34]⟩ = [⟨#[97]⟩, ⟨#[98]⟩] ∧ ansE ⟨#[97, 32, 34, 98, 34]⟩ = 0 := by
  have h : wordsO (strN ⟨#[97, 32, 34, 98, 34]⟩) = some [⟨#[97]⟩, ⟨#[98]⟩] := by rfl
  have hs : (⟨#[97, 32, 34, 98, 34]⟩ : ByteArray).size = 5 := rfl
  unfold ansL ansE
  rw [h, hs]
  exact ⟨rfl, rfl⟩
/-- The first list. -/
theorem kp_first {w0 w : World} {x : SlV} {l : List ByteArray} (hx : LO strE w w0.heap.size (val x) l) (hl : l.length ≤ 65537) (hk : Kept w0 w) : KpS w0 (w.alloc (.cells #[.slice x.1 x.2.1 x.2.2] 25)) (.slice (some ⟨w.heap.size, 0, none⟩) 1 1) [x] (updF (fun _ => []) 0 l) := by
  have hlx : x.2.1 = l.length := (lo_lens (show LO strE w _ (.slice x.1 x.2.1 x.2.2) l from hx)).symm
  have hone : ∀ (v : Nat) (z : SlV), [x][v]? = some z → v = 0 ∧ z = x := fun v z hz => by
    cases v with
    | zero => exact ⟨rfl, by simpa using hz.symm⟩
    | succ v => simp at hz
  refine ⟨⟨rfl, Or.inr ⟨w.heap.size, 1, _, rfl, hk.size, heap_alloc_new w _, Nat.le_refl _, by unfold maxLen; omega, rfl, rfl⟩⟩, fun v z hz => ?_, fun v v' z z' d hz hz' hd hd' => ?_, fun v z hz => ?_, fun v z d hz hd => ?_, hk.alloc _ _⟩
  · obtain ⟨rfl, rfl⟩ := hone v z hz
    rw [updF_same]
    have h9 : LO strE (w.alloc (.cells #[.slice z.1 z.2.1 z.2.2] 25)) _ (val z) l := hx.keep ((Kept.refl w).alloc _ _)
    unfold LO at h9 ⊢
    refine ⟨h9.1, ?_⟩
    rcases h9.2 with h10 | ⟨g, cap, cur, q1, q2, q3⟩
    · exact Or.inl h10
    · exact Or.inr ⟨g, cap, cur, q1, Nat.zero_le _, q3⟩
  · have h1 := (hone v z hz).1
    have h2 := (hone v' z' hz').1
    omega
  · obtain ⟨rfl, rfl⟩ := hone v z hz
    omega
  · obtain ⟨rfl, rfl⟩ := hone v z hz
    exact (hx.lt' d hd).1
theorem StrR.own {w : World} {b : Nat} {x : SlV} {l : List ByteArray} (h : LO strE w b (val x) l) : StrR w (.slice x.1 x.2.1 x.2.2) l.length l := StrR.of h

end Sh
end Ex
end Go.Proofs.YtajmbplipjeojaaDoor
