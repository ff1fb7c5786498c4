import Derived.Test.YthjagnnbhpfpoaaRopeAsk
import Derived.ScopeJumps
import Derived.WalkMore
import Derived.BigRegion
namespace Go.Proofs.Ythjagnnbhpfpoaa
open Go.RowKit
namespace Rope

/-- As Q; by a goto to a label: what J says of that label. -/
def jumps (J : Nat → Act → World → Prop) (Q : Exit → Act → World → Prop) : Exit → Act → World → Prop
  | .goto l, a, w => J l a w
  | e, a, w => Q e a w

/-- A scope in which the run jumps to labels: of each jump a number goes down. -/
theorem wp_scope_labels {P : Program} {a : Act} {w : World} {Q : Exit → Act → World → Prop} {c : Code} (J : Nat → Nat → Act → World → Prop)
    (first : c.wp P (jumps (fun l a' w' => ∃ n, J l n a' w') Q) a w)
    (pass : ∀ l n a w, J l n a w → ∃ rest, findLabel c l = some rest ∧ rest.wp P (jumps (fun l' a' w' => ∃ n', n' < n ∧ J l' n' a' w') Q) a w) : (Code.scope c).wp P Q a w := by
  intro b k cs
  have key : ∀ n l a w, J l n a w → ∃ rest, findLabel c l = some rest ∧ ∃ e a' w', Q e a' w' ∧ Arrives P (lone (b.at a (.code rest :: .inScope c :: k)) cs w) b k cs e a' w' := by
    intro n
    induction n using Nat.strongRecOn with
    | _ n ih =>
      intro l a w hJ
      obtain ⟨rest, hf, hw⟩ := pass l n a w hJ
      refine ⟨rest, hf, ?_⟩
      obtain ⟨e, a₁, w₁, hq, harr⟩ := hw b (.inScope c :: k) cs
      cases e with
      | normal => exact ⟨.normal, a₁, w₁, hq, Steps.trans harr (.one step_inScope)⟩
      | exit id => exact ⟨.exit id, a₁, w₁, hq, fun k' hk => harr k' (by simp [exitTo, hk])⟩
      | goto l' =>
        obtain ⟨n', hlt, hJ'⟩ := hq
        obtain ⟨rest', hf', e₂, a₂, w₂, hq₂, harr₂⟩ := ih n' hlt l' a₁ w₁ hJ'
        have hg : gotoIn l' (.inScope c :: k) = some (.code rest' :: .inScope c :: k) := by simp [gotoIn, hf']
        exact ⟨e₂, a₂, w₂, hq₂, .of_steps (harr _ hg) harr₂⟩
      | ret => exact ⟨_, a₁, w₁, hq, harr⟩
      | panic ch => exact ⟨_, a₁, w₁, hq, harr⟩
      | outgrown => exact ⟨_, a₁, w₁, hq, harr⟩
  obtain ⟨e, a₁, w₁, hq, harr⟩ := first b (.inScope c :: k) cs
  cases e with
  | normal => exact ⟨.normal, a₁, w₁, hq, .head step_scope (Steps.trans harr (.one step_inScope))⟩
  | exit id => exact ⟨.exit id, a₁, w₁, hq, fun k' hk => .head step_scope (harr k' (by simp [exitTo, hk]))⟩
  | goto l' =>
    obtain ⟨n', hJ'⟩ := hq
    obtain ⟨rest', hf', e₂, a₂, w₂, hq₂, harr₂⟩ := key n' l' a₁ w₁ hJ'
    have hg : gotoIn l' (.inScope c :: k) = some (.code rest' :: .inScope c :: k) := by simp [gotoIn, hf']
    exact ⟨e₂, a₂, w₂, hq₂, .of_steps (.head step_scope (harr _ hg)) harr₂⟩
  | ret => exact ⟨_, a₁, w₁, hq, .of_steps (.one step_scope) harr⟩
  | panic ch => exact ⟨_, a₁, w₁, hq, .of_steps (.one step_scope) harr⟩
  | outgrown => exact ⟨_, a₁, w₁, hq, .of_steps (.one step_scope) harr⟩

/-- All but block D is as it was. -/
def KeptBut (D : Nat) (w w' : World) : Prop :=
  w'.os = w.os ∧ w'.tape = w.tape ∧ w'.output = w.output ∧ w.heap.size ≤ w'.heap.size ∧ ∀ k, k < w.heap.size → k ≠ D → w'.heap[k]? = w.heap[k]?
theorem KeptBut.of {D : Nat} {w w' : World} (h : Kept w w') : KeptBut D w w' := ⟨h.1, h.2.1, h.2.2.1, h.2.2.2.1, fun k hk _ => h.2.2.2.2 k hk⟩
theorem KeptBut.refl (D : Nat) (w : World) : KeptBut D w w := .of (Kept.refl w)
theorem KeptBut.size {D : Nat} {w w' : World} (h : KeptBut D w w') : w.heap.size ≤ w'.heap.size := h.2.2.2.1
theorem KeptBut.trans {D : Nat} {a b c : World} (h1 : KeptBut D a b) (h2 : KeptBut D b c) : KeptBut D a c :=
  ⟨h2.1.trans h1.1, h2.2.1.trans h1.2.1, h2.2.2.1.trans h1.2.2.1, Nat.le_trans h1.size h2.size, fun k hk hne => (h2.2.2.2.2 k (Nat.lt_of_lt_of_le hk h1.size) hne).trans (h1.2.2.2.2 k hk hne)⟩
theorem KeptBut.set {D : Nat} {a w : World} (h : KeptBut D a w) (o : Nat) (v : Value) : KeptBut D a (w.setCell ⟨D, o, none⟩ v) :=
  h.trans ⟨rfl, rfl, rfl, by simp [World.setCell], fun k _ hne => Below.heap_setCell _ _ _ _ hne⟩
theorem KeptBut.alloc {D : Nat} {a w : World} (h : KeptBut D a w) (c : Array Value) (t : TypeId) : KeptBut D a (w.alloc (.cells c t)) :=
  h.trans (.of ((Kept.refl w).alloc c t))
theorem KeptBut.cell {D : Nat} {w w' : World} (h : KeptBut D w w') {b o : Nat} {v : Value} (hb : b ≠ D) (hc : w.cell? ⟨b, o, none⟩ = some v) : w'.cell? ⟨b, o, none⟩ = some v := by
  rw [World.cell?_of_block (w := w) (w' := w') (a := ⟨b, o, none⟩) (h.2.2.2.2 b (World.block_lt_of_cell? w _ hc) hb)]; exact hc
theorem KeptBut.same {D : Nat} {w w' : World} (h : KeptBut D w w') {S : Nat → Prop} (hS : ¬ S D) : Same S w w' :=
  ⟨fun _ _ _ hb hc => h.cell (fun e => hS (e ▸ hb)) hc, fun b _ hb hc hp o => by rw [World.frozen?_of_block (w := w) (w' := w') (a := ⟨b, o, none⟩) (h.2.2.2.2 b (World.block_lt_of_cell? w ⟨b, 0, none⟩ hc) (fun e => hS (e ▸ hb)))]; exact hp o⟩
theorem Open.but {S : Nat → Prop} {D : Nat} {w w' : World} (h : Open S w) (hk : KeptBut D w w') : Open S w' := fun c hc => h c (Nat.le_trans hk.size hc)

/-- A trail: the bytes of its parts, the nearest first. -/
def TrailN (S : Nat → Prop) (w : World) : Nat → Value → List Int → Prop
  | 0, q, ys => q = .pointer none ∧ ys = []
  | n + 1, q, ys => ∃ b p h u xs zs, q = .pointer (some ⟨b, 0, none⟩) ∧ S b ∧ w.cell? ⟨b, 0, none⟩ = some (at_ p) ∧ w.cell? ⟨b, 1, none⟩ = some u ∧ IsPart S w p h xs ∧ TrailN S w n u zs ∧ ys = xs ++ zs
def TrailAt (S : Nat → Prop) (w : World) (q : Value) (ys : List Int) : Prop := ∃ n, TrailN S w n q ys
theorem TrailAt.mono {S : Nat → Prop} {w w' : World} {q : Value} {ys : List Int} (h : TrailAt S w q ys) (hs : Same S w w') : TrailAt S w' q ys := by
  obtain ⟨n, h⟩ := h
  refine ⟨n, ?_⟩
  induction n generalizing q ys with
  | zero => exact h
  | succ n ih =>
    obtain ⟨b, p, hh, u, xs, zs, h1, h2, h3, h4, h5, h6, h7⟩ := h
    exact ⟨b, p, hh, u, xs, zs, h1, h2, hs.1 _ _ _ h2 h3, hs.1 _ _ _ h2 h4, h5.mono hs (fun _ h => h), ih h6, h7⟩
theorem TrailAt.form {S : Nat → Prop} {w : World} {q : Value} {ys : List Int} (h : TrailAt S w q ys) : ∃ a, q = .pointer a := by
  obtain ⟨n, h⟩ := h
  cases n with
  | zero => exact ⟨_, h.1⟩
  | succ n => obtain ⟨b, p, hh, u, xs, zs, h1, _⟩ := h; exact ⟨_, h1⟩
theorem TrailAt.cons {S : Nat → Prop} {w : World} {b p h : Nat} {u : Value} {xs zs : List Int} (hb : S b) (h0 : w.cell? ⟨b, 0, none⟩ = some (at_ p)) (h1 : w.cell? ⟨b, 1, none⟩ = some u) (hp : IsPart S w p h xs) (ht : TrailAt S w u zs) :
    TrailAt S w (.pointer (some ⟨b, 0, none⟩)) (xs ++ zs) := by
  obtain ⟨n, ht⟩ := ht
  exact ⟨n + 1, b, p, h, u, xs, zs, rfl, hb, h0, h1, hp, ht, rfl⟩

/-- A reader in block D. -/
def ReaderAt (S : Nat → Prop) (w : World) (D : Nat) (i : Nat) (piece rest : List Int) : Prop :=
  ¬ S D ∧ (∀ o, w.frozen? ⟨D, o, none⟩ = false) ∧ ∃ v u, w.cell? ⟨D, 0, none⟩ = some (.int .i64 i) ∧ w.cell? ⟨D, 1, none⟩ = some v ∧ w.cell? ⟨D, 2, none⟩ = some (.pointer u) ∧ ListAt S w v piece ∧ TrailAt S w (.pointer u) rest

theorem set_same {w : World} {D o : Nat} {u : Value} (v : Value) (h : w.cell? ⟨D, o, none⟩ = some u) : (w.setCell ⟨D, o, none⟩ v).cell? ⟨D, o, none⟩ = some v :=
  World.cell?_setCell_same' _ _ _ (by rw [h]; rfl)
theorem set_other {w : World} {D o o' : Nat} {u : Value} (v : Value) (hne : o ≠ o') (h : w.cell? ⟨D, o', none⟩ = some u) : (w.setCell ⟨D, o, none⟩ v).cell? ⟨D, o', none⟩ = some u := by
  rw [World.cell?_setCell_other _ _ _ _ (fun e => hne (by injection e))]; exact h

/-- The reader goes down at a part. -/
def Down (S : Nat → Prop) (w w' : World) (D i x h : Nat) (all : List Int) : Prop :=
  (∀ o, w'.frozen? ⟨D, o, none⟩ = false) ∧ KeptBut D w w' ∧ ∃ v u xs zs, w'.cell? ⟨D, 0, none⟩ = some (.int .i64 i) ∧ w'.cell? ⟨D, 1, none⟩ = some v ∧ w'.cell? ⟨D, 2, none⟩ = some (.pointer u) ∧ TrailAt S w' (.pointer u) zs ∧ IsPart S w' x h xs ∧ all = xs ++ zs

theorem down_first {S : Nat → Prop} {w : World} {D i p hh n : Nat} {v : Value} {u q : Option Addr} {xs zs : List Int} (hSD : ¬ S D) (hf : ∀ o, w.frozen? ⟨D, o, none⟩ = false)
    (d0 : w.cell? ⟨D, 0, none⟩ = some (.int .i64 i)) (d1 : w.cell? ⟨D, 1, none⟩ = some v) (d2 : w.cell? ⟨D, 2, none⟩ = some (.pointer u)) (hp : IsPart S w p hh xs) (ht : TrailN S w n (.pointer q) zs) :
    Down S w (w.setCell ⟨D, 2, none⟩ (.pointer q)) D i p hh (xs ++ zs) := by
  have hs : Same S w (w.setCell ⟨D, 2, none⟩ (.pointer q)) := ((KeptBut.refl D w).set 2 _).same hSD
  exact ⟨fun o => by rw [World.frozen?_setCell]; exact hf o, (KeptBut.refl D w).set 2 _, v, q, xs, zs, set_other _ (by decide) d0, set_other _ (by decide) d1, set_same _ d2, TrailAt.mono ⟨n, ht⟩ hs, hp.mono hs (fun _ h => h), rfl⟩

theorem reader_leaf {S : Nat → Prop} {w : World} {D i : Nat} {v vp : Value} {u : Option Addr} {xs zs : List Int} (hSD : ¬ S D) (hf : ∀ o, w.frozen? ⟨D, o, none⟩ = false)
    (d0 : w.cell? ⟨D, 0, none⟩ = some (.int .i64 i)) (d1 : w.cell? ⟨D, 1, none⟩ = some v) (d2 : w.cell? ⟨D, 2, none⟩ = some (.pointer u)) (hv : SliceAt S w vp xs) (ht : TrailAt S w (.pointer u) zs) :
    ReaderAt S (w.setCell ⟨D, 1, none⟩ vp) D i xs zs := by
  have hs : Same S w (w.setCell ⟨D, 1, none⟩ vp) := ((KeptBut.refl D w).set 1 _).same hSD
  exact ⟨hSD, fun o => by rw [World.frozen?_setCell]; exact hf o, vp, u, set_other _ (by decide) d0, set_same _ d1, set_other _ (by decide) d2, Or.inr (hv.mono hs (fun _ h => h)), ht.mono hs⟩

/-- A step down to the left: the right part goes onto the trail. -/
theorem left_step {S : Nat → Prop} {w : World} {D i l r hl hr : Nat} {v : Value} {u : Option Addr} {bl br zs : List Int} (hSn : S w.heap.size) (hSD : ¬ S D) (hf : ∀ o, w.frozen? ⟨D, o, none⟩ = false)
    (d0 : w.cell? ⟨D, 0, none⟩ = some (.int .i64 i)) (d1 : w.cell? ⟨D, 1, none⟩ = some v) (d2 : w.cell? ⟨D, 2, none⟩ = some (.pointer u)) (hp : IsPart S w l hl bl) (hq : IsPart S w r hr br) (ht : TrailAt S w (.pointer u) zs)
    (W : World) (hW : W = (w.setCell ⟨D, 2, none⟩ (.pointer (some ⟨w.heap.size, 0, none⟩))).alloc (.cells #[at_ r, .pointer u] 104)) :
    (∀ o, W.frozen? ⟨D, o, none⟩ = false) ∧ KeptBut D w W ∧ W.cell? ⟨D, 0, none⟩ = some (.int .i64 i) ∧ W.cell? ⟨D, 1, none⟩ = some v ∧ W.cell? ⟨D, 2, none⟩ = some (.pointer (some ⟨w.heap.size, 0, none⟩)) ∧
      TrailAt S W (.pointer (some ⟨w.heap.size, 0, none⟩)) (br ++ zs) ∧ IsPart S W l hl bl := by
  obtain ⟨W1, hW1⟩ : ∃ W1, W1 = w.setCell ⟨D, 2, none⟩ (.pointer (some ⟨w.heap.size, 0, none⟩)) := ⟨_, rfl⟩
  have hk1 : KeptBut D w W1 := by rw [hW1]; exact (KeptBut.refl D w).set 2 _
  have hsz : W1.heap.size = w.heap.size := by rw [hW1]; simp [World.setCell]
  have e0 : W1.cell? ⟨D, 0, none⟩ = some (.int .i64 i) := by rw [hW1]; exact set_other _ (by decide) d0
  have e1 : W1.cell? ⟨D, 1, none⟩ = some v := by rw [hW1]; exact set_other _ (by decide) d1
  have e2 : W1.cell? ⟨D, 2, none⟩ = some (.pointer (some ⟨w.heap.size, 0, none⟩)) := by rw [hW1]; exact set_same _ d2
  have hf1 : ∀ o, W1.frozen? ⟨D, o, none⟩ = false := fun o => by rw [hW1, World.frozen?_setCell]; exact hf o
  rw [← hW1] at hW
  subst hW
  clear hW1
  have ha : Kept W1 (W1.alloc (.cells #[at_ r, .pointer u] 104)) := (Kept.refl W1).alloc _ _
  have hs : Same S w (W1.alloc (.cells #[at_ r, .pointer u] 104)) := (hk1.same hSD).trans (Kept.same ha S)
  refine ⟨fun o => ?_, hk1.alloc _ _, grown_cell ha e0, grown_cell ha e1, grown_cell ha e2, ?_, hp.mono hs (fun _ h => h)⟩
  · rw [ha.below.frozen (p := ⟨D, o, none⟩) (show D < W1.heap.size from World.block_lt_of_cell? W1 ⟨D, 0, none⟩ e0)]; exact hf1 o
  · refine TrailAt.cons hSn ?_ ?_ (hq.mono hs (fun _ h => h)) (ht.mono hs)
    · rw [← hsz]; simp
    · rw [← hsz]; simp

theorem down_left {S : Nat → Prop} {w0 w : World} {D i l r hl hr : Nat} {v : Value} {u : Option Addr} {bl br zs : List Int} (hS : Open S w) (hSD : ¬ S D) (hk : KeptBut D w0 w) (hf : ∀ o, w.frozen? ⟨D, o, none⟩ = false)
    (d0 : w.cell? ⟨D, 0, none⟩ = some (.int .i64 i)) (d1 : w.cell? ⟨D, 1, none⟩ = some v) (d2 : w.cell? ⟨D, 2, none⟩ = some (.pointer u)) (hp : IsPart S w l hl bl) (hq : IsPart S w r hr br) (ht : TrailAt S w (.pointer u) zs) :
    Down S w0 ((w.setCell ⟨D, 2, none⟩ (.pointer (some ⟨w.heap.size, 0, none⟩))).alloc (.cells #[at_ r, .pointer u] 104)) D i l hl ((bl ++ br) ++ zs) := by
  obtain ⟨h1, h2, h3, h4, h5, h6, h7⟩ := left_step (hS _ (Nat.le_refl _)) hSD hf d0 d1 d2 hp hq ht _ rfl
  exact ⟨h1, hk.trans h2, v, _, bl, br ++ zs, h3, h4, h5, h6, h7, by rw [List.append_assoc]⟩

theorem KeptBut.kept {D : Nat} {w w' : World} (h : KeptBut D w w') (hD : w.heap.size ≤ D) : Kept w w' :=
  ⟨h.1, h.2.1, h.2.2.1, h.2.2.2.1, fun k hk => h.2.2.2.2 k hk (by omega)⟩

theorem Down.drew {S : Nat → Prop} {w w' : World} {D i x h : Nat} {all : List Int} (hd : Down S w w' D i x h all) : Down S w w'.drew D i x h all := by
  obtain ⟨h1, h2, v, u, xs, zs, h3, h4, h5, h6, h7, h8⟩ := hd
  have hs : Same S w' w'.drew := ⟨fun _ _ _ _ hc => hc, fun _ _ _ _ hc => hc⟩
  exact ⟨h1, h2, v, u, xs, zs, h3, h4, h5, h6.mono hs, h7.mono hs (fun _ h => h), h8⟩

end Rope
end Go.Proofs.Ythjagnnbhpfpoaa
