import Derived.Test.YthjagnnbhpfpoaaRopeRange
import Derived.Test.YthjagnnbhpfpoaaRopeMore
import Derived.Test.YthjagnnbhpfpoaaRopeTake
import Derived.OwnWalkIn
import Derived.TacticsInMore
import Derived.LoopNIn
import Derived.LoopIn
namespace Go.Proofs.Ythjagnnbhpfpoaa
open Go.RowKit
namespace Rope

/-- All blocks of cells but X's are as they were. -/
def Keeps (X : Nat → Prop) (W W' : World) : Prop := W.heap.size ≤ W'.heap.size ∧ ∀ k o, W.heap[k]? = some o → o.isCells = true → ¬ X k → W'.heap[k]? = some o
theorem Keeps.trans {X : Nat → Prop} {A B C : World} (h1 : Keeps X A B) (h2 : Keeps X B C) : Keeps X A C :=
  ⟨Nat.le_trans h1.1 h2.1, fun k o hk ho hx => h2.2 k o (h1.2 k o hk ho hx) ho hx⟩
theorem Keeps.put {X : Nat → Prop} {W : World} {l : Nat} {o : Obj} (o' : Obj) (hl : W.heap[l]? = some o) (ho : o.isCells = false) : Keeps X W (W.putObj l o') :=
  ⟨by simp, fun k p hk hp _ => by
    rw [World.putObj_heap_other (fun e => ?_)]
    · exact hk
    · rw [e, hl] at hk; cases hk; rw [ho] at hp; cases hp⟩
theorem Keeps.block {X : Nat → Prop} {W W' : World} (h : Keeps X W W') {b o : Nat} {v : Value} (hx : ¬ X b) (hc : W.cell? ⟨b, o, none⟩ = some v) : W'.heap[b]? = W.heap[b]? := by
  unfold World.cell? at hc
  simp only at hc
  cases hb : W.heap[b]? with
  | none => rw [hb] at hc; cases hc
  | some p =>
    rw [hb] at hc
    cases p with
    | cells c t fr => exact h.2 b _ hb rfl hx
    | _ => cases hc
theorem Keeps.cell {X : Nat → Prop} {W W' : World} (h : Keeps X W W') {b o : Nat} {v : Value} (hx : ¬ X b) (hc : W.cell? ⟨b, o, none⟩ = some v) : W'.cell? ⟨b, o, none⟩ = some v := by
  rw [World.cell?_of_block (w := W) (a := ⟨b, o, none⟩) (h.block hx hc)]; exact hc
theorem Keeps.frozen {X : Nat → Prop} {W W' : World} (h : Keeps X W W') {b o : Nat} {v : Value} (hx : ¬ X b) (hc : W.cell? ⟨b, o, none⟩ = some v) (p : Nat) : W'.frozen? ⟨b, p, none⟩ = W.frozen? ⟨b, p, none⟩ :=
  World.frozen?_of_block (w := W) (a := ⟨b, p, none⟩) (h.block hx hc)
theorem Keeps.same {X S : Nat → Prop} {W W' : World} (h : Keeps X W W') (hS : ∀ b, S b → ¬ X b) : Same S W W' :=
  ⟨fun b _ _ hb hc => h.cell (hS b hb) hc, fun b _ hb hc hp o => by rw [h.frozen (hS b hb) hc]; exact hp o⟩

theorem ReaderAt.keeps {X S : Nat → Prop} {W W' : World} {D i : Nat} {pc rs : List Int} (h : ReaderAt S W D i pc rs) (hk : Keeps X W W') (hS : ∀ b, S b → ¬ X b) (hD : ¬ X D) : ReaderAt S W' D i pc rs := by
  obtain ⟨h1, h2, v, u, h3, h4, h5, h6, h7⟩ := h
  have hs := hk.same hS
  refine ⟨h1, fun o => by rw [hk.frozen hD h3]; exact h2 o, v, u, hk.cell hD h3, hk.cell hD h4, hk.cell hD h5, ?_, h7.mono hs⟩
  rcases h6 with h6 | h6
  · exact Or.inl h6
  · exact Or.inr (h6.mono hs (fun _ h => h))

theorem IsPart.tight {S : Nat → Prop} {w : World} {b h : Nat} {bs : List Int} (hp : IsPart S w b h bs) : IsPart (fun x => S x ∧ x < w.heap.size) w b h bs := by
  obtain ⟨n, hp⟩ := hp
  refine ⟨n, ?_⟩
  have leaf : ∀ {b : Nat} {bs : List Int}, LeafAt S w b bs → LeafAt (fun x => S x ∧ x < w.heap.size) w b bs := by
    rintro b bs ⟨h1, h2, v, h3, c, o, cap, h4, h5, h6, h7, h8⟩
    refine ⟨⟨h1, World.block_lt_of_cell? w ⟨b, 0, none⟩ h3.1⟩, h2, v, h3, c, o, cap, h4, h5, ⟨h6, ?_⟩, h7, h8⟩
    cases bs with
    | nil => exact absurd rfl h2
    | cons x r => exact World.block_lt_of_cell? w ⟨c, o + 0, none⟩ (h7 0 x rfl)
  induction n generalizing b h bs with
  | zero => exact ⟨hp.1, leaf hp.2⟩
  | succ n ih =>
    rcases hp with hp | ⟨l, r, hl, hr, bl, br, h1, h2, h3, h4, h5, h6⟩
    · exact Or.inl ⟨hp.1, leaf hp.2⟩
    · exact Or.inr ⟨l, r, hl, hr, bl, br, ⟨h1, World.block_lt_of_cell? w ⟨b, 0, none⟩ h4.1⟩, h2, h3, h4, ih h5, ih h6⟩
theorem RopeAt.tight {S : Nat → Prop} {w : World} {r : Value} {xs : List Int} (h : RopeAt S w r xs) : RopeAt (fun x => S x ∧ x < w.heap.size) w r xs := by
  obtain ⟨b, p, h1, h2, h3, h4, h5⟩ := h
  refine ⟨b, p, h1, ⟨h2, World.block_lt_of_cell? w ⟨b, 0, none⟩ h3⟩, h3, ?_, h5⟩
  rcases h4 with h4 | ⟨c, hh, h6, h7⟩
  · exact Or.inl h4
  · exact Or.inr ⟨c, hh, h6, h7.tight⟩

/-- reader, of any rope. -/
theorem reader_rope (S : Nat → Prop) (r : Value) (i : Nat) (xs : List Int) (w : World) (h : RopeAt S w r xs) (hS : ∀ c, w.heap.size < c → S c) (hD : ¬ S w.heap.size) (hi : i ≤ xs.length) :
    Calls Try.prog 40 #[r, .int .i64 i] w fun e w' => e = .returned (.pointer (some ⟨w.heap.size, 0, none⟩)) ∧ Kept w w' ∧ ∃ pc rs, ReaderAt S w' w.heap.size i pc rs ∧ pc ++ rs = xs.drop i := by
  obtain ⟨b, p, rfl, _, c0, hp, hl⟩ := h
  rcases hp with ⟨rfl, rfl⟩ | ⟨a, hh, rfl, hp⟩
  · obtain rfl : i = 0 := by simpa using hi
    refine (reader_nil S b w hD c0).mono ?_
    rintro e w' ⟨rfl, hk, hr⟩
    exact ⟨rfl, hk, [], [], hr, rfl⟩
  · exact reader_part S b a hh i xs w hS hD c0 hp hi (by omega)

/-- more, of any reader. -/
theorem more_any (S : Nat → Prop) (D i : Nat) (pc rs : List Int) (w : World) (hS : Open S w) (h : ReaderAt S w D i pc rs) :
    Calls Try.prog 41 #[.pointer (some ⟨D, 0, none⟩)] w fun e w' => e = .returned (.bool (!(pc ++ rs).isEmpty)) ∧ KeptBut D w w' ∧ ∃ pc' rs', ReaderAt S w' D i pc' rs' ∧ (pc ++ rs ≠ [] → pc' ≠ []) ∧ pc' ++ rs' = pc ++ rs := by
  by_cases h1 : pc = []
  · subst h1
    by_cases h2 : rs = []
    · subst h2
      refine (more_end S D i w h).mono ?_
      rintro e w' ⟨rfl, rfl⟩
      exact ⟨rfl, KeptBut.refl _ _, [], [], h, fun h => h, rfl⟩
    · refine (more_next S D i rs w hS h h2).mono ?_
      rintro e w' ⟨rfl, hk, pc', rs', hr, hne, he⟩
      refine ⟨?_, hk, pc', rs', hr, fun _ => hne, he.symm⟩
      cases rs with
      | nil => exact absurd rfl h2
      | cons => rfl
  · refine (more_has S D i pc rs w h h1).mono ?_
    rintro e w' ⟨rfl, rfl⟩
    refine ⟨?_, KeptBut.refl _ _, pc, rs, h, fun _ => h1, rfl⟩
    cases pc with
    | nil => exact absurd rfl h1
    | cons => rfl

end Rope
end Go.Proofs.Ythjagnnbhpfpoaa
