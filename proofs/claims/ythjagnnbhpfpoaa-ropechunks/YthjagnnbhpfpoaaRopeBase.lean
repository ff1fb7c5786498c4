import Derived.WalkKit
import Derived.Deep.MidRow
namespace Go.Proofs.Ythjagnnbhpfpoaa
open Go.RowKit
namespace Rope

/-- How many bytes 10 there are. -/
def ends (bs : List Int) : Nat := bs.count 10
theorem ends_append (a b : List Int) : ends (a ++ b) = ends a + ends b := List.count_append
theorem ends_nil : ends [] = 0 := rfl
theorem ends_le (a : List Int) : ends a ≤ a.length := List.count_le_length

/-- Each is a byte. -/
def Byt (bs : List Int) : Prop := ∀ x ∈ bs, 0 ≤ x ∧ x ≤ 255
theorem Byt.append {a b : List Int} (h1 : Byt a) (h2 : Byt b) : Byt (a ++ b) := fun x hx => (List.mem_append.1 hx).elim (h1 x) (h2 x)
theorem Byt.take {a : List Int} (h : Byt a) (n : Nat) : Byt (a.take n) := fun x hx => h x (List.mem_of_mem_take hx)
theorem Byt.drop {a : List Int} (h : Byt a) (n : Nat) : Byt (a.drop n) := fun x hx => h x (List.mem_of_mem_drop hx)

/-- v reads the bytes bs, off blocks of S. -/
def SliceAt (S : Nat → Prop) (w : World) (v : Value) (bs : List Int) : Prop :=
  ∃ c o cap, v = .slice (some ⟨c, o, none⟩) bs.length cap ∧ bs.length ≤ cap ∧ S c ∧ (∀ j x, bs[j]? = some x → w.cell? ⟨c, o + j, none⟩ = some (.int .u8 x)) ∧ Byt bs

theorem SliceAt.parts {S : Nat → Prop} {w : World} {c o n cap : Nat} {bs : List Int} (h : SliceAt S w (.slice (some ⟨c, o, none⟩) n cap) bs) :
    n = bs.length ∧ n ≤ cap ∧ S c ∧ (∀ j x, bs[j]? = some x → w.cell? ⟨c, o + j, none⟩ = some (.int .u8 x)) ∧ Byt bs := by
  obtain ⟨c', o', cap', he, h1, h2, h3, h4⟩ := h
  simp only [Value.slice.injEq, Option.some.injEq, Addr.mk.injEq] at he
  obtain ⟨⟨rfl, rfl, _⟩, rfl, rfl⟩ := he
  exact ⟨rfl, h1, h2, h3, h4⟩

/-- Nothing of block b is frozen. -/
def Plain (w : World) (b : Nat) : Prop := ∀ o, w.frozen? ⟨b, o, none⟩ = false

/-- The six cells of a part. -/
def CellsAt (w : World) (b : Nat) (l r v : Value) (h n m : Nat) : Prop :=
  w.cell? ⟨b, 0, none⟩ = some l ∧ w.cell? ⟨b, 1, none⟩ = some r ∧ w.cell? ⟨b, 2, none⟩ = some v ∧ w.cell? ⟨b, 3, none⟩ = some (.int .i64 h) ∧
  w.cell? ⟨b, 4, none⟩ = some (.int .i64 n) ∧ w.cell? ⟨b, 5, none⟩ = some (.int .i64 m) ∧ Plain w b

def LeafAt (S : Nat → Prop) (w : World) (b : Nat) (bs : List Int) : Prop :=
  S b ∧ bs ≠ [] ∧ ∃ v, CellsAt w b (.pointer none) (.pointer none) v 0 bs.length (ends bs) ∧ SliceAt S w v bs

/-- The pointer to a part. -/
def at_ (b : Nat) : Value := .pointer (some ⟨b, 0, none⟩)

def PartAt (S : Nat → Prop) (w : World) : Nat → Nat → Nat → List Int → Prop
  | 0, b, h, bs => h = 0 ∧ LeafAt S w b bs
  | n + 1, b, h, bs => (h = 0 ∧ LeafAt S w b bs) ∨
      ∃ l r hl hr bl br, S b ∧ bs = bl ++ br ∧ h = max hl hr + 1 ∧ CellsAt w b (at_ l) (at_ r) (.slice none 0 0) h bs.length (ends bs) ∧
        PartAt S w n l hl bl ∧ PartAt S w n r hr br

def IsPart (S : Nat → Prop) (w : World) (b h : Nat) (bs : List Int) : Prop := ∃ n, PartAt S w n b h bs

theorem PartAt.up {S : Nat → Prop} {w : World} : ∀ {n b h : Nat} {bs : List Int}, PartAt S w n b h bs → PartAt S w (n + 1) b h bs := by
  intro n
  induction n with
  | zero => intro b h bs hp; exact Or.inl hp
  | succ n ih =>
    intro b h bs hp
    rcases hp with hp | ⟨l, r, hl, hr, bl, br, h1, h2, h3, h4, h5, h6⟩
    · exact Or.inl hp
    · exact Or.inr ⟨l, r, hl, hr, bl, br, h1, h2, h3, h4, ih h5, ih h6⟩

theorem PartAt.upto {S : Nat → Prop} {w : World} {n b h : Nat} {bs : List Int} (hp : PartAt S w n b h bs) : ∀ m, PartAt S w (n + m) b h bs := by
  intro m
  induction m with
  | zero => exact hp
  | succ m ih => exact ih.up

theorem IsPart.leaf {S : Nat → Prop} {w : World} {b : Nat} {bs : List Int} (h : LeafAt S w b bs) : IsPart S w b 0 bs := ⟨0, rfl, h⟩

theorem IsPart.node {S : Nat → Prop} {w : World} {b l r hl hr : Nat} {bl br : List Int} (hS : S b)
    (hc : CellsAt w b (at_ l) (at_ r) (.slice none 0 0) (max hl hr + 1) (bl ++ br).length (ends (bl ++ br)))
    (h1 : IsPart S w l hl bl) (h2 : IsPart S w r hr br) : IsPart S w b (max hl hr + 1) (bl ++ br) := by
  obtain ⟨n, h1⟩ := h1
  obtain ⟨m, h2⟩ := h2
  refine ⟨n + m + 1, Or.inr ⟨l, r, hl, hr, bl, br, hS, rfl, rfl, hc, h1.upto m, ?_⟩⟩
  rw [Nat.add_comm n m]; exact h2.upto n

theorem IsPart.cases {S : Nat → Prop} {w : World} {b h : Nat} {bs : List Int} (hp : IsPart S w b h bs) :
    (h = 0 ∧ LeafAt S w b bs) ∨ ∃ l r hl hr bl br, S b ∧ bs = bl ++ br ∧ h = max hl hr + 1 ∧ CellsAt w b (at_ l) (at_ r) (.slice none 0 0) h bs.length (ends bs) ∧ IsPart S w l hl bl ∧ IsPart S w r hr br := by
  obtain ⟨n, hp⟩ := hp
  cases n with
  | zero => exact Or.inl hp
  | succ n =>
    rcases hp with hp | ⟨l, r, hl, hr, bl, br, h1, h2, h3, h4, h5, h6⟩
    · exact Or.inl hp
    · exact Or.inr ⟨l, r, hl, hr, bl, br, h1, h2, h3, h4, ⟨n, h5⟩, ⟨n, h6⟩⟩

theorem IsPart.ne {S : Nat → Prop} {w : World} {b h : Nat} {bs : List Int} (hp : IsPart S w b h bs) : bs ≠ [] := by
  obtain ⟨n, hp⟩ := hp
  induction n generalizing b h bs with
  | zero => exact hp.2.2.1
  | succ n ih =>
    rcases hp with hp | ⟨l, r, hl, hr, bl, br, h1, h2, h3, h4, h5, h6⟩
    · exact hp.2.2.1
    · rw [h2]; have := ih h5; simp [this]

theorem IsPart.byt {S : Nat → Prop} {w : World} {b h : Nat} {bs : List Int} (hp : IsPart S w b h bs) : Byt bs := by
  obtain ⟨n, hp⟩ := hp
  induction n generalizing b h bs with
  | zero => obtain ⟨_, _, _, v, _, c, o, cap, _, _, _, _, hb⟩ := hp; exact hb
  | succ n ih =>
    rcases hp with hp | ⟨l, r, hl, hr, bl, br, h1, h2, h3, h4, h5, h6⟩
    · obtain ⟨_, _, _, v, _, c, o, cap, _, _, _, _, hb⟩ := hp; exact hb
    · rw [h2]; exact (ih h5).append (ih h6)

/-- A part is no higher than it has bytes. -/
theorem IsPart.high {S : Nat → Prop} {w : World} {b h : Nat} {bs : List Int} (hp : IsPart S w b h bs) : h < bs.length := by
  obtain ⟨n, hp⟩ := hp
  induction n generalizing b h bs with
  | zero => have := hp.2.2.1; rw [hp.1]; exact List.length_pos_iff.2 this
  | succ n ih =>
    rcases hp with hp | ⟨l, r, hl, hr, bl, br, h1, h2, h3, h4, h5, h6⟩
    · have := hp.2.2.1; rw [hp.1]; exact List.length_pos_iff.2 this
    · have a := ih h5; have c := ih h6; rw [h2, List.length_append]; omega

/-- The cells of a part, whatever it is. -/
theorem IsPart.cells {S : Nat → Prop} {w : World} {b h : Nat} {bs : List Int} (hp : IsPart S w b h bs) :
    S b ∧ ∃ l r v, CellsAt w b l r v h bs.length (ends bs) := by
  rcases hp.cases with ⟨rfl, h1, _, v, hc, _⟩ | ⟨l, r, hl, hr, bl, br, hS, _, _, hc, _⟩
  · exact ⟨h1, _, _, v, hc⟩
  · exact ⟨hS, _, _, _, hc⟩

/-- What S's blocks hold in the one world they hold in the other. -/
def Same (S : Nat → Prop) (w w' : World) : Prop :=
  (∀ b o v, S b → w.cell? ⟨b, o, none⟩ = some v → w'.cell? ⟨b, o, none⟩ = some v) ∧ ∀ b v, S b → w.cell? ⟨b, 0, none⟩ = some v → Plain w b → Plain w' b
theorem Same.refl (S : Nat → Prop) (w : World) : Same S w w := ⟨fun _ _ _ _ h => h, fun _ _ _ _ h => h⟩
theorem Same.trans {S : Nat → Prop} {w w1 w2 : World} (h1 : Same S w w1) (h2 : Same S w1 w2) : Same S w w2 :=
  ⟨fun b o v hS h => h2.1 b o v hS (h1.1 b o v hS h), fun b v hS h hp => h2.2 b v hS (h1.1 b 0 v hS h) (h1.2 b v hS h hp)⟩

theorem SliceAt.mono {S S' : Nat → Prop} {w w' : World} {v : Value} {bs : List Int} (h : SliceAt S w v bs) (hs : Same S w w') (hS : ∀ b, S b → S' b) : SliceAt S' w' v bs := by
  obtain ⟨c, o, cap, h1, h2, h3, h4, h5⟩ := h
  exact ⟨c, o, cap, h1, h2, hS c h3, fun j x hx => hs.1 _ _ _ h3 (h4 j x hx), h5⟩

theorem CellsAt.mono {S : Nat → Prop} {w w' : World} {b h n m : Nat} {l r v : Value} (hb : S b) (hs : Same S w w') (hc : CellsAt w b l r v h n m) : CellsAt w' b l r v h n m :=
  ⟨hs.1 _ _ _ hb hc.1, hs.1 _ _ _ hb hc.2.1, hs.1 _ _ _ hb hc.2.2.1, hs.1 _ _ _ hb hc.2.2.2.1, hs.1 _ _ _ hb hc.2.2.2.2.1, hs.1 _ _ _ hb hc.2.2.2.2.2.1, hs.2 _ _ hb hc.1 hc.2.2.2.2.2.2⟩

theorem LeafAt.mono {S S' : Nat → Prop} {w w' : World} {b : Nat} {bs : List Int} (h : LeafAt S w b bs) (hs : Same S w w') (hS : ∀ b, S b → S' b) : LeafAt S' w' b bs := by
  obtain ⟨h1, h2, v, h3, h4⟩ := h
  exact ⟨hS b h1, h2, v, h3.mono h1 hs, h4.mono hs hS⟩

theorem IsPart.mono {S S' : Nat → Prop} {w w' : World} {b h : Nat} {bs : List Int} (hp : IsPart S w b h bs) (hs : Same S w w') (hS : ∀ b, S b → S' b) : IsPart S' w' b h bs := by
  obtain ⟨n, hp⟩ := hp
  refine ⟨n, ?_⟩
  induction n generalizing b h bs with
  | zero => exact ⟨hp.1, hp.2.mono hs hS⟩
  | succ n ih =>
    rcases hp with hp | ⟨l, r, hl, hr, bl, br, h1, h2, h3, h4, h5, h6⟩
    · exact Or.inl ⟨hp.1, hp.2.mono hs hS⟩
    · exact Or.inr ⟨l, r, hl, hr, bl, br, hS b h1, h2, h3, h4.mono h1 hs, ih h5, ih h6⟩

/-- All that lay in w lies in w' as it lay. -/
def Kept (w w' : World) : Prop :=
  w'.os = w.os ∧ w'.tape = w.tape ∧ w'.output = w.output ∧ w.heap.size ≤ w'.heap.size ∧ ∀ k, k < w.heap.size → w'.heap[k]? = w.heap[k]?
theorem Kept.below {w w' : World} (h : Kept w w') : Below w.heap.size w w' := ⟨h.1, h.2.1, h.2.2.1, h.2.2.2.1, h.2.2.2.2⟩
theorem Kept.of {w w' : World} (h : Below w.heap.size w w') : Kept w w' := ⟨h.os, h.tape, h.output, h.size, h.block⟩
theorem Kept.size {w w' : World} (h : Kept w w') : w.heap.size ≤ w'.heap.size := h.2.2.2.1
theorem Kept.refl (w : World) : Kept w w := Kept.of (Below.refl _ _)
theorem gtrans {a b c : World} (h1 : Kept a b) (h2 : Kept b c) : Kept a c := Kept.of (h1.below.trans (h2.below.mono h1.size))
theorem Kept.alloc {W w' : World} (h : Kept W w') (c : Array Value) (t : TypeId) : Kept W (w'.alloc (.cells c t)) := Kept.of (h.below.alloc h.size _)
theorem Kept.setCell {W w' : World} (h : Kept W w') {a : Addr} (ha : W.heap.size ≤ a.block) (v : Value) : Kept W (w'.setCell a v) := Kept.of (h.below.setCell ha v)

theorem grown_cell {w w' : World} (h : Kept w w') {b o : Nat} {v : Value} (hc : w.cell? ⟨b, o, none⟩ = some v) : w'.cell? ⟨b, o, none⟩ = some v := by
  rw [h.below.cell (p := ⟨b, o, none⟩) (World.block_lt_of_cell? w _ hc)]; exact hc

theorem Kept.same {w w' : World} (h : Kept w w') (S : Nat → Prop) : Same S w w' :=
  ⟨fun _ _ _ _ hc => grown_cell h hc, fun b _ _ hc hp o => by rw [h.below.frozen (p := ⟨b, o, none⟩) (World.block_lt_of_cell? w ⟨b, 0, none⟩ hc)]; exact hp o⟩

/-- S and all blocks from n on. -/
def Up (S : Nat → Prop) (n : Nat) : Nat → Prop := fun b => S b ∨ n ≤ b
theorem Up.in {S : Nat → Prop} {n : Nat} : ∀ b, S b → Up S n b := fun _ h => .inl h
theorem Up.le {S : Nat → Prop} {n m : Nat} (h : m ≤ n) : ∀ b, Up S n b → Up S m b := fun _ hb => hb.elim .inl (fun hb => .inr (Nat.le_trans h hb))

/-- All blocks that are made from here on are S's. -/
def Open (S : Nat → Prop) (w : World) : Prop := ∀ c, w.heap.size ≤ c → S c
theorem Open.up (S : Nat → Prop) (w : World) : Open (Up S w.heap.size) w := fun _ h => .inr h
theorem Open.grown {S : Nat → Prop} {w w' : World} (h : Open S w) (hg : Kept w w') : Open S w' := fun c hc => h c (Nat.le_trans hg.size hc)

theorem IsPart.grown {S : Nat → Prop} {w w' : World} {b h : Nat} {bs : List Int} (hp : IsPart S w b h bs) (hg : Kept w w') : IsPart S w' b h bs :=
  hp.mono (Kept.same hg S) (fun _ h => h)
theorem IsPart.wide {S S' : Nat → Prop} {w : World} {b h : Nat} {bs : List Int} (hp : IsPart S w b h bs) (hS : ∀ b, S b → S' b) : IsPart S' w b h bs :=
  hp.mono (Same.refl _ _) hS

/-- A part or nothing. -/
def TreeAt (S : Nat → Prop) (w : World) (p : Value) (bs : List Int) : Prop :=
  (p = .pointer none ∧ bs = []) ∨ ∃ b h, p = at_ b ∧ IsPart S w b h bs
theorem TreeAt.mono {S S' : Nat → Prop} {w w' : World} {p : Value} {bs : List Int} (hp : TreeAt S w p bs) (hs : Same S w w') (hS : ∀ b, S b → S' b) : TreeAt S' w' p bs := by
  rcases hp with hp | ⟨b, h, h1, h2⟩
  · exact Or.inl hp
  · exact Or.inr ⟨b, h, h1, h2.mono hs hS⟩
theorem TreeAt.grown {S : Nat → Prop} {w w' : World} {p : Value} {bs : List Int} (hp : TreeAt S w p bs) (hg : Kept w w') : TreeAt S w' p bs :=
  hp.mono (Kept.same hg S) (fun _ h => h)
theorem TreeAt.wide {S S' : Nat → Prop} {w : World} {p : Value} {bs : List Int} (hp : TreeAt S w p bs) (hS : ∀ b, S b → S' b) : TreeAt S' w p bs :=
  hp.mono (Same.refl _ _) hS

theorem SliceAt.of {S : Nat → Prop} {w : World} {c o n cap : Nat} {bs : List Int} (h : n = bs.length) (h1 : n ≤ cap) (h2 : S c) (h3 : ∀ j x, bs[j]? = some x → w.cell? ⟨c, o + j, none⟩ = some (.int .u8 x)) (h4 : Byt bs) :
    SliceAt S w (.slice (some ⟨c, o, none⟩) n cap) bs := by
  subst h; exact ⟨c, o, cap, rfl, h1, h2, h3, h4⟩
theorem SliceAt.take {S : Nat → Prop} {w : World} {c o n cap : Nat} {bs : List Int} (h : SliceAt S w (.slice (some ⟨c, o, none⟩) n cap) bs) (k : Nat) (hk : k ≤ n) :
    SliceAt S w (.slice (some ⟨c, o, none⟩) k cap) (bs.take k) := by
  obtain ⟨h0, h1, h2, h3, h4⟩ := h.parts
  refine .of (by simp; omega) (by omega) h2 (fun j x hx => ?_) (h4.take k)
  rw [List.getElem?_take] at hx
  split at hx
  · exact h3 j x hx
  · cases hx
theorem SliceAt.drop {S : Nat → Prop} {w : World} {c o n cap : Nat} {bs : List Int} (h : SliceAt S w (.slice (some ⟨c, o, none⟩) n cap) bs) (k : Nat) (hk : k ≤ n) :
    SliceAt S w (.slice (some ⟨c, o + k, none⟩) (n - k) (cap - k)) (bs.drop k) := by
  obtain ⟨h0, h1, h2, h3, h4⟩ := h.parts
  refine .of (by simp; omega) (by omega) h2 (fun j x hx => ?_) (h4.drop k)
  rw [List.getElem?_drop] at hx
  rw [Nat.add_assoc]
  exact h3 (k + j) x hx

/-- A list of bytes that a call is handed: nil, or of cells. -/
def ListAt (S : Nat → Prop) (w : World) (v : Value) (bs : List Int) : Prop :=
  (bs = [] ∧ ∃ a cap, v = .slice a 0 cap) ∨ SliceAt S w v bs

end Rope
end Go.Proofs.Ythjagnnbhpfpoaa
