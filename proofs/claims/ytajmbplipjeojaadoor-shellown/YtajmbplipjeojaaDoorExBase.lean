import Derived.Test.YtajmbplipjeojaaDoorRows
import Derived.WalkKit
import Derived.ProofKit
import Derived.Deep.MidRow
import Derived.Deep.QuietTactic
import Derived.BigQuiet
namespace Go.Proofs.YtajmbplipjeojaaDoor
open Go.RowKit
namespace Ex

/-- A hypothesis that the walk does not look into. -/
def Hid (p : Prop) : Prop := p
theorem hide1 {p : Prop} (h : p) : Hid p := h
theorem Hid.out {p : Prop} (h : Hid p) : p := h
/-- All that lay in w lies in w' as it lay. -/
def Kept (w w' : World) : Prop :=
  w'.os = w.os ∧ w'.tape = w.tape ∧ w'.output = w.output ∧ w.heap.size ≤ w'.heap.size ∧ ∀ k, k < w.heap.size → w'.heap[k]? = w.heap[k]?
theorem Kept.below {w w' : World} (h : Kept w w') : Below w.heap.size w w' := ⟨h.1, h.2.1, h.2.2.1, h.2.2.2.1, h.2.2.2.2⟩
theorem Kept.of {w w' : World} (h : Below w.heap.size w w') : Kept w w' := ⟨h.os, h.tape, h.output, h.size, h.block⟩
theorem Kept.size {w w' : World} (h : Kept w w') : w.heap.size ≤ w'.heap.size := h.2.2.2.1
theorem Kept.refl (w : World) : Kept w w := Kept.of (Below.refl _ _)
theorem gtrans {a b c : World} (h1 : Kept a b) (h2 : Kept b c) : Kept a c := Kept.of (h1.below.trans (h2.below.mono h1.size))
theorem Kept.alloc {W w' : World} (h : Kept W w') (c : Array Value) (t : TypeId) : Kept W (w'.alloc (.cells c t)) := Kept.of (h.below.alloc h.size _)
theorem grown_cell {w w' : World} (h : Kept w w') {b o : Nat} {v : Value} (hc : w.cell? ⟨b, o, none⟩ = some v) : w'.cell? ⟨b, o, none⟩ = some v := by
  rw [h.below.cell (p := ⟨b, o, none⟩) (World.block_lt_of_cell? w _ hc)]; exact hc
theorem keeps {w : World} {a o : Nat} {v : Value} (h : w.cell? ⟨a, o, none⟩ = some v) : ∀ W, Kept w W → W.cell? ⟨a, o, none⟩ = some v := fun _ hg => grown_cell hg h
theorem drew_kept (w : World) : Kept w w.drew := Kept.of ((Below.refl _ _).drew)
theorem drewN_kept (w : World) (n : Nat) : Kept w (w.drewN n) := ⟨rfl, rfl, rfl, Nat.le_refl _, fun _ _ => rfl⟩

/-- Patterns of at most n levels: kind, from, to, min, max, list. -/
def PatN : Nat → Type
  | 0 => Empty
  | n + 1 => Int × Int × Int × Int × Int × List (PatN n)
section
variable {n : Nat}
def kind (p : PatN (n + 1)) : Int := (show Int × Int × Int × Int × Int × List (PatN n) from p).1
def from_ (p : PatN (n + 1)) : Int := (show Int × Int × Int × Int × Int × List (PatN n) from p).2.1
def to_ (p : PatN (n + 1)) : Int := (show Int × Int × Int × Int × Int × List (PatN n) from p).2.2.1
def min_ (p : PatN (n + 1)) : Int := (show Int × Int × Int × Int × Int × List (PatN n) from p).2.2.2.1
def max_ (p : PatN (n + 1)) : Int := (show Int × Int × Int × Int × Int × List (PatN n) from p).2.2.2.2.1
def kids (p : PatN (n + 1)) : List (PatN n) := (show Int × Int × Int × Int × Int × List (PatN n) from p).2.2.2.2.2
/-- The pattern as a value; v': its list. -/
def valOf (p : PatN (n + 1)) (v' : Value) : Value := .agg #[.int .i64 (kind p), .int .i64 (from_ p), .int .i64 (to_ p), .int .i64 (min_ p), .int .i64 (max_ p), v']
end
theorem none_of (l : List (PatN 0)) : l = [] := by
  cases l with
  | nil => rfl
  | cons x _ => exact (show Empty from x).elim

/-- A list of patterns in memory (in the blocks S). -/
def KidsAt (S : Nat → Prop) (w : World) : (n : Nat) → List (PatN n) → Value → Prop
  | 0, _, v => ∃ a cap, v = .slice a 0 cap
  | n + 1, l, v => ∃ a cap, v = .slice a l.length cap ∧ l.length ≤ cap ∧ l.length ≤ 17592186044416 ∧ (l = [] ∨ ∃ c o, a = some ⟨c, o, none⟩ ∧ S c ∧ ∀ (i : Nat) (q : PatN (n + 1)), l[i]? = some q → ∃ v',
      w.cell? ⟨c, o + i * 6, none⟩ = some (.int .i64 (kind q)) ∧ w.cell? ⟨c, o + i * 6 + 1, none⟩ = some (.int .i64 (from_ q)) ∧ w.cell? ⟨c, o + i * 6 + 2, none⟩ = some (.int .i64 (to_ q)) ∧
      w.cell? ⟨c, o + i * 6 + 3, none⟩ = some (.int .i64 (min_ q)) ∧ w.cell? ⟨c, o + i * 6 + 4, none⟩ = some (.int .i64 (max_ q)) ∧ w.cell? ⟨c, o + i * 6 + 5, none⟩ = some v' ∧ KidsAt S w n (kids q) v')
def ExprAt (S : Nat → Prop) (w : World) {n : Nat} (p : PatN (n + 1)) (v : Value) : Prop := ∃ v', v = valOf p v' ∧ KidsAt S w n (kids p) v'
/-- What lies in S still lies there. -/
def Holds (S : Nat → Prop) (w w' : World) : Prop := ∀ b o v, S b → w.cell? ⟨b, o, none⟩ = some v → w'.cell? ⟨b, o, none⟩ = some v
theorem KidsAt.mono {S S' : Nat → Prop} {w w' : World} (hs : Holds S w w') (hS : ∀ b, S b → S' b) : ∀ (n : Nat) (l : List (PatN n)) (v : Value), KidsAt S w n l v → KidsAt S' w' n l v
  | 0, _, _, h => h
  | n + 1, l, v, ⟨a, cap, h1, h2, h3, h4⟩ => by
    refine ⟨a, cap, h1, h2, h3, ?_⟩
    rcases h4 with h4 | ⟨c, o, h5, h6, h7⟩
    · exact Or.inl h4
    · refine Or.inr ⟨c, o, h5, hS c h6, fun i q hq => ?_⟩
      obtain ⟨v', g0, g1, g2, g3, g4, g5, g6⟩ := h7 i q hq
      exact ⟨v', hs _ _ _ h6 g0, hs _ _ _ h6 g1, hs _ _ _ h6 g2, hs _ _ _ h6 g3, hs _ _ _ h6 g4, hs _ _ _ h6 g5, KidsAt.mono hs hS n (kids q) v' g6⟩
theorem KidsAt.form {S : Nat → Prop} {w : World} : ∀ {n : Nat} {l : List (PatN n)} {v : Value}, KidsAt S w n l v → ∃ a cap, v = .slice a l.length cap
  | 0, l, v, h => by obtain ⟨a, cap, h⟩ := h; rw [none_of l]; exact ⟨a, cap, h⟩
  | _ + 1, _, _, h => by obtain ⟨a, cap, h, _⟩ := h; exact ⟨a, cap, h⟩
theorem Kept.holds {w w' : World} (h : Kept w w') (S : Nat → Prop) : Holds S w w' := fun _ _ _ _ hc => grown_cell h hc
theorem KidsAt.kept {S : Nat → Prop} {w w' : World} {n : Nat} {l : List (PatN n)} {v : Value} (h : KidsAt S w n l v) (hk : Kept w w') : KidsAt S w' n l v := KidsAt.mono (hk.holds S) (fun _ h => h) n l v h
theorem holds_drew (S : Nat → Prop) (w : World) (m : Nat) : Holds S w (w.drewN m) := fun _ _ _ _ h => h
theorem KidsAt.drew {S : Nat → Prop} {w : World} {n : Nat} {l : List (PatN n)} {v : Value} (h : KidsAt S w n l v) (m : Nat) : KidsAt S (w.drewN m) n l v := KidsAt.mono (holds_drew S w m) (fun _ h => h) n l v h

def bareP (f t mn mx : Int) : Bool := f == 0 && t == 0 && mn == 0 && mx == 0
def timesP (mn mx : Int) : Bool := decide (0 ≤ mn) && decide (mn ≤ 1000) && (mx == -1 || decide (mn ≤ mx) && decide (mx ≤ 1000))
def topP (k f t mn mx len : Int) : Bool :=
  if k = 1 then decide (0 ≤ f) && decide (f ≤ t) && decide (t ≤ 255) && len == 0 && mn == 0 && mx == 0
  else if k = 2 then len != 1 && bareP f t mn mx
  else if k = 3 then decide (2 ≤ len) && bareP f t mn mx
  else if k = 4 then len == 1 && timesP mn mx && f == 0 && t == 0
  else false
def topOf {n : Nat} (p : PatN (n + 1)) : Bool := topP (kind p) (from_ p) (to_ p) (min_ p) (max_ p) ((kids p).length : Int)
/-- Is each value one of the four? -/
def rightP : (n : Nat) → PatN n → Bool
  | 0, _ => true
  | n + 1, p => topOf p && (kids p).all (rightP n)

end Ex
end Go.Proofs.YtajmbplipjeojaaDoor
