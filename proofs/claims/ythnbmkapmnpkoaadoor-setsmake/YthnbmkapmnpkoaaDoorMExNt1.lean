import Derived.Test.YthnbmkapmnpkoaaDoorMExWr9
import Derived.Deep.DeepMust
import Derived.OwnWalk
import Derived.Deep.RegionHeld3
namespace Go.Proofs.YthnbmkapmnpkoaaDoor
open Go.RowKit
attribute [local go_sem] Oper.semAt_some
namespace Ex

/-- Has a lean pattern no positions? -/
def hollowP (p : Pat) : Bool := kind p.2 == 2 && (kids p.2).length == 0
/-- Which of the lean parts stay: a hollow one as long as keep is not used up. -/
def thinG : List Pat → Int → List Pat
  | [], _ => []
  | p :: l, k => if hollowP p then (if k - 1 < 0 then thinG l (k - 1) else p :: thinG l (k - 1)) else p :: thinG l k
/-- The pattern without parts that have no positions. -/
def thinW : (n : Nat) → PatN (n + 1) → Pat
  | 0, p => if kind p = 2 then mkP 2 0 0 0 0 [] else if kind p = 3 then oneOf 3 [] else if kind p = 4 then mkP 2 0 0 0 0 [] else ⟨0, p⟩
  | n + 1, p =>
    if kind p = 2 then mkP 2 0 0 0 0 (thinG ((kids p).map (thinW n)) 0)
    else if kind p = 3 then oneOf 3 (thinG ((kids p).map (thinW n)) 1)
    else if kind p = 4 then (match (kids p).map (thinW n) with | q :: _ => if max_ p = 0 ∨ hollowP q = true then mkP 2 0 0 0 0 [] else mkP 4 0 0 (min_ p) (max_ p) [q] | [] => mkP 2 0 0 0 0 [])
    else ⟨n + 1, p⟩
theorem kept6 {w W : World} {g : Nat} {x0 x1 x2 x3 x4 x5 : Value} (h : Kept w W) (hg : w.heap.size ≤ g) : Kept w ((((((W.setCell ⟨g, 0, none⟩ x0).setCell ⟨g, 1, none⟩ x1).setCell ⟨g, 2, none⟩ x2).setCell ⟨g, 3, none⟩ x3).setCell ⟨g, 4, none⟩ x4).setCell ⟨g, 5, none⟩ x5) := (((((h.set hg).set hg).set hg).set hg).set hg).set hg
theorem kept_app {w W w' : World} {base : Nat} {S : Nat → Prop} {v : Value} {l : List Pat} (h : Kept w W) (ho : PatsOwn W base S v l) (hb : w.heap.size ≤ base) (hg : W.grownBy w' v.ownBlock) : Kept w w' :=
  ⟨hg.os.trans h.1, hg.tape.trans h.2.1, hg.output.trans h.2.2.1, Nat.le_trans h.size hg.size, fun k hk => (hg.block k (Nat.lt_of_lt_of_le hk h.size) (fun e => by have := (ho.lt k e.symm).1; omega)).trans (h.2.2.2.2 k hk)⟩
/-- The loop of leanParts. -/
def ThinR (S : Nat → Prop) (n : Nat) (L : List (PatN (n + 1))) (k : Int) (w : World) (vk vo vi : Value) (wr : World) : Prop :=
  ∃ (j : Nat) (k1 : Int) (acc : List Pat), vi = .int .i64 (j : Int) ∧ vk = .int .i64 k1 ∧ j ≤ L.length ∧ acc.length ≤ j ∧ k1 ≤ 10 ∧ k1 + (j : Int) ≥ k ∧ Kept w wr ∧ PatsOwn wr w.heap.size (fun d => S d ∨ w.heap.size ≤ d) vo acc ∧ thinG (L.map (thinW n)) k = acc ++ thinG ((L.drop j).map (thinW n)) k1
end Ex
end Go.Proofs.YthnbmkapmnpkoaaDoor
namespace Go.Proofs.YthnbmkapmnpkoaaDoor
open Go.RowKit
attribute [local go_sem] Oper.semAt_some
namespace Ex

theorem thin_box {w w7 : World} {o : Obj} (h : Kept ((w.alloc o).alloc (.cells #[.int .i64 0, .int .i64 0, .int .i64 0, .int .i64 0, .int .i64 0, .slice none 0 0] 102)) w7) : BoxAt w7 (w.heap.size + 1) (.int .i64 0) (.int .i64 0) (.int .i64 0) (.int .i64 0) (.int .i64 0) (.slice none 0 0) := by
  have h1 : BoxAt ((w.alloc o).alloc (.cells #[.int .i64 0, .int .i64 0, .int .i64 0, .int .i64 0, .int .i64 0, .slice none 0 0] 102)) (w.heap.size + 1) (.int .i64 0) (.int .i64 0) (.int .i64 0) (.int .i64 0) (.int .i64 0) (.slice none 0 0) := heap_alloc2_new w _ _
  exact h1.keep h
theorem thin_own {w w7 : World} {o o2 : Obj} {S : Nat → Prop} {v : Value} {l : List Pat} (h : PatsOwn w7 ((w.alloc o).alloc o2).heap.size (fun d => S d ∨ ((w.alloc o).alloc o2).heap.size ≤ d) v l) (_hS : ∀ d, S d → d < w.heap.size) : PatsOwn w7 (w.heap.size + 2) (fun d => S d ∨ w.heap.size + 2 ≤ d) v l := by
  have e : ((w.alloc o).alloc o2).heap.size = w.heap.size + 2 := by simp
  rw [e] at h
  exact h
/-- The end with a list. -/
theorem thin_list {w wr : World} {S : Nat → Prop} {l : List Pat} {v : Value} {kd : Int} (ho : PatsOwn wr (w.heap.size + 2) (fun d => S d ∨ w.heap.size + 2 ≤ d) v l) (hS : ∀ d, S d → d < w.heap.size) (hb : l.length ≤ 100000) :
    PGives (fun d => S d ∨ w.heap.size ≤ d) (mkP kd 0 0 0 0 l) (.returned (.agg #[.int .i64 kd, .int .i64 0, .int .i64 0, .int .i64 0, .int .i64 0, v])) ((((((wr.setCell ⟨w.heap.size + 1, 0, none⟩ (.int .i64 kd)).setCell ⟨w.heap.size + 1, 1, none⟩ (.int .i64 0)).setCell ⟨w.heap.size + 1, 2, none⟩ (.int .i64 0)).setCell ⟨w.heap.size + 1, 3, none⟩ (.int .i64 0)).setCell ⟨w.heap.size + 1, 4, none⟩ (.int .i64 0)).setCell ⟨w.heap.size + 1, 5, none⟩ v) :=
  ⟨_, rfl, v, rfl, KidsAt.mono (set6_holds (S := fun d => S d ∨ w.heap.size + 2 ≤ d) (fun h => by rcases h with h | h; (have := hS _ h; omega); omega)) (fun d h => by rcases h with h | h; exact Or.inl h; exact Or.inr (by omega)) _ _ _ (ho.kids (fun d h => Or.inr h) (Nat.le_refl _) (by omega))⟩
theorem thin_one {w wr : World} {S : Nat → Prop} {p : Pat} {u : Value} {x0 x1 x2 x3 x4 x5 : Value} (hk : KidsAt (fun d => S d ∨ w.heap.size + 2 ≤ d) wr p.1 (kids p.2) u) (hS : ∀ d, S d → d < w.heap.size) :
    PGives (fun d => S d ∨ w.heap.size ≤ d) p (.returned (.agg #[.int .i64 (kind p.2), .int .i64 (from_ p.2), .int .i64 (to_ p.2), .int .i64 (min_ p.2), .int .i64 (max_ p.2), u])) ((((((wr.setCell ⟨w.heap.size + 1, 0, none⟩ x0).setCell ⟨w.heap.size + 1, 1, none⟩ x1).setCell ⟨w.heap.size + 1, 2, none⟩ x2).setCell ⟨w.heap.size + 1, 3, none⟩ x3).setCell ⟨w.heap.size + 1, 4, none⟩ x4).setCell ⟨w.heap.size + 1, 5, none⟩ x5) :=
  ⟨_, rfl, u, rfl, KidsAt.mono (set6_holds (S := fun d => S d ∨ w.heap.size + 2 ≤ d) (fun h => by rcases h with h | h; (have := hS _ h; omega); omega)) (fun d h => by rcases h with h | h; exact Or.inl h; exact Or.inr (by omega)) _ _ _ hk⟩

end Ex
end Go.Proofs.YthnbmkapmnpkoaaDoor
