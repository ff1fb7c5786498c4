import Derived.Test.YtbnchnlogikecaaGreatDoorRows
import Derived.ProofKit
import Derived.LaidMore
import Derived.OpenShut
import Derived.Stop.Joined
import Derived.Lib.TrailingZeros
import Derived.WalkKit
import Derived.Deep.MidRow
import Derived.Deep.QuietTactic
import Derived.BigQuiet
import Derived.Deep.AppendLies
import Derived.Deep.Slices
import Derived.SizedLaws
import Derived.ChangeSlices
namespace Go.Proofs.YtbnchnlogikecaaGreatDoor
open Go.ChangeShapes Go.WideShapes Go.ChangeAt Go.RowKit
namespace Ex
theorem own : ownKnob Tryz.prog.godebug = none := by kernel_rfl
theorem laidOut : laidOutB Tryz.prog = true := by kernel_rfl
theorem door_met (os : Os) (args : Array Value) : laidMetH Tryz.prog Rows.specCutRow.laid ((World.doorLaid Tryz.prog 4000 os).forCall (fun _ _ => 0) ⟨#[], args, []⟩).memory :=
  laidMetH_of_parts3 (fuel := 8) (laidMet_of_run' 8 (by kernel_rfl) (by kernel_rfl)) (by kernel_rfl) (by kernel_rfl)
theorem u64_one : Tryz.prog.cellsOf 164 = 1 := by kernel_rfl
theorem tPow : (Tryz.prog.globals[1]?).map (·.type) = some 179 := by kernel_rfl
theorem pow_at {W : World} (h : laidMetH Tryz.prog Rows.specCutRow.laid W) : ∀ (j : Nat) (z : Int), j < 20 → (match (Rows.laid_internal_strconv_uint64pow10 : DataW Unit) with | .agg l => l[j]? | _ => none) = some (.lit (.int .u64 z)) → W.cell? ⟨1, j, none⟩ = some (.int .u64 z) := by
  rw [MakeChecks.laidMetH_plain _ _ _ (by kernel_rfl)] at h
  obtain ⟨ps, ⟨g0, t0, cs0, f0, p0, q0, hg0, ht0, hv0, hd0, ⟨g1, t1, cs1, f1, p1, q1, hg1, ht1, hv1, hd1, ⟨g2, t2, cs2, f2, p2, q2, hg2, ht2, hv2, hd2, _, _⟩, _⟩, _⟩, _, _⟩ := h
  obtain rfl : g2 = 1 := Option.some.inj (hg2.symm.trans (by kernel_rfl))
  obtain rfl := Option.some.inj (tPow.symm.trans ht2)
  intro j z hj hz
  have hcell := World.var?_cell hg2 hv2 j
  rw [hcell]
  obtain ⟨xs, m1, rfl, hx1, hlen, hn, hel⟩ := DataW.trod_array Tryz.underlying179 hd2
  have hj0 := hel j (by simpa using hj)
  obtain ⟨xj, hxj⟩ : ∃ x, xs[j]? = some x := ⟨_, List.getElem?_eq_getElem (by rw [hn]; exact hj)⟩
  rw [hxj, u64_one] at hj0
  obtain ⟨k, e1, e2, _⟩ := DataW.trod_int Tryz.underlying164 hj0
  have hq : (xs.map (·.1))[j]? = some xj.1 := by rw [List.getElem?_map, hxj]; rfl
  have hagg := congrArg Prod.fst hx1
  simp only [] at hagg
  rw [hagg] at hz
  simp only [] at hz
  rw [hq, e2] at hz
  simp only [Option.some.injEq, DataW.lit.injEq, Lit.int.injEq, true_and] at hz
  rw [← hz]
  have e3 : (cs2.toList.drop (j * 1)).take 1 = [.int .u64 k] := e1
  rw [Nat.mul_one] at e3
  have e4 : ((cs2.toList.drop j).take 1)[0]? = some (.int .u64 k) := by rw [e3]; rfl
  rw [List.getElem?_take] at e4
  simpa using e4
theorem pow_laid {W : World} (h : laidMetH Tryz.prog Rows.specCutRow.laid W) : W.cell? ⟨1, 2, none⟩ = some (.int .u64 100) ∧ W.cell? ⟨1, 3, none⟩ = some (.int .u64 1000) :=
  ⟨pow_at h 2 100 (by decide) rfl, pow_at h 3 1000 (by decide) rfl⟩
end Ex
end Go.Proofs.YtbnchnlogikecaaGreatDoor
namespace Go.Proofs.YtbnchnlogikecaaGreatDoor
open Go.RowKit
namespace Ex
def Hid (p : Prop) : Prop := p
theorem hide1 {p : Prop} (h : p) : Hid p := h
theorem Hid.out {p : Prop} (h : Hid p) : p := h
def Kept (w w' : World) : Prop :=
  w'.os = w.os ∧ w'.tape = w.tape ∧ w'.output = w.output ∧ w.heap.size ≤ w'.heap.size ∧ ∀ k, k < w.heap.size → w'.heap[k]? = w.heap[k]?
theorem Kept.below {w w' : World} (h : Kept w w') : Below w.heap.size w w' := ⟨h.1, h.2.1, h.2.2.1, h.2.2.2.1, h.2.2.2.2⟩
theorem Kept.of {w w' : World} (h : Below w.heap.size w w') : Kept w w' := ⟨h.os, h.tape, h.output, h.size, h.block⟩
theorem Kept.size {w w' : World} (h : Kept w w') : w.heap.size ≤ w'.heap.size := h.2.2.2.1
theorem Kept.refl (w : World) : Kept w w := Kept.of (Below.refl _ _)
theorem gtrans {a b c : World} (h1 : Kept a b) (h2 : Kept b c) : Kept a c := Kept.of (h1.below.trans (h2.below.mono h1.size))
theorem Kept.alloc {W w' : World} (h : Kept W w') (c : Array Value) (t : TypeId) : Kept W (w'.alloc (.cells c t)) := Kept.of (h.below.alloc h.size _)
theorem grown_cell {w w' : World} (h : Kept w w') {b o : Nat} {v : Value} (hc : w.cell? ⟨b, o, none⟩ = some v) : w'.cell? ⟨b, o, none⟩ = some v := by
  rw [h.below.cell (p := ⟨b, o, none⟩) (World.block_lt_of_cell? w _ hc)]; exact hc
theorem keeps {w : World} {a o : Nat} {v : Value} (h : w.cell? ⟨a, o, none⟩ = some v) : ∀ W, Kept w W → W.cell? ⟨a, o, none⟩ = some v := fun _ hg => grown_cell hg h
theorem drew_kept (w : World) : Kept w w.drew := Kept.of ((Below.refl _ _).drew)
theorem drewN_kept (w : World) (n : Nat) : Kept w (w.drewN n) := ⟨rfl, rfl, rfl, Nat.le_refl _, fun _ _ => rfl⟩
def PatN : Nat → Type
  | 0 => Empty
  | n + 1 => Int × Int × Int × Int × Int × List (PatN n)
section
variable {n : Nat}
def kind (p : PatN (n + 1)) : Int := (show Int × Int × Int × Int × Int × List (PatN n) from p).1
def from_ (p : PatN (n + 1)) : Int := (show Int × Int × Int × Int × Int × List (PatN n) from p).2.1
def to_ (p : PatN (n + 1)) : Int := (show Int × Int × Int × Int × Int × List (PatN n) from p).2.2.1
def min_ (p : PatN (n + 1)) : Int := (show Int × Int × Int × Int × Int × List (PatN n) from p).2.2.2.1
def max_ (p : PatN (n + 1)) : Int := (show Int × Int × Int × Int × Int × List (PatN n) from p).2.2.2.2.1
def kids (p : PatN (n + 1)) : List (PatN n) := (show Int × Int × Int × Int × Int × List (PatN n) from p).2.2.2.2.2
def valOf (p : PatN (n + 1)) (v' : Value) : Value := .agg #[.int .i64 (kind p), .int .i64 (from_ p), .int .i64 (to_ p), .int .i64 (min_ p), .int .i64 (max_ p), v']
end
theorem none_of (l : List (PatN 0)) : l = [] := by
  cases l with
  | nil => rfl
  | cons x _ => exact (show Empty from x).elim
def KidsAt (S : Nat → Prop) (w : World) : (n : Nat) → List (PatN n) → Value → Prop
  | 0, _, v => ∃ a cap, v = .slice a 0 cap
  | n + 1, l, v => ∃ a cap, v = .slice a l.length cap ∧ l.length ≤ cap ∧ l.length ≤ 17592186044416 ∧ (l = [] ∨ ∃ c o, a = some ⟨c, o, none⟩ ∧ S c ∧ ∀ (i : Nat) (q : PatN (n + 1)), l[i]? = some q → ∃ v',
      w.cell? ⟨c, o + i * 6, none⟩ = some (.int .i64 (kind q)) ∧ w.cell? ⟨c, o + i * 6 + 1, none⟩ = some (.int .i64 (from_ q)) ∧ w.cell? ⟨c, o + i * 6 + 2, none⟩ = some (.int .i64 (to_ q)) ∧
      w.cell? ⟨c, o + i * 6 + 3, none⟩ = some (.int .i64 (min_ q)) ∧ w.cell? ⟨c, o + i * 6 + 4, none⟩ = some (.int .i64 (max_ q)) ∧ w.cell? ⟨c, o + i * 6 + 5, none⟩ = some v' ∧ KidsAt S w n (kids q) v')
def Holds (S : Nat → Prop) (w w' : World) : Prop := ∀ b o v, S b → w.cell? ⟨b, o, none⟩ = some v → w'.cell? ⟨b, o, none⟩ = some v
theorem KidsAt.mono {S S' : Nat → Prop} {w w' : World} (hs : Holds S w w') (hS : ∀ b, S b → S' b) : ∀ (n : Nat) (l : List (PatN n)) (v : Value), KidsAt S w n l v → KidsAt S' w' n l v
  | 0, _, _, h => h
  | n + 1, l, v, ⟨a, cap, h1, h2, h3, h4⟩ => by
    refine ⟨a, cap, h1, h2, h3, ?_⟩
    rcases h4 with h4 | ⟨c, o, h5, h6, h7⟩
    · exact Or.inl h4
    · refine Or.inr ⟨c, o, h5, hS c h6, fun i q hq => ?_⟩
      obtain ⟨v', g0, g1, g2, g3, g4, g5, g6⟩ := h7 i q hq
      exact ⟨v', hs _ _ _ h6 g0, hs _ _ _ h6 g1, hs _ _ _ h6 g2, hs _ _ _ h6 g3, hs _ _ _ h6 g4, hs _ _ _ h6 g5, KidsAt.mono hs hS n (kids q) v' g6⟩
theorem KidsAt.form {S : Nat → Prop} {w : World} : ∀ {n : Nat} {l : List (PatN n)} {v : Value}, KidsAt S w n l v → ∃ a cap, v = .slice a l.length cap
  | 0, l, v, h => by obtain ⟨a, cap, h⟩ := h; rw [none_of l]; exact ⟨a, cap, h⟩
  | _ + 1, _, _, h => by obtain ⟨a, cap, h, _⟩ := h; exact ⟨a, cap, h⟩
theorem Kept.holds {w w' : World} (h : Kept w w') (S : Nat → Prop) : Holds S w w' := fun _ _ _ _ hc => grown_cell h hc
theorem KidsAt.kept {S : Nat → Prop} {w w' : World} {n : Nat} {l : List (PatN n)} {v : Value} (h : KidsAt S w n l v) (hk : Kept w w') : KidsAt S w' n l v := KidsAt.mono (hk.holds S) (fun _ h => h) n l v h
def bareP (f t mn mx : Int) : Bool := f == 0 && t == 0 && mn == 0 && mx == 0
def timesP (mn mx : Int) : Bool := decide (0 ≤ mn) && decide (mn ≤ 1000) && (mx == -1 || decide (mn ≤ mx) && decide (mx ≤ 1000))
def topP (k f t mn mx len : Int) : Bool :=
  if k = 1 then decide (0 ≤ f) && decide (f ≤ t) && decide (t ≤ 255) && len == 0 && mn == 0 && mx == 0
  else if k = 2 then len != 1 && bareP f t mn mx
  else if k = 3 then decide (2 ≤ len) && bareP f t mn mx
  else if k = 4 then len == 1 && timesP mn mx && f == 0 && t == 0
  else false
def topOf {n : Nat} (p : PatN (n + 1)) : Bool := topP (kind p) (from_ p) (to_ p) (min_ p) (max_ p) ((kids p).length : Int)
def rightP : (n : Nat) → PatN n → Bool
  | 0, _ => true
  | n + 1, p => topOf p && (kids p).all (rightP n)
end Ex
end Go.Proofs.YtbnchnlogikecaaGreatDoor
namespace Go.Proofs.YtbnchnlogikecaaGreatDoor
open Go.RowKit
namespace Ex
def fitL : (m n : Nat) → List (PatN n) → List (PatN m)
  | 0, _, _ => []
  | _ + 1, 0, _ => []
  | m + 1, n + 1, l => l.map fun p => (show PatN (m + 1) from (kind p, from_ p, to_ p, min_ p, max_ p, fitL m n (kids p)))
theorem KidsAt.tight {S : Nat → Prop} {w : World} : ∀ (n : Nat) (l : List (PatN n)) (v : Value), KidsAt S w n l v → KidsAt (fun d => S d ∧ d < w.heap.size) w n l v
  | 0, _, _, h => h
  | n + 1, l, v, ⟨a, cap, h1, h2, h3, h4⟩ => by
    refine ⟨a, cap, h1, h2, h3, ?_⟩
    rcases h4 with h4 | ⟨c, o, h5, h6, h7⟩
    · exact Or.inl h4
    · by_cases hl : l = []
      · exact Or.inl hl
      · have hlt : c < w.heap.size := by
          obtain ⟨q, l', rfl⟩ := List.exists_cons_of_ne_nil hl
          obtain ⟨v', g0, _⟩ := h7 0 q rfl
          exact World.block_lt_of_cell? w _ g0
        refine Or.inr ⟨c, o, h5, ⟨h6, hlt⟩, fun i q hq => ?_⟩
        obtain ⟨v', g0, g1, g2, g3, g4, g5, g6⟩ := h7 i q hq
        exact ⟨v', g0, g1, g2, g3, g4, g5, KidsAt.tight n (kids q) v' g6⟩
def Pat : Type := (n : Nat) × PatN (n + 1)
def topL : List Pat → Nat
  | [] => 0
  | p :: l => max (p.1 + 1) (topL l)
def kidsOf (m : Nat) (l : List Pat) : List (PatN m) := l.flatMap fun p => fitL m (p.1 + 1) [p.2]
def mkP (k f t mn mx : Int) (l : List Pat) : Pat := ⟨topL l, (show PatN (topL l + 1) from (k, f, t, mn, mx, kidsOf (topL l) l))⟩
def FlatAt (S : Nat → Prop) (w : World) : List Pat → List Value → Prop
  | [], xs => xs = []
  | p :: l, xs => ∃ v' ys, xs = .int .i64 (kind p.2) :: .int .i64 (from_ p.2) :: .int .i64 (to_ p.2) :: .int .i64 (min_ p.2) :: .int .i64 (max_ p.2) :: v' :: ys ∧ KidsAt S w p.1 (kids p.2) v' ∧ FlatAt S w l ys
theorem FlatAt.len {S : Nat → Prop} {w : World} : ∀ {l : List Pat} {xs : List Value}, FlatAt S w l xs → xs.length = l.length * 6
  | [], _, h => by rw [h]; rfl
  | _ :: l, _, ⟨v', ys, h1, _, h3⟩ => by rw [h1]; have := FlatAt.len h3; simp only [List.length_cons]; omega
theorem FlatAt.mono {S S' : Nat → Prop} {w w' : World} (hs : Holds S w w') (hS : ∀ b, S b → S' b) : ∀ {l : List Pat} {xs : List Value}, FlatAt S w l xs → FlatAt S' w' l xs
  | [], _, h => h
  | _ :: _, _, ⟨v', ys, h1, h2, h3⟩ => ⟨v', ys, h1, KidsAt.mono hs hS _ _ _ h2, FlatAt.mono hs hS h3⟩
theorem FlatAt.tight {S : Nat → Prop} {w : World} : ∀ {l : List Pat} {xs : List Value}, FlatAt S w l xs → FlatAt (fun d => S d ∧ d < w.heap.size) w l xs
  | [], _, h => h
  | _ :: _, _, ⟨v', ys, h1, h2, h3⟩ => ⟨v', ys, h1, KidsAt.tight _ _ _ h2, FlatAt.tight h3⟩
def cellsP (p : Pat) (v' : Value) : List Value := [.int .i64 (kind p.2), .int .i64 (from_ p.2), .int .i64 (to_ p.2), .int .i64 (min_ p.2), .int .i64 (max_ p.2), v']
theorem FlatAt.snoc {S : Nat → Prop} {w : World} : ∀ {l : List Pat} {xs : List Value} {p : Pat} {v' : Value}, FlatAt S w l xs → KidsAt S w p.1 (kids p.2) v' → FlatAt S w (l ++ [p]) (xs ++ cellsP p v')
  | [], xs, p, v', h, hk => by
    rw [show xs = [] from h]
    exact ⟨v', [], rfl, hk, rfl⟩
  | q :: l, xs, p, v', ⟨u', ys, h1, h2, h3⟩, hk => by
    rw [h1]
    exact ⟨u', ys ++ cellsP p v', rfl, h2, FlatAt.snoc h3 hk⟩
theorem FlatAt.at {S : Nat → Prop} {w : World} : ∀ {l : List Pat} {xs : List Value} {i : Nat} {p : Pat}, FlatAt S w l xs → l[i]? = some p →
    ∃ v', xs[i * 6]? = some (.int .i64 (kind p.2)) ∧ xs[i * 6 + 1]? = some (.int .i64 (from_ p.2)) ∧ xs[i * 6 + 2]? = some (.int .i64 (to_ p.2)) ∧ xs[i * 6 + 3]? = some (.int .i64 (min_ p.2)) ∧ xs[i * 6 + 4]? = some (.int .i64 (max_ p.2)) ∧ xs[i * 6 + 5]? = some v' ∧ KidsAt S w p.1 (kids p.2) v'
  | [], _, i, p, _, hi => by simp at hi
  | q :: l, _, 0, p, ⟨v', ys, h1, h2, h3⟩, hi => by
    rw [List.getElem?_cons_zero, Option.some.injEq] at hi
    subst hi
    rw [h1]
    exact ⟨v', rfl, rfl, rfl, rfl, rfl, rfl, h2⟩
  | q :: l, _, i + 1, p, ⟨v', ys, h1, h2, h3⟩, hi => by
    rw [List.getElem?_cons_succ] at hi
    obtain ⟨u', g⟩ := FlatAt.at h3 hi
    have e : ∀ j, (i + 1) * 6 + j = i * 6 + j + 6 := fun j => by omega
    have e0 : (i + 1) * 6 = i * 6 + 6 := by omega
    rw [h1]
    refine ⟨u', ?_⟩
    rw [e0, show i * 6 + 6 + 1 = i * 6 + 1 + 6 by omega, show i * 6 + 6 + 2 = i * 6 + 2 + 6 by omega, show i * 6 + 6 + 3 = i * 6 + 3 + 6 by omega, show i * 6 + 6 + 4 = i * 6 + 4 + 6 by omega, show i * 6 + 6 + 5 = i * 6 + 5 + 6 by omega]
    simp only [List.getElem?_cons_succ]
    exact g
theorem kidsOf_succ (m : Nat) : ∀ (l : List Pat), kidsOf (m + 1) l = l.map fun p => (show PatN (m + 1) from (kind p.2, from_ p.2, to_ p.2, min_ p.2, max_ p.2, fitL m p.1 (kids p.2)))
  | [] => rfl
  | p :: l => by
    have := kidsOf_succ m l
    unfold kidsOf at this ⊢
    rw [List.flatMap_cons, this]
    rfl
theorem top_le {l : List Pat} {p : Pat} (h : p ∈ l) : p.1 + 1 ≤ topL l := by
  induction l with
  | nil => cases h
  | cons q l ih =>
    unfold topL
    rcases List.mem_cons.1 h with h | h
    · subst h; omega
    · have := ih h; omega
theorem kids_nil (S : Nat → Prop) (w : World) (m cap : Nat) (a : Option Addr) (l : List (PatN m)) (h : l = []) : KidsAt S w m l (.slice a 0 cap) := by
  subst h
  cases m with
  | zero => exact ⟨_, _, rfl⟩
  | succ m => exact ⟨_, _, rfl, Nat.zero_le _, Nat.zero_le _, Or.inl rfl⟩
end Ex
end Go.Proofs.YtbnchnlogikecaaGreatDoor
namespace Go.Proofs.YtbnchnlogikecaaGreatDoor
open Go.RowKit Go.ChangeShapes Go.WideShapes Go.ChangeAt
set_option maxRecDepth 100000
namespace Ex
section
variable {H : Type} {enc : TypeId × Value → H}
theorem weights_all {P : Program} {e : TypeId} : ∀ {ds : List (DataW H)} {d : DataW H}, d ∈ ds → ∀ n ∈ d.weights P e, n ∈ DataW.weightsAll P e ds
  | x :: r, d, hd, n, hn => by
    simp only [DataW.weightsAll, List.mem_append]
    rcases List.mem_cons.1 hd with rfl | hd
    · exact .inl hn
    · exact .inr (weights_all hd n hn)
  | [], _, hd, _, _ => by cases hd
theorem six {α : Type} : ∀ {l : List α}, l.length = 6 → ∃ a b c d e f, l = [a, b, c, d, e, f]
  | [a, b, c, d, e, f], _ => ⟨a, b, c, d, e, f, rfl⟩
  | [], h => by simp at h
  | [_], h => by simp at h
  | [_, _], h => by simp at h
  | [_, _, _], h => by simp at h
  | [_, _, _, _], h => by simp at h
  | [_, _, _, _, _], h => by simp at h
  | _ :: _ :: _ :: _ :: _ :: _ :: _ :: _, h => by simp at h
theorem expr_size : Tryz.prog.cellsOf 70 = 6 := by kernel_rfl
theorem int_size : Tryz.prog.cellsOf 3 = 1 := by kernel_rfl
theorem exprs_size : Tryz.prog.cellsOf 68 = 1 := by kernel_rfl
theorem expr_bytes : Tryz.prog.bytesOf 70 = 64 := by kernel_rfl
theorem weights_field {P : Program} {t : TypeId} {fs : Array Field} (ht : P.underlying t = some (.struct fs)) {y0 y1 y2 y3 y4 y5 : DataW H} {f0 f1 f2 f3 f4 f5 : Field} (hf : fs = #[f0, f1, f2, f3, f4, f5]) : ∀ n ∈ y5.weights P f5.type, n ∈ (DataW.agg [y0, y1, y2, y3, y4, y5]).weights P t := by
  intro n hn
  subst hf
  simp only [DataW.weights, ht]
  simp only [List.map_cons, List.map_nil, DataW.weightsEach, List.mem_append]
  right; right; right; right; right; left
  exact hn
theorem exprs_trod {W : World} : ∀ (k fuel : Nat), fuel ≤ 2 * k → ∀ (v : Value) (x : DataW H × List MemPlace), DataW.trod enc Tryz.prog W 0 (fun _ => true) true fuel 68 [v] = some x → (∀ n ∈ x.1.weights Tryz.prog 68, n ≤ reachBytes) →
    ∃ l : List (PatN k), KidsAt (fun b => b < W.heap.size) W k l v := by
  intro k
  induction k with
  | zero =>
    intro fuel hfu v x h
    obtain rfl : fuel = 0 := by omega
    simp [DataW.trod] at h
  | succ k ih =>
    intro fuel hfu v x hf hz
    rcases DataW.trod_slice Tryz.underlying68 hf with ⟨hcs, _⟩ | ⟨a, len, cap, elems, rest, n, hn, hcs, hx, _, hl, hm, hlen, hel, _, _⟩
    · simp only [List.cons.injEq, and_true] at hcs
      subst hcs
      exact ⟨[], kids_nil _ _ _ _ _ _ rfl⟩
    · simp only [List.cons.injEq, and_true] at hcs
      subst hcs hx
      have hb : len * 64 ≤ reachBytes := by
        have := hz _ (by simp only [DataW.weights, Tryz.underlying68]; exact List.mem_cons_self)
        rw [expr_bytes] at this
        simp only [List.length_map] at this
        rw [hlen] at this
        have h2 : len * 64 ≤ (len + rest.length) * 64 := Nat.mul_le_mul_right _ (Nat.le_add_right _ _)
        omega
      have hle : len ≤ 17592186044416 := by unfold reachBytes at hb; omega
      by_cases h0 : len = 0
      · subst h0
        exact ⟨[], kids_nil _ _ _ _ _ _ rfl⟩
      obtain ⟨cc, oo, hx⟩ : ∃ cc oo, a = ⟨cc, oo, none⟩ := by
        have hei := hel 0 (by omega)
        obtain ⟨ei, hei2⟩ : ∃ y, elems[0]? = some y := ⟨_, List.getElem?_eq_getElem (by omega)⟩
        rw [hei2, expr_size] at hei
        obtain ⟨cs', hc1, hc2⟩ := Option.bind_eq_some_iff.1 hei
        obtain ⟨_, hc3, hc4⟩ := World.cells?_some hc1
        obtain ⟨v0, v1, v2, v3, v4, v5, rfl⟩ := six hc3
        have k0 := hc4 0 (by omega)
        simp only [List.getElem?_cons_zero] at k0
        obtain ⟨c1, o1, t1⟩ := a
        have hspot : t1 = none := by simpa [Addr.add] using World.cell?_spot k0
        subst hspot
        exact ⟨c1, o1, rfl⟩
      subst hx
      have hone : ∀ i, i < len → ∃ (q : PatN (k + 1)) (c o : Nat) (v' : Value), (⟨cc, oo, none⟩ : Addr) = ⟨c, o, none⟩ ∧ c < W.heap.size ∧ W.cell? ⟨c, o + i * 6, none⟩ = some (.int .i64 (kind q)) ∧ W.cell? ⟨c, o + i * 6 + 1, none⟩ = some (.int .i64 (from_ q)) ∧ W.cell? ⟨c, o + i * 6 + 2, none⟩ = some (.int .i64 (to_ q)) ∧
          W.cell? ⟨c, o + i * 6 + 3, none⟩ = some (.int .i64 (min_ q)) ∧ W.cell? ⟨c, o + i * 6 + 4, none⟩ = some (.int .i64 (max_ q)) ∧ W.cell? ⟨c, o + i * 6 + 5, none⟩ = some v' ∧ KidsAt (fun b => b < W.heap.size) W k (kids q) v' := by
        intro i hi
        have hei := hel i hi
        obtain ⟨ei, hei2⟩ : ∃ y, elems[i]? = some y := ⟨_, List.getElem?_eq_getElem (by omega)⟩
        rw [hei2, expr_size] at hei
        obtain ⟨cs', hc1, hc2⟩ := Option.bind_eq_some_iff.1 hei
        obtain ⟨_, hc3, hc4⟩ := World.cells?_some hc1
        obtain ⟨xs, n', hn', hx1, _, hx3, hx4⟩ := DataW.trod_struct Tryz.underlying70 hc2
        obtain ⟨v0, v1, v2, v3, v4, v5, rfl⟩ := six hc3
        obtain ⟨y0, y1, y2, y3, y4, y5, rfl⟩ := six hx3
        have f0 : DataW.trod enc Tryz.prog W 0 (fun _ => true) true n' 3 [v0] = some y0 := by have := hx4 0 _ rfl; simpa [int_size] using this
        have f1 : DataW.trod enc Tryz.prog W 0 (fun _ => true) true n' 3 [v1] = some y1 := by have := hx4 1 _ rfl; simpa [int_size] using this
        have f2 : DataW.trod enc Tryz.prog W 0 (fun _ => true) true n' 3 [v2] = some y2 := by have := hx4 2 _ rfl; simpa [int_size] using this
        have f3 : DataW.trod enc Tryz.prog W 0 (fun _ => true) true n' 3 [v3] = some y3 := by have := hx4 3 _ rfl; simpa [int_size] using this
        have f4 : DataW.trod enc Tryz.prog W 0 (fun _ => true) true n' 3 [v4] = some y4 := by have := hx4 4 _ rfl; simpa [int_size] using this
        have f5 : DataW.trod enc Tryz.prog W 0 (fun _ => true) true n' 68 [v5] = some y5 := by have := hx4 5 _ rfl; simpa [exprs_size] using this
        obtain ⟨z0, e0, _, _⟩ := DataW.trod_int Tryz.underlying3 f0
        obtain ⟨z1, e1, _, _⟩ := DataW.trod_int Tryz.underlying3 f1
        obtain ⟨z2, e2, _, _⟩ := DataW.trod_int Tryz.underlying3 f2
        obtain ⟨z3, e3, _, _⟩ := DataW.trod_int Tryz.underlying3 f3
        obtain ⟨z4, e4, _, _⟩ := DataW.trod_int Tryz.underlying3 f4
        simp only [List.cons.injEq, and_true] at e0 e1 e2 e3 e4
        subst e0 e1 e2 e3 e4
        have hw : ∀ m ∈ y5.1.weights Tryz.prog 68, m ≤ reachBytes := by
          intro m hm2
          apply hz
          simp only [DataW.weights, Tryz.underlying68]
          refine List.mem_cons_of_mem _ (List.mem_append.2 (.inl (weights_all (List.mem_map.2 ⟨ei, List.mem_of_getElem? hei2, rfl⟩) m ?_)))
          have hD : ei.1 = .agg [y0.1, y1.1, y2.1, y3.1, y4.1, y5.1] := by have := congrArg Prod.fst hx1; simpa using this
          rw [hD]
          exact weights_field Tryz.underlying70 rfl m hm2
        obtain ⟨l5, g5⟩ := ih n' (by omega) v5 y5 f5 hw
        have k0 := hc4 0 (by omega)
        have k1 := hc4 1 (by omega)
        have k2 := hc4 2 (by omega)
        have k3 := hc4 3 (by omega)
        have k4 := hc4 4 (by omega)
        have k5 := hc4 5 (by omega)
        simp only [List.getElem?_cons_zero, List.getElem?_cons_succ] at k0 k1 k2 k3 k4 k5
        simp only [Addr.add_mid, Nat.add_zero] at k0 k1 k2 k3 k4 k5
        exact ⟨(show PatN (k + 1) from ((z0, z1, z2, z3, z4, l5) : Int × Int × Int × Int × Int × List (PatN k))), cc, oo, v5, rfl, World.block_lt_of_cell? W _ k0, k0, k1, k2, k3, k4, k5, g5⟩
      have inh : Inhabited (PatN (k + 1)) := ⟨(show PatN (k + 1) from ((0, 0, 0, 0, 0, []) : Int × Int × Int × Int × Int × List (PatN k)))⟩
      obtain ⟨Q, hQ⟩ := Go.Deep.choose_lt hone
      obtain ⟨c, o, _, ea, hc, _⟩ := hQ 0 (by omega)
      simp only [Addr.mk.injEq, and_true] at ea
      obtain ⟨rfl, rfl⟩ := ea
      refine ⟨(List.range len).map Q, some ⟨cc, oo, none⟩, cap, ?_, ?_, ?_, Or.inr ⟨cc, oo, rfl, hc, fun i q hq => ?_⟩⟩
      · rw [List.length_map, List.length_range]
      · rw [List.length_map, List.length_range]; exact hl
      · rw [List.length_map, List.length_range]; exact hle
      · rw [List.getElem?_map] at hq
        obtain ⟨i', hi', rfl⟩ := Option.map_eq_some_iff.1 hq
        obtain ⟨hi, he⟩ := List.getElem?_eq_some_iff.1 hi'
        rw [List.length_range] at hi
        rw [List.getElem_range] at he
        subst he
        obtain ⟨c', o', v', e, _, g0, g1, g2, g3, g4, g5, g6⟩ := hQ i hi
        simp only [Addr.mk.injEq, and_true] at e
        obtain ⟨rfl, rfl⟩ := e
        exact ⟨v', g0, g1, g2, g3, g4, g5, g6⟩
end
end Ex
end Go.Proofs.YtbnchnlogikecaaGreatDoor
namespace Go.Proofs.YtbnchnlogikecaaGreatDoor
open Go.RowKit Go.ChangeShapes Go.WideShapes Go.ChangeAt
namespace Ex
def SliceOf {α : Type} (w : World) (sz : Nat) (El : List Value → α → Prop) (v : Value) (xs : List α) : Prop :=
  ∃ a cap, v = .slice a xs.length cap ∧ xs.length ≤ cap ∧ xs.length ≤ 17592186044416 ∧ (xs = [] ∨ ∃ c o, a = some ⟨c, o, none⟩ ∧ c < w.heap.size ∧ ∀ (i : Nat) (x : α), xs[i]? = some x → ∃ cs : List Value, cs.length = sz ∧ (∀ (j : Nat) (u : Value), cs[j]? = some u → w.cell? ⟨c, o + i * sz + j, none⟩ = some u) ∧ El cs x)
theorem SliceOf.mono {α : Type} {w w' : World} {sz : Nat} {El El' : List Value → α → Prop} {v : Value} {xs : List α} (h : SliceOf w sz El v xs) (hk : Kept w w') (hE : ∀ cs x, El cs x → El' cs x) : SliceOf w' sz El' v xs := by
  obtain ⟨a, cap, h1, h2, h3, h4⟩ := h
  refine ⟨a, cap, h1, h2, h3, ?_⟩
  rcases h4 with h4 | ⟨c, o, h5, h6, h7⟩
  · exact .inl h4
  · refine .inr ⟨c, o, h5, Nat.lt_of_lt_of_le h6 hk.size, fun i x hi => ?_⟩
    obtain ⟨cs, g1, g2, g3⟩ := h7 i x hi
    exact ⟨cs, g1, fun j u hj => grown_cell hk (g2 j u hj), hE cs x g3⟩
section
variable {H : Type} {enc : TypeId × Value → H}
end
end Ex
end Go.Proofs.YtbnchnlogikecaaGreatDoor
namespace Go.Proofs.YtbnchnlogikecaaGreatDoor
open Go.RowKit Go.ChangeShapes Go.WideShapes Go.ChangeAt
set_option maxRecDepth 100000
namespace Ex
abbrev SymM : Type := Int × Int
abbrev ProdM : Type := Int × List SymM
abbrev LexM (k : Nat) : Type := ByteArray × Bool × PatN (k + 1)
abbrev SpecM (k : Nat) : Type := List (LexM k) × List ByteArray × Int × List ProdM
def SymEl (cs : List Value) (s : SymM) : Prop := cs = [.int .i64 s.1, .int .i64 s.2]
def RightAt (w : World) (v : Value) (r : List SymM) : Prop := SliceOf w 2 SymEl v r
def ProdEl (w : World) (cs : List Value) (p : ProdM) : Prop := ∃ v', cs = [.int .i64 p.1, v'] ∧ RightAt w v' p.2
def ProdsAt (w : World) (v : Value) (ps : List ProdM) : Prop := SliceOf w 2 (ProdEl w) v ps
def LexEl (w : World) (k : Nat) (cs : List Value) (l : LexM k) : Prop := ∃ v', cs = [.string l.1, .bool l.2.1, .int .i64 (kind l.2.2), .int .i64 (from_ l.2.2), .int .i64 (to_ l.2.2), .int .i64 (min_ l.2.2), .int .i64 (max_ l.2.2), v'] ∧ l.1.size ≤ 200000000000000 ∧ KidsAt (fun d => d < w.heap.size) w k (kids l.2.2) v'
def LexAt (w : World) (k : Nat) (v : Value) (ls : List (LexM k)) : Prop := SliceOf w 8 (LexEl w k) v ls
def StrEl (cs : List Value) (s : ByteArray) : Prop := cs = [.string s] ∧ s.size ≤ 200000000000000
def NamesAt (w : World) (v : Value) (ns : List ByteArray) : Prop := SliceOf w 1 StrEl v ns
def SpecEl (w : World) (k : Nat) (cs : List Value) (sp : SpecM k) : Prop := ∃ vl vn vp, cs = [vl, vn, .int .i64 sp.2.2.1, vp] ∧ LexAt w k vl sp.1 ∧ NamesAt w vn sp.2.1 ∧ ProdsAt w vp sp.2.2.2
theorem RightAt.keep {w w' : World} {v : Value} {r : List SymM} (h : RightAt w v r) (hk : Kept w w') : RightAt w' v r := SliceOf.mono h hk (fun _ _ h => h)
theorem ProdsAt.keep {w w' : World} {v : Value} {r : List ProdM} (h : ProdsAt w v r) (hk : Kept w w') : ProdsAt w' v r := SliceOf.mono h hk (fun _ _ ⟨v', h1, h2⟩ => ⟨v', h1, h2.keep hk⟩)
theorem NamesAt.keep {w w' : World} {v : Value} {r : List ByteArray} (h : NamesAt w v r) (hk : Kept w w') : NamesAt w' v r := SliceOf.mono h hk (fun _ _ h => h)
section
variable {H : Type} {enc : TypeId × Value → H}
theorem sym_size : Tryz.prog.cellsOf 77 = 2 := by kernel_rfl
theorem sym_bytes : Tryz.prog.bytesOf 77 = 16 := by kernel_rfl
theorem syms_size : Tryz.prog.cellsOf 64 = 1 := by kernel_rfl
theorem prod_size : Tryz.prog.cellsOf 66 = 2 := by kernel_rfl
theorem prod_bytes : Tryz.prog.bytesOf 66 = 32 := by kernel_rfl
theorem prods_size : Tryz.prog.cellsOf 25 = 1 := by kernel_rfl
theorem lex_size : Tryz.prog.cellsOf 72 = 8 := by kernel_rfl
theorem lex_bytes : Tryz.prog.bytesOf 72 = 88 := by kernel_rfl
theorem lexs_size : Tryz.prog.cellsOf 23 = 1 := by kernel_rfl
theorem nam_size : Tryz.prog.cellsOf 9 = 1 := by kernel_rfl
theorem nam_bytes : Tryz.prog.bytesOf 9 = 16 := by kernel_rfl
theorem nams_size : Tryz.prog.cellsOf 24 = 1 := by kernel_rfl
theorem bool_size : Tryz.prog.cellsOf 4 = 1 := by kernel_rfl
theorem spec_size : Tryz.prog.cellsOf 27 = 4 := by kernel_rfl
theorem two_l {α : Type} : ∀ {l : List α}, l.length = 2 → ∃ a b, l = [a, b]
  | [a, b], _ => ⟨a, b, rfl⟩
  | [], h => by simp at h
  | [_], h => by simp at h
  | _ :: _ :: _ :: _, h => by simp at h
theorem three_l {α : Type} : ∀ {l : List α}, l.length = 3 → ∃ a b c, l = [a, b, c]
  | [a, b, c], _ => ⟨a, b, c, rfl⟩
  | [], h => by simp at h
  | [_], h => by simp at h
  | [_, _], h => by simp at h
  | _ :: _ :: _ :: _ :: _, h => by simp at h
theorem four_l {α : Type} : ∀ {l : List α}, l.length = 4 → ∃ a b c d, l = [a, b, c, d]
  | [a, b, c, d], _ => ⟨a, b, c, d, rfl⟩
  | [], h => by simp at h
  | [_], h => by simp at h
  | [_, _], h => by simp at h
  | [_, _, _], h => by simp at h
  | _ :: _ :: _ :: _ :: _ :: _, h => by simp at h
theorem eight_l {α : Type} : ∀ {l : List α}, l.length = 8 → ∃ a b c d e f g h, l = [a, b, c, d, e, f, g, h]
  | a :: b :: l, hl => by
    obtain ⟨c, d, e, f, g, h, rfl⟩ := six (l := l) (by simpa using hl)
    exact ⟨a, b, c, d, e, f, g, h, rfl⟩
  | [], h => by simp at h
  | [_], h => by simp at h
theorem weights_agg {P : Program} {t : TypeId} {fs : Array Field} (ht : P.underlying t = some (.struct fs)) : ∀ (ys : List (DataW H)) (i : Nat) (f : Field) (y : DataW H), fs[i]? = some f → ys[i]? = some y → ∀ n ∈ y.weights P f.type, n ∈ (DataW.agg ys).weights P t := by
  intro ys i f y hf hy n hn
  simp only [DataW.weights, ht]
  exact DataW.weights_mem_each (j := i) (by simp [hf]) hy n hn
theorem sym_of {W : World} {fuel : Nat} {cs : List Value} {y : DataW H × List MemPlace} (hl : cs.length = 2) (h : DataW.trod enc Tryz.prog W 0 (fun _ => true) true fuel 77 cs = some y) : ∃ s, SymEl cs s := by
  obtain ⟨xs, n', hn', hx1, _, hx3, hx4⟩ := DataW.trod_struct Tryz.underlying77 h
  obtain ⟨v0, v1, rfl⟩ := two_l hl
  obtain ⟨y0, y1, rfl⟩ := two_l hx3
  have f0 : DataW.trod enc Tryz.prog W 0 (fun _ => true) true n' 3 [v0] = some y0 := by have := hx4 0 _ rfl; simpa [int_size] using this
  have f1 : DataW.trod enc Tryz.prog W 0 (fun _ => true) true n' 3 [v1] = some y1 := by have := hx4 1 _ rfl; simpa [int_size] using this
  obtain ⟨z0, e0, _, _⟩ := DataW.trod_int Tryz.underlying3 f0
  obtain ⟨z1, e1, _, _⟩ := DataW.trod_int Tryz.underlying3 f1
  simp only [List.cons.injEq, and_true] at e0 e1
  subst e0 e1
  exact ⟨(z0, z1), rfl⟩
theorem str_of {W : World} {fuel : Nat} {cs : List Value} {y : DataW H × List MemPlace} (h : DataW.trod enc Tryz.prog W 0 (fun _ => true) true fuel 9 cs = some y) (hz : ∀ n ∈ y.1.weights Tryz.prog 9, n ≤ reachBytes) : ∃ s, StrEl cs s := by
  obtain ⟨s, e1, e2, _⟩ := DataW.trod_string Tryz.underlying9 h
  subst e2
  have hw := hz s.data.toList.length (by simp [DataW.weights])
  have hs : s.data.toList.length = s.size := by rw [Array.length_toList]; rfl
  rw [hs] at hw
  exact ⟨s, e1, by unfold reachBytes at hw; omega⟩
theorem lex_of {W : World} {k fuel : Nat} (hk : fuel ≤ k) {cs : List Value} {y : DataW H × List MemPlace} (hl : cs.length = 8) (h : DataW.trod enc Tryz.prog W 0 (fun _ => true) true fuel 72 cs = some y) (hz : ∀ n ∈ y.1.weights Tryz.prog 72, n ≤ reachBytes) : ∃ p, LexEl W k cs p := by
  obtain ⟨xs, n', hn', hx1, _, hx3, hx4⟩ := DataW.trod_struct Tryz.underlying72 h
  obtain ⟨v0, v1, v2, v3, v4, v5, v6, v7, rfl⟩ := eight_l hl
  obtain ⟨y0, y1, y2, rfl⟩ := three_l hx3
  have f0 : DataW.trod enc Tryz.prog W 0 (fun _ => true) true n' 9 [v0] = some y0 := by have := hx4 0 _ rfl; simpa [nam_size] using this
  have f1 : DataW.trod enc Tryz.prog W 0 (fun _ => true) true n' 4 [v1] = some y1 := by have := hx4 1 _ rfl; simpa [bool_size] using this
  have f2 : DataW.trod enc Tryz.prog W 0 (fun _ => true) true n' 70 [v2, v3, v4, v5, v6, v7] = some y2 := by have := hx4 2 _ rfl; simpa [expr_size] using this
  subst hx1
  obtain ⟨s, hs1, hs2⟩ := str_of f0 (fun n hn => hz n (weights_agg Tryz.underlying72 _ 0 _ y0.1 rfl rfl n hn))
  obtain ⟨b, e1, _⟩ := DataW.trod_bool Tryz.underlying4 f1
  simp only [List.cons.injEq, and_true] at hs1 e1
  subst hs1 e1
  have hz2 : ∀ n ∈ y2.1.weights Tryz.prog 70, n ≤ reachBytes := fun n hn => hz n (weights_agg Tryz.underlying72 _ 2 _ y2.1 rfl rfl n hn)
  obtain ⟨xs2, n2, hn2, hx12, _, hx32, hx42⟩ := DataW.trod_struct Tryz.underlying70 f2
  obtain ⟨w0, w1, w2, w3, w4, w5, rfl⟩ := six hx32
  have g0 : DataW.trod enc Tryz.prog W 0 (fun _ => true) true n2 3 [v2] = some w0 := by have := hx42 0 _ rfl; simpa [int_size] using this
  have g1 : DataW.trod enc Tryz.prog W 0 (fun _ => true) true n2 3 [v3] = some w1 := by have := hx42 1 _ rfl; simpa [int_size] using this
  have g2 : DataW.trod enc Tryz.prog W 0 (fun _ => true) true n2 3 [v4] = some w2 := by have := hx42 2 _ rfl; simpa [int_size] using this
  have g3 : DataW.trod enc Tryz.prog W 0 (fun _ => true) true n2 3 [v5] = some w3 := by have := hx42 3 _ rfl; simpa [int_size] using this
  have g4 : DataW.trod enc Tryz.prog W 0 (fun _ => true) true n2 3 [v6] = some w4 := by have := hx42 4 _ rfl; simpa [int_size] using this
  have g5 : DataW.trod enc Tryz.prog W 0 (fun _ => true) true n2 68 [v7] = some w5 := by have := hx42 5 _ rfl; simpa [exprs_size] using this
  obtain ⟨z0, e0, _, _⟩ := DataW.trod_int Tryz.underlying3 g0
  obtain ⟨z1, e1, _, _⟩ := DataW.trod_int Tryz.underlying3 g1
  obtain ⟨z2, e2, _, _⟩ := DataW.trod_int Tryz.underlying3 g2
  obtain ⟨z3, e3, _, _⟩ := DataW.trod_int Tryz.underlying3 g3
  obtain ⟨z4, e4, _, _⟩ := DataW.trod_int Tryz.underlying3 g4
  simp only [List.cons.injEq, and_true] at e0 e1 e2 e3 e4
  subst e0 e1 e2 e3 e4
  subst hx12
  obtain ⟨l5, h5⟩ := exprs_trod k n2 (by omega) v7 w5 g5 (fun n hn => hz2 n (weights_field Tryz.underlying70 rfl n hn))
  exact ⟨(s, b, (show PatN (k + 1) from ((z0, z1, z2, z3, z4, l5) : Int × Int × Int × Int × Int × List (PatN k)))), v7, rfl, hs2, h5⟩
end
end Ex
end Go.Proofs.YtbnchnlogikecaaGreatDoor
