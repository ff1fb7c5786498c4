import Derived.Test.YtfajoknacfjedaaGreatDoorRows
import Derived.ProofKit
import Derived.LaidMore
import Derived.OpenShut
import Derived.Stop.Joined
import Derived.Lib.TrailingZeros
import Derived.WalkKit
import Derived.Deep.MidRow
import Derived.Deep.QuietTactic
import Derived.BigQuiet
import Derived.Deep.AppendLies
namespace Go.Proofs.YtfajoknacfjedaaGreatDoor
open Go.ChangeShapes Go.WideShapes Go.ChangeAt Go.RowKit
namespace Ex

theorem own : ownKnob Tryz.prog.godebug = none := by kernel_rfl
theorem laidOut : laidOutB Tryz.prog = true := by kernel_rfl
theorem tTab : (Tryz.prog.globals[1]?).map (·.type) = some 139 := by kernel_rfl
theorem u8_one : Tryz.prog.cellsOf 5 = 1 := by kernel_rfl
/-- The door's own heap meets the condition. -/
theorem door_met (os : Os) (args : Array Value) : laidMetH Tryz.prog Rows.exprOwnRow.laid ((World.doorLaid Tryz.prog 4000 os).forCall (fun _ _ => 0) ⟨#[], args, []⟩).memory :=
  laidMetH_of_parts3 (fuel := 8) (laidMet_of_run' 8 (by kernel_rfl) (by kernel_rfl)) (by kernel_rfl) (by kernel_rfl)
theorem tab_datum : (Rows.laid_math_bits_deBruijn64tab : DataW Unit) = .agg (Lib.deBruijn64tab.map fun (n : Nat) => DataW.lit (Lit.int .u8 (n : Int))) := rfl
theorem of_laid {W : World} (h : laidMetH Tryz.prog Rows.exprOwnRow.laid W) : ∀ j, j < 64 → W.cell? ⟨1, j, none⟩ = some (.int .u8 (Lib.deBruijn64tab.getD j 0 : Nat)) := by
  rw [MakeChecks.laidMetH_plain _ _ _ (by kernel_rfl)] at h
  obtain ⟨ps, ⟨g0, t0, cs0, f0, p0, q0, hg0, ht0, hv0, hd0, ⟨g1, t1, cs1, f1, p1, q1, hg1, ht1, hv1, hd1, _, _⟩, _⟩, _, _⟩ := h
  obtain rfl : g1 = 1 := Option.some.inj (hg1.symm.trans (by kernel_rfl))
  obtain rfl := Option.some.inj (tTab.symm.trans ht1)
  intro j hj
  have hcell := World.var?_cell hg1 hv1 j
  rw [hcell]
  obtain ⟨xs, m1, rfl, hx1, hlen, hn, hel⟩ := DataW.trod_array Tryz.underlying139 hd1
  rw [tab_datum] at hx1
  simp only [Prod.mk.injEq, DataW.agg.injEq] at hx1
  have hj0 := hel j (by simpa using hj)
  obtain ⟨xj, hxj⟩ : ∃ x, xs[j]? = some x := ⟨_, List.getElem?_eq_getElem (by rw [hn]; exact hj)⟩
  rw [hxj, u8_one] at hj0
  obtain ⟨k, e1, e2, _⟩ := DataW.trod_int Tryz.underlying5 hj0
  have hq : (xs.map (·.1))[j]? = some xj.1 := by rw [List.getElem?_map, hxj]; rfl
  rw [← hx1.1, List.getElem?_map] at hq
  obtain ⟨n, hn1, hn2⟩ := Option.map_eq_some_iff.1 hq
  rw [e2] at hn2
  simp only [DataW.lit.injEq, Lit.int.injEq, true_and] at hn2
  have hk : (Lib.deBruijn64tab.getD j 0 : Nat) = n := by rw [List.getD_eq_getElem?_getD, hn1]; rfl
  rw [hk, hn2]
  have e3 : (cs1.toList.drop (j * 1)).take 1 = [.int .u8 k] := e1
  rw [Nat.mul_one] at e3
  have e4 : ((cs1.toList.drop j).take 1)[0]? = some (.int .u8 k) := by rw [e3]; rfl
  rw [List.getElem?_take] at e4
  simpa using e4

end Ex
end Go.Proofs.YtfajoknacfjedaaGreatDoor
namespace Go.Proofs.YtfajoknacfjedaaGreatDoor
open Go.ChangeShapes Go.WideShapes Go.ChangeAt Go.RowKit
namespace Ex

theorem u64_one : Tryz.prog.cellsOf 83 = 1 := by kernel_rfl
theorem tPow : (Tryz.prog.globals[2]?).map (·.type) = some 148 := by kernel_rfl
theorem pow_at {W : World} (h : laidMetH Tryz.prog Rows.exprOwnRow.laid W) : ∀ (j : Nat) (z : Int), j < 20 → (match (Rows.laid_internal_strconv_uint64pow10 : DataW Unit) with | .agg l => l[j]? | _ => none) = some (.lit (.int .u64 z)) → W.cell? ⟨2, j, none⟩ = some (.int .u64 z) := by
  rw [MakeChecks.laidMetH_plain _ _ _ (by kernel_rfl)] at h
  obtain ⟨ps, ⟨g0, t0, cs0, f0, p0, q0, hg0, ht0, hv0, hd0, ⟨g1, t1, cs1, f1, p1, q1, hg1, ht1, hv1, hd1, ⟨g2, t2, cs2, f2, p2, q2, hg2, ht2, hv2, hd2, _, _⟩, _⟩, _⟩, _, _⟩ := h
  obtain rfl : g2 = 2 := Option.some.inj (hg2.symm.trans (by kernel_rfl))
  obtain rfl := Option.some.inj (tPow.symm.trans ht2)
  intro j z hj hz
  have hcell := World.var?_cell hg2 hv2 j
  rw [hcell]
  obtain ⟨xs, m1, rfl, hx1, hlen, hn, hel⟩ := DataW.trod_array Tryz.underlying148 hd2
  have hj0 := hel j (by simpa using hj)
  obtain ⟨xj, hxj⟩ : ∃ x, xs[j]? = some x := ⟨_, List.getElem?_eq_getElem (by rw [hn]; exact hj)⟩
  rw [hxj, u64_one] at hj0
  obtain ⟨k, e1, e2, _⟩ := DataW.trod_int Tryz.underlying83 hj0
  have hq : (xs.map (·.1))[j]? = some xj.1 := by rw [List.getElem?_map, hxj]; rfl
  have hagg := congrArg Prod.fst hx1
  simp only [] at hagg
  rw [hagg] at hz
  simp only [] at hz
  rw [hq, e2] at hz
  simp only [Option.some.injEq, DataW.lit.injEq, Lit.int.injEq, true_and] at hz
  rw [← hz]
  have e3 : (cs2.toList.drop (j * 1)).take 1 = [.int .u64 k] := e1
  rw [Nat.mul_one] at e3
  have e4 : ((cs2.toList.drop j).take 1)[0]? = some (.int .u64 k) := by rw [e3]; rfl
  rw [List.getElem?_take] at e4
  simpa using e4
theorem pow_laid {W : World} (h : laidMetH Tryz.prog Rows.exprOwnRow.laid W) : W.cell? ⟨2, 2, none⟩ = some (.int .u64 100) ∧ W.cell? ⟨2, 3, none⟩ = some (.int .u64 1000) :=
  ⟨pow_at h 2 100 (by decide) rfl, pow_at h 3 1000 (by decide) rfl⟩

end Ex
end Go.Proofs.YtfajoknacfjedaaGreatDoor
namespace Go.Proofs.YtfajoknacfjedaaGreatDoor
open Go.RowKit
namespace Ex

/-- A hypothesis that the walk does not look into. -/
def Hid (p : Prop) : Prop := p
theorem hide1 {p : Prop} (h : p) : Hid p := h
theorem Hid.out {p : Prop} (h : Hid p) : p := h
/-- All that lay in w lies in w' as it lay. -/
def Kept (w w' : World) : Prop :=
  w'.os = w.os ∧ w'.tape = w.tape ∧ w'.output = w.output ∧ w.heap.size ≤ w'.heap.size ∧ ∀ k, k < w.heap.size → w'.heap[k]? = w.heap[k]?
theorem Kept.below {w w' : World} (h : Kept w w') : Below w.heap.size w w' := ⟨h.1, h.2.1, h.2.2.1, h.2.2.2.1, h.2.2.2.2⟩
theorem Kept.of {w w' : World} (h : Below w.heap.size w w') : Kept w w' := ⟨h.os, h.tape, h.output, h.size, h.block⟩
theorem Kept.size {w w' : World} (h : Kept w w') : w.heap.size ≤ w'.heap.size := h.2.2.2.1
theorem Kept.refl (w : World) : Kept w w := Kept.of (Below.refl _ _)
theorem gtrans {a b c : World} (h1 : Kept a b) (h2 : Kept b c) : Kept a c := Kept.of (h1.below.trans (h2.below.mono h1.size))
theorem Kept.alloc {W w' : World} (h : Kept W w') (c : Array Value) (t : TypeId) : Kept W (w'.alloc (.cells c t)) := Kept.of (h.below.alloc h.size _)
theorem grown_cell {w w' : World} (h : Kept w w') {b o : Nat} {v : Value} (hc : w.cell? ⟨b, o, none⟩ = some v) : w'.cell? ⟨b, o, none⟩ = some v := by
  rw [h.below.cell (p := ⟨b, o, none⟩) (World.block_lt_of_cell? w _ hc)]; exact hc
theorem keeps {w : World} {a o : Nat} {v : Value} (h : w.cell? ⟨a, o, none⟩ = some v) : ∀ W, Kept w W → W.cell? ⟨a, o, none⟩ = some v := fun _ hg => grown_cell hg h
theorem drew_kept (w : World) : Kept w w.drew := Kept.of ((Below.refl _ _).drew)
theorem drewN_kept (w : World) (n : Nat) : Kept w (w.drewN n) := ⟨rfl, rfl, rfl, Nat.le_refl _, fun _ _ => rfl⟩

/-- Patterns of at most n levels: kind, from, to, min, max, list. -/
def PatN : Nat → Type
  | 0 => Empty
  | n + 1 => Int × Int × Int × Int × Int × List (PatN n)
section
variable {n : Nat}
def kind (p : PatN (n + 1)) : Int := (show Int × Int × Int × Int × Int × List (PatN n) from p).1
def from_ (p : PatN (n + 1)) : Int := (show Int × Int × Int × Int × Int × List (PatN n) from p).2.1
def to_ (p : PatN (n + 1)) : Int := (show Int × Int × Int × Int × Int × List (PatN n) from p).2.2.1
def min_ (p : PatN (n + 1)) : Int := (show Int × Int × Int × Int × Int × List (PatN n) from p).2.2.2.1
def max_ (p : PatN (n + 1)) : Int := (show Int × Int × Int × Int × Int × List (PatN n) from p).2.2.2.2.1
def kids (p : PatN (n + 1)) : List (PatN n) := (show Int × Int × Int × Int × Int × List (PatN n) from p).2.2.2.2.2
/-- The pattern as a value; v': its list. -/
def valOf (p : PatN (n + 1)) (v' : Value) : Value := .agg #[.int .i64 (kind p), .int .i64 (from_ p), .int .i64 (to_ p), .int .i64 (min_ p), .int .i64 (max_ p), v']
end
theorem none_of (l : List (PatN 0)) : l = [] := by
  cases l with
  | nil => rfl
  | cons x _ => exact (show Empty from x).elim

/-- A list of patterns in memory (in the blocks S). -/
def KidsAt (S : Nat → Prop) (w : World) : (n : Nat) → List (PatN n) → Value → Prop
  | 0, _, v => ∃ a cap, v = .slice a 0 cap
  | n + 1, l, v => ∃ a cap, v = .slice a l.length cap ∧ l.length ≤ cap ∧ l.length ≤ 17592186044416 ∧ (l = [] ∨ ∃ c o, a = some ⟨c, o, none⟩ ∧ S c ∧ ∀ (i : Nat) (q : PatN (n + 1)), l[i]? = some q → ∃ v',
      w.cell? ⟨c, o + i * 6, none⟩ = some (.int .i64 (kind q)) ∧ w.cell? ⟨c, o + i * 6 + 1, none⟩ = some (.int .i64 (from_ q)) ∧ w.cell? ⟨c, o + i * 6 + 2, none⟩ = some (.int .i64 (to_ q)) ∧
      w.cell? ⟨c, o + i * 6 + 3, none⟩ = some (.int .i64 (min_ q)) ∧ w.cell? ⟨c, o + i * 6 + 4, none⟩ = some (.int .i64 (max_ q)) ∧ w.cell? ⟨c, o + i * 6 + 5, none⟩ = some v' ∧ KidsAt S w n (kids q) v')
/-- What lies in S still lies there. -/
def Holds (S : Nat → Prop) (w w' : World) : Prop := ∀ b o v, S b → w.cell? ⟨b, o, none⟩ = some v → w'.cell? ⟨b, o, none⟩ = some v
theorem KidsAt.mono {S S' : Nat → Prop} {w w' : World} (hs : Holds S w w') (hS : ∀ b, S b → S' b) : ∀ (n : Nat) (l : List (PatN n)) (v : Value), KidsAt S w n l v → KidsAt S' w' n l v
  | 0, _, _, h => h
  | n + 1, l, v, ⟨a, cap, h1, h2, h3, h4⟩ => by
    refine ⟨a, cap, h1, h2, h3, ?_⟩
    rcases h4 with h4 | ⟨c, o, h5, h6, h7⟩
    · exact Or.inl h4
    · refine Or.inr ⟨c, o, h5, hS c h6, fun i q hq => ?_⟩
      obtain ⟨v', g0, g1, g2, g3, g4, g5, g6⟩ := h7 i q hq
      exact ⟨v', hs _ _ _ h6 g0, hs _ _ _ h6 g1, hs _ _ _ h6 g2, hs _ _ _ h6 g3, hs _ _ _ h6 g4, hs _ _ _ h6 g5, KidsAt.mono hs hS n (kids q) v' g6⟩
theorem KidsAt.form {S : Nat → Prop} {w : World} : ∀ {n : Nat} {l : List (PatN n)} {v : Value}, KidsAt S w n l v → ∃ a cap, v = .slice a l.length cap
  | 0, l, v, h => by obtain ⟨a, cap, h⟩ := h; rw [none_of l]; exact ⟨a, cap, h⟩
  | _ + 1, _, _, h => by obtain ⟨a, cap, h, _⟩ := h; exact ⟨a, cap, h⟩
theorem Kept.holds {w w' : World} (h : Kept w w') (S : Nat → Prop) : Holds S w w' := fun _ _ _ _ hc => grown_cell h hc
theorem KidsAt.kept {S : Nat → Prop} {w w' : World} {n : Nat} {l : List (PatN n)} {v : Value} (h : KidsAt S w n l v) (hk : Kept w w') : KidsAt S w' n l v := KidsAt.mono (hk.holds S) (fun _ h => h) n l v h
theorem holds_drew (S : Nat → Prop) (w : World) (m : Nat) : Holds S w (w.drewN m) := fun _ _ _ _ h => h
theorem KidsAt.drew {S : Nat → Prop} {w : World} {n : Nat} {l : List (PatN n)} {v : Value} (h : KidsAt S w n l v) (m : Nat) : KidsAt S (w.drewN m) n l v := KidsAt.mono (holds_drew S w m) (fun _ h => h) n l v h

def bareP (f t mn mx : Int) : Bool := f == 0 && t == 0 && mn == 0 && mx == 0
def timesP (mn mx : Int) : Bool := decide (0 ≤ mn) && decide (mn ≤ 1000) && (mx == -1 || decide (mn ≤ mx) && decide (mx ≤ 1000))
def topP (k f t mn mx len : Int) : Bool :=
  if k = 1 then decide (0 ≤ f) && decide (f ≤ t) && decide (t ≤ 255) && len == 0 && mn == 0 && mx == 0
  else if k = 2 then len != 1 && bareP f t mn mx
  else if k = 3 then decide (2 ≤ len) && bareP f t mn mx
  else if k = 4 then len == 1 && timesP mn mx && f == 0 && t == 0
  else false
def topOf {n : Nat} (p : PatN (n + 1)) : Bool := topP (kind p) (from_ p) (to_ p) (min_ p) (max_ p) ((kids p).length : Int)
/-- Is each value one of the four? -/
def rightP : (n : Nat) → PatN n → Bool
  | 0, _ => true
  | n + 1, p => topOf p && (kids p).all (rightP n)

end Ex
end Go.Proofs.YtfajoknacfjedaaGreatDoor
namespace Go.Proofs.YtfajoknacfjedaaGreatDoor
open Go.RowKit
namespace Ex

/-- Patterns of n levels as patterns of m levels (what lies deeper falls away). -/
def fitL : (m n : Nat) → List (PatN n) → List (PatN m)
  | 0, _, _ => []
  | _ + 1, 0, _ => []
  | m + 1, n + 1, l => l.map fun p => (show PatN (m + 1) from (kind p, from_ p, to_ p, min_ p, max_ p, fitL m n (kids p)))
theorem KidsAt.fit {S : Nat → Prop} {w : World} : ∀ (n m : Nat), n ≤ m → ∀ (l : List (PatN n)) (v : Value), KidsAt S w n l v → KidsAt S w m (fitL m n l) v
  | 0, 0, _, _, _, h => h
  | 0, m + 1, _, _, v, h => by
    obtain ⟨a, cap, h⟩ := h
    exact ⟨a, cap, h, Nat.zero_le _, Nat.zero_le _, Or.inl rfl⟩
  | n + 1, 0, hm, _, _, _ => absurd hm (by omega)
  | n + 1, m + 1, hm, l, v, ⟨a, cap, h1, h2, h3, h4⟩ => by
    have e : (fitL (m + 1) (n + 1) l).length = l.length := List.length_map ..
    refine ⟨a, cap, by rw [e]; exact h1, by rw [e]; exact h2, by rw [e]; exact h3, ?_⟩
    rcases h4 with h4 | ⟨c, o, h5, h6, h7⟩
    · left; rw [h4]; rfl
    · refine Or.inr ⟨c, o, h5, h6, fun i q hq => ?_⟩
      have hq' : (l.map fun p => (show PatN (m + 1) from (kind p, from_ p, to_ p, min_ p, max_ p, fitL m n (kids p))))[i]? = some q := hq
      rw [List.getElem?_map] at hq'
      obtain ⟨p, hp, rfl⟩ := Option.map_eq_some_iff.1 hq'
      obtain ⟨v', g0, g1, g2, g3, g4, g5, g6⟩ := h7 i p hp
      exact ⟨v', g0, g1, g2, g3, g4, g5, KidsAt.fit n m (by omega) (kids p) v' g6⟩
theorem KidsAt.tight {S : Nat → Prop} {w : World} : ∀ (n : Nat) (l : List (PatN n)) (v : Value), KidsAt S w n l v → KidsAt (fun d => S d ∧ d < w.heap.size) w n l v
  | 0, _, _, h => h
  | n + 1, l, v, ⟨a, cap, h1, h2, h3, h4⟩ => by
    refine ⟨a, cap, h1, h2, h3, ?_⟩
    rcases h4 with h4 | ⟨c, o, h5, h6, h7⟩
    · exact Or.inl h4
    · by_cases hl : l = []
      · exact Or.inl hl
      · have hlt : c < w.heap.size := by
          obtain ⟨q, l', rfl⟩ := List.exists_cons_of_ne_nil hl
          obtain ⟨v', g0, _⟩ := h7 0 q rfl
          exact World.block_lt_of_cell? w _ g0
        refine Or.inr ⟨c, o, h5, ⟨h6, hlt⟩, fun i q hq => ?_⟩
        obtain ⟨v', g0, g1, g2, g3, g4, g5, g6⟩ := h7 i q hq
        exact ⟨v', g0, g1, g2, g3, g4, g5, KidsAt.tight n (kids q) v' g6⟩

/-- Patterns of any depth. -/
def Pat : Type := (n : Nat) × PatN (n + 1)
def topL : List Pat → Nat
  | [] => 0
  | p :: l => max (p.1 + 1) (topL l)
def kidsOf (m : Nat) (l : List Pat) : List (PatN m) := l.flatMap fun p => fitL m (p.1 + 1) [p.2]
def mkP (k f t mn mx : Int) (l : List Pat) : Pat := ⟨topL l, (show PatN (topL l + 1) from (k, f, t, mn, mx, kidsOf (topL l) l))⟩
/-- A list of patterns, six cells each. -/
def FlatAt (S : Nat → Prop) (w : World) : List Pat → List Value → Prop
  | [], xs => xs = []
  | p :: l, xs => ∃ v' ys, xs = .int .i64 (kind p.2) :: .int .i64 (from_ p.2) :: .int .i64 (to_ p.2) :: .int .i64 (min_ p.2) :: .int .i64 (max_ p.2) :: v' :: ys ∧ KidsAt S w p.1 (kids p.2) v' ∧ FlatAt S w l ys
theorem FlatAt.len {S : Nat → Prop} {w : World} : ∀ {l : List Pat} {xs : List Value}, FlatAt S w l xs → xs.length = l.length * 6
  | [], _, h => by rw [h]; rfl
  | _ :: l, _, ⟨v', ys, h1, _, h3⟩ => by rw [h1]; have := FlatAt.len h3; simp only [List.length_cons]; omega
theorem FlatAt.mono {S S' : Nat → Prop} {w w' : World} (hs : Holds S w w') (hS : ∀ b, S b → S' b) : ∀ {l : List Pat} {xs : List Value}, FlatAt S w l xs → FlatAt S' w' l xs
  | [], _, h => h
  | _ :: _, _, ⟨v', ys, h1, h2, h3⟩ => ⟨v', ys, h1, KidsAt.mono hs hS _ _ _ h2, FlatAt.mono hs hS h3⟩
theorem FlatAt.tight {S : Nat → Prop} {w : World} : ∀ {l : List Pat} {xs : List Value}, FlatAt S w l xs → FlatAt (fun d => S d ∧ d < w.heap.size) w l xs
  | [], _, h => h
  | _ :: _, _, ⟨v', ys, h1, h2, h3⟩ => ⟨v', ys, h1, KidsAt.tight _ _ _ h2, FlatAt.tight h3⟩
/-- The six cells of a pattern. -/
def cellsP (p : Pat) (v' : Value) : List Value := [.int .i64 (kind p.2), .int .i64 (from_ p.2), .int .i64 (to_ p.2), .int .i64 (min_ p.2), .int .i64 (max_ p.2), v']
theorem FlatAt.snoc {S : Nat → Prop} {w : World} : ∀ {l : List Pat} {xs : List Value} {p : Pat} {v' : Value}, FlatAt S w l xs → KidsAt S w p.1 (kids p.2) v' → FlatAt S w (l ++ [p]) (xs ++ cellsP p v')
  | [], xs, p, v', h, hk => by
    rw [show xs = [] from h]
    exact ⟨v', [], rfl, hk, rfl⟩
  | q :: l, xs, p, v', ⟨u', ys, h1, h2, h3⟩, hk => by
    rw [h1]
    exact ⟨u', ys ++ cellsP p v', rfl, h2, FlatAt.snoc h3 hk⟩
theorem FlatAt.at {S : Nat → Prop} {w : World} : ∀ {l : List Pat} {xs : List Value} {i : Nat} {p : Pat}, FlatAt S w l xs → l[i]? = some p →
    ∃ v', xs[i * 6]? = some (.int .i64 (kind p.2)) ∧ xs[i * 6 + 1]? = some (.int .i64 (from_ p.2)) ∧ xs[i * 6 + 2]? = some (.int .i64 (to_ p.2)) ∧ xs[i * 6 + 3]? = some (.int .i64 (min_ p.2)) ∧ xs[i * 6 + 4]? = some (.int .i64 (max_ p.2)) ∧ xs[i * 6 + 5]? = some v' ∧ KidsAt S w p.1 (kids p.2) v'
  | [], _, i, p, _, hi => by simp at hi
  | q :: l, _, 0, p, ⟨v', ys, h1, h2, h3⟩, hi => by
    rw [List.getElem?_cons_zero, Option.some.injEq] at hi
    subst hi
    rw [h1]
    exact ⟨v', rfl, rfl, rfl, rfl, rfl, rfl, h2⟩
  | q :: l, _, i + 1, p, ⟨v', ys, h1, h2, h3⟩, hi => by
    rw [List.getElem?_cons_succ] at hi
    obtain ⟨u', g⟩ := FlatAt.at h3 hi
    have e : ∀ j, (i + 1) * 6 + j = i * 6 + j + 6 := fun j => by omega
    have e0 : (i + 1) * 6 = i * 6 + 6 := by omega
    rw [h1]
    refine ⟨u', ?_⟩
    rw [e0, show i * 6 + 6 + 1 = i * 6 + 1 + 6 by omega, show i * 6 + 6 + 2 = i * 6 + 2 + 6 by omega, show i * 6 + 6 + 3 = i * 6 + 3 + 6 by omega, show i * 6 + 6 + 4 = i * 6 + 4 + 6 by omega, show i * 6 + 6 + 5 = i * 6 + 5 + 6 by omega]
    simp only [List.getElem?_cons_succ]
    exact g
theorem kidsOf_succ (m : Nat) : ∀ (l : List Pat), kidsOf (m + 1) l = l.map fun p => (show PatN (m + 1) from (kind p.2, from_ p.2, to_ p.2, min_ p.2, max_ p.2, fitL m p.1 (kids p.2)))
  | [] => rfl
  | p :: l => by
    have := kidsOf_succ m l
    unfold kidsOf at this ⊢
    rw [List.flatMap_cons, this]
    rfl
theorem top_le {l : List Pat} {p : Pat} (h : p ∈ l) : p.1 + 1 ≤ topL l := by
  induction l with
  | nil => cases h
  | cons q l ih =>
    unfold topL
    rcases List.mem_cons.1 h with h | h
    · subst h; omega
    · have := ih h; omega
theorem FlatAt.kids {S : Nat → Prop} {w : World} {l : List Pat} {xs : List Value} {m c o cap : Nat} (h : FlatAt S w l xs) (hx : ∀ j u, xs[j]? = some u → w.cell? ⟨c, o + j, none⟩ = some u) (hS : S c) (hm : topL l ≤ m) (hl : l.length ≤ 17592186044416) (hc : l.length ≤ cap) :
    KidsAt S w m (kidsOf m l) (.slice (some ⟨c, o, none⟩) l.length cap) := by
  cases m with
  | zero =>
    have : l = [] := by
      cases l with
      | nil => rfl
      | cons p l => have := top_le (List.mem_cons_self (a := p) (l := l)); omega
    subst this
    exact ⟨_, _, rfl⟩
  | succ m =>
    rw [kidsOf_succ]
    have e : ∀ F : Pat → PatN (m + 1), (l.map F).length = l.length := fun F => List.length_map ..
    refine ⟨_, cap, by rw [e], by rw [e]; exact hc, by rw [e]; exact hl, Or.inr ⟨c, o, rfl, hS, fun i q hq => ?_⟩⟩
    rw [List.getElem?_map] at hq
    obtain ⟨p, hp, rfl⟩ := Option.map_eq_some_iff.1 hq
    obtain ⟨v', g0, g1, g2, g3, g4, g5, g6⟩ := h.at hp
    have hp1 := top_le (List.mem_of_getElem? hp)
    refine ⟨v', hx _ _ g0, ?_, ?_, ?_, ?_, ?_, KidsAt.fit _ _ (by omega) _ _ g6⟩
    · rw [Nat.add_assoc]; exact hx _ _ g1
    · rw [Nat.add_assoc]; exact hx _ _ g2
    · rw [Nat.add_assoc]; exact hx _ _ g3
    · rw [Nat.add_assoc]; exact hx _ _ g4
    · rw [Nat.add_assoc]; exact hx _ _ g5
/-- No list at all. -/
theorem kids_nil (S : Nat → Prop) (w : World) (m cap : Nat) (a : Option Addr) (l : List (PatN m)) (h : l = []) : KidsAt S w m l (.slice a 0 cap) := by
  subst h
  cases m with
  | zero => exact ⟨_, _, rfl⟩
  | succ m => exact ⟨_, _, rfl, Nat.zero_le _, Nat.zero_le _, Or.inl rfl⟩

/-- A value that is a pattern. -/
def PatV (S : Nat → Prop) (w : World) (p : Pat) (v : Value) : Prop := ∃ v', v = valOf p.2 v' ∧ KidsAt S w p.1 (kids p.2) v'
theorem PatV.mono {S S' : Nat → Prop} {w w' : World} (hs : Holds S w w') (hS : ∀ b, S b → S' b) {p : Pat} {v : Value} (h : PatV S w p v) : PatV S' w' p v := by
  obtain ⟨v', h1, h2⟩ := h
  exact ⟨v', h1, KidsAt.mono hs hS _ _ _ h2⟩

end Ex
end Go.Proofs.YtfajoknacfjedaaGreatDoor
