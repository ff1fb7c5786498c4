import Derived.Test.YtbnchnlogikecaaGreatDoorRows
import Derived.ProofKit
import Derived.LaidMore
import Derived.OpenShut
import Derived.Stop.Joined
import Derived.Lib.TrailingZeros
import Derived.WalkKit
import Derived.Deep.MidRow
import Derived.Deep.QuietTactic
import Derived.BigQuiet
namespace Go.Proofs.YtbnchnlogikecaaGreatDoor
open Go.ChangeShapes Go.WideShapes Go.ChangeAt Go.RowKit
namespace Ex

theorem own : ownKnob Tryz.prog.godebug = none := by kernel_rfl
theorem laidOut : laidOutB Tryz.prog = true := by kernel_rfl
theorem tTab : (Tryz.prog.globals[3]?).map (·.type) = some 188 := by kernel_rfl
theorem u8_one : Tryz.prog.cellsOf 5 = 1 := by kernel_rfl
/-- The door's own heap meets the condition. -/
theorem door_met (os : Os) (args : Array Value) : laidMetH Tryz.prog Rows.specCutRow.laid ((World.doorLaid Tryz.prog 4000 os).forCall (fun _ _ => 0) ⟨#[], args, []⟩).memory :=
  laidMetH_of_parts3 (fuel := 8) (laidMet_of_run' 8 (by kernel_rfl) (by kernel_rfl)) (by kernel_rfl) (by kernel_rfl)
theorem tab_datum : (Rows.laid_math_bits_deBruijn64tab : DataW Unit) = .agg (Lib.deBruijn64tab.map fun (n : Nat) => DataW.lit (Lit.int .u8 (n : Int))) := rfl
theorem of_laid {W : World} (h : laidMetH Tryz.prog Rows.specCutRow.laid W) : ∀ j, j < 64 → W.cell? ⟨3, j, none⟩ = some (.int .u8 (Lib.deBruijn64tab.getD j 0 : Nat)) := by
  rw [MakeChecks.laidMetH_plain _ _ _ (by kernel_rfl)] at h
  obtain ⟨ps, ⟨g0, t0, cs0, f0, p0, q0, hg0, ht0, hv0, hd0, ⟨g1, t1, cs1, f1, p1, q1, hg1, ht1, hv1, hd1, _, _⟩, _⟩, _, _⟩ := h
  obtain rfl : g1 = 3 := Option.some.inj (hg1.symm.trans (by kernel_rfl))
  obtain rfl := Option.some.inj (tTab.symm.trans ht1)
  intro j hj
  have hcell := World.var?_cell hg1 hv1 j
  rw [hcell]
  obtain ⟨xs, m1, rfl, hx1, hlen, hn, hel⟩ := DataW.trod_array Tryz.underlying188 hd1
  rw [tab_datum] at hx1
  simp only [Prod.mk.injEq, DataW.agg.injEq] at hx1
  have hj0 := hel j (by simpa using hj)
  obtain ⟨xj, hxj⟩ : ∃ x, xs[j]? = some x := ⟨_, List.getElem?_eq_getElem (by rw [hn]; exact hj)⟩
  rw [hxj, u8_one] at hj0
  obtain ⟨k, e1, e2, _⟩ := DataW.trod_int Tryz.underlying5 hj0
  have hq : (xs.map (·.1))[j]? = some xj.1 := by rw [List.getElem?_map, hxj]; rfl
  rw [← hx1.1, List.getElem?_map] at hq
  obtain ⟨n, hn1, hn2⟩ := Option.map_eq_some_iff.1 hq
  rw [e2] at hn2
  simp only [DataW.lit.injEq, Lit.int.injEq, true_and] at hn2
  have hk : (Lib.deBruijn64tab.getD j 0 : Nat) = n := by rw [List.getD_eq_getElem?_getD, hn1]; rfl
  rw [hk, hn2]
  have e3 : (cs1.toList.drop (j * 1)).take 1 = [.int .u8 k] := e1
  rw [Nat.mul_one] at e3
  have e4 : ((cs1.toList.drop j).take 1)[0]? = some (.int .u8 k) := by rw [e3]; rfl
  rw [List.getElem?_take] at e4
  simpa using e4

end Ex
end Go.Proofs.YtbnchnlogikecaaGreatDoor
namespace Go.Proofs.YtbnchnlogikecaaGreatDoor
open Go.ChangeShapes Go.WideShapes Go.ChangeAt Go.RowKit
namespace Ex

theorem u64_one : Tryz.prog.cellsOf 164 = 1 := by kernel_rfl
theorem tPow : (Tryz.prog.globals[1]?).map (·.type) = some 179 := by kernel_rfl
theorem pow_at {W : World} (h : laidMetH Tryz.prog Rows.specCutRow.laid W) : ∀ (j : Nat) (z : Int), j < 20 → (match (Rows.laid_internal_strconv_uint64pow10 : DataW Unit) with | .agg l => l[j]? | _ => none) = some (.lit (.int .u64 z)) → W.cell? ⟨1, j, none⟩ = some (.int .u64 z) := by
  rw [MakeChecks.laidMetH_plain _ _ _ (by kernel_rfl)] at h
  obtain ⟨ps, ⟨g0, t0, cs0, f0, p0, q0, hg0, ht0, hv0, hd0, ⟨g1, t1, cs1, f1, p1, q1, hg1, ht1, hv1, hd1, ⟨g2, t2, cs2, f2, p2, q2, hg2, ht2, hv2, hd2, _, _⟩, _⟩, _⟩, _, _⟩ := h
  obtain rfl : g2 = 1 := Option.some.inj (hg2.symm.trans (by kernel_rfl))
  obtain rfl := Option.some.inj (tPow.symm.trans ht2)
  intro j z hj hz
  have hcell := World.var?_cell hg2 hv2 j
  rw [hcell]
  obtain ⟨xs, m1, rfl, hx1, hlen, hn, hel⟩ := DataW.trod_array Tryz.underlying179 hd2
  have hj0 := hel j (by simpa using hj)
  obtain ⟨xj, hxj⟩ : ∃ x, xs[j]? = some x := ⟨_, List.getElem?_eq_getElem (by rw [hn]; exact hj)⟩
  rw [hxj, u64_one] at hj0
  obtain ⟨k, e1, e2, _⟩ := DataW.trod_int Tryz.underlying164 hj0
  have hq : (xs.map (·.1))[j]? = some xj.1 := by rw [List.getElem?_map, hxj]; rfl
  have hagg := congrArg Prod.fst hx1
  simp only [] at hagg
  rw [hagg] at hz
  simp only [] at hz
  rw [hq, e2] at hz
  simp only [Option.some.injEq, DataW.lit.injEq, Lit.int.injEq, true_and] at hz
  rw [← hz]
  have e3 : (cs2.toList.drop (j * 1)).take 1 = [.int .u64 k] := e1
  rw [Nat.mul_one] at e3
  have e4 : ((cs2.toList.drop j).take 1)[0]? = some (.int .u64 k) := by rw [e3]; rfl
  rw [List.getElem?_take] at e4
  simpa using e4
theorem pow_laid {W : World} (h : laidMetH Tryz.prog Rows.specCutRow.laid W) : W.cell? ⟨1, 2, none⟩ = some (.int .u64 100) ∧ W.cell? ⟨1, 3, none⟩ = some (.int .u64 1000) :=
  ⟨pow_at h 2 100 (by decide) rfl, pow_at h 3 1000 (by decide) rfl⟩

end Ex
end Go.Proofs.YtbnchnlogikecaaGreatDoor
namespace Go.Proofs.YtbnchnlogikecaaGreatDoor
open Go.RowKit
namespace Ex

/-- A hypothesis that the walk does not look into. -/
def Hid (p : Prop) : Prop := p
theorem hide1 {p : Prop} (h : p) : Hid p := h
theorem Hid.out {p : Prop} (h : Hid p) : p := h
/-- All that lay in w lies in w' as it lay. -/
def Kept (w w' : World) : Prop :=
  w'.os = w.os ∧ w'.tape = w.tape ∧ w'.output = w.output ∧ w.heap.size ≤ w'.heap.size ∧ ∀ k, k < w.heap.size → w'.heap[k]? = w.heap[k]?
theorem Kept.below {w w' : World} (h : Kept w w') : Below w.heap.size w w' := ⟨h.1, h.2.1, h.2.2.1, h.2.2.2.1, h.2.2.2.2⟩
theorem Kept.of {w w' : World} (h : Below w.heap.size w w') : Kept w w' := ⟨h.os, h.tape, h.output, h.size, h.block⟩
theorem Kept.size {w w' : World} (h : Kept w w') : w.heap.size ≤ w'.heap.size := h.2.2.2.1
theorem Kept.refl (w : World) : Kept w w := Kept.of (Below.refl _ _)
theorem gtrans {a b c : World} (h1 : Kept a b) (h2 : Kept b c) : Kept a c := Kept.of (h1.below.trans (h2.below.mono h1.size))
theorem Kept.alloc {W w' : World} (h : Kept W w') (c : Array Value) (t : TypeId) : Kept W (w'.alloc (.cells c t)) := Kept.of (h.below.alloc h.size _)
theorem grown_cell {w w' : World} (h : Kept w w') {b o : Nat} {v : Value} (hc : w.cell? ⟨b, o, none⟩ = some v) : w'.cell? ⟨b, o, none⟩ = some v := by
  rw [h.below.cell (p := ⟨b, o, none⟩) (World.block_lt_of_cell? w _ hc)]; exact hc
theorem drew_kept (w : World) : Kept w w.drew := Kept.of ((Below.refl _ _).drew)
theorem drewN_kept (w : World) (n : Nat) : Kept w (w.drewN n) := ⟨rfl, rfl, rfl, Nat.le_refl _, fun _ _ => rfl⟩

/-- Patterns of at most n levels: kind, from, to, min, max, list. -/
def PatN : Nat → Type
  | 0 => Empty
  | n + 1 => Int × Int × Int × Int × Int × List (PatN n)
section
variable {n : Nat}
def kind (p : PatN (n + 1)) : Int := (show Int × Int × Int × Int × Int × List (PatN n) from p).1
def from_ (p : PatN (n + 1)) : Int := (show Int × Int × Int × Int × Int × List (PatN n) from p).2.1
def to_ (p : PatN (n + 1)) : Int := (show Int × Int × Int × Int × Int × List (PatN n) from p).2.2.1
def min_ (p : PatN (n + 1)) : Int := (show Int × Int × Int × Int × Int × List (PatN n) from p).2.2.2.1
def max_ (p : PatN (n + 1)) : Int := (show Int × Int × Int × Int × Int × List (PatN n) from p).2.2.2.2.1
def kids (p : PatN (n + 1)) : List (PatN n) := (show Int × Int × Int × Int × Int × List (PatN n) from p).2.2.2.2.2
/-- The pattern as a value; v': its list. -/
def valOf (p : PatN (n + 1)) (v' : Value) : Value := .agg #[.int .i64 (kind p), .int .i64 (from_ p), .int .i64 (to_ p), .int .i64 (min_ p), .int .i64 (max_ p), v']
end
theorem none_of (l : List (PatN 0)) : l = [] := by
  cases l with
  | nil => rfl
  | cons x _ => exact (show Empty from x).elim

/-- A list of patterns in memory (in the blocks S). -/
def KidsAt (S : Nat → Prop) (w : World) : (n : Nat) → List (PatN n) → Value → Prop
  | 0, _, v => ∃ a cap, v = .slice a 0 cap
  | n + 1, l, v => ∃ a cap, v = .slice a l.length cap ∧ l.length ≤ cap ∧ l.length ≤ 17592186044416 ∧ (l = [] ∨ ∃ c o, a = some ⟨c, o, none⟩ ∧ S c ∧ ∀ (i : Nat) (q : PatN (n + 1)), l[i]? = some q → ∃ v',
      w.cell? ⟨c, o + i * 6, none⟩ = some (.int .i64 (kind q)) ∧ w.cell? ⟨c, o + i * 6 + 1, none⟩ = some (.int .i64 (from_ q)) ∧ w.cell? ⟨c, o + i * 6 + 2, none⟩ = some (.int .i64 (to_ q)) ∧
      w.cell? ⟨c, o + i * 6 + 3, none⟩ = some (.int .i64 (min_ q)) ∧ w.cell? ⟨c, o + i * 6 + 4, none⟩ = some (.int .i64 (max_ q)) ∧ w.cell? ⟨c, o + i * 6 + 5, none⟩ = some v' ∧ KidsAt S w n (kids q) v')
/-- What lies in S still lies there. -/
def Holds (S : Nat → Prop) (w w' : World) : Prop := ∀ b o v, S b → w.cell? ⟨b, o, none⟩ = some v → w'.cell? ⟨b, o, none⟩ = some v
theorem KidsAt.mono {S S' : Nat → Prop} {w w' : World} (hs : Holds S w w') (hS : ∀ b, S b → S' b) : ∀ (n : Nat) (l : List (PatN n)) (v : Value), KidsAt S w n l v → KidsAt S' w' n l v
  | 0, _, _, h => h
  | n + 1, l, v, ⟨a, cap, h1, h2, h3, h4⟩ => by
    refine ⟨a, cap, h1, h2, h3, ?_⟩
    rcases h4 with h4 | ⟨c, o, h5, h6, h7⟩
    · exact Or.inl h4
    · refine Or.inr ⟨c, o, h5, hS c h6, fun i q hq => ?_⟩
      obtain ⟨v', g0, g1, g2, g3, g4, g5, g6⟩ := h7 i q hq
      exact ⟨v', hs _ _ _ h6 g0, hs _ _ _ h6 g1, hs _ _ _ h6 g2, hs _ _ _ h6 g3, hs _ _ _ h6 g4, hs _ _ _ h6 g5, KidsAt.mono hs hS n (kids q) v' g6⟩
theorem KidsAt.form {S : Nat → Prop} {w : World} : ∀ {n : Nat} {l : List (PatN n)} {v : Value}, KidsAt S w n l v → ∃ a cap, v = .slice a l.length cap
  | 0, l, v, h => by obtain ⟨a, cap, h⟩ := h; rw [none_of l]; exact ⟨a, cap, h⟩
  | _ + 1, _, _, h => by obtain ⟨a, cap, h, _⟩ := h; exact ⟨a, cap, h⟩
theorem Kept.holds {w w' : World} (h : Kept w w') (S : Nat → Prop) : Holds S w w' := fun _ _ _ _ hc => grown_cell h hc
theorem KidsAt.kept {S : Nat → Prop} {w w' : World} {n : Nat} {l : List (PatN n)} {v : Value} (h : KidsAt S w n l v) (hk : Kept w w') : KidsAt S w' n l v := KidsAt.mono (hk.holds S) (fun _ h => h) n l v h
theorem holds_drew (S : Nat → Prop) (w : World) (m : Nat) : Holds S w (w.drewN m) := fun _ _ _ _ h => h
theorem KidsAt.drew {S : Nat → Prop} {w : World} {n : Nat} {l : List (PatN n)} {v : Value} (h : KidsAt S w n l v) (m : Nat) : KidsAt S (w.drewN m) n l v := KidsAt.mono (holds_drew S w m) (fun _ h => h) n l v h

def bareP (f t mn mx : Int) : Bool := f == 0 && t == 0 && mn == 0 && mx == 0
def timesP (mn mx : Int) : Bool := decide (0 ≤ mn) && decide (mn ≤ 1000) && (mx == -1 || decide (mn ≤ mx) && decide (mx ≤ 1000))
def topP (k f t mn mx len : Int) : Bool :=
  if k = 1 then decide (0 ≤ f) && decide (f ≤ t) && decide (t ≤ 255) && len == 0 && mn == 0 && mx == 0
  else if k = 2 then len != 1 && bareP f t mn mx
  else if k = 3 then decide (2 ≤ len) && bareP f t mn mx
  else if k = 4 then len == 1 && timesP mn mx && f == 0 && t == 0
  else false
def topOf {n : Nat} (p : PatN (n + 1)) : Bool := topP (kind p) (from_ p) (to_ p) (min_ p) (max_ p) ((kids p).length : Int)
/-- Is each value one of the four? -/
def rightP : (n : Nat) → PatN n → Bool
  | 0, _ => true
  | n + 1, p => topOf p && (kids p).all (rightP n)

end Ex
end Go.Proofs.YtbnchnlogikecaaGreatDoor
namespace Go.Proofs.YtbnchnlogikecaaGreatDoor
open Go.RowKit
attribute [local go_sem] Oper.semAt_some
namespace Ex

set_option maxRecDepth 100000 in
set_option maxHeartbeats 2000000 in
theorem bare_is (k f t mn mx : Int) (v : Value) (w : World) : Calls Tryz.prog 110 #[.agg #[.int .i64 k, .int .i64 f, .int .i64 t, .int .i64 mn, .int .i64 mx, v]] w fun e w' => e = .returned (.bool (bareP f t mn mx)) ∧ Kept w w' := by
  unfold bareP
  go_enter Tryz.func110, Tryz.ntmps110
  go_wp2
  all_goals
    go_ret
    exact ⟨by simp [*], (Kept.refl w).alloc _ _⟩

set_option maxRecDepth 100000 in
set_option maxHeartbeats 2000000 in
theorem times_is (mn mx : Int) (w : World) : Calls Tryz.prog 111 #[.int .i64 mn, .int .i64 mx] w fun e w' => e = .returned (.bool (timesP mn mx)) ∧ Kept w w' := by
  unfold timesP
  go_enter Tryz.func111, Tryz.ntmps111
  go_wp2
  all_goals
    go_ret
    refine ⟨?_, Kept.refl w⟩
    simp [*] <;> omega

theorem box_at (w : World) (x0 x1 x2 x3 x4 x5 : Value) (t : TypeId) : (w.alloc (.cells #[x0, x1, x2, x3, x4, x5] t)).cell? ⟨w.heap.size, 0, none⟩ = some x0 ∧ (w.alloc (.cells #[x0, x1, x2, x3, x4, x5] t)).cell? ⟨w.heap.size, 1, none⟩ = some x1 ∧ (w.alloc (.cells #[x0, x1, x2, x3, x4, x5] t)).cell? ⟨w.heap.size, 2, none⟩ = some x2 ∧
    (w.alloc (.cells #[x0, x1, x2, x3, x4, x5] t)).cell? ⟨w.heap.size, 3, none⟩ = some x3 ∧ (w.alloc (.cells #[x0, x1, x2, x3, x4, x5] t)).cell? ⟨w.heap.size, 4, none⟩ = some x4 ∧ (w.alloc (.cells #[x0, x1, x2, x3, x4, x5] t)).cell? ⟨w.heap.size, 5, none⟩ = some x5 := by
  refine ⟨?_, ?_, ?_, ?_, ?_, ?_⟩ <;> simp

set_option maxRecDepth 100000 in
set_option maxHeartbeats 4000000 in
theorem top_is (k f t mn mx : Int) (a : Option Addr) (len cap : Nat) (w : World) : Calls Tryz.prog 96 #[.agg #[.int .i64 k, .int .i64 f, .int .i64 t, .int .i64 mn, .int .i64 mx, .slice a len cap]] w fun e w' => e = .returned (.bool (topP k f t mn mx (len : Int))) ∧ Kept w w' := by
  go_enter Tryz.func96, Tryz.ntmps96
  go_wp2_with (first
    | (go_at_call 110; refine (bare_is _ _ _ _ _ _ _).mono ?_; rintro e w5 ⟨rfl, hk5⟩)
    | (go_at_call 111; refine (times_is _ _ _).mono ?_; rintro e w5 ⟨rfl, hk5⟩; have c1 := grown_cell hk5 (box_at _ _ _ _ _ _ _ _).2.1; have c2 := grown_cell hk5 (box_at _ _ _ _ _ _ _ _).2.2.1))
  all_goals
    go_ret
    refine ⟨?_, by first | exact gtrans ((Kept.refl w).alloc _ _) hk5 | exact (Kept.refl w).alloc _ _⟩
    simp_all [topP] <;> (first | omega | (intros; omega) | skip)


theorem all_snoc {α : Type} {L : List α} {j : Nat} {q : α} {f : α → Bool} (hq : L[j]? = some q) (h : (L.take j).all f = true) (hf : f q = true) : (L.take (j + 1)).all f = true := by
  obtain ⟨hj, rfl⟩ := List.getElem?_eq_some_iff.1 hq
  rw [List.take_succ_eq_append_getElem hj, List.all_append, h]
  simp [hf]
theorem all_not {α : Type} {L : List α} {j : Nat} {q : α} {f : α → Bool} (hq : L[j]? = some q) (hf : f q = false) : L.all f = false := by
  by_cases h : L.all f = true
  · have := List.all_eq_true.1 h q (List.mem_of_getElem? hq)
    rw [hf] at this
    cases this
  · simpa using h
theorem valOf_eq {n : Nat} (p : PatN (n + 1)) (v : Value) : valOf p v = .agg #[.int .i64 (kind p), .int .i64 (from_ p), .int .i64 (to_ p), .int .i64 (min_ p), .int .i64 (max_ p), v] := rfl

set_option maxRecDepth 100000 in
set_option maxHeartbeats 4000000 in
theorem right_is (S : Nat → Prop) : ∀ (n : Nat) (p : PatN (n + 1)) (v : Value) (w : World), KidsAt S w n (kids p) v →
    Calls Tryz.prog 79 #[valOf p v] w fun e w' => e = .returned (.bool (rightP (n + 1) p)) ∧ Kept w w' := by
  intro n
  induction n with
  | zero =>
    intro p v w h
    obtain ⟨a, cap, rfl⟩ := h.form
    rw [valOf_eq]
    have HRP : Hid (rightP 1 p = (topOf p && (kids p).all (rightP 0))) := rfl
    have HTOP : Hid (topOf p = topP (kind p) (from_ p) (to_ p) (min_ p) (max_ p) ((kids p).length : Int)) := rfl
    rw [none_of (kids p)] at HRP HTOP ⊢
    clear h
    go_enter Tryz.func79, Tryz.ntmps79
    by_cases htop : topP (kind p) (from_ p) (to_ p) (min_ p) (max_ p) 0 = true
    · go_wp2_with (go_at_call 96; refine (top_is _ _ _ _ _ _ _ _ _).mono ?_; rintro e w5 ⟨rfl, hk5⟩; have c5 := grown_cell hk5 (box_at _ _ _ _ _ _ _ _).2.2.2.2.2)
      have HK5 := hide1 (gtrans ((Kept.refl w).alloc _ _) hk5)
      clear hk5 c5
      go_loopw [11] (fun i wr => i = .int .i64 0 ∧ Hid (Kept w wr)) (fun _ _ => 0)
      case atStart => exact ⟨rfl, HK5⟩
      case round =>
        obtain ⟨rfl, HKr⟩ := hrel
        go_wp2_with fail
        go_ret
        have hr : rightP 1 p = true := by rw [HRP.out, HTOP.out]; simpa using htop
        exact ⟨by rw [hr]; rfl, HKr.out⟩
    · have htop' : topP (kind p) (from_ p) (to_ p) (min_ p) (max_ p) 0 = false := by simpa using htop
      clear htop
      go_wp2_with (go_at_call 96; refine (top_is _ _ _ _ _ _ _ _ _).mono ?_; rintro e w5 ⟨rfl, hk5⟩; have c5 := grown_cell hk5 (box_at _ _ _ _ _ _ _ _).2.2.2.2.2)
      go_ret
      have hr : rightP 1 p = false := by rw [HRP.out, HTOP.out]; simpa using htop'
      exact ⟨by rw [hr]; rfl, gtrans ((Kept.refl w).alloc _ _) hk5⟩
  | succ n ih =>
    intro p v w h
    have IH := hide1 ih
    have HK := hide1 h
    obtain ⟨a, cap, rfl⟩ := h.form
    obtain ⟨a', cap', e', hlc, hcm, _⟩ := h
    simp only [Value.slice.injEq] at e'
    obtain ⟨rfl, _, rfl⟩ := e'
    rw [valOf_eq]
    have hrp : rightP (n + 1 + 1) p = (topOf p && (kids p).all (rightP (n + 1))) := rfl
    have HRP := hide1 hrp
    have HTOP : Hid (topOf p = topP (kind p) (from_ p) (to_ p) (min_ p) (max_ p) ((kids p).length : Int)) := rfl
    obtain ⟨L, hL⟩ : ∃ L, kids p = L := ⟨_, rfl⟩
    rw [hL] at hlc hcm HK HRP HTOP
    have gl : (L.length : Int) ≤ 17592186044416 := by omega
    have gc : (L.length : Int) ≤ (cap : Int) := by omega
    rw [hL]
    clear ih hrp hlc hcm hL
    go_enter Tryz.func79, Tryz.ntmps79
    by_cases htop : topP (kind p) (from_ p) (to_ p) (min_ p) (max_ p) (L.length : Int) = true
    · go_wp2_with (go_at_call 96; refine (top_is _ _ _ _ _ _ _ _ _).mono ?_; rintro e w5 ⟨rfl, hk5⟩; have c5 := grown_cell hk5 (box_at _ _ _ _ _ _ _ _).2.2.2.2.2)
      have HK5 := hide1 (gtrans ((Kept.refl w).alloc _ _) hk5)
      clear hk5 c5
      go_loopw [11] (fun i wr => ∃ j : Nat, i = .int .i64 (j : Int) ∧ j ≤ L.length ∧ Hid (Kept w wr) ∧ Hid ((L.take j).all (rightP (n + 1)) = true)) (fun i _ => L.length - (intOf i).toNat)
      case atStart => exact ⟨0, rfl, Nat.zero_le _, HK5, rfl⟩
      case round =>
        clear HK5
        obtain ⟨j, rfl, hj, HKr, HALL⟩ := hrel
        by_cases hlt : (j : Int) < (L.length : Int)
        · obtain ⟨q, hq⟩ : ∃ q, L[j]? = some q := ⟨_, List.getElem?_eq_getElem (by omega)⟩
          obtain ⟨a2, cap2, e2, _, _, h4⟩ := HK.out.kept HKr.out
          simp only [Value.slice.injEq] at e2
          obtain ⟨rfl, _, rfl⟩ := e2
          rcases h4 with h4 | ⟨c, o, rfl, hSc, h7⟩
          · rw [h4] at hq; simp at hq
          · obtain ⟨v', g0, g1, g2, g3, g4, g5, g6⟩ := h7 j q hq
            obtain ⟨a3, cap3, rfl⟩ := g6.form
            have HG6 := hide1 g6
            have HQ := hide1 hq
            clear h7 g6 hq
            by_cases hrq : rightP (n + 1) q = true
            · go_wp2_with (go_at_call 79; refine (IH.out q _ _ (HG6.out.kept ((Kept.refl wr).alloc _ _))).mono ?_; rintro e w6 ⟨rfl, hk6⟩; have HK6 := hide1 (gtrans HKr.out (gtrans ((Kept.refl wr).alloc _ _) hk6)); clear hk6)
              go_roundw
              case rel => exact ⟨j + 1, by go_num, by omega, HK6, all_snoc HQ.out HALL.out hrq⟩
              case measure => simp [intOf]; omega
            · have hrq' : rightP (n + 1) q = false := by simpa using hrq
              clear hrq
              go_wp2_with (go_at_call 79; refine (IH.out q _ _ (HG6.out.kept ((Kept.refl wr).alloc _ _))).mono ?_; rintro e w6 ⟨rfl, hk6⟩; have HK6 := hide1 (gtrans HKr.out (gtrans ((Kept.refl wr).alloc _ _) hk6)); clear hk6)
              go_ret
              exact ⟨by rw [HRP.out, all_not HQ.out hrq']; simp, HK6.out⟩
        · go_wp2_with fail
          go_ret
          have hall : L.all (rightP (n + 1)) = true := by have := HALL.out; rwa [List.take_of_length_le (by omega)] at this
          exact ⟨by rw [HRP.out, HTOP.out, htop, hall]; rfl, HKr.out⟩
    · have htop' : topP (kind p) (from_ p) (to_ p) (min_ p) (max_ p) (L.length : Int) = false := by simpa using htop
      clear htop
      go_wp2_with (go_at_call 96; refine (top_is _ _ _ _ _ _ _ _ _).mono ?_; rintro e w5 ⟨rfl, hk5⟩; have c5 := grown_cell hk5 (box_at _ _ _ _ _ _ _ _).2.2.2.2.2)
      go_ret
      exact ⟨by rw [HRP.out, HTOP.out, htop']; rfl, gtrans ((Kept.refl w).alloc _ _) hk5⟩

end Ex
end Go.Proofs.YtbnchnlogikecaaGreatDoor
