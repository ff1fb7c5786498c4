import Derived.Test.YtooelfjceehmmaaDoorMSpSz2
import Derived.Deep.DeepMust
import Derived.OwnWalk
import Derived.Lib.AppendStr
import Derived.Lib.AppendZeros
import Derived.Deep.RegionHeld3
import Derived.Laws.BytesString
import Derived.Laws.Bits64b
import Derived.Lib.TrailingZeros
import Derived.Deep.AppendLies
import Derived.Test.YtooelfjceehmmaaDoorMExBase
import Derived.RegionTactic
import Derived.Deep.Cut
import Derived.Deep.CutRange
namespace Go.Proofs.YtooelfjceehmmaaDoor
open Go.RowKit
attribute [local go_sem] Oper.semAt_some
namespace Ex

def byteV (xs : List Int) : List Value := xs.map (Value.int .u8)
theorem byteV_len (xs : List Int) : (byteV xs).length = xs.length := List.length_map ..
theorem byteV_app (xs ys : List Int) : byteV (xs ++ ys) = byteV xs ++ byteV ys := List.map_append
theorem byteV_one (xs : List Int) : ∀ u ∈ byteV xs, u.oneCell' = true := by
  intro u hu
  simp only [byteV, List.mem_map] at hu
  obtain ⟨x, _, rfl⟩ := hu
  rfl
/-- Bytes of the call's own. -/
def OutAt (w : World) (base : Nat) (v : Value) (xs : List Int) : Prop := w.ownsRow base 5 1 v xs.length (byteV xs)
/-- The row's block is the one that it was, or new. -/
def Own1 (w : World) (v v' : Value) : Prop := v'.ownBlock = v.ownBlock ∨ ∃ g, v'.ownBlock = some g ∧ w.heap.size ≤ g
theorem Own1.refl (w : World) (v : Value) : Own1 w v v := .inl rfl
theorem Own1.trans {w w1 : World} {v v1 v2 : Value} (h1 : Own1 w v v1) (h2 : Own1 w1 v1 v2) (hs : w.heap.size ≤ w1.heap.size) : Own1 w v v2 := by
  rcases h2 with h2 | ⟨g, hg, hl⟩
  · rcases h1 with h1 | ⟨g, hg, hl⟩
    · exact .inl (h2.trans h1)
    · exact .inr ⟨g, h2.trans hg, hl⟩
  · exact .inr ⟨g, hg, by omega⟩
theorem Own1.pre {w w1 : World} {v v1 : Value} (h : Own1 w1 v v1) (hs : w.heap.size ≤ w1.heap.size) : Own1 w v v1 := (Own1.refl w v).trans h hs
theorem OutAt.keep {w w' : World} {base : Nat} {v : Value} {xs : List Int} (h : OutAt w base v xs) (hk : Kept w w') : OutAt w' base v xs := owns_same h (fun g hg => hk.2.2.2.2 g (h.lt g hg).2)
theorem OutAt.form {w : World} {base : Nat} {v : Value} {xs : List Int} (h : OutAt w base v xs) : ∃ a c, v = .slice a xs.length c := by
  rcases h.2 with ⟨rfl, h0⟩ | ⟨g, cap, cur, rfl, _⟩
  · exact ⟨none, 0, by rw [h0]⟩
  · exact ⟨_, _, rfl⟩
theorem OutAt.nil (w : World) (base : Nat) : OutAt w base (.slice none 0 0) [] := World.ownsRow_nil _ _ _ _
theorem u8_info : (Tryd.prog.info? 5).map (fun i => (i.zero, i.size, i.bytes)) = some (some (.int .u8 0), 1, 1) := by kernel_rfl

/-- append of some bytes. -/
theorem wpl_out_bytes {ops : Array Oper} {rest : List Oper} {o : Oper} {a : Act} {Q : Exit → Act → World → Prop} (hgd : o.guard = none) (s x : Operand)
    (ho : o.op = .call { callee := .builtin .append, args := #[s, x], argTypes := #[162, 162] }) (W : World) (base : Nat) (v : Value) (xs : List Int) (n : Nat) (hn : xs.length = n) (hs : a.eval s = v) (hown : OutAt W base v xs)
    (lb : Nat) (ys : List Int) (m : Nat) (hm : ys.length = m) (hx : a.eval x = .slice (some ⟨lb, 0, none⟩) m m) (hc : ∀ (j : Nat) (y : Int), ys[j]? = some y → W.cell? ⟨lb, j, none⟩ = some (.int .u8 y)) (hpos : 0 < m) (hl : n + m ≤ 1000000000) (hbase : base ≤ W.heap.size)
    (h : ∀ g cap w', OutAt w' base (.slice (some ⟨g, 0, none⟩) (n + m) cap) (xs ++ ys) → W.grownBy w' v.ownBlock → Own1 W v (.slice (some ⟨g, 0, none⟩) (n + m) cap) → wpList Tryd.prog ops Q rest (a.put o.dst (.slice (some ⟨g, 0, none⟩) (n + m) cap)) w') : wpList Tryd.prog ops Q (o :: rest) a W := by
  obtain ⟨i0, hi, hz0, hz1, hz2⟩ := info_parts u8_info
  subst hn hm
  refine wpList_append_lies W hgd s x 162 ho base 5 i0 _ 1 1 Tryd.underlying162 hi hz0 hz1 hz2 rfl (by decide) v xs.length (byteV xs) hs hown ⟨lb, 0, none⟩ ys.length ys.length (byteV ys) hx (by rw [byteV_len]; omega) ?_ (byteV_one ys) hpos (by unfold maxLen; omega) (by omega) hbase W.heap.size rfl ?_
  · intro j u hj
    simp only [byteV, List.getElem?_map] at hj
    obtain ⟨y, hy, rfl⟩ := Option.map_eq_some_iff.1 hj
    rw [Addr.add_lit, Nat.zero_add]
    exact hc j y hy
  · intro g cap w' h3 h4 h5 _
    refine h g cap w' ?_ h4 ?_
    · show w'.ownsRow base 5 1 _ (xs ++ ys).length (byteV (xs ++ ys))
      rw [List.length_append, byteV_app]
      exact h3
    · rcases h5 with h5 | h5
      · exact .inl h5.symm
      · exact .inr ⟨g, rfl, by omega⟩
/-- A string's bytes as numbers. -/
def strI (s : ByteArray) : List Int := s.data.toList.map fun b => (b.toNat : Int)
theorem strI_cells (s : ByteArray) : Lib.strCells s = byteV (strI s) := by simp [Lib.strCells, byteV, strI]
end Ex
end Go.Proofs.YtooelfjceehmmaaDoor
namespace Go.Proofs.YtooelfjceehmmaaDoor
open Go.RowKit
attribute [local go_sem] Oper.semAt_some
namespace Ex

theorem flat_len {α : Type} (f : α → List Int) (k : Nat) (hf : ∀ x, (f x).length ≤ k) : ∀ L : List α, (L.flatMap f).length ≤ k * L.length
  | [] => by simp
  | x :: L => by rw [List.flatMap_cons, List.length_append, List.length_cons, Nat.mul_succ]; have := flat_len f k hf L; have := hf x; omega
end Ex
end Go.Proofs.YtooelfjceehmmaaDoor
namespace Go.Proofs.YtooelfjceehmmaaDoor
open Go.RowKit
attribute [local go_sem] Oper.semAt_some
namespace Ex

/-- Is a tree small enough? -/
def boundsP {n : Nat} (p : PatN (n + 1)) : Int := if 4096 < (lookP (n + 1) p 1 (0, 0)).1 then 2 else if 64 < (lookP (n + 1) p 1 (0, 0)).2 then 5 else 0

theorem KeptBut.up {b : Nat} {w u w' : World} (h : Kept w u) (hb : w.heap.size ≤ b) (hk : KeptBut b u w') : Kept w w' :=
  ⟨hk.1.trans h.1, hk.2.1.trans h.2.1, hk.2.2.1.trans h.2.2.1, Nat.le_trans h.size hk.2.2.2.1, fun k hlt => (hk.2.2.2.2 k (Nat.lt_of_lt_of_le hlt h.size) (by omega)).trans (h.2.2.2.2 k hlt)⟩
end Ex
end Go.Proofs.YtooelfjceehmmaaDoor
namespace Go.Proofs.YtooelfjceehmmaaDoor
open Go.RowKit
attribute [local go_sem] Oper.semAt_some
namespace Ex

theorem Holds.set {S : Nat → Prop} {w W : World} {g o : Nat} {v : Value} (h : Holds S w W) (hS : ¬ S g) : Holds S w (W.setCell ⟨g, o, none⟩ v) := by
  intro d o' u hd hc
  rw [← h d o' u hd hc]
  exact World.cell?_of_block (a := ⟨d, o', none⟩) (Below.heap_setCell _ _ _ _ (show d ≠ g from fun e => hS (e ▸ hd)))
theorem Kept.set {w W : World} {g o : Nat} {v : Value} (h : Kept w W) (hg : w.heap.size ≤ g) : Kept w (W.setCell ⟨g, o, none⟩ v) :=
  ⟨h.1, h.2.1, h.2.2.1, by simpa [World.setCell] using h.2.2.2.1, fun k hk => (Below.heap_setCell _ _ _ _ (show k ≠ g by omega)).trans (h.2.2.2.2 k hk)⟩
end Ex
end Go.Proofs.YtooelfjceehmmaaDoor
namespace Go.Proofs.YtooelfjceehmmaaDoor
open Go.RowKit
attribute [local go_sem] Oper.semAt_some
namespace Ex

/-- Bytes as a string. -/
def strOf (zs : List Int) : ByteArray := zs.foldl (fun r n => r.push (UInt8.ofNat n.toNat)) ByteArray.empty
theorem conv_out {w : World} {base c : Nat} {a : Option Addr} {zs : List Int} (h : OutAt w base (.slice a zs.length c) zs) (hne : zs ≠ []) : (convert 162 9 (.slice a zs.length c)).run Tryd.prog w = .ok (.string (strOf zs)) w := by
  rw [run_convert_bytes_string w 162 9 5 a zs.length c Tryd.underlying162 Tryd.underlying5 Tryd.underlying9]
  rcases h.2 with ⟨_, h0⟩ | ⟨g, cap, cur, e, _, _⟩
  · exact absurd (List.length_eq_zero_iff.1 h0) hne
  · simp only [Value.slice.injEq] at e
    obtain ⟨rfl, _, rfl⟩ := e
    refine run_bytesToString w ⟨g, 0, none⟩ zs.length c zs ?_
    have hc := h.cells (g := g) rfl
    have := run_loadCells_list (P := Tryd.prog) w ⟨g, 0, none⟩ (byteV zs) hc
    rw [byteV_len] at this
    exact this

end Ex
end Go.Proofs.YtooelfjceehmmaaDoor
namespace Go.Proofs.YtooelfjceehmmaaDoor
open Go.RowKit
attribute [local go_sem] Oper.semAt_some
namespace Ex

/-- A set of places as one number: word i of it. -/
def wordAt (A i : Nat) : Nat := A / 2 ^ (64 * i) % 18446744073709551616
theorem word_lt (A i : Nat) : wordAt A i < 18446744073709551616 := Nat.mod_lt _ (by decide)
theorem word_bit (A i j : Nat) : (wordAt A i).testBit j = (decide (j < 64) && A.testBit (64 * i + j)) := by
  unfold wordAt
  rw [show (18446744073709551616 : Nat) = 2 ^ 64 by decide, Nat.testBit_mod_two_pow, Nat.testBit_div_two_pow, Nat.add_comm]
/-- The sets' bound. -/
def bitsN : Nat := 4160
def top : Nat := 2 ^ bitsN
theorem word_or (A B i : Nat) : wordAt (A ||| B) i = wordAt A i ||| wordAt B i := by
  apply Nat.eq_of_testBit_eq
  intro j
  simp only [word_bit, Nat.testBit_or]
  cases decide (j < 64) <;> simp
theorem word_shift {x : Nat} (k i : Nat) (hx : x < 18446744073709551616) : wordAt (x * 2 ^ (64 * k)) i = if k = i then x else 0 := by
  apply Nat.eq_of_testBit_eq
  intro j
  rw [word_bit, Nat.testBit_mul_two_pow]
  have hb : ∀ m, 64 ≤ m → x.testBit m = false := fun m hm => Nat.testBit_lt_two_pow (Nat.lt_of_lt_of_le hx (by rw [show (18446744073709551616 : Nat) = 2 ^ 64 by decide]; exact Nat.pow_le_pow_right (by decide) hm))
  by_cases h : k = i
  · subst h
    rw [if_pos rfl]
    by_cases hj : j < 64
    · simp [hj, show 64 * k + j - 64 * k = j by omega]
    · simp [hj, hb j (by omega)]
  · rw [if_neg h]
    by_cases hj : j < 64
    · by_cases hk : 64 * k ≤ 64 * i + j
      · simp [hb (64 * i + j - 64 * k) (by omega)]
      · simp [hk]
    · simp [hj]
theorem pow_split (p : Nat) : 2 ^ (p % 64) * 2 ^ (64 * (p / 64)) = 2 ^ p := by
  rw [← Nat.pow_add, show p % 64 + 64 * (p / 64) = p by omega]
theorem pow_lt (p : Nat) : 2 ^ (p % 64) < 18446744073709551616 := by
  rw [show (18446744073709551616 : Nat) = 2 ^ 64 by decide]
  exact Nat.pow_lt_pow_right (by decide) (Nat.mod_lt _ (by decide))
theorem or_word (a b : Nat) (ha : a < 18446744073709551616) (hb : b < 18446744073709551616) : bits BinOp.or IntKind.u64 (a : Int) (b : Int) = ((a ||| b : Nat) : Int) := bits_or_u64_nat a b ha hb
theorem or_put (A p : Nat) : bits BinOp.or IntKind.u64 ((wordAt A (p / 64) : Nat) : Int) (IntKind.u64.wrap (2 ^ (p % 64))) = ((wordAt A (p / 64) ||| 2 ^ (p % 64) : Nat) : Int) := by
  have h : IntKind.u64.wrap (2 ^ (p % 64)) = ((2 ^ (p % 64) : Nat) : Int) := by
    rw [IntKind.wrap_u64]
    have := pow_lt p
    have e : (2 : Int) ^ (p % 64) = ((2 ^ (p % 64) : Nat) : Int) := by simp
    rw [e]
    exact Int.emod_eq_of_lt (Int.natCast_nonneg _) (by omega)
  rw [h, or_word _ _ (word_lt _ _) (pow_lt p)]

theorem bit_and_one (A p : Nat) : (bits BinOp.and IntKind.u64 ((wordAt A (p / 64) : Nat) / 2 ^ (p % 64) : Int) 1 == 1) = A.testBit p := by
  have h1 : ((wordAt A (p / 64) : Nat) / 2 ^ (p % 64) : Int) = ((wordAt A (p / 64) / 2 ^ (p % 64) : Nat) : Int) := by simp
  have h2 : wordAt A (p / 64) / 2 ^ (p % 64) < 18446744073709551616 := Nat.lt_of_le_of_lt (Nat.div_le_self _ _) (word_lt _ _)
  rw [h1, show (1 : Int) = ((1 : Nat) : Int) by rfl, bits_and_u64_nat _ _ h2 (by decide)]
  have h3 : A.testBit p = (wordAt A (p / 64)).testBit (p % 64) := by
    rw [word_bit, show 64 * (p / 64) + p % 64 = p by omega]
    simp [show p % 64 < 64 by omega]
  rw [h3, Nat.testBit_eq_decide_div_mod_eq, Nat.and_one_is_mod]
  rw [Bool.eq_iff_iff]
  simp
  omega

end Ex
end Go.Proofs.YtooelfjceehmmaaDoor
namespace Go.Proofs.YtooelfjceehmmaaDoor
open Go.RowKit
attribute [local go_sem] Oper.semAt_some
namespace Ex

theorem info_of {P : Program} {e : TypeId} {z : Value} {s b : Nat} (h : (P.info? e).map (fun i => (i.zero, i.size, i.bytes)) = some (some z, s, b)) : ∃ i, P.info? e = some i ∧ i.zero = some z ∧ i.size = s ∧ i.bytes = b := by
  obtain ⟨i, hi, h2⟩ := Option.map_eq_some_iff.1 h
  simp only [Prod.mk.injEq] at h2
  exact ⟨i, hi, h2.1, h2.2.1, h2.2.2⟩
end Ex
end Go.Proofs.YtooelfjceehmmaaDoor
namespace Go.Proofs.YtooelfjceehmmaaDoor
open Go.RowKit
attribute [local go_sem] Oper.semAt_some
namespace Ex

/-- The table of math/bits lies in its variable. -/
def TabAt (w : World) : Prop := ∀ j, j < 64 → w.cell? ⟨0, j, none⟩ = some (.int .u8 (Lib.deBruijn64tab.getD j 0 : Nat))
theorem TabAt.keep {w w' : World} (h : TabAt w) (hk : Kept w w') : TabAt w' := fun j hj => grown_cell hk (h j hj)
theorem TabAt.lt {w : World} (h : TabAt w) : 0 < w.heap.size := World.block_lt_of_cell? w _ (h 0 (by decide))
theorem TabAt.but {w w' : World} {b : Nat} (h : TabAt w) (hk : KeptBut b w w') (hb : b ≠ 0) : TabAt w' := fun j hj =>
  (World.cell?_of_block (w := w) (a := ⟨0, j, none⟩) (hk.2.2.2.2 _ h.lt (Ne.symm hb))).trans (h j hj)

theorem tz_key (x a : Nat) (hx : x < 18446744073709551616) (hx0 : x ≠ 0) (hlow : x &&& (18446744073709551616 - x) = a) :
    IntKind.u64.wrap (bits BinOp.and IntKind.u64 (x : Int) (IntKind.u64.wrap (-(x : Int))) * 285870213051353865) / 288230376151711744 = ((a * 285870213051353865 % 18446744073709551616 / 288230376151711744 : Nat) : Int) := by
  have e1 : IntKind.u64.wrap (-(x : Int)) = ((18446744073709551616 - x : Nat) : Int) := by rw [IntKind.wrap_u64]; omega
  rw [e1, bits_and_u64_nat x _ hx (by omega), hlow, IntKind.wrap_u64]
  omega
set_option linter.unusedSimpArgs false in
set_option maxRecDepth 100000 in
set_option maxHeartbeats 2000000 in
theorem tz_core (x k idx : Nat) (w : World) (hx0 : ((x : Int) == 0) = false)
    (key : IntKind.u64.wrap (bits BinOp.and IntKind.u64 (x : Int) (IntKind.u64.wrap (-(x : Int))) * 285870213051353865) / 288230376151711744 = (idx : Int))
    (hi : idx < 64) (hk : k < 64) (hcell : w.cell? ⟨0, idx, none⟩ = some (.int .u8 k)) :
    Calls Tryd.prog 63 #[.int .u64 x] w fun e w' => e = .returned (.int .i64 k) ∧ ∃ m, w' = w.drewN m := by
  go_enter Tryd.func63, Tryd.ntmps63
  go_wp2_with (simp only [key])
  go_ret
  exact ⟨rfl, 0, rfl⟩
/-- How many zero bits a word ends in. -/
theorem tz_is (x : Nat) (hx : x < 18446744073709551616) (hx0 : x ≠ 0) (w : World) (hT : TabAt w) :
    Calls Tryd.prog 63 #[.int .u64 x] w fun e w' => e = .returned (.int .i64 (Lib.ctz 64 x : Nat)) ∧ ∃ m, w' = w.drewN m := by
  obtain ⟨hlow, hk⟩ := Lib.lowest_bit 64 x hx0 hx
  obtain ⟨hi, htab⟩ := Lib.deBruijn64_at _ hk
  have hcell := hT _ hi
  rw [htab] at hcell
  exact tz_core x _ _ w (by simp; omega) (tz_key x _ hx hx0 hlow) hi hk hcell

/-- The lowest bit, and the word without it. -/
theorem ctz_bit {x : Nat} (hx : x < 18446744073709551616) (hx0 : x ≠ 0) : Lib.ctz 64 x < 64 ∧ x.testBit (Lib.ctz 64 x) = true ∧ (∀ j, j < Lib.ctz 64 x → x.testBit j = false) ∧ x &&& (x - 1) = x - 2 ^ Lib.ctz 64 x ∧ ∀ j, (x &&& (x - 1)).testBit j = (x.testBit j && decide (j ≠ Lib.ctz 64 x)) := by
  obtain ⟨m, hm, hk⟩ := Lib.ctzFrom_spec 64 x (by omega) hx
  have e : Lib.ctz 64 x = Lib.ctzFrom 64 x := by simp [Lib.ctz, hx0]
  rw [e]
  obtain ⟨k, hkk⟩ : ∃ k, Lib.ctzFrom 64 x = k := ⟨_, rfl⟩
  rw [hkk] at hm hk ⊢
  clear e hkk
  have hbit : ∀ j, x.testBit j = (decide (k ≤ j) && (2 * m + 1).testBit (j - k)) := fun j => by rw [hm, Nat.mul_comm, Nat.testBit_mul_two_pow]
  have hp : 0 < 2 ^ k := Nat.pow_pos (by decide)
  have hsub : x - 1 = 2 ^ k * (2 * m) + (2 ^ k - 1) := by
    rw [hm, Nat.mul_add, Nat.mul_one]
    omega
  have hbit1 : ∀ j, (x - 1).testBit j = if j < k then true else (2 * m).testBit (j - k) := fun j => by
    rw [hsub, Nat.testBit_two_pow_mul_add _ (by omega)]
    by_cases hj : j < k
    · simp [hj]
    · simp [hj]
  have hand : ∀ j, (x &&& (x - 1)).testBit j = (x.testBit j && decide (j ≠ k)) := fun j => by
    rw [Nat.testBit_and, hbit, hbit1]
    by_cases hj : j < k
    · simp [hj, show ¬ k ≤ j by omega]
    · by_cases hjk : j = k
      · subst hjk; simp
      · obtain ⟨i, hi⟩ : ∃ i, j - k = i + 1 := ⟨j - k - 1, by omega⟩
        simp only [hj, if_false, hi, hjk, ne_eq, not_false_eq_true, decide_true, Bool.and_true, Nat.testBit_succ, show (2 * m + 1) / 2 = m by omega, show 2 * m / 2 = m by omega, show k ≤ j by omega, Bool.true_and, Bool.and_self]
  refine ⟨hk, by rw [hbit]; simp [Nat.testBit_zero], fun j hj => by rw [hbit]; simp [show ¬ k ≤ j by omega], ?_, hand⟩
  have h2 : x - 2 ^ k = 2 ^ k * (2 * m) := by rw [hm, Nat.mul_add, Nat.mul_one]; omega
  rw [h2]
  apply Nat.eq_of_testBit_eq
  intro j
  rw [hand, hbit, Nat.mul_comm (2 ^ k), Nat.testBit_mul_two_pow]
  by_cases hj : k ≤ j
  · by_cases hjk : j = k
    · subst hjk; simp [Nat.testBit_zero]
    · obtain ⟨i, hi⟩ : ∃ i, j - k = i + 1 := ⟨j - k - 1, by omega⟩
      simp [hi, hjk, Nat.testBit_succ, show (2 * m + 1) / 2 = m by omega]
  · simp [hj]

end Ex
end Go.Proofs.YtooelfjceehmmaaDoor
namespace Go.Proofs.YtooelfjceehmmaaDoor
open Go.RowKit
attribute [local go_sem] Oper.semAt_some
namespace Ex

/-- A set of names or terminals as one number: its two words. -/
def setS (A : Nat) : Array Value := #[.int .u64 (wordAt A 0 : Nat), .int .u64 (wordAt A 1 : Nat)]
theorem setS_at (A : Nat) {i : Nat} (h : i < 2) : (setS A)[i]? = some (.int .u64 (wordAt A i : Nat)) := by
  match i, h with
  | 0, _ => rfl
  | 1, _ => rfl
theorem setS_size (A : Nat) : (setS A).size = 2 := rfl
theorem setS_or (A k x : Nat) (hk : k < 2) (hx : x < 18446744073709551616) {v : Value} (hv : v = .int .u64 ((wordAt A k ||| x : Nat) : Int)) : (setS A).setIfInBounds k v = setS (A ||| x * 2 ^ (64 * k)) := by
  subst hv
  apply Array.ext_getElem?
  intro i
  rw [Array.getElem?_setIfInBounds, setS_size]
  by_cases hi : i < 2
  · rw [setS_at _ hi, setS_at _ hi, word_or, word_shift k i hx]
    by_cases h : k = i
    · subst h; simp [hi]
    · simp [h]
  · have h1 : ∀ B, (setS B)[i]? = none := fun B => by rw [Array.getElem?_eq_none_iff, setS_size]; omega
    rw [h1, h1, if_neg (by omega)]
theorem bit_and_ne (A p : Nat) : (bits BinOp.and IntKind.u64 ((wordAt A (p / 64) : Nat) / 2 ^ (p % 64) : Int) 1 != 0) = A.testBit p := by
  rw [← bit_and_one A p]
  have h1 : ((wordAt A (p / 64) : Nat) / 2 ^ (p % 64) : Int) = ((wordAt A (p / 64) / 2 ^ (p % 64) : Nat) : Int) := by simp
  have h2 : wordAt A (p / 64) / 2 ^ (p % 64) < 18446744073709551616 := Nat.lt_of_le_of_lt (Nat.div_le_self _ _) (word_lt _ _)
  rw [h1, show (1 : Int) = ((1 : Nat) : Int) by rfl, bits_and_u64_nat _ _ h2 (by decide), Nat.and_one_is_mod]
  generalize wordAt A (p / 64) / 2 ^ (p % 64) = x
  have : x % 2 = 0 ∨ x % 2 = 1 := by omega
  rcases this with h | h <;> simp [h]
set_option linter.unusedSimpArgs false in
set_option maxRecDepth 100000 in
set_option maxHeartbeats 2000000 in
theorem sHas_is (A p : Nat) (hp : p < 128) (w : World) : Calls Tryd.prog 44 #[.agg (setS A), .int .i64 (p : Int)] w fun e w' => e = .returned (.bool (A.testBit p)) ∧ Kept w w' := by
  have gp : (p : Int) < 128 := by omega
  have hq := setS_at A (i := p / 64) (by omega)
  go_enter Tryd.func44, Tryd.ntmps44
  go_wp2
  go_ret
  refine ⟨?_, (Kept.refl w).alloc _ _⟩
  rw [bit_and_ne]
  rfl
/-- A set that lies in block b, alone. -/
def SetB (w : World) (b A : Nat) : Prop := w.heap[b]? = some (.cells (setS A) 75 (0, 0))
theorem SetB.cell {w : World} {b A i : Nat} (h : SetB w b A) (hi : i < 2) : w.cell? ⟨b, i, none⟩ = some (.int .u64 (wordAt A i : Nat)) := by
  unfold SetB at h
  simp only [World.cell?, h]
  exact setS_at A hi
theorem SetB.free {w : World} {b A : Nat} (i : Nat) (h : SetB w b A) : w.frozen? ⟨b, i, none⟩ = false := by
  unfold SetB at h
  simp [World.frozen?, h]
theorem SetB.or {w : World} {b A k x : Nat} {v : Value} (h : SetB w b A) (hk : k < 2) (hx : x < 18446744073709551616) (hv : v = .int .u64 ((wordAt A k ||| x : Nat) : Int)) : SetB (w.setCell ⟨b, k, none⟩ v) b (A ||| x * 2 ^ (64 * k)) := by
  unfold SetB at h ⊢
  have hl : b < w.heap.size := (Array.getElem?_eq_some_iff.1 h).1
  have he : w.heap[b] = Obj.cells (setS A) 75 (0, 0) := by rw [Array.getElem?_eq_getElem hl] at h; exact Option.some.inj h
  rw [← setS_or A k x hk hx hv]
  simp [World.setCell, Array.getElem_modify, hl, he]
theorem SetB.lt {w : World} {b A : Nat} (h : SetB w b A) : b < w.heap.size := (Array.getElem?_eq_some_iff.1 h).1
theorem SetB.keep {w w' : World} {b A : Nat} (h : SetB w b A) (hk : Kept w w') : SetB w' b A := (hk.2.2.2.2 b h.lt).trans h
theorem SetB.new (w : World) (A : Nat) : SetB (w.alloc (.cells (setS A) 75)) w.heap.size A := heap_alloc_new w _
set_option maxRecDepth 100000 in
set_option maxHeartbeats 2000000 in
theorem within_is (x n : Int) (w : World) : Calls Tryd.prog 56 #[.int .i64 x, .int .i64 n] w fun e w' => e = .returned (.bool (decide (0 ≤ x) && decide (x < n))) ∧ w' = w := by
  go_enter Tryd.func56, Tryd.ntmps56
  by_cases h0 : 0 ≤ x
  · have b0 : decide (0 ≤ x) = true := by simpa using h0
    by_cases h1 : x < n
    · go_wp2
      go_ret
      exact ⟨by simp [h0, h1], rfl⟩
    · go_wp2
      go_ret
      exact ⟨by simp [h1], rfl⟩
  · go_wp2
    go_ret
    exact ⟨by simp; omega, rfl⟩

theorem heap_set_ne {w : World} {b k d : Nat} {u : Value} (hd : d ≠ b) : (w.setCell ⟨b, k, none⟩ u).heap[d]? = w.heap[d]? := Below.heap_setCell _ _ _ _ hd
theorem keepB {w W : World} {g o : Nat} {x : Value} (h : Kept w W) (hg : w.heap.size ≤ g) : Kept w (W.setCell ⟨g, o, none⟩ x) :=
  ⟨h.1, h.2.1, h.2.2.1, by simpa [World.setCell] using h.size, fun k hk => (heap_set_ne (by omega)).trans (h.2.2.2.2 k hk)⟩
theorem set2_size (A : Nat) : (Tryd.prog.info? 75).map (·.size) = some (setS A).size := by
  rw [setS_size]
  kernel_rfl
theorem setS_eq (A : Nat) : setS A = #[.int .u64 (wordAt A 0 : Nat), .int .u64 (wordAt A 1 : Nat)] := rfl
/-- Both words of a set are written. -/
theorem SetB.fill {w : World} {b A B : Nat} (h : SetB w b A) : SetB ((w.setCell ⟨b, 0, none⟩ (.int .u64 (wordAt B 0 : Nat))).setCell ⟨b, 1, none⟩ (.int .u64 (wordAt B 1 : Nat))) b B := by
  unfold SetB at h ⊢
  have hl : b < w.heap.size := (Array.getElem?_eq_some_iff.1 h).1
  have he : w.heap[b] = Obj.cells (setS A) 75 (0, 0) := by rw [Array.getElem?_eq_getElem hl] at h; exact Option.some.inj h
  simp [World.setCell, Array.getElem_modify, hl, he, setS]
theorem set_two (w : World) (A : Nat) : SetB ((w.alloc (.cells (setS A) 75)).alloc (.cells #[.int .u64 0, .int .u64 0] 75)) (w.heap.size + 1) 0 ∧ SetB ((w.alloc (.cells (setS A) 75)).alloc (.cells #[.int .u64 0, .int .u64 0] 75)) w.heap.size A ∧ Kept w ((w.alloc (.cells (setS A) 75)).alloc (.cells #[.int .u64 0, .int .u64 0] 75)) := by
  refine ⟨?_, (SetB.new w A).keep ((Kept.refl _).alloc _ _), ((Kept.refl w).alloc _ _).alloc _ _⟩
  have h := heap_alloc_new (w.alloc (.cells (setS A) 75)) (.cells #[.int .u64 0, .int .u64 0] 75)
  rw [World.size_alloc] at h
  exact h
set_option linter.unusedSimpArgs false in
set_option maxRecDepth 100000 in
set_option maxHeartbeats 2000000 in
theorem sWith_is (A p : Nat) (hp : p < 128) (w : World) : Calls Tryd.prog 58 #[.agg (setS A), .int .i64 (p : Int)] w fun e w' => e = .returned (.agg (setS (A ||| 2 ^ p))) ∧ Kept w w' := by
  have gp : (p : Int) < 128 := by omega
  obtain ⟨h1, h2, h3⟩ := set_two w A
  have HK := hide1 h3
  have HR := hide1 h1
  have HS := hide1 h2
  clear h1 h2 h3
  go_enter Tryd.func58, Tryd.ntmps58
  go_upto_region 1 with fail
  obtain ⟨W, hW⟩ : ∃ W, (w.alloc (.cells (setS A) 75)).alloc (.cells #[.int .u64 0, .int .u64 0] 75) = W := ⟨_, rfl⟩
  rw [hW] at HK HR HS ⊢
  clear hW
  obtain ⟨b, hb⟩ : ∃ b, w.heap.size = b := ⟨_, rfl⟩
  rw [hb] at HR HS ⊢
  have HB := hide1 hb
  clear hb
  have hq := HS.out.cell (i := p / 64) (by omega)
  have hf := HS.out.free (p / 64)
  go_upto_region 2 with (go_region)
  clear hq hf
  have HS2 := hide1 (HS.out.or (k := p / 64) (by omega) (pow_lt p) (congrArg (Value.int .u64) (or_put A p)))
  rw [pow_split] at HS2
  obtain ⟨W2, hW2⟩ : ∃ W2, (W.setCell ⟨b, p / 64, none⟩ (.int .u64 (bits BinOp.or IntKind.u64 ((wordAt A (p / 64) : Nat) : Int) (IntKind.u64.wrap (2 ^ (p % 64)))))).drew = W2 := ⟨_, rfl⟩
  have HS3 : Hid (SetB W2 b (A ||| 2 ^ p)) := by rw [← hW2]; exact HS2.out
  have HR3 : Hid (SetB W2 (b + 1) 0) := by rw [← hW2]; exact (heap_set_ne (by omega)).trans HR.out
  have HK3 : Hid (Kept w W2) := by rw [← hW2]; exact gtrans (keepB HK.out (by rw [HB.out]; exact Nat.le_refl _)) (drew_kept _)
  rw [hW2]
  clear hW2 HS2 HR HS HK
  have c0 := HS3.out.cell (i := 0) (by omega)
  have c1 := HS3.out.cell (i := 1) (by omega)
  have r0 := HR3.out.cell (i := 0) (by omega)
  have r1 := HR3.out.cell (i := 1) (by omega)
  have z0 := HR3.out.free 0
  have z1 := HR3.out.free 1
  go_wp2_with fail
  refine bodyPost_ret (results_cell_row rfl _ _ (b + 1) 75 (setS (A ||| 2 ^ p)) (0, 0) _ rfl HR3.out.fill Tryd.underlying75 rfl (set2_size _)) rfl ?_
  exact ⟨rfl, keepB (keepB HK3.out (by rw [HB.out]; omega)) (by rw [HB.out]; omega)⟩

end Ex
end Go.Proofs.YtooelfjceehmmaaDoor
