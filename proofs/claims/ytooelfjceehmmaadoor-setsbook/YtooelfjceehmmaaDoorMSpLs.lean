import Derived.Test.YtooelfjceehmmaaDoorMSpFp
import Derived.Deep.DeepMust
import Derived.Deep.AppendLies
import Derived.Laws.MakeOwn
import Derived.Laws.CopyOwn
namespace Go.Proofs.YtooelfjceehmmaaDoor
open Go.RowKit
attribute [local go_sem] Oper.semAt_some
namespace Ex

theorem sint_info : (Tryd.prog.info? 3).map (fun i => (i.zero, i.size, i.bytes)) = some (some (.int .i64 0), 1, 8) := by kernel_rfl
def flatS (l : List Int) : List Value := l.map fun n => .int .i64 n
theorem allocS_le (w : World) (o : Obj) : w.heap.size ≤ (w.alloc o).heap.size := by rw [World.size_alloc]; omega
/-- A list of ints, of the call's own. -/
def IntsO (w : World) (base : Nat) (v : Value) (l : List Int) : Prop := w.ownsRow base 3 1 v l.length (flatS l)
theorem IntsO.lt {w : World} {base : Nat} {v : Value} {l : List Int} (h : IntsO w base v l) : ∀ g, v.ownBlock = some g → base ≤ g ∧ g < w.heap.size := World.ownsRow.lt h
theorem IntsO.keep {w w' : World} {base : Nat} {v : Value} {l : List Int} (h : IntsO w base v l) (hk : Kept w w') : IntsO w' base v l := owns_same h (fun g hg => hk.2.2.2.2 g (h.lt g hg).2)
theorem IntsO.but {w w' : World} {base b : Nat} {v : Value} {l : List Int} (h : IntsO w base v l) (hk : KeptBut b w w') (hb : ∀ g, v.ownBlock = some g → g ≠ b) : IntsO w' base v l := owns_same h (fun g hg => hk.2.2.2.2 g (h.lt g hg).2 (hb g hg))
theorem IntsO.nil (w : World) (base : Nat) : IntsO w base (.slice none 0 0) [] := World.ownsRow_nil _ _ _ _
theorem IntsO.form {w : World} {base : Nat} {v : Value} {l : List Int} (h : IntsO w base v l) : ∃ a c, v = .slice a l.length c := by
  have h2 : w.ownsRow base 3 1 v l.length (flatS l) := h
  rcases h2.2 with ⟨rfl, h0⟩ | ⟨g, cap, cur, rfl, _⟩
  · exact ⟨none, 0, by rw [h0]⟩
  · exact ⟨_, _, rfl⟩
theorem wpl_ints {ops : Array Oper} {rest : List Oper} {o : Oper} {a : Act} {Q : Exit → Act → World → Prop} (hgd : o.guard = none) (s x : Operand) (ho : o.op = .call { callee := .builtin .append, args := #[s, x], argTypes := #[41, 41] }) (w : World)
    (base : Nat) (v : Value) (l : List Int) (m : Nat) (hm : l.length = m) (hs : a.eval s = v) (hown : IntsO w base v l) (lb : Nat) (k : Int) (hx : a.eval x = .slice (some ⟨lb, 0, none⟩) 1 1) (hbx : w.heap[lb]? = some (.cells #[.int .i64 k] 3 (0, 0))) (hl : l.length ≤ 8388608) (hbase : base ≤ w.heap.size)
    (h : ∀ g cap w', IntsO w' base (.slice (some ⟨g, 0, none⟩) (m + 1) cap) (l ++ [k]) → w.grownBy w' v.ownBlock → (v.ownBlock = some g ∨ g = w.heap.size) → g < w'.heap.size → wpList Tryd.prog ops Q rest (a.put o.dst (.slice (some ⟨g, 0, none⟩) (m + 1) cap)) w') :
    wpList Tryd.prog ops Q (o :: rest) a w := by
  obtain ⟨i0, hi, hz0, hz1, hz2⟩ := info_parts sint_info
  subst hm
  refine wpList_append_lies w hgd s x 41 ho base 3 i0 _ 1 8 Tryd.underlying41 hi hz0 hz1 hz2 rfl (by decide) v l.length (flatS l) hs hown ⟨lb, 0, none⟩ 1 1 [.int .i64 k] hx rfl ?_ ?_ (by decide) (by unfold maxLen; omega) (by omega) hbase w.heap.size rfl ?_
  · intro j y hj
    have hj2 : j < 1 := (List.getElem?_eq_some_iff.1 hj).1
    match j, hj2 with
    | 0, _ => rw [← hj]; simp [World.cell?, Addr.add, hbx]
  · intro u hu
    rw [List.mem_singleton.1 hu]
    rfl
  · intro g cap w' h1 h2 h3 h4
    refine h g cap w' ?_ h2 h3 h4
    unfold IntsO
    rw [List.length_append]
    unfold flatS
    rw [List.map_append]
    exact h1
/-- What is in a set, rising: the first n numbers. -/
def bitsTo (A n : Nat) : List Int := ((List.range n).filter fun i => A.testBit i).map fun i : Nat => (i : Int)
theorem bitsTo_len (A n : Nat) : (bitsTo A n).length ≤ n := by
  unfold bitsTo
  rw [List.length_map]
  exact Nat.le_trans (List.length_filter_le _ _) (by rw [List.length_range]; exact Nat.le_refl _)
theorem bitsTo_none (A n : Nat) : ∀ m, (∀ i, n ≤ i → i < n + m → A.testBit i = false) → bitsTo A (n + m) = bitsTo A n
  | 0, _ => rfl
  | m + 1, h => by
    have e := bitsTo_none A n m (fun i h1 h2 => h i h1 (by omega))
    rw [← e]
    unfold bitsTo
    rw [show n + (m + 1) = (n + m) + 1 by omega, List.range_succ, List.filter_append]
    simp [h (n + m) (by omega) (by omega)]
theorem bitsTo_one (A n : Nat) (h : A.testBit n = true) : bitsTo A (n + 1) = bitsTo A n ++ [(n : Int)] := by
  unfold bitsTo
  rw [List.range_succ, List.filter_append, List.map_append]
  simp [h]
/-- What is left of a word: all from c on. -/
def LeftW (A j c x : Nat) : Prop := ∀ k, x.testBit k = (decide (c ≤ k) && (wordAt A j).testBit k)
theorem LeftW.start (A j : Nat) : LeftW A j 0 (wordAt A j) := fun k => by simp
theorem LeftW.end {A j c : Nat} (h : LeftW A j c 0) (hc : c ≤ 64) : bitsTo A (64 * j + c) = bitsTo A (64 * (j + 1)) := by
  have e := bitsTo_none A (64 * j + c) (64 - c) (fun i h1 h2 => by
    have hk := h (i - 64 * j)
    rw [word_bit, show 64 * j + (i - 64 * j) = i by omega] at hk
    have h3 : decide (c ≤ i - 64 * j) = true := by simp; omega
    have h4 : decide (i - 64 * j < 64) = true := by simp; omega
    rw [h3, h4, Nat.zero_testBit] at hk
    simpa using hk.symm)
  rw [← e]
  congr 1
  omega
theorem LeftW.step {A j c x : Nat} (h : LeftW A j c x) (hx : x < 18446744073709551616) (hx0 : x ≠ 0) : (c ≤ Lib.ctz 64 x ∧ Lib.ctz 64 x < 64) ∧ LeftW A j (Lib.ctz 64 x + 1) (x &&& (x - 1)) ∧ bitsTo A (64 * j + (Lib.ctz 64 x + 1)) = bitsTo A (64 * j + c) ++ [((64 * j + Lib.ctz 64 x : Nat) : Int)] := by
  obtain ⟨hk, hb, hlow, _, hand⟩ := ctz_bit hx hx0
  obtain ⟨k, hkk⟩ : ∃ k, Lib.ctz 64 x = k := ⟨_, rfl⟩
  rw [hkk] at hk hb hlow hand ⊢
  have hck : c ≤ k := by
    have := h k
    rw [hb] at this
    simp only [Bool.true_eq, Bool.and_eq_true, decide_eq_true_eq] at this
    exact this.1
  have hAk : A.testBit (64 * j + k) = true := by
    have := h k
    rw [hb, word_bit] at this
    simp only [Bool.true_eq, Bool.and_eq_true, decide_eq_true_eq] at this
    exact this.2.2
  refine ⟨⟨hck, hk⟩, fun i => ?_, ?_⟩
  · rw [hand i]
    by_cases e1 : i < k
    · rw [hlow i e1]
      have : decide (k + 1 ≤ i) = false := by simp; omega
      rw [this]
      rfl
    · by_cases e2 : i = k
      · have h1 : decide (k + 1 ≤ i) = false := by simp; omega
        have h2 : decide (i ≠ k) = false := by simp [e2]
        rw [h1, h2, Bool.and_false, Bool.false_and]
      · have h1 : decide (k + 1 ≤ i) = true := by simp; omega
        have h2 : decide (i ≠ k) = true := by simp [e2]
        have h3 : decide (c ≤ i) = true := by simp; omega
        rw [h1, h2, Bool.and_true, h i, h3]
  · rw [show 64 * j + (k + 1) = (64 * j + k) + 1 by omega, bitsTo_one A _ hAk]
    congr 1
    have e := bitsTo_none A (64 * j + c) (k - c) (fun i h1 h2 => by
      have h3 := h (i - 64 * j)
      rw [hlow (i - 64 * j) (by omega), word_bit, show 64 * j + (i - 64 * j) = i by omega] at h3
      have h4 : decide (c ≤ i - 64 * j) = true := by simp; omega
      have h5 : decide (i - 64 * j < 64) = true := by simp; omega
      rw [h4, h5] at h3
      simpa using h3.symm)
    rw [← e]
    congr 1
    omega
theorem low_off {x : Nat} (hx : x < 18446744073709551616) (hx0 : x ≠ 0) : bits BinOp.and IntKind.u64 (x : Int) ((x : Int) - 1) = ((x &&& (x - 1) : Nat) : Int) := by
  rw [show ((x : Int) - 1) = ((x - 1 : Nat) : Int) by omega, bits_and_u64_nat x (x - 1) hx (by omega)]
def LsO (A : Nat) (w : World) (v3 vi : Value) (wr : World) : Prop := ∃ j n : Nat, vi = .int .i64 (j : Int) ∧ j ≤ 2 ∧ (∃ a c, v3 = .slice a n c) ∧ Hid ((bitsTo A (64 * j)).length = n) ∧ Hid (IntsO wr w.heap.size v3 (bitsTo A (64 * j))) ∧ Hid (Kept w wr)
def LsN (A j : Nat) (w : World) (v3 v5 : Value) (wr : World) : Prop := ∃ x c n : Nat, v5 = .int .u64 (x : Int) ∧ x < 18446744073709551616 ∧ (∃ a cp, v3 = .slice a n cp) ∧ Hid (c ≤ 64 ∧ LeftW A j c x) ∧ Hid ((bitsTo A (64 * j + c)).length = n) ∧ Hid (IntsO wr w.heap.size v3 (bitsTo A (64 * j + c))) ∧ Hid (Kept w wr)
set_option linter.unusedSimpArgs false in
set_option maxRecDepth 100000 in
set_option maxHeartbeats 4000000 in
/-- What is in a set, rising. -/
theorem sList_is (A : Nat) (w : World) (hT : TabAt w) : Calls Tryd.prog 32 #[.agg (setS A)] w fun e w' => (∃ v, e = .returned v ∧ IntsO w' w.heap.size v (bitsTo A 128)) ∧ Kept w w' := by
  have HT := hide1 hT
  have HB := hide1 (SetB.new w A)
  have HK : Hid (Kept w (w.alloc (.cells (setS A) 75))) := (Kept.refl w).alloc _ _
  clear hT
  go_enter Tryd.func32, Tryd.ntmps32
  go_upto_region 2 with fail
  obtain ⟨W, hW⟩ : ∃ W, w.alloc (.cells (setS A) 75) = W := ⟨_, rfl⟩
  rw [hW] at HB HK ⊢
  clear hW
  go_wp2_with (refine wpList_load_row rfl 75 _ rfl w.heap.size rfl 75 (setS A) (0, 0) _ (by exact HB.out) Tryd.underlying75 rfl (set2_size A) ?_)
  go_loopw [3, 7] (LsO A w) (fun _ i _ => 2 - (intOf i).toNat)
  case atStart => exact ⟨0, 0, rfl, Nat.zero_le _, ⟨none, 0, rfl⟩, rfl, IntsO.nil W w.heap.size, HK⟩
  case round =>
    obtain ⟨j, n, rfl, hj, ⟨a3, c3, rfl⟩, HN, HO, HKr⟩ := hrel
    by_cases hlt : (j : Int) < 2
    · have hx := run_index_S A j (by omega)
      have hw := word_lt A j
      obtain ⟨x0, hx0⟩ : ∃ x0, wordAt A j = x0 := ⟨_, rfl⟩
      rw [hx0] at hx hw
      have HX0 := hide1 hx0
      clear hx0
      go_wp2_with fail
      clear hx
      go_loopw [3, 5] (LsN A j w) (fun _ v _ => (intOf v).toNat)
      case atStart => exact ⟨x0, 0, n, rfl, hw, ⟨_, _, rfl⟩, ⟨by omega, HX0.out ▸ LeftW.start A j⟩, HN, HO, HKr⟩
      case round =>
        obtain ⟨x, c, n1, rfl, hx64, ⟨a4, c4, rfl⟩, HL, HN1, HO1, HK1⟩ := hrel
        by_cases hx0 : x = 0
        · have hb0 : ((x : Int) != 0) = false := by simp [hx0]
          have HE : Hid (bitsTo A (64 * j + c) = bitsTo A (64 * (j + 1))) := LeftW.end (hx0 ▸ HL.out.2) HL.out.1
          rw [HE.out] at HN1 HO1
          clear hx0
          go_wp2_with fail
          go_roundw
          case rel => exact ⟨j + 1, n1, by go_num, by omega, ⟨_, _, rfl⟩, HN1, HO1, HK1⟩
          case measure => simp [intOf]; omega
        · have hb0 : ((x : Int) != 0) = true := by simp; omega
          obtain ⟨h1, h2, h3⟩ := HL.out.2.step hx64 hx0
          have hlo := low_off hx64 hx0
          have HTZ := hide1 (tz_is x hx64 hx0)
          obtain ⟨k, hk⟩ : ∃ k, Lib.ctz 64 x = k := ⟨_, rfl⟩
          rw [hk] at h1 h2 h3
          have HKK := hide1 hk
          have HC1 : Hid (k + 1 ≤ 64) := h1.2
          have HL2 := hide1 h2
          have HB3 := hide1 h3
          have gk : (k : Int) < 64 := by omega
          have HX1 : Hid (x ≠ 0) := hx0
          have HX4 := hide1 hx64
          obtain ⟨y, hy⟩ : ∃ y, x &&& (x - 1) = y := ⟨_, rfl⟩
          rw [hy] at hlo HL2
          have HY : Hid (y < x) := by
            have := ctz_bit hx64 hx0
            show _ < _
            rw [← hy, this.2.2.2.1]
            have := Nat.two_pow_pos (Lib.ctz 64 x)
            omega
          have hwr : IntKind.u64.wrap ((x : Int) - 1) = (x : Int) - 1 := by rw [IntKind.wrap_u64]; omega
          have hw2 : IntKind.i64.wrap (64 * (j : Int)) = 64 * (j : Int) := by rw [IntKind.wrap_i64]; omega
          have hw3 : IntKind.i64.wrap (64 * (j : Int) + (k : Int)) = 64 * (j : Int) + (k : Int) := by rw [IntKind.wrap_i64]; omega
          have HV : Hid (((64 * j + k : Nat) : Int) = 64 * (j : Int) + (k : Int)) := by show _ = _; omega
          have HLE : Hid ((bitsTo A (64 * j + c)).length ≤ 8388608) := Nat.le_trans (bitsTo_len A _) (by have := HL.out.1; omega)
          clear h1 h2 h3 hk hx0 hy
          go_wp2_with (first
            | (go_at_call 63; refine (HTZ.out _ (HT.out.keep (by exact HK1.out))).mono ?_; rintro e w5 ⟨rfl, m5, hw5⟩; rw [HKK.out]; have HK5 : Hid (Kept w w5) := (by rw [hw5]; exact gtrans HK1.out (drewN_kept _ _)); have HO5 : Hid (IntsO w5 w.heap.size (.slice a4 n1 c4) (bitsTo A (64 * j + c))) := (by rw [hw5]; exact HO1.out.keep (drewN_kept _ _)); clear hw5)
            | (at_builtin; go_must (refine wpl_ints rfl _ _ rfl _ w.heap.size _ _ n1 HN1.out (by rfl) (HO5.out.keep (w' := w5.alloc (.cells #[.int .i64 (64 * (j : Int) + (k : Int))] 3)) ((Kept.refl w5).alloc _ _)) w5.heap.size (64 * (j : Int) + (k : Int)) (by rfl) (heap_alloc_new w5 _) HLE.out (by exact Nat.le_trans HK5.out.size (allocS_le w5 _)) ?_; intro g9 c9 w9 ho9 hg9 hor9 hl9; have HO9 := hide1 ho9; have HG9 := hide1 hg9; clear ho9 hg9 hor9 hl9)))
          go_roundw
          case rel =>
            refine ⟨y, k + 1, n1 + 1, rfl, Nat.lt_trans HY.out HX4.out, ⟨_, _, rfl⟩, ⟨HC1.out, HL2.out⟩, ?_, ?_, ?_⟩
            · show _ = _
              rw [HB3.out, List.length_append, HN1.out]
              rfl
            · show IntsO _ _ _ _
              rw [HB3.out, HV.out]
              exact HO9.out
            · have h1 := HK5.out
              have h2 := HG9.out
              exact ⟨h2.os.trans h1.1, h2.tape.trans h1.2.1, h2.output.trans h1.2.2.1, Nat.le_trans h1.size (Nat.le_trans (allocS_le w5 _) h2.size), fun d hd => (h2.block d (by simp; have := h1.size; omega) (fun e => by have := (HO5.out.lt d e.symm).1; omega)).trans ((heap_alloc_old w5 _ (Nat.lt_of_lt_of_le hd h1.size)).trans (h1.2.2.2.2 d hd))⟩
          case measure =>
            have := HY.out
            simp [intOf]
            omega
    · obtain rfl : j = 2 := by omega
      go_wp2_with fail
      go_ret
      exact ⟨⟨_, rfl, HO.out⟩, HKr.out⟩

end Ex
end Go.Proofs.YtooelfjceehmmaaDoor
namespace Go.Proofs.YtooelfjceehmmaaDoor
open Go.RowKit
attribute [local go_sem] Oper.semAt_some
namespace Ex

theorem ints_infoS : (Tryd.prog.info? 41).map (fun i => (i.zero, i.size, i.bytes)) = some (some (.slice none 0 0), 1, 24) := by kernel_rfl
theorem run_rows (n : Nat) (hn : n ≤ 300000) (w : World) : (Instr.makeSlice 28 (.int .i64 (n : Int)) (.int .i64 (n : Int))).run Tryd.prog w = .ok (.slice (some ⟨w.heap.size, 0, none⟩) n n) (w.alloc (.cells (Array.replicate n (.slice none 0 0)) 41)) := by
  obtain ⟨i0, hi, hz0, hz1, hz2⟩ := info_of ints_infoS
  rw [run_make (P := Tryd.prog) w 28 41 i0 _ Tryd.underlying28 hi hz0 .i64 .i64 n n (by omega) (Int.le_refl _) (by rw [hz2]; omega) (by omega)]
  rw [hz1]
  have e : madeCells (Value.slice none 0 0).cells ((n : Int).toNat * 1) = Array.replicate n (.slice none 0 0) := by
    unfold madeCells
    apply Array.ext_getElem?
    intro i
    simp only [Int.toNat_natCast, Nat.mul_one, Array.getElem?_map, Array.getElem?_replicate]
    by_cases h : i < n
    · simp [h, Value.cells, Nat.mod_one]
    · simp [h]
  rw [e]
  simp
/-- Lists of ints in blocks of their own, one behind the other. -/
structure RowsIn (w : World) (B : Nat → Nat) (vs : List Value) (ls : List (List Int)) : Prop where
  len : vs.length = ls.length
  mono : ∀ i, B i ≤ B (i + 1)
  each : ∀ i v l, vs[i]? = some v → ls[i]? = some l → IntsO w (B i) v l ∧ ∀ g, v.ownBlock = some g → g < B (i + 1)
theorem RowsIn.le {w : World} {B : Nat → Nat} {vs : List Value} {ls : List (List Int)} (h : RowsIn w B vs ls) : ∀ i, B 0 ≤ B i
  | 0 => Nat.le_refl _
  | i + 1 => Nat.le_trans (h.le i) (h.mono i)
theorem RowsIn.keep {w w' : World} {B : Nat → Nat} {vs : List Value} {ls : List (List Int)} (h : RowsIn w B vs ls) (hk : Kept w w') : RowsIn w' B vs ls :=
  ⟨h.len, h.mono, fun i v l hv hl => ⟨(h.each i v l hv hl).1.keep hk, (h.each i v l hv hl).2⟩⟩
theorem RowsIn.but {w w' : World} {B : Nat → Nat} {vs : List Value} {ls : List (List Int)} {g : Nat} (h : RowsIn w B vs ls) (hk : KeptBut g w w') (hg : g < B 0) : RowsIn w' B vs ls :=
  ⟨h.len, h.mono, fun i v l hv hl => ⟨(h.each i v l hv hl).1.but hk (fun d hd => by
    have h1 := ((h.each i v l hv hl).1.lt d hd).1
    have h2 := h.le i
    omega), (h.each i v l hv hl).2⟩⟩
theorem RowsIn.nil (w : World) (H : Nat) : RowsIn w (fun _ => H) [] [] := ⟨rfl, fun _ => Nat.le_refl _, fun i v l hv => by simp at hv⟩
theorem RowsIn.snoc {w : World} {B : Nat → Nat} {vs : List Value} {ls : List (List Int)} (h : RowsIn w B vs ls) {H H' : Nat} (hH : B vs.length ≤ H) (hH' : H ≤ H') {v : Value} {l : List Int} (hv : IntsO w H v l) (hb : ∀ g, v.ownBlock = some g → g < H') : RowsIn w (fun i => if i < vs.length then B i else if i = vs.length then H else H') (vs ++ [v]) (ls ++ [l]) := by
  refine ⟨by rw [List.length_append, List.length_append, h.len]; rfl, fun i => ?_, fun i u m hu hm => ?_⟩
  · have hm : ∀ a b, a ≤ b → B a ≤ B b := fun a b hab => by
      induction hab with
      | refl => exact Nat.le_refl _
      | step _ ih => exact Nat.le_trans ih (h.mono _)
    by_cases e1 : i < vs.length
    · rw [if_pos e1]
      by_cases e2 : i + 1 < vs.length
      · rw [if_pos e2]; exact h.mono i
      · rw [if_neg e2, if_pos (by omega)]
        exact Nat.le_trans (hm i vs.length (by omega)) hH
    · rw [if_neg e1, if_neg (show ¬ i + 1 < vs.length by omega), if_neg (show ¬ i + 1 = vs.length by omega)]
      by_cases e2 : i = vs.length
      · rw [if_pos e2]; exact hH'
      · rw [if_neg e2]; exact Nat.le_refl _
  · by_cases e1 : i < vs.length
    · rw [List.getElem?_append_left e1] at hu
      rw [List.getElem?_append_left (by rw [← h.len]; exact e1)] at hm
      obtain ⟨h1, h2⟩ := h.each i u m hu hm
      simp only [if_pos e1]
      refine ⟨h1, fun g hg => ?_⟩
      have := h2 g hg
      by_cases e2 : i + 1 < vs.length
      · rw [if_pos e2]; exact this
      · rw [if_neg e2, if_pos (by omega)]
        have e3 : i + 1 = vs.length := by omega
        rw [e3] at this
        omega
    · have hi : i < (vs ++ [v]).length := (List.getElem?_eq_some_iff.1 hu).1
      have e2 : i = vs.length := by rw [List.length_append] at hi; simp at hi; omega
      subst e2
      rw [List.getElem?_append_right (Nat.le_refl _), Nat.sub_self] at hu
      rw [h.len, List.getElem?_append_right (Nat.le_refl _), Nat.sub_self] at hm
      simp only [List.getElem?_cons_zero, Option.some.injEq] at hu hm
      subst hu hm
      simp only [Nat.lt_irrefl, if_false, if_true]
      refine ⟨hv, fun g hg => ?_⟩
      have := hb g hg
      rw [if_neg (by omega), if_neg (by omega)]
      exact this
/-- A list of lists of ints, all of the call's own. -/
def RowsO (w : World) (base : Nat) (v : Value) (ls : List (List Int)) : Prop := ∃ g vs B, v = .slice (some ⟨g, 0, none⟩) ls.length ls.length ∧ base ≤ g ∧ g < B 0 ∧ Blk w g vs 41 ∧ RowsIn w B vs ls
theorem RowsO.keep {w w' : World} {base : Nat} {v : Value} {ls : List (List Int)} (h : RowsO w base v ls) (hk : Kept w w') : RowsO w' base v ls := by
  obtain ⟨g, vs, B, h1, h2, h3, h4, h5⟩ := h
  exact ⟨g, vs, B, h1, h2, h3, h4.keep hk, h5.keep hk⟩
def nilsTo (vs : List Value) (n : Nat) : List Value := vs ++ List.replicate (n - vs.length) (.slice none 0 0)
theorem nilsTo_set {vs : List Value} {n : Nat} (h : vs.length < n) (v : Value) : (nilsTo vs n).set vs.length v = nilsTo (vs ++ [v]) n := by
  unfold nilsTo
  obtain ⟨m, hm⟩ : ∃ m, n - vs.length = m + 1 := ⟨n - vs.length - 1, by omega⟩
  rw [hm, List.length_append, show n - (vs.length + [v].length) = m by simp; omega, List.set_append_right _ _ (Nat.le_refl _), Nat.sub_self, List.replicate_succ]
  simp
theorem nilsTo_at {vs : List Value} {n : Nat} (h : vs.length < n) : (nilsTo vs n)[vs.length]? = some (.slice none 0 0) := by
  unfold nilsTo
  obtain ⟨m, hm⟩ : ∃ m, n - vs.length = m + 1 := ⟨n - vs.length - 1, by omega⟩
  rw [hm, List.getElem?_append_right (Nat.le_refl _), Nat.sub_self, List.replicate_succ]
  rfl
theorem nilsTo_all {vs : List Value} : nilsTo vs vs.length = vs := by simp [nilsTo]
theorem lists_start (w : World) (x0 x1 x2 x3 : Value) (F : Nat → Nat) : SBox ((w.alloc (.cells #[x0, x1, x2, x3] 26)).alloc (.cells (famL F).toArray 79)) w.heap.size x0 x1 x2 x3 ∧ FaB ((w.alloc (.cells #[x0, x1, x2, x3] 26)).alloc (.cells (famL F).toArray 79)) (w.heap.size + 1) F ∧ Kept w ((w.alloc (.cells #[x0, x1, x2, x3] 26)).alloc (.cells (famL F).toArray 79)) := by
  refine ⟨(SBox.new w x0 x1 x2 x3).keep ((Kept.refl _).alloc _ _), ?_, ((Kept.refl w).alloc _ _).alloc _ _⟩
  have h := Blk.new (w.alloc (.cells #[x0, x1, x2, x3] 26)) (famL F) 79
  rw [World.size_alloc] at h
  exact h
def LtI (F : Nat → Nat) (nn g fb : Nat) (W : World) (vi : Value) (wr : World) : Prop := ∃ (j : Nat) (vs : List Value) (B : Nat → Nat), vi = .int .i64 (j : Int) ∧ j ≤ nn ∧ Hid (vs.length = j) ∧ Hid (Blk wr g (nilsTo vs nn) 41) ∧ Hid (RowsIn wr B vs ((List.range j).map fun i => bitsTo (F i) 128) ∧ g < B 0 ∧ B j ≤ wr.heap.size) ∧ Hid (FaB wr fb F) ∧ Hid (KeptBut g W wr)
set_option linter.unusedSimpArgs false in
set_option maxRecDepth 100000 in
set_option maxHeartbeats 4000000 in
/-- The sets of all names, as lists. -/
theorem lists_is (F : Nat → Nat) (x0 x2 x3 : Value) (an : Option Addr) (nn cn : Nat) (w : World) (hnn : nn ≤ 128) (hT : TabAt w) :
    Calls Tryd.prog 45 #[.agg #[x0, .slice an nn cn, x2, x3], .agg (famL F).toArray] w fun e w' => (∃ v, e = .returned v ∧ RowsO w' w.heap.size v ((List.range nn).map fun i => bitsTo (F i) 128)) ∧ Kept w w' := by
  obtain ⟨h1, h2, h3⟩ := lists_start w x0 (.slice an nn cn) x2 x3 F
  have HB := hide1 h1
  have HF := hide1 h2
  have HK := hide1 h3
  have HT := hide1 hT
  have gn : (nn : Int) ≤ 128 := by omega
  clear h1 h2 h3 hT
  go_enter Tryd.func45, Tryd.ntmps45
  go_upto_region 1 with fail
  obtain ⟨W1, hW1⟩ : ∃ W1, (w.alloc (.cells #[x0, .slice an nn cn, x2, x3] 26)).alloc (.cells (famL F).toArray 79) = W1 := ⟨_, rfl⟩
  rw [hW1] at HB HF HK ⊢
  clear hW1
  obtain ⟨b, hb⟩ : ∃ b, w.heap.size = b := ⟨_, rfl⟩
  rw [hb] at HB HF ⊢
  have HSB := hide1 hb
  clear hb
  obtain ⟨s0, s1, s2, s3⟩ := HB.out.facts
  have hmk := run_rows nn (by omega) W1
  go_upto_region 2 with fail
  clear s0 s1 s2 s3 hmk
  have HK2 : Hid (Kept W1 (W1.alloc (.cells (Array.replicate nn (.slice none 0 0)) 41))) := (Kept.refl _).alloc _ _
  have HG2 : Hid (Blk (W1.alloc (.cells (Array.replicate nn (.slice none 0 0)) 41)) W1.heap.size (nilsTo [] nn) 41) := by
    show Blk _ _ _ _
    unfold Blk
    rw [heap_alloc_new]
    simp [nilsTo]
  have HFG : Hid (b + 1 < W1.heap.size) := HF.out.lt
  have HWG : Hid (w.heap.size ≤ W1.heap.size) := HK.out.size
  have HSZ : Hid ((W1.alloc (.cells (Array.replicate nn (.slice none 0 0)) 41)).heap.size = W1.heap.size + 1) := World.size_alloc _ _
  obtain ⟨W, hW⟩ : ∃ W, W1.alloc (.cells (Array.replicate nn (.slice none 0 0)) 41) = W := ⟨_, rfl⟩
  rw [hW] at HK2 HG2 HSZ ⊢
  clear hW
  obtain ⟨g, hg⟩ : ∃ g, W1.heap.size = g := ⟨_, rfl⟩
  rw [hg] at HG2 HFG HWG HSZ ⊢
  clear hg
  have HF2 := hide1 (HF.out.keep HK2.out)
  have HKW := hide1 (gtrans HK.out HK2.out)
  go_wp2_with fail
  go_loopw [13] (LtI F nn g (b + 1) W) (fun i _ => nn - (intOf i).toNat)
  case atStart => exact ⟨0, [], fun _ => g + 1, rfl, Nat.zero_le _, rfl, HG2, ⟨RowsIn.nil W (g + 1), Nat.lt_succ_self g, by rw [HSZ.out]; exact Nat.le_refl _⟩, HF2, but_refl g W⟩
  case round =>
    obtain ⟨j, vs, B, rfl, hj, HVL, HGr, HRr, HFr, HKr⟩ := hrel
    have HKw : Hid (Kept w wr) := KeptBut.up HKW.out HWG.out HKr.out
    by_cases hlt : (j : Int) < (nn : Int)
    · have hj8 : j < 128 := by omega
      obtain ⟨c0, c1⟩ := HFr.out.cells hj8
      have HJN : Hid (j < nn) := by show _ < _; omega
      obtain ⟨z, hz⟩ : ∃ z, F j = z := ⟨_, rfl⟩
      rw [hz] at c0 c1
      have HZ := hide1 hz
      clear hz
      obtain ⟨n5, hn5⟩ : ∃ n5, (bitsTo z 128).length = n5 := ⟨_, rfl⟩
      have HN5 := hide1 hn5
      clear hn5
      have g8 : (j : Int) < 128 := by omega
      have HAT : Hid ((nilsTo vs nn)[j]? = some (.slice none 0 0)) := by
        have h := nilsTo_at (vs := vs) (n := nn) (by rw [HVL.out]; exact HJN.out)
        rw [HVL.out] at h
        exact h
      go_upto_region 6 with (first
        | (go_at_call 32; refine (sList_is z _ (HT.out.keep HKw.out)).mono ?_; rintro e w5 ⟨⟨v5, rfl, ho5⟩, hk5⟩; obtain ⟨a5, c5, hv5⟩ := ho5.form; rw [HN5.out] at hv5; subst hv5; have HO5 := hide1 ho5; have HK5 := hide1 hk5; have HG5 := hide1 (HGr.out.keep hk5); have hat := HG5.out.cell HAT.out; have hfr := HG5.out.free j; clear ho5 hk5))
      clear hat hfr c0 c1
      have HG6 : Hid (Blk (w5.setCell ⟨g, j, none⟩ (.slice a5 n5 c5)) g (nilsTo (vs ++ [(.slice a5 n5 c5)]) nn) 41) := by
        have h := HG5.out.set j (.slice a5 n5 c5)
        have e := nilsTo_set (vs := vs) (n := nn) (by rw [HVL.out]; exact HJN.out) (.slice a5 n5 c5)
        rw [HVL.out] at e
        rw [e] at h
        exact h
      have HBU : Hid (KeptBut g w5 (w5.setCell ⟨g, j, none⟩ (.slice a5 n5 c5))) := but_set (but_refl g w5) _ _
      have HR6 : Hid (RowsIn (w5.setCell ⟨g, j, none⟩ (.slice a5 n5 c5)) (fun i => if i < vs.length then B i else if i = vs.length then wr.heap.size else w5.heap.size) (vs ++ [(.slice a5 n5 c5)]) ((List.range (j + 1)).map fun i => bitsTo (F i) 128) ∧ g < (if 0 < vs.length then B 0 else if 0 = vs.length then wr.heap.size else w5.heap.size) ∧ (if j + 1 < vs.length then B (j + 1) else if j + 1 = vs.length then wr.heap.size else w5.heap.size) ≤ (w5.setCell ⟨g, j, none⟩ (.slice a5 n5 c5)).heap.size) := by
        have hgl : g < wr.heap.size := HGr.out.lt
        have h0 : g < (if 0 < vs.length then B 0 else if 0 = vs.length then wr.heap.size else w5.heap.size) := by
          by_cases e : 0 < vs.length
          · rw [if_pos e]; exact HRr.out.2.1
          · rw [if_neg e, if_pos (by omega)]; exact hgl
        have h5 := (HRr.out.1.keep HK5.out).snoc (H := wr.heap.size) (H' := w5.heap.size) (by rw [HVL.out]; exact HRr.out.2.2) HK5.out.size HO5.out (fun d hd => (HO5.out.lt d hd).2)
        refine ⟨?_, h0, ?_⟩
        · rw [List.range_succ, List.map_append]
          show RowsIn _ _ _ (_ ++ [bitsTo (F j) 128])
          rw [HZ.out]
          exact h5.but HBU.out h0
        · rw [if_neg (by rw [HVL.out]; omega), if_neg (by rw [HVL.out]; omega)]
          simp [World.setCell]
      have HF6 := hide1 ((HFr.out.keep HK5.out).but HBU.out (by have := HFG.out; omega))
      have HK6 := hide1 ((HK5.out.but g).trans HBU.out)
      obtain ⟨W6, hW6⟩ : ∃ W6, w5.setCell ⟨g, j, none⟩ (.slice a5 n5 c5) = W6 := ⟨_, rfl⟩
      rw [hW6] at HG6 HR6 HF6 HK6 ⊢
      clear hW6 HBU
      go_wp2_with fail
      go_roundw
      case rel => exact ⟨j + 1, vs ++ [(.slice a5 n5 c5)], _, by go_num, HJN.out, by show _ = _; rw [List.length_append, HVL.out]; rfl, HG6, HR6, HF6, HKr.out.trans HK6.out⟩
      case measure => simp [intOf]; omega
    · have hjn : j = nn := by omega
      subst hjn
      go_wp2_with fail
      go_ret
      refine ⟨⟨_, rfl, g, vs, B, ?_, HWG.out, HRr.out.2.1, ?_, HRr.out.1⟩, HKw.out⟩
      · show Value.slice (some ⟨g, 0, none⟩) j j = _
        rw [List.length_map, List.length_range]
      · have h := HGr.out
        rw [← HVL.out, nilsTo_all] at h
        exact h

end Ex
end Go.Proofs.YtooelfjceehmmaaDoor
